/- Several of my texts laid together, each as it was: Ia, Ib, Ic, Id, Ie, If, Ig, Ih, Ii, Ij, Nl, Ik, Il. Conditions: each names its own. -/
import Derived.Test.YtneebnankghhgacGreatDoorGA
import Derived.Test.YtneebnankghhgacGreatDoorPB
import Derived.Test.YtneebnankghhgacGreatDoorGD
/- The parser's plain model: a fault stays: what ends without one has had none from its beginning. Nothing of any program here: lemmas on lists. Conditions: each lemma names its own. -/
namespace Go.Proofs.YtneebnankghhgacGreatDoor
open Go.RowKit

abbrev nx (σ : PS) : PS := ⟨σ.i + 1, σ.e⟩
/-- Without a fault at its end, a rule had none at its beginning. -/
def Mon {α : Type} (f : PS → α × PS) : Prop := ∀ σ, (f σ).2.e = 0 → σ.e = 0
def MonS (f : PS → PS) : Prop := ∀ σ, (f σ).e = 0 → σ.e = 0
theorem fault_e {l : List Wd} {c : Nat} {σ : PS} (hc : c ≠ 0) : (faultP l c σ).e ≠ 0 := by
  unfold faultP
  dsimp only
  split
  · exact hc
  · assumption
theorem mon_need1 (l : List Wd) (s : List UInt8) : MonS (need1 l s) := fun σ h => by
  unfold need1 at h
  split at h
  · exact h
  · exact absurd h (fault_e (by decide))
theorem mon_end (l : List Wd) : MonS (endP l) := fun σ h => by
  unfold endP at h
  split at h
  · exact h
  · exact absurd h (fault_e (by decide))
theorem mon_deep (l : List Wd) (m : Int) (d : Nat) : MonS (deepP l m d) := fun σ h => by
  unfold deepP at h
  split at h
  · exact absurd h (fault_e (by decide))
  · exact h
theorem mon_within (l : List Wd) (n k : Nat) : MonS (withinP l n k) := fun σ h => by
  unfold withinP at h
  split at h
  · exact absurd h (fault_e (by decide))
  · exact h
theorem mon_empty (l : List Wd) (n : Nat) : MonS (emptyP l n) := fun σ h => by
  unfold emptyP at h
  split at h
  · exact absurd h (fault_e (by decide))
  · exact h
theorem mon_name (l : List Wd) : Mon (nameP l) := fun σ h => by
  unfold nameP at h
  split at h
  · exact h
  · exact absurd h (fault_e (by decide))
theorem mon_take (l : List Wd) (s : List UInt8) : Mon (takeP l s) := fun σ h => by
  unfold takeP at h
  split at h <;> exact h
theorem mon_text (l : List Wd) : Mon (textP l) := fun σ h => by
  unfold textP at h
  split at h
  · exact absurd h (fault_e (by decide))
  · exact h
theorem mon_num (l : List Wd) (b : Bool) : Mon (numP l b) := fun σ h => by
  unfold numP at h
  split at h
  · exact absurd h (fault_e (by decide))
  · exact h
theorem mon_number (l : List Wd) : Mon (numberP l) := fun σ h => mon_take l _ σ (mon_num l _ _ h)
theorem mon_value (l : List Wd) : Mon (valueP l) := fun σ h => by
  unfold valueP at h
  repeat' split at h
  · exact h
  · exact h
  · exact h
  · exact mon_text l σ h
  · exact mon_number l σ h
theorem mon_column (l : List Wd) : Mon (columnP l) := fun σ h => by
  unfold columnP at h
  split at h
  · exact mon_name l σ (mon_name l (nx (nameP l σ).2) h)
  · exact mon_name l σ h
theorem mon_operand (l : List Wd) : Mon (operandP l) := fun σ h => by
  unfold operandP at h
  split at h
  · exact mon_value l σ h
  · exact mon_column l σ h
theorem mon_mul (l : List Wd) {fac : PS → List Lf × PS} (hf : Mon fac) : ∀ (k : Nat) (e : List Lf), Mon (mulP l fac k e)
  | 0, _, _, h => h
  | k + 1, e, σ, h => by
    unfold mulP at h
    split at h
    · exact hf (nx σ) (mon_mul l hf k _ _ h)
    · exact h
theorem mon_term (l : List Wd) {fac : PS → List Lf × PS} (hf : Mon fac) : Mon (termP l fac) := fun σ h => hf σ (mon_mul l hf _ _ _ h)
theorem mon_add (l : List Wd) {fac : PS → List Lf × PS} (hf : Mon fac) : ∀ (k : Nat) (e : List Lf), Mon (addP l fac k e)
  | 0, _, _, h => h
  | k + 1, e, σ, h => by
    unfold addP at h
    split at h
    · exact mon_term l hf (nx σ) (mon_add l hf k _ _ h)
    · split at h
      · exact mon_term l hf (nx σ) (mon_add l hf k _ _ h)
      · exact h
theorem mon_exprOf (l : List Wd) {fac : PS → List Lf × PS} (hf : Mon fac) : Mon (exprOf l fac) := fun σ h => mon_term l hf σ (mon_add l hf _ _ _ h)
theorem mon_factor (l : List Wd) (m : Int) : ∀ (n d : Nat), Mon (factorP l m n d)
  | 0, _, _, h => h
  | n + 1, d, σ, h => by
    unfold factorP at h
    repeat' split at h
    · exact mon_operand l σ h
    · exact mon_deep l m d (nx σ) (mon_exprOf l (mon_factor l m n (d + 1)) _ (mon_need1 l _ _ h))
    · exact mon_deep l m d (nx σ) (mon_factor l m n (d + 1) _ h)
    · exact mon_operand l σ h
theorem mon_expr (l : List Wd) (m : Int) (d : Nat) : Mon (exprP l m d) := mon_exprOf l (mon_factor l m _ d)
theorem mon_op (l : List Wd) : Mon (opP l) := fun σ h => by
  unfold opP at h
  repeat' split at h
  all_goals first | exact h | exact absurd h (fault_e (by decide))
theorem mon_comp (l : List Wd) (a : List Lf) : Mon (compP l a) := fun σ h => by
  unfold compP at h
  repeat' split at h
  · exact mon_need1 l _ ⟨σ.i + 2, σ.e⟩ h
  · exact mon_need1 l _ (nx σ) h
  · exact mon_op l σ (mon_operand l _ h)
theorem mon_compared (l : List Wd) : Mon (comparedP l) := fun σ h => mon_operand l σ (mon_comp l _ _ h)
theorem mon_more (l : List Wd) (sep : List UInt8) {α : Type} {one : PS → α × PS} (hf : Mon one) : ∀ (k : Nat) (acc : List α), Mon (moreP l sep one k acc)
  | 0, _, _, h => h
  | k + 1, acc, σ, h => by
    unfold moreP at h
    split at h
    · exact hf (nx σ) (mon_more l sep hf k _ _ h)
    · exact h
theorem mon_list (l : List Wd) {α : Type} {one : PS → α × PS} (hf : Mon one) : Mon (listP l one) := fun σ h => hf σ (mon_more l _ hf _ _ _ h)
theorem mon_joined (l : List Wd) (k : Nat) (sep : List UInt8) {one : PS → List Lf × PS} (hf : Mon one) : Mon (joinedP l k sep one) := fun σ h => by
  unfold joinedP at h
  split at h
  · exact hf σ (mon_more l sep hf _ _ _ h)
  · exact hf σ h
theorem mon_condOf (l : List Wd) {s : PS → List Lf × PS} (hf : Mon s) : Mon (condOf l s) := mon_joined l _ _ (mon_joined l _ _ hf)
theorem mon_simple (l : List Wd) (m : Int) : ∀ (n d : Nat), Mon (simpleP l m n d)
  | 0, _, _, h => h
  | n + 1, d, σ, h => by
    unfold simpleP at h
    repeat' split at h
    · exact mon_deep l m d (nx σ) (mon_simple l m n (d + 1) _ h)
    · exact mon_deep l m d (nx σ) (mon_condOf l (mon_simple l m n (d + 1)) _ (mon_need1 l _ _ h))
    · exact mon_compared l σ h
theorem mon_cond (l : List Wd) (m : Int) (d : Nat) : Mon (condP l m d) := mon_condOf l (mon_simple l m _ d)
theorem mon_where (l : List Wd) (m : Int) : Mon (whereP l m) := fun σ h => by
  unfold whereP at h
  split at h
  · exact mon_cond l m 0 (nx σ) h
  · exact h
theorem mon_count (l : List Wd) (m : Int) : Mon (countP l m) := fun σ h => by
  unfold countP at h
  split at h
  · exact mon_need1 l _ σ (mon_need1 l _ (nx (need1 l [40] σ)) h)
  · exact mon_need1 l _ σ (mon_expr l m 0 _ (mon_need1 l _ _ h))
theorem mon_agg (l : List Wd) (m : Int) (k : Nat) : Mon (aggP l m k) := fun σ h => mon_need1 l _ σ (mon_expr l m 0 _ (mon_need1 l _ _ h))
theorem mon_told (l : List Wd) (m : Int) : Mon (toldP l m) := fun σ h => by
  unfold toldP at h
  repeat' split at h
  · exact mon_count l m (nx σ) h
  · exact mon_agg l m 3 (nx σ) h
  · exact mon_agg l m 4 (nx σ) h
  · exact mon_agg l m 5 (nx σ) h
  · exact mon_expr l m 0 σ h
theorem mon_as (l : List Wd) (s : List UInt8) : Mon (asP l s) := fun σ h => by
  unfold asP at h
  split at h
  · exact mon_name l (nx σ) h
  · exact h
theorem mon_item (l : List Wd) (m : Int) : Mon (itemP l m) := fun σ h => mon_told l m σ (mon_as l _ _ h)
theorem mon_source (l : List Wd) : Mon (sourceP l) := fun σ h => mon_name l σ (mon_as l _ _ h)
theorem mon_group (l : List Wd) : Mon (groupP l) := fun σ h => by
  unfold groupP at h
  split at h
  · exact mon_need1 l _ (nx σ) (mon_list l (mon_column l) _ h)
  · exact h
theorem mon_select (l : List Wd) (m : Int) : Mon (selectP l m) := fun σ h => mon_need1 l _ σ (mon_take l _ _ (mon_list l (mon_item l m) _ (mon_need1 l _ _ (mon_list l (mon_source l) _ (mon_where l m _ (mon_group l _ (mon_within l _ _ _ (mon_within l _ _ _ (mon_within l _ _ _ h)))))))))
theorem mon_union (l : List Wd) (m : Int) : ∀ (k : Nat) (acc : List (List Lf)), Mon (unionP l m k acc)
  | 0, _, _, h => h
  | k + 1, acc, σ, h => by
    unfold unionP at h
    split at h
    · exact mon_need1 l _ (nx σ) (mon_select l m _ (mon_union l m k _ _ h))
    · exact h
theorem mon_query (l : List Wd) (m : Int) : Mon (queryP l m) := fun σ h => mon_select l m σ (mon_union l m _ _ _ (mon_within l _ _ _ h))
theorem mon_mode (l : List Wd) : Mon (modeP l) := fun σ h => by
  unfold modeP at h
  repeat' split at h
  all_goals exact h
theorem mon_nm1 (l : List Wd) : Mon (fun σ => (([sL (nameP l σ).1] : List Lf), (nameP l σ).2)) := fun σ h => mon_name l σ h
theorem mon_key (l : List Wd) : Mon (keyP l) := fun σ h => mon_need1 l _ σ (mon_need1 l _ _ (mon_list l (mon_nm1 l) _ (mon_need1 l _ _ h)))
theorem mon_type (l : List Wd) : Mon (typeP l) := fun σ h => by
  unfold typeP at h
  repeat' split at h
  all_goals first | exact h | exact absurd h (fault_e (by decide))
theorem mon_must (l : List Wd) : Mon (mustP l) := fun σ h => by
  unfold mustP at h
  split at h
  · exact mon_need1 l _ (nx σ) h
  · exact h
theorem mon_col (l : List Wd) : Mon (colP l) := fun σ h => mon_name l σ (mon_type l _ (mon_must l _ h))
theorem mon_cols (l : List Wd) : ∀ (k : Nat) (acc : List (List Lf)), Mon (colsP l k acc)
  | 0, _, _, h => h
  | k + 1, acc, σ, h => by
    unfold colsP at h
    repeat' split at h
    · exact mon_key l (nx σ) h
    · exact mon_col l σ (mon_cols l k _ (nx (colP l σ).2) h)
    · exact mon_col l σ h
theorem mon_table (l : List Wd) : Mon (tableP l) := fun σ h => mon_name l σ (mon_need1 l _ _ (mon_cols l _ _ _ (mon_need1 l _ _ (mon_within l _ _ _ (mon_empty l _ _ h)))))
theorem mon_view (l : List Wd) (m : Int) : Mon (viewP l m) := fun σ h => mon_name l σ (mon_need1 l _ _ (mon_mode l _ (mon_empty l _ _ (mon_need1 l _ _ (mon_query l m _ h)))))
theorem mon_named (l : List Wd) (k : Nat) : Mon (namedP l k) := fun σ h => mon_name l σ h
theorem mon_create (l : List Wd) (m : Int) : Mon (createP l m) := fun σ h => by
  unfold createP at h
  repeat' split at h
  · exact mon_table l (nx σ) h
  · exact mon_need1 l _ (nx σ) (mon_named l _ _ h)
  · exact mon_need1 l _ σ (mon_view l m _ h)
theorem mon_drop (l : List Wd) : Mon (dropP l) := fun σ h => by
  unfold dropP at h
  repeat' split at h
  · exact mon_named l _ (nx σ) h
  · exact mon_need1 l _ (nx σ) (mon_named l _ _ h)
  · exact mon_need1 l _ σ (mon_named l _ _ h)
theorem mon_tuple (l : List Wd) : Mon (tupleP l) := fun σ h => mon_need1 l _ σ (mon_list l (mon_value l) _ (mon_need1 l _ _ (mon_within l _ _ _ h)))
theorem mon_tup1 (l : List Wd) : Mon (tup1P l) := fun σ h => mon_tuple l σ h
theorem mon_insert (l : List Wd) : Mon (insertP l) := fun σ h => mon_need1 l _ σ (mon_name l _ (mon_need1 l _ _ (mon_list l (mon_tup1 l) _ (mon_within l _ _ _ h))))
theorem mon_delete (l : List Wd) (m : Int) : Mon (deleteP l m) := fun σ h => mon_need1 l _ σ (mon_name l _ (mon_where l m _ h))
theorem mon_setP (l : List Wd) (m : Int) : Mon (setP l m) := fun σ h => mon_name l σ (mon_need1 l _ _ (mon_expr l m 0 _ h))
theorem mon_update (l : List Wd) (m : Int) : Mon (updateP l m) := fun σ h => mon_name l σ (mon_need1 l _ _ (mon_list l (mon_setP l m) _ (mon_within l _ _ _ (mon_where l m _ h))))
theorem mon_refresh (l : List Wd) : Mon (refreshP l) := fun σ h => mon_name l σ (mon_mode l _ (mon_take l _ _ h))
theorem mon_choice (l : List Wd) (a b : List UInt8) : Mon (choiceP l a b) := fun σ h => by
  unfold choiceP at h
  split at h
  · exact h
  · exact mon_need1 l _ σ h
theorem mon_setting (l : List Wd) : Mon (settingP l) := fun σ h => by
  unfold settingP at h
  split at h
  · exact mon_choice l _ _ (nx σ) h
  · exact mon_need1 l _ σ (mon_choice l _ _ _ h)
theorem mon_stmt (l : List Wd) (m : Int) : Mon (stmtP l m) := fun σ h => by
  unfold stmtP at h
  repeat' split at h
  · exact mon_query l m σ h
  · exact mon_create l m (nx σ) h
  · exact mon_drop l (nx σ) h
  · exact mon_insert l (nx σ) h
  · exact mon_delete l m (nx σ) h
  · exact mon_update l m (nx σ) h
  · exact mon_refresh l (nx σ) h
  · exact mon_need1 l _ (nx σ) (mon_need1 l _ _ (mon_named l _ _ h))
  · exact mon_setting l (nx σ) h
  · exact mon_named l _ (nx σ) h
  · exact absurd h (fault_e (by decide))
end Go.Proofs.YtneebnankghhgacGreatDoor

/- The parser's plain model: a fault stays what it is, rule by rule. Nothing of any program here: lemmas on lists. Conditions: each lemma names its own. -/
namespace Go.Proofs.YtneebnankghhgacGreatDoor
open Go.RowKit

/-- A fault that was there is there. -/
def KpE (σ σ' : PS) : Prop := σ.e ≠ 0 → σ'.e = σ.e
theorem KpE.refl (σ : PS) : KpE σ σ := fun _ => rfl
theorem KpE.tr {a b c : PS} (h : KpE a b) (k : KpE b c) : KpE a c := fun ha => (k (by rw [h ha]; exact ha)).trans (h ha)
def Kp {α : Type} (f : PS → α × PS) : Prop := ∀ σ, KpE σ (f σ).2
def KpS (f : PS → PS) : Prop := ∀ σ, KpE σ (f σ)
theorem kp_fault (l : List Wd) (c : Nat) : KpS (faultP l c) := fun σ h => by
  unfold faultP
  dsimp only
  rw [if_neg h]
theorem kp_need1 (l : List Wd) (s : List UInt8) : KpS (need1 l s) := fun σ => by
  unfold need1
  split
  · exact KpE.refl _
  · exact kp_fault l _ σ
theorem kp_end (l : List Wd) : KpS (endP l) := fun σ => by
  unfold endP
  split
  · exact KpE.refl _
  · exact kp_fault l _ σ
theorem kp_deep (l : List Wd) (m : Int) (d : Nat) : KpS (deepP l m d) := fun σ => by
  unfold deepP
  split
  · exact kp_fault l _ σ
  · exact KpE.refl _
theorem kp_within (l : List Wd) (n k : Nat) : KpS (withinP l n k) := fun σ => by
  unfold withinP
  split
  · exact kp_fault l _ σ
  · exact KpE.refl _
theorem kp_empty (l : List Wd) (n : Nat) : KpS (emptyP l n) := fun σ => by
  unfold emptyP
  split
  · exact kp_fault l _ σ
  · exact KpE.refl _
theorem kp_name (l : List Wd) : Kp (nameP l) := fun σ => by
  unfold nameP
  split
  · exact KpE.refl _
  · exact kp_fault l _ σ
theorem kp_take (l : List Wd) (s : List UInt8) : Kp (takeP l s) := fun σ => by
  unfold takeP
  split <;> exact KpE.refl _
theorem kp_text (l : List Wd) : Kp (textP l) := fun σ => by
  unfold textP
  split
  · exact kp_fault l _ σ
  · exact KpE.refl _
theorem kp_num (l : List Wd) (b : Bool) : Kp (numP l b) := fun σ => by
  unfold numP
  split
  · exact kp_fault l _ σ
  · exact KpE.refl _
theorem kp_number (l : List Wd) : Kp (numberP l) := fun σ => (kp_take l _ σ).tr ((kp_num l _ _).tr (KpE.refl _))
theorem kp_value (l : List Wd) : Kp (valueP l) := fun σ => by
  unfold valueP
  repeat' split
  · exact KpE.refl _
  · exact KpE.refl _
  · exact KpE.refl _
  · exact (kp_text l σ).tr (KpE.refl _)
  · exact (kp_number l σ).tr (KpE.refl _)
theorem kp_column (l : List Wd) : Kp (columnP l) := fun σ => by
  unfold columnP
  split
  · exact (kp_name l σ).tr ((kp_name l (nx (nameP l σ).2)).tr (KpE.refl _))
  · exact (kp_name l σ).tr (KpE.refl _)
theorem kp_operand (l : List Wd) : Kp (operandP l) := fun σ => by
  unfold operandP
  split
  · exact (kp_value l σ).tr (KpE.refl _)
  · exact (kp_column l σ).tr (KpE.refl _)
theorem kp_mul (l : List Wd) {fac : PS → List Lf × PS} (hf : Kp fac) : ∀ (k : Nat) (e : List Lf), Kp (mulP l fac k e)
  | 0, _, _ => KpE.refl _
  | k + 1, e, σ => by
    unfold mulP
    split
    · exact (hf (nx σ)).tr ((kp_mul l hf k _ _).tr (KpE.refl _))
    · exact KpE.refl _
theorem kp_term (l : List Wd) {fac : PS → List Lf × PS} (hf : Kp fac) : Kp (termP l fac) := fun σ => (hf σ).tr ((kp_mul l hf _ _ _).tr (KpE.refl _))
theorem kp_add (l : List Wd) {fac : PS → List Lf × PS} (hf : Kp fac) : ∀ (k : Nat) (e : List Lf), Kp (addP l fac k e)
  | 0, _, _ => KpE.refl _
  | k + 1, e, σ => by
    unfold addP
    split
    · exact (kp_term l hf (nx σ)).tr ((kp_add l hf k _ _).tr (KpE.refl _))
    · split
      · exact (kp_term l hf (nx σ)).tr ((kp_add l hf k _ _).tr (KpE.refl _))
      · exact KpE.refl _
theorem kp_exprOf (l : List Wd) {fac : PS → List Lf × PS} (hf : Kp fac) : Kp (exprOf l fac) := fun σ => (kp_term l hf σ).tr ((kp_add l hf _ _ _).tr (KpE.refl _))
theorem kp_factor (l : List Wd) (m : Int) : ∀ (n d : Nat), Kp (factorP l m n d)
  | 0, _, _ => KpE.refl _
  | n + 1, d, σ => by
    unfold factorP
    repeat' split
    · exact (kp_operand l σ).tr (KpE.refl _)
    · exact (kp_deep l m d (nx σ)).tr ((kp_exprOf l (kp_factor l m n (d + 1)) _).tr ((kp_need1 l _ _).tr (KpE.refl _)))
    · exact (kp_deep l m d (nx σ)).tr ((kp_factor l m n (d + 1) _).tr (KpE.refl _))
    · exact (kp_operand l σ).tr (KpE.refl _)
theorem kp_expr (l : List Wd) (m : Int) (d : Nat) : Kp (exprP l m d) := kp_exprOf l (kp_factor l m _ d)
theorem kp_op (l : List Wd) : Kp (opP l) := fun σ => by
  unfold opP
  repeat' split
  all_goals first | exact KpE.refl _ | exact kp_fault l _ σ
theorem kp_comp (l : List Wd) (a : List Lf) : Kp (compP l a) := fun σ => by
  unfold compP
  repeat' split
  · exact (kp_need1 l _ ⟨σ.i + 2, σ.e⟩).tr (KpE.refl _)
  · exact (kp_need1 l _ (nx σ)).tr (KpE.refl _)
  · exact (kp_op l σ).tr ((kp_operand l _).tr (KpE.refl _))
theorem kp_compared (l : List Wd) : Kp (comparedP l) := fun σ => (kp_operand l σ).tr ((kp_comp l _ _).tr (KpE.refl _))
theorem kp_more (l : List Wd) (sep : List UInt8) {α : Type} {one : PS → α × PS} (hf : Kp one) : ∀ (k : Nat) (acc : List α), Kp (moreP l sep one k acc)
  | 0, _, _ => KpE.refl _
  | k + 1, acc, σ => by
    unfold moreP
    split
    · exact (hf (nx σ)).tr ((kp_more l sep hf k _ _).tr (KpE.refl _))
    · exact KpE.refl _
theorem kp_list (l : List Wd) {α : Type} {one : PS → α × PS} (hf : Kp one) : Kp (listP l one) := fun σ => (hf σ).tr ((kp_more l _ hf _ _ _).tr (KpE.refl _))
theorem kp_joined (l : List Wd) (k : Nat) (sep : List UInt8) {one : PS → List Lf × PS} (hf : Kp one) : Kp (joinedP l k sep one) := fun σ => by
  unfold joinedP
  split
  · exact (hf σ).tr ((kp_more l sep hf _ _ _).tr (KpE.refl _))
  · exact (hf σ).tr (KpE.refl _)
theorem kp_condOf (l : List Wd) {s : PS → List Lf × PS} (hf : Kp s) : Kp (condOf l s) := kp_joined l _ _ (kp_joined l _ _ hf)
theorem kp_simple (l : List Wd) (m : Int) : ∀ (n d : Nat), Kp (simpleP l m n d)
  | 0, _, _ => KpE.refl _
  | n + 1, d, σ => by
    unfold simpleP
    repeat' split
    · exact (kp_deep l m d (nx σ)).tr ((kp_simple l m n (d + 1) _).tr (KpE.refl _))
    · exact (kp_deep l m d (nx σ)).tr ((kp_condOf l (kp_simple l m n (d + 1)) _).tr ((kp_need1 l _ _).tr (KpE.refl _)))
    · exact (kp_compared l σ).tr (KpE.refl _)
theorem kp_cond (l : List Wd) (m : Int) (d : Nat) : Kp (condP l m d) := kp_condOf l (kp_simple l m _ d)
theorem kp_where (l : List Wd) (m : Int) : Kp (whereP l m) := fun σ => by
  unfold whereP
  split
  · exact (kp_cond l m 0 (nx σ)).tr (KpE.refl _)
  · exact KpE.refl _
theorem kp_count (l : List Wd) (m : Int) : Kp (countP l m) := fun σ => by
  unfold countP
  split
  · exact (kp_need1 l _ σ).tr ((kp_need1 l _ (nx (need1 l [40] σ))).tr (KpE.refl _))
  · exact (kp_need1 l _ σ).tr ((kp_expr l m 0 _).tr ((kp_need1 l _ _).tr (KpE.refl _)))
theorem kp_agg (l : List Wd) (m : Int) (k : Nat) : Kp (aggP l m k) := fun σ => (kp_need1 l _ σ).tr ((kp_expr l m 0 _).tr ((kp_need1 l _ _).tr (KpE.refl _)))
theorem kp_told (l : List Wd) (m : Int) : Kp (toldP l m) := fun σ => by
  unfold toldP
  repeat' split
  · exact (kp_count l m (nx σ)).tr (KpE.refl _)
  · exact (kp_agg l m 3 (nx σ)).tr (KpE.refl _)
  · exact (kp_agg l m 4 (nx σ)).tr (KpE.refl _)
  · exact (kp_agg l m 5 (nx σ)).tr (KpE.refl _)
  · exact (kp_expr l m 0 σ).tr (KpE.refl _)
theorem kp_as (l : List Wd) (s : List UInt8) : Kp (asP l s) := fun σ => by
  unfold asP
  split
  · exact (kp_name l (nx σ)).tr (KpE.refl _)
  · exact KpE.refl _
theorem kp_item (l : List Wd) (m : Int) : Kp (itemP l m) := fun σ => (kp_told l m σ).tr ((kp_as l _ _).tr (KpE.refl _))
theorem kp_source (l : List Wd) : Kp (sourceP l) := fun σ => (kp_name l σ).tr ((kp_as l _ _).tr (KpE.refl _))
theorem kp_group (l : List Wd) : Kp (groupP l) := fun σ => by
  unfold groupP
  split
  · exact (kp_need1 l _ (nx σ)).tr ((kp_list l (kp_column l) _).tr (KpE.refl _))
  · exact KpE.refl _
theorem kp_select (l : List Wd) (m : Int) : Kp (selectP l m) := fun σ => (kp_need1 l _ σ).tr ((kp_take l _ _).tr ((kp_list l (kp_item l m) _).tr ((kp_need1 l _ _).tr ((kp_list l (kp_source l) _).tr ((kp_where l m _).tr ((kp_group l _).tr ((kp_within l _ _ _).tr ((kp_within l _ _ _).tr ((kp_within l _ _ _).tr (KpE.refl _))))))))))
theorem kp_union (l : List Wd) (m : Int) : ∀ (k : Nat) (acc : List (List Lf)), Kp (unionP l m k acc)
  | 0, _, _ => KpE.refl _
  | k + 1, acc, σ => by
    unfold unionP
    split
    · exact (kp_need1 l _ (nx σ)).tr ((kp_select l m _).tr ((kp_union l m k _ _).tr (KpE.refl _)))
    · exact KpE.refl _
theorem kp_query (l : List Wd) (m : Int) : Kp (queryP l m) := fun σ => (kp_select l m σ).tr ((kp_union l m _ _ _).tr ((kp_within l _ _ _).tr (KpE.refl _)))
theorem kp_mode (l : List Wd) : Kp (modeP l) := fun σ => by
  unfold modeP
  repeat' split
  all_goals exact KpE.refl _
theorem kp_nm1 (l : List Wd) : Kp (fun σ => (([sL (nameP l σ).1] : List Lf), (nameP l σ).2)) := fun σ => (kp_name l σ).tr (KpE.refl _)
theorem kp_key (l : List Wd) : Kp (keyP l) := fun σ => (kp_need1 l _ σ).tr ((kp_need1 l _ _).tr ((kp_list l (kp_nm1 l) _).tr ((kp_need1 l _ _).tr (KpE.refl _))))
theorem kp_type (l : List Wd) : Kp (typeP l) := fun σ => by
  unfold typeP
  repeat' split
  all_goals first | exact KpE.refl _ | exact kp_fault l _ σ
theorem kp_must (l : List Wd) : Kp (mustP l) := fun σ => by
  unfold mustP
  split
  · exact (kp_need1 l _ (nx σ)).tr (KpE.refl _)
  · exact KpE.refl _
theorem kp_col (l : List Wd) : Kp (colP l) := fun σ => (kp_name l σ).tr ((kp_type l _).tr ((kp_must l _).tr (KpE.refl _)))
theorem kp_cols (l : List Wd) : ∀ (k : Nat) (acc : List (List Lf)), Kp (colsP l k acc)
  | 0, _, _ => KpE.refl _
  | k + 1, acc, σ => by
    unfold colsP
    repeat' split
    · exact (kp_key l (nx σ)).tr (KpE.refl _)
    · exact (kp_col l σ).tr ((kp_cols l k _ (nx (colP l σ).2)).tr (KpE.refl _))
    · exact (kp_col l σ).tr (KpE.refl _)
theorem kp_table (l : List Wd) : Kp (tableP l) := fun σ => (kp_name l σ).tr ((kp_need1 l _ _).tr ((kp_cols l _ _ _).tr ((kp_need1 l _ _).tr ((kp_within l _ _ _).tr ((kp_empty l _ _).tr (KpE.refl _))))))
theorem kp_view (l : List Wd) (m : Int) : Kp (viewP l m) := fun σ => (kp_name l σ).tr ((kp_need1 l _ _).tr ((kp_mode l _).tr ((kp_empty l _ _).tr ((kp_need1 l _ _).tr ((kp_query l m _).tr (KpE.refl _))))))
theorem kp_named (l : List Wd) (k : Nat) : Kp (namedP l k) := fun σ => (kp_name l σ).tr (KpE.refl _)
theorem kp_create (l : List Wd) (m : Int) : Kp (createP l m) := fun σ => by
  unfold createP
  repeat' split
  · exact (kp_table l (nx σ)).tr (KpE.refl _)
  · exact (kp_need1 l _ (nx σ)).tr ((kp_named l _ _).tr (KpE.refl _))
  · exact (kp_need1 l _ σ).tr ((kp_view l m _).tr (KpE.refl _))
theorem kp_drop (l : List Wd) : Kp (dropP l) := fun σ => by
  unfold dropP
  repeat' split
  · exact (kp_named l _ (nx σ)).tr (KpE.refl _)
  · exact (kp_need1 l _ (nx σ)).tr ((kp_named l _ _).tr (KpE.refl _))
  · exact (kp_need1 l _ σ).tr ((kp_named l _ _).tr (KpE.refl _))
theorem kp_tuple (l : List Wd) : Kp (tupleP l) := fun σ => (kp_need1 l _ σ).tr ((kp_list l (kp_value l) _).tr ((kp_need1 l _ _).tr ((kp_within l _ _ _).tr (KpE.refl _))))
theorem kp_tup1 (l : List Wd) : Kp (tup1P l) := fun σ => (kp_tuple l σ).tr (KpE.refl _)
theorem kp_insert (l : List Wd) : Kp (insertP l) := fun σ => (kp_need1 l _ σ).tr ((kp_name l _).tr ((kp_need1 l _ _).tr ((kp_list l (kp_tup1 l) _).tr ((kp_within l _ _ _).tr (KpE.refl _)))))
theorem kp_delete (l : List Wd) (m : Int) : Kp (deleteP l m) := fun σ => (kp_need1 l _ σ).tr ((kp_name l _).tr ((kp_where l m _).tr (KpE.refl _)))
theorem kp_setP (l : List Wd) (m : Int) : Kp (setP l m) := fun σ => (kp_name l σ).tr ((kp_need1 l _ _).tr ((kp_expr l m 0 _).tr (KpE.refl _)))
theorem kp_update (l : List Wd) (m : Int) : Kp (updateP l m) := fun σ => (kp_name l σ).tr ((kp_need1 l _ _).tr ((kp_list l (kp_setP l m) _).tr ((kp_within l _ _ _).tr ((kp_where l m _).tr (KpE.refl _)))))
theorem kp_refresh (l : List Wd) : Kp (refreshP l) := fun σ => (kp_name l σ).tr ((kp_mode l _).tr ((kp_take l _ _).tr (KpE.refl _)))
theorem kp_choice (l : List Wd) (a b : List UInt8) : Kp (choiceP l a b) := fun σ => by
  unfold choiceP
  split
  · exact KpE.refl _
  · exact (kp_need1 l _ σ).tr (KpE.refl _)
theorem kp_setting (l : List Wd) : Kp (settingP l) := fun σ => by
  unfold settingP
  split
  · exact (kp_choice l _ _ (nx σ)).tr (KpE.refl _)
  · exact (kp_need1 l _ σ).tr ((kp_choice l _ _ _).tr (KpE.refl _))
theorem kp_stmt (l : List Wd) (m : Int) : Kp (stmtP l m) := fun σ => by
  unfold stmtP
  repeat' split
  · exact (kp_query l m σ).tr (KpE.refl _)
  · exact (kp_create l m (nx σ)).tr (KpE.refl _)
  · exact (kp_drop l (nx σ)).tr (KpE.refl _)
  · exact (kp_insert l (nx σ)).tr (KpE.refl _)
  · exact (kp_delete l m (nx σ)).tr (KpE.refl _)
  · exact (kp_update l m (nx σ)).tr (KpE.refl _)
  · exact (kp_refresh l (nx σ)).tr (KpE.refl _)
  · exact (kp_need1 l _ (nx σ)).tr ((kp_need1 l _ _).tr ((kp_named l _ _).tr (KpE.refl _)))
  · exact (kp_setting l (nx σ)).tr (KpE.refl _)
  · exact (kp_named l _ (nx σ)).tr (KpE.refl _)
  · exact kp_fault l _ σ
end Go.Proofs.YtneebnankghhgacGreatDoor

/- The parser's plain model: behind each rule the reader stands at a word, behind a fault at the end; it never goes back. Nothing of any program here: lemmas on lists. Conditions: each lemma names its own. -/
namespace Go.Proofs.YtneebnankghhgacGreatDoor
open Go.RowKit

def Inv (l : List Wd) (σ : PS) : Prop := σ.i < l.length ∧ (σ.e ≠ 0 → σ.i + 1 = l.length)
def IvE (l : List Wd) (σ σ' : PS) : Prop := Inv l σ → Inv l σ' ∧ σ.i ≤ σ'.i
theorem IvE.refl (l : List Wd) (σ : PS) : IvE l σ σ := fun h => ⟨h, Nat.le_refl _⟩
theorem IvE.tr {l : List Wd} {a b c : PS} (h : IvE l a b) (k : IvE l b c) : IvE l a c := fun ha => ⟨(k (h ha).1).1, Nat.le_trans (h ha).2 (k (h ha).1).2⟩
def Iv {α : Type} (l : List Wd) (f : PS → α × PS) : Prop := ∀ σ, IvE l σ (f σ).2
def IvS (l : List Wd) (f : PS → PS) : Prop := ∀ σ, IvE l σ (f σ)
theorem end_five {l : List Wd} (ok : WsOk l) {σ : PS} (hi : σ.i < l.length) (he : σ.i + 1 = l.length) : (wdP l σ).k = 5 := by
  have e : wdP l σ = l[σ.i]'hi := by unfold wdP; rw [List.getD_eq_getElem?_getD, List.getElem?_eq_getElem hi]; rfl
  rw [e]
  exact (ok.end_ σ.i hi).2 he
theorem iv_step {l : List Wd} (ok : WsOk l) {σ : PS} (h5 : (wdP l σ).k ≠ 5) : IvE l σ (nx σ) := fun ⟨h1, h2⟩ =>
  ⟨⟨wd_more ok h1 h5, fun he => absurd (end_five ok h1 (h2 he)) h5⟩, Nat.le_succ _⟩
theorem IvE.nx {l : List Wd} (ok : WsOk l) {s : List UInt8} {σ : PS} (hb : isP l s σ = true) : IvE l σ (nx σ) := iv_step ok (fun e => by
  unfold isP isW at hb
  rw [e] at hb
  simp at hb)
theorem iv_fault {l : List Wd} (ok : WsOk l) (c : Nat) : IvS l (faultP l c) := fun σ ⟨h1, _⟩ => by
  have : 0 < l.length := List.length_pos_iff.2 ok.ne
  exact ⟨⟨by unfold faultP; dsimp only; omega, fun _ => by unfold faultP; dsimp only; omega⟩, by unfold faultP; dsimp only; omega⟩
theorem iv_need1 {l : List Wd} (ok : WsOk l) (s : List UInt8) : IvS l (need1 l s) := fun σ => by
  unfold need1
  split
  · exact IvE.nx ok (by assumption)
  · exact iv_fault ok _ σ
theorem iv_deep {l : List Wd} (ok : WsOk l) (m : Int) (d : Nat) : IvS l (deepP l m d) := fun σ => by
  unfold deepP
  split
  · exact iv_fault ok _ σ
  · exact IvE.refl _ _
theorem iv_within {l : List Wd} (ok : WsOk l) (n k : Nat) : IvS l (withinP l n k) := fun σ => by
  unfold withinP
  split
  · exact iv_fault ok _ σ
  · exact IvE.refl _ _
theorem iv_empty {l : List Wd} (ok : WsOk l) (n : Nat) : IvS l (emptyP l n) := fun σ => by
  unfold emptyP
  split
  · exact iv_fault ok _ σ
  · exact IvE.refl _ _
theorem iv_name {l : List Wd} (ok : WsOk l) : Iv l (nameP l) := fun σ => by
  unfold nameP
  split
  · rename_i h; exact iv_step ok (by rw [h.1]; decide)
  · exact iv_fault ok _ σ
theorem iv_take {l : List Wd} (ok : WsOk l) (s : List UInt8) : Iv l (takeP l s) := fun σ => by
  unfold takeP
  split
  · exact IvE.nx ok (by assumption)
  · exact IvE.refl _ _
theorem iv_text {l : List Wd} (ok : WsOk l) {σ : PS} (h3 : (wdP l σ).k = 3) : IvE l σ (textP l σ).2 := by
  unfold textP
  split
  · exact iv_fault ok _ σ
  · exact iv_step ok (by rw [h3]; decide)
theorem iv_num {l : List Wd} (ok : WsOk l) (b : Bool) : Iv l (numP l b) := fun σ => by
  unfold numP
  split
  · exact iv_fault ok _ σ
  · rename_i h
    exact iv_step ok (fun e => h (.inl (by rw [e]; decide)))
theorem iv_number {l : List Wd} (ok : WsOk l) : Iv l (numberP l) := fun σ => (iv_take ok _ σ).tr (iv_num ok _ _)
theorem iv_value {l : List Wd} (ok : WsOk l) : Iv l (valueP l) := fun σ => by
  unfold valueP
  repeat' split
  · exact IvE.nx ok (by assumption)
  · exact IvE.nx ok (by assumption)
  · exact IvE.nx ok (by assumption)
  · exact iv_text ok (by assumption)
  · exact iv_number ok σ
theorem iv_column {l : List Wd} (ok : WsOk l) : Iv l (columnP l) := fun σ => by
  unfold columnP
  split
  · exact (iv_name ok σ).tr ((IvE.nx ok (by assumption)).tr (iv_name ok (nx (nameP l σ).2)))
  · exact iv_name ok σ
theorem iv_operand {l : List Wd} (ok : WsOk l) : Iv l (operandP l) := fun σ => by
  unfold operandP
  split
  · exact iv_value ok σ
  · exact iv_column ok σ
theorem iv_mul {l : List Wd} (ok : WsOk l) {fac : PS → List Lf × PS} (hf : Iv l fac) : ∀ (k : Nat) (e : List Lf), Iv l (mulP l fac k e)
  | 0, _, _ => IvE.refl _ _
  | k + 1, e, σ => by
    unfold mulP
    split
    · exact (IvE.nx ok (by assumption)).tr ((hf (nx σ)).tr ((iv_mul ok hf k _ _).tr (IvE.refl _ _)))
    · first | exact IvE.refl _ _ | exact IvE.nx ok (by assumption)
theorem iv_term {l : List Wd} (ok : WsOk l) {fac : PS → List Lf × PS} (hf : Iv l fac) : Iv l (termP l fac) := fun σ => (hf σ).tr ((iv_mul ok hf _ _ _).tr (IvE.refl _ _))
theorem iv_add {l : List Wd} (ok : WsOk l) {fac : PS → List Lf × PS} (hf : Iv l fac) : ∀ (k : Nat) (e : List Lf), Iv l (addP l fac k e)
  | 0, _, _ => IvE.refl _ _
  | k + 1, e, σ => by
    unfold addP
    split
    · exact (IvE.nx ok (by assumption)).tr ((iv_term ok hf (nx σ)).tr ((iv_add ok hf k _ _).tr (IvE.refl _ _)))
    · split
      · exact (IvE.nx ok (by assumption)).tr ((iv_term ok hf (nx σ)).tr ((iv_add ok hf k _ _).tr (IvE.refl _ _)))
      · first | exact IvE.refl _ _ | exact IvE.nx ok (by assumption)
theorem iv_exprOf {l : List Wd} (ok : WsOk l) {fac : PS → List Lf × PS} (hf : Iv l fac) : Iv l (exprOf l fac) := fun σ => (iv_term ok hf σ).tr ((iv_add ok hf _ _ _).tr (IvE.refl _ _))
theorem iv_factor {l : List Wd} (ok : WsOk l) (m : Int) : ∀ (n d : Nat), Iv l (factorP l m n d)
  | 0, _, _ => IvE.refl _ _
  | n + 1, d, σ => by
    unfold factorP
    repeat' split
    · exact (iv_operand ok σ).tr (IvE.refl _ _)
    · exact (IvE.nx ok (by assumption)).tr ((iv_deep ok m d (nx σ)).tr ((iv_exprOf ok (iv_factor ok m n (d + 1)) _).tr ((iv_need1 ok _ _).tr (IvE.refl _ _))))
    · exact (IvE.nx ok (by assumption)).tr ((iv_deep ok m d (nx σ)).tr ((iv_factor ok m n (d + 1) _).tr (IvE.refl _ _)))
    · exact (iv_operand ok σ).tr (IvE.refl _ _)
theorem iv_expr {l : List Wd} (ok : WsOk l) (m : Int) (d : Nat) : Iv l (exprP l m d) := iv_exprOf ok (iv_factor ok m _ d)
theorem iv_op {l : List Wd} (ok : WsOk l) : Iv l (opP l) := fun σ => by
  unfold opP
  repeat' split
  all_goals first | exact IvE.nx ok (by assumption) | exact iv_fault ok _ σ
theorem iv_comp {l : List Wd} (ok : WsOk l) (a : List Lf) : Iv l (compP l a) := fun σ => by
  unfold compP
  repeat' split
  · exact ((IvE.nx ok (by assumption)).tr (IvE.nx ok (by assumption))).tr ((iv_need1 ok _ ⟨σ.i + 2, σ.e⟩).tr (IvE.refl _ _))
  · exact (IvE.nx ok (by assumption)).tr ((iv_need1 ok _ (nx σ)).tr (IvE.refl _ _))
  · exact (iv_op ok σ).tr ((iv_operand ok _).tr (IvE.refl _ _))
theorem iv_compared {l : List Wd} (ok : WsOk l) : Iv l (comparedP l) := fun σ => (iv_operand ok σ).tr ((iv_comp ok _ _).tr (IvE.refl _ _))
theorem iv_more {l : List Wd} (ok : WsOk l) (sep : List UInt8) {α : Type} {one : PS → α × PS} (hf : Iv l one) : ∀ (k : Nat) (acc : List α), Iv l (moreP l sep one k acc)
  | 0, _, _ => IvE.refl _ _
  | k + 1, acc, σ => by
    unfold moreP
    split
    · exact (IvE.nx ok (by assumption)).tr ((hf (nx σ)).tr ((iv_more ok sep hf k _ _).tr (IvE.refl _ _)))
    · first | exact IvE.refl _ _ | exact IvE.nx ok (by assumption)
theorem iv_list {l : List Wd} (ok : WsOk l) {α : Type} {one : PS → α × PS} (hf : Iv l one) : Iv l (listP l one) := fun σ => (hf σ).tr ((iv_more ok _ hf _ _ _).tr (IvE.refl _ _))
theorem iv_joined {l : List Wd} (ok : WsOk l) (k : Nat) (sep : List UInt8) {one : PS → List Lf × PS} (hf : Iv l one) : Iv l (joinedP l k sep one) := fun σ => by
  unfold joinedP
  split
  · exact (hf σ).tr ((iv_more ok sep hf _ _ _).tr (IvE.refl _ _))
  · exact (hf σ).tr (IvE.refl _ _)
theorem iv_condOf {l : List Wd} (ok : WsOk l) {s : PS → List Lf × PS} (hf : Iv l s) : Iv l (condOf l s) := iv_joined ok _ _ (iv_joined ok _ _ hf)
theorem iv_simple {l : List Wd} (ok : WsOk l) (m : Int) : ∀ (n d : Nat), Iv l (simpleP l m n d)
  | 0, _, _ => IvE.refl _ _
  | n + 1, d, σ => by
    unfold simpleP
    repeat' split
    · exact (IvE.nx ok (by assumption)).tr ((iv_deep ok m d (nx σ)).tr ((iv_simple ok m n (d + 1) _).tr (IvE.refl _ _)))
    · exact (IvE.nx ok (by assumption)).tr ((iv_deep ok m d (nx σ)).tr ((iv_condOf ok (iv_simple ok m n (d + 1)) _).tr ((iv_need1 ok _ _).tr (IvE.refl _ _))))
    · exact (iv_compared ok σ).tr (IvE.refl _ _)
theorem iv_cond {l : List Wd} (ok : WsOk l) (m : Int) (d : Nat) : Iv l (condP l m d) := iv_condOf ok (iv_simple ok m _ d)
theorem iv_where {l : List Wd} (ok : WsOk l) (m : Int) : Iv l (whereP l m) := fun σ => by
  unfold whereP
  split
  · exact (IvE.nx ok (by assumption)).tr ((iv_cond ok m 0 (nx σ)).tr (IvE.refl _ _))
  · first | exact IvE.refl _ _ | exact IvE.nx ok (by assumption)
theorem iv_count {l : List Wd} (ok : WsOk l) (m : Int) : Iv l (countP l m) := fun σ => by
  unfold countP
  split
  · exact (iv_need1 ok _ σ).tr ((IvE.nx ok (by assumption)).tr ((iv_need1 ok _ (nx (need1 l [40] σ))).tr (IvE.refl _ _)))
  · exact (iv_need1 ok _ σ).tr ((iv_expr ok m 0 _).tr ((iv_need1 ok _ _).tr (IvE.refl _ _)))
theorem iv_agg {l : List Wd} (ok : WsOk l) (m : Int) (k : Nat) : Iv l (aggP l m k) := fun σ => (iv_need1 ok _ σ).tr ((iv_expr ok m 0 _).tr ((iv_need1 ok _ _).tr (IvE.refl _ _)))
theorem iv_told {l : List Wd} (ok : WsOk l) (m : Int) : Iv l (toldP l m) := fun σ => by
  unfold toldP
  repeat' split
  · exact (IvE.nx ok (by assumption)).tr ((iv_count ok m (nx σ)).tr (IvE.refl _ _))
  · exact (IvE.nx ok (by assumption)).tr ((iv_agg ok m 3 (nx σ)).tr (IvE.refl _ _))
  · exact (IvE.nx ok (by assumption)).tr ((iv_agg ok m 4 (nx σ)).tr (IvE.refl _ _))
  · exact (IvE.nx ok (by assumption)).tr ((iv_agg ok m 5 (nx σ)).tr (IvE.refl _ _))
  · exact (iv_expr ok m 0 σ).tr (IvE.refl _ _)
theorem iv_as {l : List Wd} (ok : WsOk l) (s : List UInt8) : Iv l (asP l s) := fun σ => by
  unfold asP
  split
  · exact (IvE.nx ok (by assumption)).tr ((iv_name ok (nx σ)).tr (IvE.refl _ _))
  · first | exact IvE.refl _ _ | exact IvE.nx ok (by assumption)
theorem iv_item {l : List Wd} (ok : WsOk l) (m : Int) : Iv l (itemP l m) := fun σ => (iv_told ok m σ).tr ((iv_as ok _ _).tr (IvE.refl _ _))
theorem iv_source {l : List Wd} (ok : WsOk l) : Iv l (sourceP l) := fun σ => (iv_name ok σ).tr ((iv_as ok _ _).tr (IvE.refl _ _))
theorem iv_group {l : List Wd} (ok : WsOk l) : Iv l (groupP l) := fun σ => by
  unfold groupP
  split
  · exact (IvE.nx ok (by assumption)).tr ((iv_need1 ok _ (nx σ)).tr ((iv_list ok (iv_column ok) _).tr (IvE.refl _ _)))
  · first | exact IvE.refl _ _ | exact IvE.nx ok (by assumption)
theorem iv_select {l : List Wd} (ok : WsOk l) (m : Int) : Iv l (selectP l m) := fun σ => (iv_need1 ok _ σ).tr ((iv_take ok _ _).tr ((iv_list ok (iv_item ok m) _).tr ((iv_need1 ok _ _).tr ((iv_list ok (iv_source ok) _).tr ((iv_where ok m _).tr ((iv_group ok _).tr ((iv_within ok _ _ _).tr ((iv_within ok _ _ _).tr ((iv_within ok _ _ _).tr (IvE.refl _ _))))))))))
theorem iv_union {l : List Wd} (ok : WsOk l) (m : Int) : ∀ (k : Nat) (acc : List (List Lf)), Iv l (unionP l m k acc)
  | 0, _, _ => IvE.refl _ _
  | k + 1, acc, σ => by
    unfold unionP
    split
    · exact (IvE.nx ok (by assumption)).tr ((iv_need1 ok _ (nx σ)).tr ((iv_select ok m _).tr ((iv_union ok m k _ _).tr (IvE.refl _ _))))
    · first | exact IvE.refl _ _ | exact IvE.nx ok (by assumption)
theorem iv_query {l : List Wd} (ok : WsOk l) (m : Int) : Iv l (queryP l m) := fun σ => (iv_select ok m σ).tr ((iv_union ok m _ _ _).tr ((iv_within ok _ _ _).tr (IvE.refl _ _)))
theorem iv_mode {l : List Wd} (ok : WsOk l) : Iv l (modeP l) := fun σ => by
  unfold modeP
  repeat' split
  all_goals first | exact IvE.nx ok (by assumption) | exact IvE.refl _ _
theorem iv_nm1 {l : List Wd} (ok : WsOk l) : Iv l (fun σ => (([sL (nameP l σ).1] : List Lf), (nameP l σ).2)) := fun σ => (iv_name ok σ).tr (IvE.refl _ _)
theorem iv_key {l : List Wd} (ok : WsOk l) : Iv l (keyP l) := fun σ => (iv_need1 ok _ σ).tr ((iv_need1 ok _ _).tr ((iv_list ok (iv_nm1 ok) _).tr ((iv_need1 ok _ _).tr (IvE.refl _ _))))
theorem iv_type {l : List Wd} (ok : WsOk l) : Iv l (typeP l) := fun σ => by
  unfold typeP
  repeat' split
  all_goals first | exact IvE.nx ok (by assumption) | exact iv_fault ok _ σ
theorem iv_must {l : List Wd} (ok : WsOk l) : Iv l (mustP l) := fun σ => by
  unfold mustP
  split
  · exact (IvE.nx ok (by assumption)).tr ((iv_need1 ok _ (nx σ)).tr (IvE.refl _ _))
  · first | exact IvE.refl _ _ | exact IvE.nx ok (by assumption)
theorem iv_col {l : List Wd} (ok : WsOk l) : Iv l (colP l) := fun σ => (iv_name ok σ).tr ((iv_type ok _).tr ((iv_must ok _).tr (IvE.refl _ _)))
theorem iv_cols {l : List Wd} (ok : WsOk l) : ∀ (k : Nat) (acc : List (List Lf)), Iv l (colsP l k acc)
  | 0, _, _ => IvE.refl _ _
  | k + 1, acc, σ => by
    unfold colsP
    repeat' split
    · exact (IvE.nx ok (by assumption)).tr ((iv_key ok (nx σ)).tr (IvE.refl _ _))
    · exact (iv_col ok σ).tr ((IvE.nx ok (by assumption)).tr ((iv_cols ok k _ (nx (colP l σ).2)).tr (IvE.refl _ _)))
    · exact (iv_col ok σ).tr (IvE.refl _ _)
theorem iv_table {l : List Wd} (ok : WsOk l) : Iv l (tableP l) := fun σ => (iv_name ok σ).tr ((iv_need1 ok _ _).tr ((iv_cols ok _ _ _).tr ((iv_need1 ok _ _).tr ((iv_within ok _ _ _).tr ((iv_empty ok _ _).tr (IvE.refl _ _))))))
theorem iv_view {l : List Wd} (ok : WsOk l) (m : Int) : Iv l (viewP l m) := fun σ => (iv_name ok σ).tr ((iv_need1 ok _ _).tr ((iv_mode ok _).tr ((iv_empty ok _ _).tr ((iv_need1 ok _ _).tr ((iv_query ok m _).tr (IvE.refl _ _))))))
theorem iv_named {l : List Wd} (ok : WsOk l) (k : Nat) : Iv l (namedP l k) := fun σ => (iv_name ok σ).tr (IvE.refl _ _)
theorem iv_create {l : List Wd} (ok : WsOk l) (m : Int) : Iv l (createP l m) := fun σ => by
  unfold createP
  repeat' split
  · exact (IvE.nx ok (by assumption)).tr ((iv_table ok (nx σ)).tr (IvE.refl _ _))
  · exact (IvE.nx ok (by assumption)).tr ((iv_need1 ok _ (nx σ)).tr ((iv_named ok _ _).tr (IvE.refl _ _)))
  · exact (iv_need1 ok _ σ).tr ((iv_view ok m _).tr (IvE.refl _ _))
theorem iv_drop {l : List Wd} (ok : WsOk l) : Iv l (dropP l) := fun σ => by
  unfold dropP
  repeat' split
  · exact (IvE.nx ok (by assumption)).tr ((iv_named ok _ (nx σ)).tr (IvE.refl _ _))
  · exact (IvE.nx ok (by assumption)).tr ((iv_need1 ok _ (nx σ)).tr ((iv_named ok _ _).tr (IvE.refl _ _)))
  · exact (iv_need1 ok _ σ).tr ((iv_named ok _ _).tr (IvE.refl _ _))
theorem iv_tuple {l : List Wd} (ok : WsOk l) : Iv l (tupleP l) := fun σ => (iv_need1 ok _ σ).tr ((iv_list ok (iv_value ok) _).tr ((iv_need1 ok _ _).tr ((iv_within ok _ _ _).tr (IvE.refl _ _))))
theorem iv_tup1 {l : List Wd} (ok : WsOk l) : Iv l (tup1P l) := fun σ => (iv_tuple ok σ).tr (IvE.refl _ _)
theorem iv_insert {l : List Wd} (ok : WsOk l) : Iv l (insertP l) := fun σ => (iv_need1 ok _ σ).tr ((iv_name ok _).tr ((iv_need1 ok _ _).tr ((iv_list ok (iv_tup1 ok) _).tr ((iv_within ok _ _ _).tr (IvE.refl _ _)))))
theorem iv_delete {l : List Wd} (ok : WsOk l) (m : Int) : Iv l (deleteP l m) := fun σ => (iv_need1 ok _ σ).tr ((iv_name ok _).tr ((iv_where ok m _).tr (IvE.refl _ _)))
theorem iv_setP {l : List Wd} (ok : WsOk l) (m : Int) : Iv l (setP l m) := fun σ => (iv_name ok σ).tr ((iv_need1 ok _ _).tr ((iv_expr ok m 0 _).tr (IvE.refl _ _)))
theorem iv_update {l : List Wd} (ok : WsOk l) (m : Int) : Iv l (updateP l m) := fun σ => (iv_name ok σ).tr ((iv_need1 ok _ _).tr ((iv_list ok (iv_setP ok m) _).tr ((iv_within ok _ _ _).tr ((iv_where ok m _).tr (IvE.refl _ _)))))
theorem iv_refresh {l : List Wd} (ok : WsOk l) : Iv l (refreshP l) := fun σ => (iv_name ok σ).tr ((iv_mode ok _).tr ((iv_take ok _ _).tr (IvE.refl _ _)))
theorem iv_choice {l : List Wd} (ok : WsOk l) (a b : List UInt8) : Iv l (choiceP l a b) := fun σ => by
  unfold choiceP
  split
  · first | exact IvE.refl _ _ | exact IvE.nx ok (by assumption)
  · exact (iv_need1 ok _ σ).tr (IvE.refl _ _)
theorem iv_setting {l : List Wd} (ok : WsOk l) : Iv l (settingP l) := fun σ => by
  unfold settingP
  split
  · exact (IvE.nx ok (by assumption)).tr ((iv_choice ok _ _ (nx σ)).tr (IvE.refl _ _))
  · exact (iv_need1 ok _ σ).tr ((iv_choice ok _ _ _).tr (IvE.refl _ _))
theorem iv_stmt {l : List Wd} (ok : WsOk l) (m : Int) : Iv l (stmtP l m) := fun σ => by
  unfold stmtP
  repeat' split
  · exact (iv_query ok m σ).tr (IvE.refl _ _)
  · exact (IvE.nx ok (by assumption)).tr ((iv_create ok m (nx σ)).tr (IvE.refl _ _))
  · exact (IvE.nx ok (by assumption)).tr ((iv_drop ok (nx σ)).tr (IvE.refl _ _))
  · exact (IvE.nx ok (by assumption)).tr ((iv_insert ok (nx σ)).tr (IvE.refl _ _))
  · exact (IvE.nx ok (by assumption)).tr ((iv_delete ok m (nx σ)).tr (IvE.refl _ _))
  · exact (IvE.nx ok (by assumption)).tr ((iv_update ok m (nx σ)).tr (IvE.refl _ _))
  · exact (IvE.nx ok (by assumption)).tr ((iv_refresh ok (nx σ)).tr (IvE.refl _ _))
  · exact (IvE.nx ok (by assumption)).tr ((iv_need1 ok _ (nx σ)).tr ((iv_need1 ok _ _).tr ((iv_named ok _ _).tr (IvE.refl _ _))))
  · exact (IvE.nx ok (by assumption)).tr ((iv_setting ok (nx σ)).tr (IvE.refl _ _))
  · exact (IvE.nx ok (by assumption)).tr ((iv_named ok _ (nx σ)).tr (IvE.refl _ _))
  · exact iv_fault ok _ σ
end Go.Proofs.YtneebnankghhgacGreatDoor

/- The parser's plain model at two depths: what isn't refused for its depth is told the same at any greater depth. Nothing of any program here: lemmas on lists. Conditions: each lemma names its own. -/
namespace Go.Proofs.YtneebnankghhgacGreatDoor
open Go.RowKit

/-- Where the first tells no fault 19, the second tells the same. -/
def Dq {α : Type} (l : List Wd) (f g : PS → α × PS) : Prop := ∀ σ, Inv l σ → (f σ).2.e ≠ 19 → g σ = f σ
theorem KpE.ne19 {a b : PS} (k : KpE a b) (h : b.e ≠ 19) : a.e ≠ 19 := fun ha => h ((k (by rw [ha]; decide)).trans ha)
theorem Dq.refl {α : Type} (l : List Wd) (f : PS → α × PS) : Dq l f f := fun _ _ _ => rfl
theorem dq_deep {l : List Wd} {m m' : Int} (hm : m ≤ m') (d : Nat) {σ : PS} (h0 : σ.e = 0) (h : (deepP l m d σ).e ≠ 19) : deepP l m' d σ = deepP l m d σ := by
  unfold deepP at h ⊢
  split at h
  · exact absurd (show (faultP l 19 σ).e = 19 by unfold faultP; dsimp only; rw [if_pos h0]) h
  · rename_i h1
    rw [if_neg (by omega), if_neg h1]
theorem took_e {l : List Wd} (ok : WsOk l) {s : List UInt8} {σ : PS} (hi : Inv l σ) (hb : isP l s σ = true) : σ.e = 0 := by
  rcases Nat.eq_zero_or_pos σ.e with h | h
  · exact h
  · have h5 := end_five ok hi.1 (hi.2 (by omega))
    unfold isP isW at hb
    rw [h5] at hb
    simp at hb
section
variable {l : List Wd} (ok : WsOk l) {f g : PS → List Lf × PS}
include ok
theorem dq_mul (hf : Dq l f g) (kf : Kp f) (vf : Iv l f) : ∀ (k : Nat) (e : List Lf), Dq l (mulP l f k e) (mulP l g k e)
  | 0, _, _, _, _ => rfl
  | k + 1, e, σ, hi, h => by
    by_cases hb : isP l [42] σ = true
    · have ef : mulP l f (k + 1) e σ = mulP l f k (opTwo 5 e (f (nx σ)).1) (f (nx σ)).2 := if_pos hb
      have eg : mulP l g (k + 1) e σ = mulP l g k (opTwo 5 e (g (nx σ)).1) (g (nx σ)).2 := if_pos hb
      have hi2 := (IvE.nx ok hb hi).1
      rw [ef] at h ⊢
      rw [eg, hf _ hi2 ((kp_mul l kf k _ _).ne19 h)]
      exact dq_mul hf kf vf k _ _ (vf _ hi2).1 h
    · rw [show mulP l f (k + 1) e σ = (e, σ) from if_neg hb, show mulP l g (k + 1) e σ = (e, σ) from if_neg hb]
theorem dq_term (hf : Dq l f g) (kf : Kp f) (vf : Iv l f) : Dq l (termP l f) (termP l g) := fun σ hi h => by
  unfold termP at h ⊢
  rw [hf σ hi ((kp_mul l kf _ _ _).ne19 h)]
  exact dq_mul ok hf kf vf _ _ _ (vf σ hi).1 h
theorem dq_add (hf : Dq l f g) (kf : Kp f) (vf : Iv l f) : ∀ (k : Nat) (e : List Lf), Dq l (addP l f k e) (addP l g k e)
  | 0, _, _, _, _ => rfl
  | k + 1, e, σ, hi, h => by
    by_cases hb : isP l [43] σ = true
    · have ef : addP l f (k + 1) e σ = addP l f k (opTwo 3 e (termP l f (nx σ)).1) (termP l f (nx σ)).2 := if_pos hb
      have eg : addP l g (k + 1) e σ = addP l g k (opTwo 3 e (termP l g (nx σ)).1) (termP l g (nx σ)).2 := if_pos hb
      have hi2 := (IvE.nx ok hb hi).1
      rw [ef] at h ⊢
      rw [eg, dq_term ok hf kf vf _ hi2 ((kp_add l kf k _ _).ne19 h)]
      exact dq_add hf kf vf k _ _ (iv_term ok vf _ hi2).1 h
    · by_cases hc : isP l [45] σ = true
      · have ef : addP l f (k + 1) e σ = addP l f k (opTwo 4 e (termP l f (nx σ)).1) (termP l f (nx σ)).2 := (if_neg hb).trans (if_pos hc)
        have eg : addP l g (k + 1) e σ = addP l g k (opTwo 4 e (termP l g (nx σ)).1) (termP l g (nx σ)).2 := (if_neg hb).trans (if_pos hc)
        have hi2 := (IvE.nx ok hc hi).1
        rw [ef] at h ⊢
        rw [eg, dq_term ok hf kf vf _ hi2 ((kp_add l kf k _ _).ne19 h)]
        exact dq_add hf kf vf k _ _ (iv_term ok vf _ hi2).1 h
      · rw [show addP l f (k + 1) e σ = (e, σ) from (if_neg hb).trans (if_neg hc), show addP l g (k + 1) e σ = (e, σ) from (if_neg hb).trans (if_neg hc)]
theorem dq_exprOf (hf : Dq l f g) (kf : Kp f) (vf : Iv l f) : Dq l (exprOf l f) (exprOf l g) := fun σ hi h => by
  unfold exprOf at h ⊢
  rw [dq_term ok hf kf vf σ hi ((kp_add l kf _ _ _).ne19 h)]
  exact dq_add ok hf kf vf _ _ _ (iv_term ok vf σ hi).1 h
theorem dq_more {α : Type} {f g : PS → α × PS} (sep : List UInt8) (hf : Dq l f g) (kf : Kp f) (vf : Iv l f) : ∀ (k : Nat) (acc : List α), Dq l (moreP l sep f k acc) (moreP l sep g k acc)
  | 0, _, _, _, _ => rfl
  | k + 1, acc, σ, hi, h => by
    by_cases hb : isP l sep σ = true
    · have ef : moreP l sep f (k + 1) acc σ = moreP l sep f k (acc ++ [(f (nx σ)).1]) (f (nx σ)).2 := if_pos hb
      have eg : moreP l sep g (k + 1) acc σ = moreP l sep g k (acc ++ [(g (nx σ)).1]) (g (nx σ)).2 := if_pos hb
      have hi2 := (IvE.nx ok hb hi).1
      rw [ef] at h ⊢
      rw [eg, hf _ hi2 ((kp_more l sep kf k _ _).ne19 h)]
      exact dq_more sep hf kf vf k _ _ (vf _ hi2).1 h
    · rw [show moreP l sep f (k + 1) acc σ = (acc, σ) from if_neg hb, show moreP l sep g (k + 1) acc σ = (acc, σ) from if_neg hb]
theorem dq_list {α : Type} {f g : PS → α × PS} (hf : Dq l f g) (kf : Kp f) (vf : Iv l f) : Dq l (listP l f) (listP l g) := fun σ hi h => by
  unfold listP at h ⊢
  rw [hf σ hi ((kp_more l _ kf _ _ _).ne19 h)]
  exact dq_more ok _ hf kf vf _ _ _ (vf σ hi).1 h
theorem dq_joined (k : Nat) (sep : List UInt8) (hf : Dq l f g) (kf : Kp f) (vf : Iv l f) : Dq l (joinedP l k sep f) (joinedP l k sep g) := fun σ hi h => by
  have h1 : (f σ).2.e ≠ 19 := (show KpE (f σ).2 (joinedP l k sep f σ).2 by
    unfold joinedP
    split
    · exact kp_more l sep kf _ _ _
    · exact KpE.refl _).ne19 h
  unfold joinedP at h ⊢
  rw [hf σ hi h1]
  by_cases hb : isP l sep (f σ).2 = true
  · rw [if_pos hb] at h ⊢
    rw [if_pos hb]
    rw [dq_more ok sep hf kf vf _ _ _ (vf σ hi).1 h]
  · rw [if_neg hb, if_neg hb]
theorem dq_condOf (hf : Dq l f g) (kf : Kp f) (vf : Iv l f) : Dq l (condOf l f) (condOf l g) := dq_joined ok _ _ (dq_joined ok _ _ hf kf vf) (kp_joined l _ _ kf) (iv_joined ok _ _ vf)
end
theorem dq_factor {l : List Wd} (ok : WsOk l) {m m' : Int} (hm : m ≤ m') : ∀ (n d : Nat), Dq l (factorP l m n d) (factorP l m' n d)
  | 0, _, _, _, _ => rfl
  | n + 1, d, σ, hi, h => by
    unfold factorP at h ⊢
    by_cases hv : valuedP l σ = true
    · rw [if_pos hv, if_pos hv]
    rw [if_neg hv] at h ⊢
    rw [if_neg hv]
    by_cases hb : isP l [40] σ = true
    · rw [if_pos hb] at h ⊢
      rw [if_pos hb]
      have hi2 := (IvE.nx ok hb hi).1
      have e0 := took_e ok hi hb
      have hk := kp_exprOf l (kp_factor l m n (d + 1))
      have h1 : (exprOf l (factorP l m n (d + 1)) (deepP l m d (nx σ))).2.e ≠ 19 := (kp_need1 l _ _).ne19 h
      have hd := dq_deep hm d (σ := nx σ) e0 ((hk _).ne19 h1)
      rw [show (⟨σ.i + 1, σ.e⟩ : PS) = nx σ from rfl, hd, dq_exprOf ok (dq_factor ok hm n (d + 1)) (kp_factor l m n (d + 1)) (iv_factor ok m n (d + 1)) _ (iv_deep ok m d _ hi2).1 h1]
    rw [if_neg hb] at h ⊢
    rw [if_neg hb]
    by_cases hc : isP l [45] σ = true
    · rw [if_pos hc] at h ⊢
      rw [if_pos hc]
      have hi2 := (IvE.nx ok hc hi).1
      have e0 := took_e ok hi hc
      have hd := dq_deep hm d (σ := nx σ) e0 ((kp_factor l m n (d + 1) _).ne19 h)
      rw [show (⟨σ.i + 1, σ.e⟩ : PS) = nx σ from rfl, hd, dq_factor ok hm n (d + 1) _ (iv_deep ok m d _ hi2).1 h]
    · rw [if_neg hc, if_neg hc]
theorem dq_expr {l : List Wd} (ok : WsOk l) {m m' : Int} (hm : m ≤ m') (d : Nat) : Dq l (exprP l m d) (exprP l m' d) := dq_exprOf ok (dq_factor ok hm _ d) (kp_factor l m _ d) (iv_factor ok m _ d)
theorem dq_simple {l : List Wd} (ok : WsOk l) {m m' : Int} (hm : m ≤ m') : ∀ (n d : Nat), Dq l (simpleP l m n d) (simpleP l m' n d)
  | 0, _, _, _, _ => rfl
  | n + 1, d, σ, hi, h => by
    unfold simpleP at h ⊢
    by_cases hc : isP l [110, 111, 116] σ = true
    · rw [if_pos hc] at h ⊢
      rw [if_pos hc]
      have hi2 := (IvE.nx ok hc hi).1
      have e0 := took_e ok hi hc
      have hd := dq_deep hm d (σ := nx σ) e0 ((kp_simple l m n (d + 1) _).ne19 h)
      rw [show (⟨σ.i + 1, σ.e⟩ : PS) = nx σ from rfl, hd, dq_simple ok hm n (d + 1) _ (iv_deep ok m d _ hi2).1 h]
    rw [if_neg hc] at h ⊢
    rw [if_neg hc]
    by_cases hb : isP l [40] σ = true
    · rw [if_pos hb] at h ⊢
      rw [if_pos hb]
      have hi2 := (IvE.nx ok hb hi).1
      have e0 := took_e ok hi hb
      have hk := kp_condOf l (kp_simple l m n (d + 1))
      have h1 : (condOf l (simpleP l m n (d + 1)) (deepP l m d (nx σ))).2.e ≠ 19 := (kp_need1 l _ _).ne19 h
      have hd := dq_deep hm d (σ := nx σ) e0 ((hk _).ne19 h1)
      rw [show (⟨σ.i + 1, σ.e⟩ : PS) = nx σ from rfl, hd, dq_condOf ok (dq_simple ok hm n (d + 1)) (kp_simple l m n (d + 1)) (iv_simple ok m n (d + 1)) _ (iv_deep ok m d _ hi2).1 h1]
    · rw [if_neg hb, if_neg hb]
theorem dq_cond {l : List Wd} (ok : WsOk l) {m m' : Int} (hm : m ≤ m') (d : Nat) : Dq l (condP l m d) (condP l m' d) := dq_condOf ok (dq_simple ok hm _ d) (kp_simple l m _ d) (iv_simple ok m _ d)
theorem dq_where {l : List Wd} (ok : WsOk l) {m m' : Int} (hm : m ≤ m') : Dq l (whereP l m) (whereP l m') := fun σ hi h => by
  unfold whereP at h ⊢
  by_cases hb : isP l [119, 104, 101, 114, 101] σ = true
  · rw [if_pos hb] at h ⊢
    rw [if_pos hb]
    exact dq_cond ok hm 0 _ (IvE.nx ok hb hi).1 h
  · rw [if_neg hb, if_neg hb]
end Go.Proofs.YtneebnankghhgacGreatDoor

/- The parser's plain model at two depths: items, queries, statements: what isn't refused for its depth is told the same at any greater depth. Nothing of any program here: lemmas on lists. Conditions: each lemma names its own. -/
namespace Go.Proofs.YtneebnankghhgacGreatDoor
open Go.RowKit

theorem dq_count {l : List Wd} (ok : WsOk l) {m m' : Int} (hm : m ≤ m') : Dq l (countP l m) (countP l m') := fun σ hi h => by
  unfold countP at h ⊢
  have hi1 := (iv_need1 ok [40] σ hi).1
  by_cases hb : isP l [42] (need1 l [40] σ) = true
  · rw [if_pos hb, if_pos hb]
  · rw [if_neg hb] at h ⊢
    rw [if_neg hb]
    rw [dq_expr ok hm 0 _ hi1 ((kp_need1 l _ _).ne19 h)]
theorem dq_agg {l : List Wd} (ok : WsOk l) {m m' : Int} (hm : m ≤ m') (k : Nat) : Dq l (aggP l m k) (aggP l m' k) := fun σ hi h => by
  unfold aggP at h ⊢
  rw [dq_expr ok hm 0 _ (iv_need1 ok [40] σ hi).1 ((kp_need1 l _ _).ne19 h)]
theorem dq_told {l : List Wd} (ok : WsOk l) {m m' : Int} (hm : m ≤ m') : Dq l (toldP l m) (toldP l m') := fun σ hi h => by
  unfold toldP at h ⊢
  by_cases h1 : isP l [99, 111, 117, 110, 116] σ = true
  · rw [if_pos h1] at h ⊢; rw [if_pos h1]; exact dq_count ok hm _ (IvE.nx ok h1 hi).1 h
  rw [if_neg h1] at h ⊢; rw [if_neg h1]
  by_cases h2 : isP l [115, 117, 109] σ = true
  · rw [if_pos h2] at h ⊢; rw [if_pos h2]; exact dq_agg ok hm 3 _ (IvE.nx ok h2 hi).1 h
  rw [if_neg h2] at h ⊢; rw [if_neg h2]
  by_cases h3 : isP l [109, 105, 110] σ = true
  · rw [if_pos h3] at h ⊢; rw [if_pos h3]; exact dq_agg ok hm 4 _ (IvE.nx ok h3 hi).1 h
  rw [if_neg h3] at h ⊢; rw [if_neg h3]
  by_cases h4 : isP l [109, 97, 120] σ = true
  · rw [if_pos h4] at h ⊢; rw [if_pos h4]; exact dq_agg ok hm 5 _ (IvE.nx ok h4 hi).1 h
  rw [if_neg h4] at h ⊢; rw [if_neg h4]
  rw [dq_expr ok hm 0 σ hi h]
theorem dq_item {l : List Wd} (ok : WsOk l) {m m' : Int} (hm : m ≤ m') : Dq l (itemP l m) (itemP l m') := fun σ hi h => by
  unfold itemP at h ⊢
  rw [dq_told ok hm σ hi ((kp_as l _ _).ne19 h)]
theorem dq_select {l : List Wd} (ok : WsOk l) {m m' : Int} (hm : m ≤ m') : Dq l (selectP l m) (selectP l m') := fun σ hi h => by
  have hi1 := (iv_take ok [100, 105, 115, 116, 105, 110, 99, 116] _ (iv_need1 ok [115, 101, 108, 101, 99, 116] σ hi).1).1
  have e3 : (whereP l m (listP l (sourceP l) (need1 l [102, 114, 111, 109] (listP l (itemP l m) (takeP l [100, 105, 115, 116, 105, 110, 99, 116] (need1 l [115, 101, 108, 101, 99, 116] σ)).2).2)).2).2.e ≠ 19 :=
    ((kp_group l _).tr ((kp_within l _ _ _).tr ((kp_within l _ _ _).tr (kp_within l _ _ _)))).ne19 h
  have e1 := ((kp_need1 l _ _).tr ((kp_list l (kp_source l) _).tr (kp_where l m _))).ne19 e3
  have q1 := dq_list ok (dq_item ok hm) (kp_item l m) (iv_item ok m) _ hi1 e1
  have hi2 := (iv_list ok (iv_item ok m) _ hi1).1
  have hi3 := (iv_list ok (iv_source ok) _ (iv_need1 ok [102, 114, 111, 109] _ hi2).1).1
  have q3 := dq_where ok hm _ hi3 e3
  unfold selectP
  dsimp only
  rw [q1, q3]
theorem dq_union {l : List Wd} (ok : WsOk l) {m m' : Int} (hm : m ≤ m') : ∀ (k : Nat) (acc : List (List Lf)), Dq l (unionP l m k acc) (unionP l m' k acc)
  | 0, _, _, _, _ => rfl
  | k + 1, acc, σ, hi, h => by
    by_cases hb : isP l [117, 110, 105, 111, 110] σ = true
    · have ef : unionP l m (k + 1) acc σ = unionP l m k (acc ++ [(selectP l m (need1 l [97, 108, 108] (nx σ))).1]) (selectP l m (need1 l [97, 108, 108] (nx σ))).2 := if_pos hb
      have eg : unionP l m' (k + 1) acc σ = unionP l m' k (acc ++ [(selectP l m' (need1 l [97, 108, 108] (nx σ))).1]) (selectP l m' (need1 l [97, 108, 108] (nx σ))).2 := if_pos hb
      have hi2 := (iv_need1 ok [97, 108, 108] _ (IvE.nx ok hb hi).1).1
      rw [ef] at h ⊢
      rw [eg, dq_select ok hm _ hi2 ((kp_union l m k _ _).ne19 h)]
      exact dq_union ok hm k _ _ (iv_select ok m _ hi2).1 h
    · rw [show unionP l m (k + 1) acc σ = (acc, σ) from if_neg hb, show unionP l m' (k + 1) acc σ = (acc, σ) from if_neg hb]
theorem dq_query {l : List Wd} (ok : WsOk l) {m m' : Int} (hm : m ≤ m') : Dq l (queryP l m) (queryP l m') := fun σ hi h => by
  have e1 : (unionP l m l.length [(selectP l m σ).1] (selectP l m σ).2).2.e ≠ 19 := (kp_within l _ _ _).ne19 h
  have q1 := dq_select ok hm σ hi ((kp_union l m _ _ _).ne19 e1)
  have q2 := dq_union ok hm _ _ _ (iv_select ok m σ hi).1 e1
  unfold queryP
  dsimp only
  rw [q1, q2]
theorem dq_view {l : List Wd} (ok : WsOk l) {m m' : Int} (hm : m ≤ m') : Dq l (viewP l m) (viewP l m') := fun σ hi h => by
  have hi1 := (iv_need1 ok [97, 115] _ (iv_empty ok (modeP l (need1 l [114, 101, 102, 114, 101, 115, 104] (nameP l σ).2)).1 _ (iv_mode ok _ (iv_need1 ok [114, 101, 102, 114, 101, 115, 104] _ (iv_name ok σ hi).1).1).1).1).1
  have q1 := dq_query ok hm _ hi1 h
  unfold viewP
  dsimp only
  rw [q1]
theorem dq_create {l : List Wd} (ok : WsOk l) {m m' : Int} (hm : m ≤ m') : Dq l (createP l m) (createP l m') := fun σ hi h => by
  unfold createP at h ⊢
  by_cases h1 : isP l [116, 97, 98, 108, 101] σ = true
  · rw [if_pos h1, if_pos h1]
  rw [if_neg h1] at h ⊢; rw [if_neg h1]
  by_cases h2 : isP l [108, 111, 103] σ = true
  · rw [if_pos h2, if_pos h2]
  rw [if_neg h2] at h ⊢; rw [if_neg h2]
  exact dq_view ok hm _ (iv_need1 ok [118, 105, 101, 119] σ hi).1 h
theorem dq_delete {l : List Wd} (ok : WsOk l) {m m' : Int} (hm : m ≤ m') : Dq l (deleteP l m) (deleteP l m') := fun σ hi h => by
  have q1 := dq_where ok hm _ (iv_name ok _ (iv_need1 ok [102, 114, 111, 109] σ hi).1).1 h
  unfold deleteP
  dsimp only
  rw [q1]
theorem dq_setP {l : List Wd} (ok : WsOk l) {m m' : Int} (hm : m ≤ m') : Dq l (setP l m) (setP l m') := fun σ hi h => by
  have q1 := dq_expr ok hm 0 _ (iv_need1 ok [61] _ (iv_name ok σ hi).1).1 h
  unfold setP
  dsimp only
  rw [q1]
theorem dq_update {l : List Wd} (ok : WsOk l) {m m' : Int} (hm : m ≤ m') : Dq l (updateP l m) (updateP l m') := fun σ hi h => by
  have hi1 := (iv_need1 ok [115, 101, 116] _ (iv_name ok σ hi).1).1
  have e1 : (listP l (setP l m) (need1 l [115, 101, 116] (nameP l σ).2)).2.e ≠ 19 := ((kp_within l (listP l (setP l m) (need1 l [115, 101, 116] (nameP l σ).2)).1.length 8 _).tr (kp_where l m _)).ne19 h
  have q1 := dq_list ok (dq_setP ok hm) (kp_setP l m) (iv_setP ok m) _ hi1 e1
  have q2 := dq_where ok hm _ (iv_within ok (listP l (setP l m) (need1 l [115, 101, 116] (nameP l σ).2)).1.length 8 _ (iv_list ok (iv_setP ok m) _ hi1).1).1 h
  unfold updateP
  dsimp only
  rw [q1, q2]
theorem dq_stmt {l : List Wd} (ok : WsOk l) {m m' : Int} (hm : m ≤ m') : Dq l (stmtP l m) (stmtP l m') := fun σ hi h => by
  unfold stmtP at h ⊢
  by_cases h1 : isP l [115, 101, 108, 101, 99, 116] σ = true
  · rw [if_pos h1] at h ⊢; rw [if_pos h1]; rw [dq_query ok hm σ hi h]
  rw [if_neg h1] at h ⊢; rw [if_neg h1]
  by_cases h2 : isP l [99, 114, 101, 97, 116, 101] σ = true
  · rw [if_pos h2] at h ⊢; rw [if_pos h2]; exact dq_create ok hm _ (IvE.nx ok h2 hi).1 h
  rw [if_neg h2] at h ⊢; rw [if_neg h2]
  by_cases h3 : isP l [100, 114, 111, 112] σ = true
  · rw [if_pos h3, if_pos h3]
  rw [if_neg h3] at h ⊢; rw [if_neg h3]
  by_cases h4 : isP l [105, 110, 115, 101, 114, 116] σ = true
  · rw [if_pos h4, if_pos h4]
  rw [if_neg h4] at h ⊢; rw [if_neg h4]
  by_cases h5 : isP l [100, 101, 108, 101, 116, 101] σ = true
  · rw [if_pos h5] at h ⊢; rw [if_pos h5]; exact dq_delete ok hm _ (IvE.nx ok h5 hi).1 h
  rw [if_neg h5] at h ⊢; rw [if_neg h5]
  by_cases h6 : isP l [117, 112, 100, 97, 116, 101] σ = true
  · rw [if_pos h6] at h ⊢; rw [if_pos h6]; exact dq_update ok hm _ (IvE.nx ok h6 hi).1 h
  rw [if_neg h6, if_neg h6]
/-- What isn't refused for its depth is told the same at any greater depth. -/
theorem readP_depth {l : List Wd} (ok : WsOk l) {m m' : Int} (hm : m ≤ m') (h : (readP l m).2 ≠ 19) : readP l m' = readP l m := by
  have hi0 : Inv l ⟨0, 0⟩ := ⟨List.length_pos_iff.2 ok.ne, fun h => absurd rfl h⟩
  have e1 : (stmtP l m ⟨0, 0⟩).2.e ≠ 19 := by
    intro he
    apply h
    unfold readP
    dsimp only
    have hk : (endP l (stmtP l m ⟨0, 0⟩).2).e = 19 := by
      unfold endP
      split
      · exact he
      · unfold faultP; dsimp only; rw [if_neg (by rw [he]; decide)]; exact he
    rw [if_neg (by rw [hk]; decide)]
    exact hk
  have q := dq_stmt ok hm _ hi0 e1
  unfold readP
  rw [q]
end Go.Proofs.YtneebnankghhgacGreatDoor

/- The parser's plain model over words, and over the same words with a bracket ahead of the end: what is read without a fault is read alike. Nothing of any program here: lemmas on lists. Conditions: each lemma names its own. -/
namespace Go.Proofs.YtneebnankghhgacGreatDoor
open Go.RowKit

/-- Words, and the same with a sign b ahead of the end. -/
structure Ext (l l' : List Wd) (b : List UInt8) : Prop where
  ok : WsOk l
  len : l'.length = l.length + 1
  same : ∀ σ : PS, σ.i + 1 < l.length → wdP l' σ = wdP l σ
  last : ∀ σ : PS, σ.i + 1 = l.length → (wdP l' σ).k = 4 ∧ (wdP l' σ).s = b
  br : b = [40] ∨ b = [41]
/-- What the first reads without a fault the second reads alike. -/
def Sm {α : Type} (l : List Wd) (f g : PS → α × PS) : Prop := ∀ σ, Inv l σ → (f σ).2.e = 0 → g σ = f σ
def SmS (l : List Wd) (f g : PS → PS) : Prop := ∀ σ, Inv l σ → (f σ).e = 0 → g σ = f σ
section
variable {l l' : List Wd} {b : List UInt8} (X : Ext l l' b)
include X
theorem Ext.mid {σ : PS} (h : σ.i + 1 < l.length) (s : List UInt8) : isP l' s σ = isP l s σ := by unfold isP; rw [X.same σ h]
theorem Ext.isP {s : List UInt8} {σ : PS} (hi : Inv l σ) (hs : s ≠ b) : isP l' s σ = isP l s σ := by
  rcases Nat.lt_or_ge (σ.i + 1) l.length with h | h
  · exact X.mid h s
  · have he : σ.i + 1 = l.length := by have := hi.1; omega
    obtain ⟨h4, hb⟩ := X.last σ he
    have h5 := end_five X.ok hi.1 he
    unfold Go.Proofs.YtneebnankghhgacGreatDoor.isP isW
    rw [h4, hb, h5]
    have : (b == s) = false := by rw [beq_eq_false_iff_ne]; exact fun e => hs e.symm
    simp [this]
theorem Ext.took {s : List UInt8} {σ : PS} (hi : Inv l σ) (hb : Go.Proofs.YtneebnankghhgacGreatDoor.isP l s σ = true) : Go.Proofs.YtneebnankghhgacGreatDoor.isP l' s σ = true := by rw [X.mid (is_more X.ok hi.1 hb) s]; exact hb
theorem sm_need1 (s : List UInt8) : SmS l (need1 l s) (need1 l' s) := fun σ hi h => by
  unfold need1 at h ⊢
  split at h
  · rename_i hb; rw [if_pos (X.took hi hb), if_pos hb]
  · exact absurd h (fault_e (by decide))
theorem Ext.wd {σ : PS} (hi : Inv l σ) (h5 : (wdP l σ).k ≠ 5) : wdP l' σ = wdP l σ := X.same σ (wd_more X.ok hi.1 h5)
theorem sm_name : Sm l (nameP l) (nameP l') := fun σ hi h => by
  unfold nameP at h ⊢
  split at h
  · rename_i hk
    rw [X.wd hi (by rw [hk.1]; decide), if_pos hk, if_pos hk]
  · exact absurd h (fault_e (by decide))
theorem sm_take {s : List UInt8} (hs : s ≠ b) : Sm l (takeP l s) (takeP l' s) := fun σ hi h => by unfold takeP; rw [X.isP hi hs]
theorem Ext.valued {σ : PS} (hi : Inv l σ) : valuedP l' σ = valuedP l σ := by
  have ne : ∀ s : List UInt8, s ≠ [40] → s ≠ [41] → s ≠ b := fun s h1 h2 e => by rcases X.br with h | h <;> rw [h] at e <;> contradiction
  have k2 : decide ((wdP l' σ).k = 2) = decide ((wdP l σ).k = 2) ∧ decide ((wdP l' σ).k = 3) = decide ((wdP l σ).k = 3) := by
    rcases Nat.lt_or_ge (σ.i + 1) l.length with h | h
    · rw [X.same σ h]; exact ⟨rfl, rfl⟩
    · have he : σ.i + 1 = l.length := by have := hi.1; omega
      rw [(X.last σ he).1, end_five X.ok hi.1 he]; exact ⟨rfl, rfl⟩
  unfold valuedP
  rw [k2.1, k2.2, X.isP hi (ne [110, 117, 108, 108] (by decide) (by decide)), X.isP hi (ne [116, 114, 117, 101] (by decide) (by decide)), X.isP hi (ne [102, 97, 108, 115, 101] (by decide) (by decide)), X.isP hi (ne [45] (by decide) (by decide))]
  cases hb : Go.Proofs.YtneebnankghhgacGreatDoor.isP l [45] σ with
  | false => simp
  | true =>
    have hi2 := (IvE.nx X.ok hb hi).1
    have : decide ((wdP l' (nx σ)).k = 2) = decide ((wdP l (nx σ)).k = 2) := by
      rcases Nat.lt_or_ge ((nx σ).i + 1) l.length with h | h
      · rw [X.same _ h]
      · have he : (nx σ).i + 1 = l.length := by have := hi2.1; omega
        rw [(X.last _ he).1, end_five X.ok hi2.1 he]; rfl
    rw [show (⟨σ.i + 1, σ.e⟩ : PS) = nx σ from rfl, this]
theorem Ext.ne (s : List UInt8) (h1 : s ≠ [40]) (h2 : s ≠ [41]) : s ≠ b := fun e => by rcases X.br with h | h <;> rw [h] at e <;> contradiction
theorem sm_num (m : Bool) : Sm l (numP l m) (numP l' m) := fun σ hi h => by
  unfold numP at h ⊢
  split at h
  · exact absurd h (fault_e (by decide))
  · rename_i hk
    have h2 : (wdP l σ).k = 2 := by
      rcases Nat.decEq (wdP l σ).k 2 with h | h
      · exact absurd (.inl h) hk
      · exact h
    rw [X.wd hi (by rw [h2]; decide), if_neg hk, if_neg hk]
theorem sm_number : Sm l (numberP l) (numberP l') := fun σ hi h => by
  unfold numberP at h ⊢
  have q := sm_take X (X.ne [45] (by decide) (by decide)) σ hi (by exact mon_num l _ _ h)
  rw [q]
  exact sm_num X _ _ (iv_take X.ok _ σ hi).1 h
theorem sm_value : Sm l (valueP l) (valueP l') := fun σ hi h => by
  unfold valueP at h ⊢
  rw [X.isP hi (X.ne [110, 117, 108, 108] (by decide) (by decide)), X.isP hi (X.ne [116, 114, 117, 101] (by decide) (by decide)), X.isP hi (X.ne [102, 97, 108, 115, 101] (by decide) (by decide))]
  split
  · rfl
  rename_i h1
  rw [if_neg h1] at h
  split
  · rfl
  rename_i h2
  rw [if_neg h2] at h
  split
  · rfl
  rename_i h3
  rw [if_neg h3] at h
  by_cases hk : (wdP l σ).k = 3
  · rw [if_pos hk] at h ⊢
    rw [X.wd hi (by rw [hk]; decide), if_pos hk]
    unfold textP
    rw [X.wd hi (by rw [hk]; decide)]
    unfold textP at h
    split at h
    · exact absurd h (fault_e (by decide))
    · rename_i h6; rw [if_neg h6, if_neg h6]
  · rw [if_neg hk] at h ⊢
    have hk' : (wdP l' σ).k ≠ 3 := by
      rcases Nat.lt_or_ge (σ.i + 1) l.length with h7 | h7
      · rw [X.same σ h7]; exact hk
      · rw [(X.last σ (by have := hi.1; omega)).1]; decide
    rw [if_neg hk']
    exact sm_number X σ hi h
theorem sm_column : Sm l (columnP l) (columnP l') := fun σ hi h => by
  have e1 := mon_name l σ
  have h1 : (nameP l σ).2.e = 0 := by
    unfold columnP at h
    split at h
    · exact mon_name l (nx (nameP l σ).2) h
    · exact h
  have q := sm_name X σ hi h1
  have hi1 := (iv_name X.ok σ hi).1
  unfold columnP at h ⊢
  rw [q, X.isP hi1 (X.ne [46] (by decide) (by decide))]
  by_cases hb : Go.Proofs.YtneebnankghhgacGreatDoor.isP l [46] (nameP l σ).2 = true
  · rw [if_pos hb] at h ⊢
    rw [if_pos hb]
    have q2 := sm_name X (nx (nameP l σ).2) (IvE.nx X.ok hb hi1).1 h
    rw [show (⟨(nameP l σ).2.i + 1, (nameP l σ).2.e⟩ : PS) = nx (nameP l σ).2 from rfl, q2]
  · rw [if_neg hb, if_neg hb]
theorem sm_operand : Sm l (operandP l) (operandP l') := fun σ hi h => by
  unfold operandP at h ⊢
  rw [X.valued hi]
  split
  · rename_i hv
    rw [if_pos hv] at h
    rw [sm_value X σ hi h]
  · rename_i hv
    rw [if_neg hv] at h
    exact sm_column X σ hi h
end
end Go.Proofs.YtneebnankghhgacGreatDoor

/- The parser's plain model over words, and over the same words with a bracket ahead of the end: expressions and conditions that are read without a fault are read alike. Nothing of any program here: lemmas on lists. Conditions: each lemma names its own. -/
namespace Go.Proofs.YtneebnankghhgacGreatDoor
open Go.RowKit

/-- What the first reads without a fault the second reads alike, where N is fuel enough. -/
def SmF {α : Type} (l : List Wd) (N : Nat) (f g : PS → α × PS) : Prop := ∀ σ, Inv l σ → l.length < N + σ.i → (f σ).2.e = 0 → g σ = f σ
theorem Sm.toF {α : Type} {l : List Wd} {f g : PS → α × PS} (h : Sm l f g) (N : Nat) : SmF l N f g := fun σ hi _ he => h σ hi he
theorem sm_deep {l : List Wd} (l' : List Wd) (m : Int) (d : Nat) {σ : PS} (h : (deepP l m d σ).e = 0) : deepP l' m d σ = deepP l m d σ := by
  unfold deepP at h ⊢
  split at h
  · exact absurd h (fault_e (by decide))
  · rename_i h1; rw [if_neg h1, if_neg h1]
section
variable {l l' : List Wd} {b : List UInt8} (X : Ext l l' b) {N : Nat} {f g : PS → List Lf × PS}
include X
theorem sm_mul (hf : SmF l N f g) (mf : Mon f) (vf : Iv l f) : ∀ (k k' : Nat), k ≤ k' → ∀ (e : List Lf) (σ : PS), Inv l σ → l.length < N + σ.i → l.length ≤ k + σ.i → (mulP l f k e σ).2.e = 0 → mulP l' g k' e σ = mulP l f k e σ
  | 0, _, _, _, σ, hi, _, hk, _ => absurd hi.1 (by omega)
  | k + 1, 0, hkk, _, _, _, _, _, _ => absurd hkk (by omega)
  | k + 1, k' + 1, hkk, e, σ, hi, hN, hk, h => by
    have hb' := X.isP hi (X.ne [42] (by decide) (by decide))
    by_cases hb : isP l [42] σ = true
    · have ef : mulP l f (k + 1) e σ = mulP l f k (opTwo 5 e (f (nx σ)).1) (f (nx σ)).2 := if_pos hb
      have eg : mulP l' g (k' + 1) e σ = mulP l' g k' (opTwo 5 e (g (nx σ)).1) (g (nx σ)).2 := if_pos (hb'.trans hb)
      have hi2 := (IvE.nx X.ok hb hi).1
      rw [ef] at h ⊢
      have hN2 : l.length < N + (nx σ).i := by show l.length < N + (σ.i + 1); omega
      rw [eg, hf _ hi2 hN2 (mon_mul l mf k _ _ h)]
      have hv := vf _ hi2
      have hle : σ.i + 1 ≤ (f (nx σ)).2.i := hv.2
      exact sm_mul hf mf vf k k' (by omega) _ _ hv.1 (by omega) (by omega) h
    · rw [show mulP l f (k + 1) e σ = (e, σ) from if_neg hb, show mulP l' g (k' + 1) e σ = (e, σ) from if_neg (by rw [hb']; exact hb)]
theorem sm_term (hf : SmF l N f g) (mf : Mon f) (vf : Iv l f) : SmF l N (termP l f) (termP l' g) := fun σ hi hN h => by
  unfold termP at h ⊢
  have hv := vf σ hi
  rw [hf σ hi hN (mon_mul l mf _ _ _ h)]
  exact sm_mul X hf mf vf _ _ (by rw [X.len]; omega) _ _ hv.1 (by have := hv.2; omega) (by omega) h
theorem sm_add (hf : SmF l N f g) (mf : Mon f) (vf : Iv l f) : ∀ (k k' : Nat), k ≤ k' → ∀ (e : List Lf) (σ : PS), Inv l σ → l.length < N + σ.i → l.length ≤ k + σ.i → (addP l f k e σ).2.e = 0 → addP l' g k' e σ = addP l f k e σ
  | 0, _, _, _, σ, hi, _, hk, _ => absurd hi.1 (by omega)
  | k + 1, 0, hkk, _, _, _, _, _, _ => absurd hkk (by omega)
  | k + 1, k' + 1, hkk, e, σ, hi, hN, hk, h => by
    have hb' := X.isP hi (X.ne [43] (by decide) (by decide))
    have hc' := X.isP hi (X.ne [45] (by decide) (by decide))
    have hN2 : l.length < N + (nx σ).i := by show l.length < N + (σ.i + 1); omega
    by_cases hb : isP l [43] σ = true
    · have ef : addP l f (k + 1) e σ = addP l f k (opTwo 3 e (termP l f (nx σ)).1) (termP l f (nx σ)).2 := if_pos hb
      have eg : addP l' g (k' + 1) e σ = addP l' g k' (opTwo 3 e (termP l' g (nx σ)).1) (termP l' g (nx σ)).2 := if_pos (hb'.trans hb)
      have hi2 := (IvE.nx X.ok hb hi).1
      rw [ef] at h ⊢
      rw [eg, sm_term X hf mf vf _ hi2 hN2 (mon_add l mf k _ _ h)]
      have hv := iv_term X.ok vf _ hi2
      have hle : σ.i + 1 ≤ (termP l f (nx σ)).2.i := hv.2
      exact sm_add hf mf vf k k' (by omega) _ _ hv.1 (by omega) (by omega) h
    · by_cases hc : isP l [45] σ = true
      · have ef : addP l f (k + 1) e σ = addP l f k (opTwo 4 e (termP l f (nx σ)).1) (termP l f (nx σ)).2 := (if_neg hb).trans (if_pos hc)
        have eg : addP l' g (k' + 1) e σ = addP l' g k' (opTwo 4 e (termP l' g (nx σ)).1) (termP l' g (nx σ)).2 := (if_neg (by rw [hb']; exact hb)).trans (if_pos (hc'.trans hc))
        have hi2 := (IvE.nx X.ok hc hi).1
        rw [ef] at h ⊢
        rw [eg, sm_term X hf mf vf _ hi2 hN2 (mon_add l mf k _ _ h)]
        have hv := iv_term X.ok vf _ hi2
        have hle : σ.i + 1 ≤ (termP l f (nx σ)).2.i := hv.2
        exact sm_add hf mf vf k k' (by omega) _ _ hv.1 (by omega) (by omega) h
      · rw [show addP l f (k + 1) e σ = (e, σ) from (if_neg hb).trans (if_neg hc), show addP l' g (k' + 1) e σ = (e, σ) from (if_neg (by rw [hb']; exact hb)).trans (if_neg (by rw [hc']; exact hc))]
theorem sm_exprOf (hf : SmF l N f g) (mf : Mon f) (vf : Iv l f) : SmF l N (exprOf l f) (exprOf l' g) := fun σ hi hN h => by
  unfold exprOf at h ⊢
  have hv := iv_term X.ok vf σ hi
  rw [sm_term X hf mf vf σ hi hN (mon_add l mf _ _ _ h)]
  exact sm_add X hf mf vf _ _ (by rw [X.len]; omega) _ _ hv.1 (by have := hv.2; omega) (by omega) h
theorem sm_more {α : Type} {f g : PS → α × PS} {sep : List UInt8} (hs : sep ≠ b) (hf : SmF l N f g) (mf : Mon f) (vf : Iv l f) : ∀ (k k' : Nat), k ≤ k' → ∀ (acc : List α) (σ : PS), Inv l σ → l.length < N + σ.i → l.length ≤ k + σ.i → (moreP l sep f k acc σ).2.e = 0 → moreP l' sep g k' acc σ = moreP l sep f k acc σ
  | 0, _, _, _, σ, hi, _, hk, _ => absurd hi.1 (by omega)
  | k + 1, 0, hkk, _, _, _, _, _, _ => absurd hkk (by omega)
  | k + 1, k' + 1, hkk, acc, σ, hi, hN, hk, h => by
    have hb' := X.isP hi hs
    by_cases hb : isP l sep σ = true
    · have ef : moreP l sep f (k + 1) acc σ = moreP l sep f k (acc ++ [(f (nx σ)).1]) (f (nx σ)).2 := if_pos hb
      have eg : moreP l' sep g (k' + 1) acc σ = moreP l' sep g k' (acc ++ [(g (nx σ)).1]) (g (nx σ)).2 := if_pos (hb'.trans hb)
      have hi2 := (IvE.nx X.ok hb hi).1
      rw [ef] at h ⊢
      have hN2 : l.length < N + (nx σ).i := by show l.length < N + (σ.i + 1); omega
      rw [eg, hf _ hi2 hN2 (mon_more l sep mf k _ _ h)]
      have hv := vf _ hi2
      have hle : σ.i + 1 ≤ (f (nx σ)).2.i := hv.2
      exact sm_more hs hf mf vf k k' (by omega) _ _ hv.1 (by omega) (by omega) h
    · rw [show moreP l sep f (k + 1) acc σ = (acc, σ) from if_neg hb, show moreP l' sep g (k' + 1) acc σ = (acc, σ) from if_neg (by rw [hb']; exact hb)]
theorem sm_list {α : Type} {f g : PS → α × PS} (hf : Sm l f g) (mf : Mon f) (vf : Iv l f) : Sm l (listP l f) (listP l' g) := fun σ hi h => by
  unfold listP at h ⊢
  have hv := vf σ hi
  rw [hf σ hi (mon_more l _ mf _ _ _ h)]
  exact sm_more X (X.ne [44] (by decide) (by decide)) (hf.toF (l.length + 1)) mf vf _ _ (by rw [X.len]; omega) _ _ hv.1 (by omega) (by omega) h
theorem sm_joined (k : Nat) {sep : List UInt8} (hs : sep ≠ b) (hf : SmF l N f g) (mf : Mon f) (vf : Iv l f) : SmF l N (joinedP l k sep f) (joinedP l' k sep g) := fun σ hi hN h => by
  have h1 : (f σ).2.e = 0 := by
    unfold joinedP at h
    split at h
    · exact mon_more l sep mf _ _ _ h
    · exact h
  have hv := vf σ hi
  unfold joinedP at h ⊢
  rw [hf σ hi hN h1, X.isP hv.1 hs]
  by_cases hb : isP l sep (f σ).2 = true
  · rw [if_pos hb] at h ⊢
    rw [if_pos hb]
    rw [sm_more X hs hf mf vf l.length l'.length (by rw [X.len]; omega) _ _ hv.1 (by have := hv.2; omega) (by omega) h]
  · rw [if_neg hb, if_neg hb]
theorem sm_condOf (hf : SmF l N f g) (mf : Mon f) (vf : Iv l f) : SmF l N (condOf l f) (condOf l' g) := sm_joined X _ (X.ne [111, 114] (by decide) (by decide)) (sm_joined X _ (X.ne [97, 110, 100] (by decide) (by decide)) hf mf vf) (mon_joined l _ _ mf) (iv_joined X.ok _ _ vf)
/-- At the end no operand is read. -/
theorem operand_end {σ : PS} (hi : Inv l σ) (he : σ.i + 1 = l.length) : (operandP l σ).2.e ≠ 0 := by
  have h5 := end_five X.ok hi.1 he
  have no : ∀ s, isP l s σ = false := fun s => by unfold isP isW; rw [h5]; simp
  have hv : valuedP l σ = false := by unfold valuedP; rw [h5, no, no, no, no]; rfl
  unfold operandP
  rw [if_neg (by rw [hv]; decide)]
  intro h
  have h1 : (nameP l σ).2.e = 0 := by
    unfold columnP at h
    split at h
    · exact mon_name l (nx (nameP l σ).2) h
    · exact h
  unfold nameP at h1
  rw [if_neg (by rw [h5]; exact fun h => absurd h.1 (by decide))] at h1
  exact absurd h1 (fault_e (by decide))
theorem sm_factor (m : Int) : ∀ (n d : Nat), SmF l n (factorP l m n d) (factorP l' m (n + 1) d)
  | 0, d, σ, hi, hN, _ => absurd hi.1 (by omega)
  | n + 1, d, σ, hi, hN, h => by
    unfold factorP at h
    rw [show factorP l' m (n + 1 + 1) d σ = if valuedP l' σ then operandP l' σ else if isP l' [40] σ then ((exprOf l' (factorP l' m (n + 1) (d + 1)) (deepP l' m d (nx σ))).1, need1 l' [41] (exprOf l' (factorP l' m (n + 1) (d + 1)) (deepP l' m d (nx σ))).2) else if isP l' [45] σ then (exL 6 [] [] zV (rL [(factorP l' m (n + 1) (d + 1) (deepP l' m d (nx σ))).1]), (factorP l' m (n + 1) (d + 1) (deepP l' m d (nx σ))).2) else operandP l' σ from rfl]
    rw [show factorP l m (n + 1) d σ = if valuedP l σ then operandP l σ else if isP l [40] σ then ((exprOf l (factorP l m n (d + 1)) (deepP l m d (nx σ))).1, need1 l [41] (exprOf l (factorP l m n (d + 1)) (deepP l m d (nx σ))).2) else if isP l [45] σ then (exL 6 [] [] zV (rL [(factorP l m n (d + 1) (deepP l m d (nx σ))).1]), (factorP l m n (d + 1) (deepP l m d (nx σ))).2) else operandP l σ from rfl]
    rw [X.valued hi]
    by_cases hv : valuedP l σ = true
    · rw [if_pos hv] at h; rw [if_pos hv, if_pos hv]; exact sm_operand X σ hi h
    rw [if_neg hv] at h; rw [if_neg hv, if_neg hv]
    by_cases hb : isP l [40] σ = true
    · rw [if_pos hb] at h; rw [if_pos (X.took hi hb), if_pos hb]
      have hi2 := (IvE.nx X.ok hb hi).1
      have h1 : (exprOf l (factorP l m n (d + 1)) (deepP l m d (nx σ))).2.e = 0 := mon_need1 l _ _ h
      have h2 : (deepP l m d (nx σ)).e = 0 := mon_exprOf l (mon_factor l m n (d + 1)) _ h1
      have hv3 := iv_deep X.ok m d _ hi2
      have hle : σ.i + 1 ≤ (deepP l m d (nx σ)).i := hv3.2
      have q := sm_exprOf X (sm_factor m n (d + 1)) (mon_factor l m n (d + 1)) (iv_factor X.ok m n (d + 1)) _ hv3.1 (by omega) h1
      have hv4 := iv_exprOf X.ok (iv_factor X.ok m n (d + 1)) _ hv3.1
      rw [sm_deep l' m d h2, q, sm_need1 X [41] _ hv4.1 h]
    rw [if_neg hb] at h; rw [if_neg hb]
    rcases Nat.lt_or_ge (σ.i + 1) l.length with hm | hm
    · rw [X.mid hm, X.mid hm, if_neg hb]
      by_cases hc : isP l [45] σ = true
      · rw [if_pos hc] at h; rw [if_pos hc, if_pos hc]
        have hi2 := (IvE.nx X.ok hc hi).1
        have h2 : (deepP l m d (nx σ)).e = 0 := mon_factor l m n (d + 1) _ h
        have hv3 := iv_deep X.ok m d _ hi2
        have hle : σ.i + 1 ≤ (deepP l m d (nx σ)).i := hv3.2
        rw [sm_deep l' m d h2, sm_factor m n (d + 1) _ hv3.1 (by omega) h]
      · rw [if_neg hc] at h; rw [if_neg hc, if_neg hc]; exact sm_operand X σ hi h
    · have he : σ.i + 1 = l.length := by have := hi.1; omega
      have h5 := end_five X.ok hi.1 he
      have hc : isP l [45] σ = false := by unfold isP isW; rw [h5]; simp
      rw [if_neg (by rw [hc]; decide)] at h
      exact absurd h (operand_end X hi he)
end
end Go.Proofs.YtneebnankghhgacGreatDoor

/- The parser's plain model over words, and over the same words with a bracket ahead of the end: conditions, items, sources. Nothing of any program here: lemmas on lists. Conditions: each lemma names its own. -/
namespace Go.Proofs.YtneebnankghhgacGreatDoor
open Go.RowKit

section
variable {l l' : List Wd} {b : List UInt8} (X : Ext l l' b)
include X
theorem sm_op : Sm l (opP l) (opP l') := fun σ hi h => by
  unfold opP at h ⊢
  rw [X.isP hi (X.ne [61] (by decide) (by decide)), X.isP hi (X.ne [60, 62] (by decide) (by decide)), X.isP hi (X.ne [60] (by decide) (by decide)), X.isP hi (X.ne [60, 61] (by decide) (by decide)), X.isP hi (X.ne [62] (by decide) (by decide)), X.isP hi (X.ne [62, 61] (by decide) (by decide))]
  split at h
  · rename_i h1; rw [if_pos h1, if_pos h1]
  rename_i h1; rw [if_neg h1, if_neg h1]
  split at h
  · rename_i h1; rw [if_pos h1, if_pos h1]
  rename_i h1; rw [if_neg h1, if_neg h1]
  split at h
  · rename_i h1; rw [if_pos h1, if_pos h1]
  rename_i h1; rw [if_neg h1, if_neg h1]
  split at h
  · rename_i h1; rw [if_pos h1, if_pos h1]
  rename_i h1; rw [if_neg h1, if_neg h1]
  split at h
  · rename_i h1; rw [if_pos h1, if_pos h1]
  rename_i h1; rw [if_neg h1, if_neg h1]
  split at h
  · rename_i h1; rw [if_pos h1, if_pos h1]
  exact absurd h (fault_e (by decide))
theorem sm_comp (a : List Lf) : Sm l (compP l a) (compP l' a) := fun σ hi h => by
  unfold compP at h ⊢
  rw [X.isP hi (X.ne [105, 115] (by decide) (by decide))]
  by_cases h1 : isP l [105, 115] σ = true
  · rw [if_pos h1] at h ⊢; rw [if_pos h1]
    have hi2 := (IvE.nx X.ok h1 hi).1
    have hn := X.isP hi2 (X.ne [110, 111, 116] (by decide) (by decide))
    rw [show (⟨σ.i + 1, σ.e⟩ : PS) = nx σ from rfl] at h ⊢
    rw [hn]
    by_cases h2 : isP l [110, 111, 116] (nx σ) = true
    · rw [if_pos h2] at h ⊢; rw [if_pos h2]
      have q := sm_need1 X [110, 117, 108, 108] (nx (nx σ)) (IvE.nx X.ok h2 hi2).1 h
      rw [show (⟨σ.i + 2, σ.e⟩ : PS) = nx (nx σ) from rfl, q]
    · rw [if_neg h2] at h ⊢; rw [if_neg h2]
      rw [sm_need1 X [110, 117, 108, 108] _ hi2 h]
  rw [if_neg h1] at h ⊢; rw [if_neg h1]
  rw [sm_op X σ hi (mon_operand l _ h)]
  rw [sm_operand X _ (iv_op X.ok σ hi).1 h]
theorem sm_compared : Sm l (comparedP l) (comparedP l') := fun σ hi h => by
  unfold comparedP at h ⊢
  rw [sm_operand X σ hi (mon_comp l _ _ h)]
  exact sm_comp X _ _ (iv_operand X.ok σ hi).1 h
theorem sm_simple (m : Int) : ∀ (n d : Nat), SmF l n (simpleP l m n d) (simpleP l' m (n + 1) d)
  | 0, d, σ, hi, hN, _ => absurd hi.1 (by omega)
  | n + 1, d, σ, hi, hN, h => by
    unfold simpleP at h
    rw [show simpleP l' m (n + 1 + 1) d σ = if isP l' [110, 111, 116] σ then (coL 6 0 zE zE (rL [(simpleP l' m (n + 1) (d + 1) (deepP l' m d (nx σ))).1]), (simpleP l' m (n + 1) (d + 1) (deepP l' m d (nx σ))).2) else if isP l' [40] σ then ((condOf l' (simpleP l' m (n + 1) (d + 1)) (deepP l' m d (nx σ))).1, need1 l' [41] (condOf l' (simpleP l' m (n + 1) (d + 1)) (deepP l' m d (nx σ))).2) else comparedP l' σ from rfl]
    rw [show simpleP l m (n + 1) d σ = if isP l [110, 111, 116] σ then (coL 6 0 zE zE (rL [(simpleP l m n (d + 1) (deepP l m d (nx σ))).1]), (simpleP l m n (d + 1) (deepP l m d (nx σ))).2) else if isP l [40] σ then ((condOf l (simpleP l m n (d + 1)) (deepP l m d (nx σ))).1, need1 l [41] (condOf l (simpleP l m n (d + 1)) (deepP l m d (nx σ))).2) else comparedP l σ from rfl]
    rw [X.isP hi (X.ne [110, 111, 116] (by decide) (by decide))]
    by_cases hc : isP l [110, 111, 116] σ = true
    · rw [if_pos hc] at h; rw [if_pos hc, if_pos hc]
      have hi2 := (IvE.nx X.ok hc hi).1
      have h2 : (deepP l m d (nx σ)).e = 0 := mon_simple l m n (d + 1) _ h
      have hv3 := iv_deep X.ok m d _ hi2
      have hle : σ.i + 1 ≤ (deepP l m d (nx σ)).i := hv3.2
      rw [sm_deep l' m d h2, sm_simple m n (d + 1) _ hv3.1 (by omega) h]
    rw [if_neg hc] at h; rw [if_neg hc, if_neg hc]
    by_cases hb : isP l [40] σ = true
    · rw [if_pos hb] at h; rw [if_pos (X.took hi hb), if_pos hb]
      have hi2 := (IvE.nx X.ok hb hi).1
      have h1 : (condOf l (simpleP l m n (d + 1)) (deepP l m d (nx σ))).2.e = 0 := mon_need1 l _ _ h
      have h2 : (deepP l m d (nx σ)).e = 0 := mon_condOf l (mon_simple l m n (d + 1)) _ h1
      have hv3 := iv_deep X.ok m d _ hi2
      have hle : σ.i + 1 ≤ (deepP l m d (nx σ)).i := hv3.2
      have q := sm_condOf X (sm_simple m n (d + 1)) (mon_simple l m n (d + 1)) (iv_simple X.ok m n (d + 1)) _ hv3.1 (by omega) h1
      have hv4 := iv_condOf X.ok (iv_simple X.ok m n (d + 1)) _ hv3.1
      rw [sm_deep l' m d h2, q, sm_need1 X [41] _ hv4.1 h]
    rw [if_neg hb] at h; rw [if_neg hb]
    rcases Nat.lt_or_ge (σ.i + 1) l.length with hm | hm
    · rw [X.mid hm, if_neg hb]; exact sm_compared X σ hi h
    · exact absurd (mon_comp l _ _ h) (operand_end X hi (by have := hi.1; omega))
theorem sm_expr (m : Int) (d : Nat) : Sm l (exprP l m d) (exprP l' m d) := fun σ hi h => by
  unfold exprP at h ⊢
  rw [X.len]
  exact sm_exprOf X (sm_factor X m (l.length + 1) d) (mon_factor l m _ d) (iv_factor X.ok m _ d) σ hi (by omega) h
theorem sm_cond (m : Int) (d : Nat) : Sm l (condP l m d) (condP l' m d) := fun σ hi h => by
  unfold condP at h ⊢
  rw [X.len]
  exact sm_condOf X (sm_simple X m (l.length + 1) d) (mon_simple l m _ d) (iv_simple X.ok m _ d) σ hi (by omega) h
theorem sm_where (m : Int) : Sm l (whereP l m) (whereP l' m) := fun σ hi h => by
  unfold whereP at h ⊢
  rw [X.isP hi (X.ne [119, 104, 101, 114, 101] (by decide) (by decide))]
  by_cases h0 : isP l [119, 104, 101, 114, 101] σ = true
  · rw [if_pos h0] at h ⊢; rw [if_pos h0]; have hi2 := (IvE.nx X.ok h0 hi).1; exact sm_cond X m 0 _ hi2 h
  rw [if_neg h0] at h ⊢; rw [if_neg h0]
theorem sm_count (m : Int) : Sm l (countP l m) (countP l' m) := fun σ hi h => by
  have hi1 := (iv_need1 X.ok [40] σ hi).1
  have h0 : (need1 l [40] σ).e = 0 := by
    unfold countP at h
    split at h
    · exact mon_need1 l _ (nx (need1 l [40] σ)) h
    · exact mon_expr l m 0 _ (mon_need1 l _ _ h)
  unfold countP at h ⊢
  rw [sm_need1 X [40] σ hi h0, X.isP hi1 (X.ne [42] (by decide) (by decide))]
  by_cases hb : isP l [42] (need1 l [40] σ) = true
  · rw [if_pos hb] at h ⊢; rw [if_pos hb]
    have q := sm_need1 X [41] (nx (need1 l [40] σ)) (IvE.nx X.ok hb hi1).1 h
    rw [show (⟨(need1 l [40] σ).i + 1, (need1 l [40] σ).e⟩ : PS) = nx (need1 l [40] σ) from rfl, q]
  · rw [if_neg hb] at h ⊢; rw [if_neg hb]
    have h1 : (exprP l m 0 (need1 l [40] σ)).2.e = 0 := mon_need1 l _ _ h
    rw [sm_expr X m 0 _ hi1 h1, sm_need1 X [41] _ (iv_expr X.ok m 0 _ hi1).1 h]
theorem sm_agg (m : Int) (k : Nat) : Sm l (aggP l m k) (aggP l' m k) := fun σ hi h => by
  unfold aggP at h ⊢
  have hi1 := (iv_need1 X.ok [40] σ hi).1
  have h1 : (exprP l m 0 (need1 l [40] σ)).2.e = 0 := mon_need1 l _ _ h
  rw [sm_need1 X [40] σ hi (mon_expr l m 0 _ h1), sm_expr X m 0 _ hi1 h1, sm_need1 X [41] _ (iv_expr X.ok m 0 _ hi1).1 h]
theorem sm_told (m : Int) : Sm l (toldP l m) (toldP l' m) := fun σ hi h => by
  unfold toldP at h ⊢
  rw [X.isP hi (X.ne [99, 111, 117, 110, 116] (by decide) (by decide))]
  by_cases h0 : isP l [99, 111, 117, 110, 116] σ = true
  · rw [if_pos h0] at h ⊢; rw [if_pos h0]; have hi2 := (IvE.nx X.ok h0 hi).1; exact sm_count X m _ hi2 h
  rw [if_neg h0] at h ⊢; rw [if_neg h0]
  rw [X.isP hi (X.ne [115, 117, 109] (by decide) (by decide))]
  by_cases h1 : isP l [115, 117, 109] σ = true
  · rw [if_pos h1] at h ⊢; rw [if_pos h1]; have hi2 := (IvE.nx X.ok h1 hi).1; exact sm_agg X m 3 _ hi2 h
  rw [if_neg h1] at h ⊢; rw [if_neg h1]
  rw [X.isP hi (X.ne [109, 105, 110] (by decide) (by decide))]
  by_cases h2 : isP l [109, 105, 110] σ = true
  · rw [if_pos h2] at h ⊢; rw [if_pos h2]; have hi2 := (IvE.nx X.ok h2 hi).1; exact sm_agg X m 4 _ hi2 h
  rw [if_neg h2] at h ⊢; rw [if_neg h2]
  rw [X.isP hi (X.ne [109, 97, 120] (by decide) (by decide))]
  by_cases h3 : isP l [109, 97, 120] σ = true
  · rw [if_pos h3] at h ⊢; rw [if_pos h3]; have hi2 := (IvE.nx X.ok h3 hi).1; exact sm_agg X m 5 _ hi2 h
  rw [if_neg h3] at h ⊢; rw [if_neg h3]
  rw [sm_expr X m 0 σ hi h]
theorem sm_as (s : List UInt8) : Sm l (asP l s) (asP l' s) := fun σ hi h => by
  unfold asP at h ⊢
  rw [X.isP hi (X.ne [97, 115] (by decide) (by decide))]
  by_cases h0 : isP l [97, 115] σ = true
  · rw [if_pos h0] at h ⊢; rw [if_pos h0]; have hi2 := (IvE.nx X.ok h0 hi).1; exact sm_name X _ hi2 h
  rw [if_neg h0] at h ⊢; rw [if_neg h0]
theorem sm_item (m : Int) : Sm l (itemP l m) (itemP l' m) := fun σ hi h => by
  unfold itemP at h ⊢
  rw [sm_told X m σ hi (mon_as l _ _ h)]
  rw [sm_as X [] _ (iv_told X.ok m σ hi).1 h]
theorem sm_source : Sm l (sourceP l) (sourceP l') := fun σ hi h => by
  unfold sourceP at h ⊢
  rw [sm_name X σ hi (mon_as l _ _ h)]
  rw [sm_as X _ _ (iv_name X.ok σ hi).1 h]
theorem sm_group : Sm l (groupP l) (groupP l') := fun σ hi h => by
  unfold groupP at h ⊢
  rw [X.isP hi (X.ne [103, 114, 111, 117, 112] (by decide) (by decide))]
  by_cases h0 : isP l [103, 114, 111, 117, 112] σ = true
  · rw [if_pos h0] at h ⊢; rw [if_pos h0]; have hi2 := (IvE.nx X.ok h0 hi).1; have q := sm_list X (sm_column X) (mon_column l) (iv_column X.ok) _ (iv_need1 X.ok [98, 121] _ hi2).1 h; have q0 := sm_need1 X [98, 121] _ hi2 (mon_list l (mon_column l) _ h); rw [show (⟨σ.i + 1, σ.e⟩ : PS) = nx σ from rfl, q0]; exact q
  rw [if_neg h0] at h ⊢; rw [if_neg h0]
end
end Go.Proofs.YtneebnankghhgacGreatDoor

/- The parser's plain model over words, and over the same words with a bracket ahead of the end: queries, tables, views. Nothing of any program here: lemmas on lists. Conditions: each lemma names its own. -/
namespace Go.Proofs.YtneebnankghhgacGreatDoor
open Go.RowKit

section
variable {l l' : List Wd} {b : List UInt8} (X : Ext l l' b)
include X
theorem sm_select (m : Int) : Sm l (selectP l m) (selectP l' m) := fun σ hi h => by
  have e0 := h
  unfold selectP at h
  dsimp only at h
  have m1 := mon_within l _ _ _ (mon_within l _ _ _ (mon_within l _ _ _ h))
  have m2 := mon_group l _ m1
  have m3 := mon_where l m _ m2
  have m4 := mon_list l (mon_source l) _ m3
  have m5 := mon_need1 l _ _ m4
  have m6 := mon_list l (mon_item l m) _ m5
  have m7 := mon_take l _ _ m6
  have i7 := (iv_need1 X.ok [115, 101, 108, 101, 99, 116] σ hi).1
  have i6 := (iv_take X.ok [100, 105, 115, 116, 105, 110, 99, 116] _ i7).1
  have i5 := (iv_list X.ok (iv_item X.ok m) _ i6).1
  have i4 := (iv_need1 X.ok [102, 114, 111, 109] _ i5).1
  have i3 := (iv_list X.ok (iv_source X.ok) _ i4).1
  have i2 := (iv_where X.ok m _ i3).1
  have i1 := (iv_group X.ok _ i2).1
  unfold selectP
  dsimp only
  rw [sm_need1 X [115, 101, 108, 101, 99, 116] σ hi m7, sm_take X (X.ne [100, 105, 115, 116, 105, 110, 99, 116] (by decide) (by decide)) _ i7 m6, sm_list X (sm_item X m) (mon_item l m) (iv_item X.ok m) _ i6 m5, sm_need1 X [102, 114, 111, 109] _ i5 m4, sm_list X (sm_source X) (mon_source l) (iv_source X.ok) _ i4 m3, sm_where X m _ i3 m2, sm_group X _ i2 m1]
  have w : ∀ n k τ, (withinP l n k τ).e = 0 → withinP l' n k τ = withinP l n k τ := fun n k τ hw => by
    unfold withinP at hw ⊢
    split at hw
    · exact absurd hw (fault_e (by decide))
    · rename_i h9; rw [if_neg h9, if_neg h9]
  rw [w _ _ _ (mon_within l _ _ _ (mon_within l _ _ _ h)), w _ _ _ (mon_within l _ _ _ h), w _ _ _ h]
theorem sm_within (n k : Nat) : SmS l (withinP l n k) (withinP l' n k) := fun τ _ hw => by
  have _ := X.len
  unfold withinP at hw ⊢
  split at hw
  · exact absurd hw (fault_e (by decide))
  · rename_i h9; rw [if_neg h9, if_neg h9]
theorem sm_empty (n : Nat) : SmS l (emptyP l n) (emptyP l' n) := fun τ _ hw => by
  have _ := X.len
  unfold emptyP at hw ⊢
  split at hw
  · exact absurd hw (fault_e (by decide))
  · rename_i h9; rw [if_neg h9, if_neg h9]
theorem sm_union (m : Int) : ∀ (k k' : Nat), k ≤ k' → ∀ (acc : List (List Lf)) (σ : PS), Inv l σ → l.length ≤ k + σ.i → (unionP l m k acc σ).2.e = 0 → unionP l' m k' acc σ = unionP l m k acc σ
  | 0, _, _, _, σ, hi, hk, _ => absurd hi.1 (by omega)
  | k + 1, 0, hkk, _, _, _, _, _ => absurd hkk (by omega)
  | k + 1, k' + 1, hkk, acc, σ, hi, hk, h => by
    have hb' := X.isP hi (X.ne [117, 110, 105, 111, 110] (by decide) (by decide))
    by_cases hb : isP l [117, 110, 105, 111, 110] σ = true
    · have ef : unionP l m (k + 1) acc σ = unionP l m k (acc ++ [(selectP l m (need1 l [97, 108, 108] (nx σ))).1]) (selectP l m (need1 l [97, 108, 108] (nx σ))).2 := if_pos hb
      have eg : unionP l' m (k' + 1) acc σ = unionP l' m k' (acc ++ [(selectP l' m (need1 l' [97, 108, 108] (nx σ))).1]) (selectP l' m (need1 l' [97, 108, 108] (nx σ))).2 := if_pos (hb'.trans hb)
      have hi2 := (IvE.nx X.ok hb hi).1
      have v3 := iv_need1 X.ok [97, 108, 108] _ hi2
      rw [ef] at h ⊢
      have h1 := mon_union l m k _ _ h
      rw [eg, sm_need1 X [97, 108, 108] _ hi2 (mon_select l m _ h1), sm_select X m _ v3.1 h1]
      have v4 := iv_select X.ok m _ v3.1
      have hle : σ.i + 1 ≤ (need1 l [97, 108, 108] (nx σ)).i := v3.2
      have hle2 := v4.2
      exact sm_union m k k' (by omega) _ _ v4.1 (by omega) h
    · rw [show unionP l m (k + 1) acc σ = (acc, σ) from if_neg hb, show unionP l' m (k' + 1) acc σ = (acc, σ) from if_neg (by rw [hb']; exact hb)]
theorem sm_query (m : Int) : Sm l (queryP l m) (queryP l' m) := fun σ hi h => by
  unfold queryP at h ⊢
  dsimp only at h ⊢
  have h1 := mon_within l _ _ _ h
  have v := iv_select X.ok m σ hi
  rw [sm_select X m σ hi (mon_union l m _ _ _ h1), sm_union X m l.length l'.length (by rw [X.len]; omega) _ _ v.1 (by omega) h1, sm_within X _ _ _ (iv_union X.ok m _ _ _ v.1).1 h]
theorem sm_mode : Sm l (modeP l) (modeP l') := fun σ hi h => by
  unfold modeP
  rw [X.isP hi (X.ne [102, 97, 115, 116] (by decide) (by decide)), X.isP hi (X.ne [99, 111, 109, 112, 108, 101, 116, 101] (by decide) (by decide)), X.isP hi (X.ne [102, 111, 114, 99, 101] (by decide) (by decide))]
theorem sm_key : Sm l (keyP l) (keyP l') := fun σ hi h => by
  unfold keyP at h ⊢
  dsimp only at h ⊢
  have m1 := mon_need1 l _ _ h
  have m2 := mon_list l (mon_nm1 l) _ m1
  have m3 := mon_need1 l _ _ m2
  have i3 := (iv_need1 X.ok [107, 101, 121] σ hi).1
  have i2 := (iv_need1 X.ok [40] _ i3).1
  have q : Sm l (fun σ => (([sL (nameP l σ).1] : List Lf), (nameP l σ).2)) (fun σ => (([sL (nameP l' σ).1] : List Lf), (nameP l' σ).2)) := fun τ ht he => by
    dsimp only
    rw [sm_name X τ ht he]
  rw [sm_need1 X [107, 101, 121] σ hi m3, sm_need1 X [40] _ i3 m2, sm_list X q (mon_nm1 l) (iv_nm1 X.ok) _ i2 m1, sm_need1 X [41] _ (iv_list X.ok (iv_nm1 X.ok) _ i2).1 h]
theorem sm_type : Sm l (typeP l) (typeP l') := fun σ hi h => by
  unfold typeP at h ⊢
  rw [X.isP hi (X.ne [105, 110, 116] (by decide) (by decide)), X.isP hi (X.ne [98, 111, 111, 108] (by decide) (by decide)), X.isP hi (X.ne [116, 101, 120, 116] (by decide) (by decide))]
  split at h
  · rename_i h1; rw [if_pos h1, if_pos h1]
  rename_i h1; rw [if_neg h1, if_neg h1]
  split at h
  · rename_i h1; rw [if_pos h1, if_pos h1]
  rename_i h1; rw [if_neg h1, if_neg h1]
  split at h
  · rename_i h1; rw [if_pos h1, if_pos h1]
  exact absurd h (fault_e (by decide))
theorem sm_must : Sm l (mustP l) (mustP l') := fun σ hi h => by
  unfold mustP at h ⊢
  rw [X.isP hi (X.ne [110, 111, 116] (by decide) (by decide))]
  by_cases h0 : isP l [110, 111, 116] σ = true
  · rw [if_pos h0] at h ⊢; rw [if_pos h0]; have hi2 := (IvE.nx X.ok h0 hi).1; rw [sm_need1 X [110, 117, 108, 108] _ hi2 h]
  rw [if_neg h0] at h ⊢; rw [if_neg h0]
theorem sm_col : Sm l (colP l) (colP l') := fun σ hi h => by
  unfold colP at h ⊢
  dsimp only at h ⊢
  have m1 := mon_must l _ h
  have i1 := (iv_name X.ok σ hi).1
  rw [sm_name X σ hi (mon_type l _ m1), sm_type X _ i1 m1, sm_must X _ (iv_type X.ok _ i1).1 h]
theorem sm_cols : ∀ (k k' : Nat), k ≤ k' → ∀ (acc : List (List Lf)) (σ : PS), Inv l σ → l.length ≤ k + σ.i → (colsP l k acc σ).2.e = 0 → colsP l' k' acc σ = colsP l k acc σ
  | 0, _, _, _, σ, hi, hk, _ => absurd hi.1 (by omega)
  | k + 1, 0, hkk, _, _, _, _, _ => absurd hkk (by omega)
  | k + 1, k' + 1, hkk, acc, σ, hi, hk, h => by
    unfold colsP at h ⊢
    rw [X.isP hi (X.ne [112, 114, 105, 109, 97, 114, 121] (by decide) (by decide))]
    by_cases hb : isP l [112, 114, 105, 109, 97, 114, 121] σ = true
    · rw [if_pos hb] at h ⊢; rw [if_pos hb]
      rw [show (⟨σ.i + 1, σ.e⟩ : PS) = nx σ from rfl, sm_key X _ (IvE.nx X.ok hb hi).1 h]
    rw [if_neg hb] at h ⊢; rw [if_neg hb]
    have v := iv_col X.ok σ hi
    have h0 : (colP l σ).2.e = 0 := by
      split at h
      · exact mon_cols l k _ (nx (colP l σ).2) h
      · exact h
    rw [sm_col X σ hi h0, X.isP v.1 (X.ne [44] (by decide) (by decide))]
    by_cases hc : isP l [44] (colP l σ).2 = true
    · rw [if_pos hc] at h ⊢; rw [if_pos hc]
      have v2 := IvE.nx X.ok hc v.1
      have hle : (colP l σ).2.i + 1 ≤ (nx (colP l σ).2).i := Nat.le_refl _
      have hle2 := v.2
      exact sm_cols k k' (by omega) _ (nx (colP l σ).2) v2.1 (by omega) h
    · rw [if_neg hc, if_neg hc]
theorem sm_table : Sm l (tableP l) (tableP l') := fun σ hi h => by
  unfold tableP at h ⊢
  dsimp only at h ⊢
  have m1 := mon_empty l _ _ h
  have m2 := mon_within l _ _ _ m1
  have m3 := mon_need1 l _ _ m2
  have m4 := mon_cols l _ _ _ m3
  have m5 := mon_need1 l _ _ m4
  have i5 := (iv_name X.ok σ hi).1
  have i4 := (iv_need1 X.ok [40] _ i5).1
  have i3 := (iv_cols X.ok l.length [] _ i4).1
  have i2 := (iv_need1 X.ok [41] _ i3).1
  rw [sm_name X σ hi m5, sm_need1 X [40] _ i5 m4, sm_cols X l.length l'.length (by rw [X.len]; omega) _ _ i4 (by omega) m3, sm_need1 X [41] _ i3 m2, sm_within X _ _ _ i2 m1, sm_empty X _ _ (iv_within X.ok _ _ _ i2).1 h]
theorem sm_view (m : Int) : Sm l (viewP l m) (viewP l' m) := fun σ hi h => by
  unfold viewP at h ⊢
  dsimp only at h ⊢
  have m1 := mon_query l m _ h
  have m2 := mon_need1 l _ _ m1
  have m3 := mon_empty l _ _ m2
  have m4 := mon_mode l _ m3
  have m5 := mon_need1 l _ _ m4
  have i5 := (iv_name X.ok σ hi).1
  have i4 := (iv_need1 X.ok [114, 101, 102, 114, 101, 115, 104] _ i5).1
  have i3 := (iv_mode X.ok _ i4).1
  have i2 := (iv_empty X.ok (modeP l (need1 l [114, 101, 102, 114, 101, 115, 104] (nameP l σ).2)).1 _ i3).1
  have i1 := (iv_need1 X.ok [97, 115] _ i2).1
  rw [sm_name X σ hi m5, sm_need1 X [114, 101, 102, 114, 101, 115, 104] _ i5 m4, sm_mode X _ i4 m3, sm_empty X _ _ i3 m2, sm_need1 X [97, 115] _ i2 m1, sm_query X m _ i1 h]
theorem sm_named (k : Nat) : Sm l (namedP l k) (namedP l' k) := fun σ hi h => by
  unfold namedP at h ⊢
  rw [sm_name X σ hi h]
theorem sm_create (m : Int) : Sm l (createP l m) (createP l' m) := fun σ hi h => by
  unfold createP at h ⊢
  rw [X.isP hi (X.ne [116, 97, 98, 108, 101] (by decide) (by decide))]
  by_cases h0 : isP l [116, 97, 98, 108, 101] σ = true
  · rw [if_pos h0] at h ⊢; rw [if_pos h0]; have hi2 := (IvE.nx X.ok h0 hi).1; exact sm_table X _ hi2 h
  rw [if_neg h0] at h ⊢; rw [if_neg h0]
  rw [X.isP hi (X.ne [108, 111, 103] (by decide) (by decide))]
  by_cases h1 : isP l [108, 111, 103] σ = true
  · rw [if_pos h1] at h ⊢; rw [if_pos h1]; have hi2 := (IvE.nx X.ok h1 hi).1; have q := sm_need1 X [111, 110] _ hi2 (mon_named l 4 _ h); rw [show (⟨σ.i + 1, σ.e⟩ : PS) = nx σ from rfl, q]; exact sm_named X 4 _ (iv_need1 X.ok [111, 110] _ hi2).1 h
  rw [if_neg h1] at h ⊢; rw [if_neg h1]
  rw [sm_need1 X [118, 105, 101, 119] σ hi (mon_view l m _ h)]; exact sm_view X m _ (iv_need1 X.ok [118, 105, 101, 119] σ hi).1 h
theorem sm_drop : Sm l (dropP l) (dropP l') := fun σ hi h => by
  unfold dropP at h ⊢
  rw [X.isP hi (X.ne [116, 97, 98, 108, 101] (by decide) (by decide))]
  by_cases h0 : isP l [116, 97, 98, 108, 101] σ = true
  · rw [if_pos h0] at h ⊢; rw [if_pos h0]; have hi2 := (IvE.nx X.ok h0 hi).1; exact sm_named X 3 _ hi2 h
  rw [if_neg h0] at h ⊢; rw [if_neg h0]
  rw [X.isP hi (X.ne [108, 111, 103] (by decide) (by decide))]
  by_cases h1 : isP l [108, 111, 103] σ = true
  · rw [if_pos h1] at h ⊢; rw [if_pos h1]; have hi2 := (IvE.nx X.ok h1 hi).1; have q := sm_need1 X [111, 110] _ hi2 (mon_named l 5 _ h); rw [show (⟨σ.i + 1, σ.e⟩ : PS) = nx σ from rfl, q]; exact sm_named X 5 _ (iv_need1 X.ok [111, 110] _ hi2).1 h
  rw [if_neg h1] at h ⊢; rw [if_neg h1]
  rw [sm_need1 X [118, 105, 101, 119] σ hi (mon_named l 7 _ h)]; exact sm_named X 7 _ (iv_need1 X.ok [118, 105, 101, 119] σ hi).1 h
end
end Go.Proofs.YtneebnankghhgacGreatDoor

/- The parser's plain model over words, and over the same words with a bracket ahead of the end: a statement with a bracket behind it is none. Nothing of any program here: lemmas on lists. Conditions: each lemma names its own. -/
namespace Go.Proofs.YtneebnankghhgacGreatDoor
open Go.RowKit

section
variable {l l' : List Wd} {b : List UInt8} (X : Ext l l' b)
include X
theorem sm_tuple : Sm l (tupleP l) (tupleP l') := fun σ hi h => by
  unfold tupleP at h ⊢
  dsimp only at h ⊢
  have m1 := mon_within l _ _ _ h
  have m2 := mon_need1 l _ _ m1
  have m3 := mon_list l (mon_value l) _ m2
  have i3 := (iv_need1 X.ok [40] σ hi).1
  have i2 := (iv_list X.ok (iv_value X.ok) _ i3).1
  rw [sm_need1 X [40] σ hi m3, sm_list X (sm_value X) (mon_value l) (iv_value X.ok) _ i3 m2, sm_need1 X [41] _ i2 m1, sm_within X _ _ _ (iv_need1 X.ok [41] _ i2).1 h]
theorem sm_tup1 : Sm l (tup1P l) (tup1P l') := fun σ hi h => by
  unfold tup1P at h ⊢
  rw [sm_tuple X σ hi h]
theorem sm_insert : Sm l (insertP l) (insertP l') := fun σ hi h => by
  unfold insertP at h ⊢
  dsimp only at h ⊢
  have m1 := mon_within l _ _ _ h
  have m2 := mon_list l (mon_tup1 l) _ m1
  have m3 := mon_need1 l _ _ m2
  have m4 := mon_name l _ m3
  have i4 := (iv_need1 X.ok [105, 110, 116, 111] σ hi).1
  have i3 := (iv_name X.ok _ i4).1
  have i2 := (iv_need1 X.ok [118, 97, 108, 117, 101, 115] _ i3).1
  rw [sm_need1 X [105, 110, 116, 111] σ hi m4, sm_name X _ i4 m3, sm_need1 X [118, 97, 108, 117, 101, 115] _ i3 m2, sm_list X (sm_tup1 X) (mon_tup1 l) (iv_tup1 X.ok) _ i2 m1, sm_within X _ _ _ (iv_list X.ok (iv_tup1 X.ok) _ i2).1 h]
theorem sm_delete (m : Int) : Sm l (deleteP l m) (deleteP l' m) := fun σ hi h => by
  unfold deleteP at h ⊢
  dsimp only at h ⊢
  have m1 := mon_where l m _ h
  have m2 := mon_name l _ m1
  have i2 := (iv_need1 X.ok [102, 114, 111, 109] σ hi).1
  rw [sm_need1 X [102, 114, 111, 109] σ hi m2, sm_name X _ i2 m1, sm_where X m _ (iv_name X.ok _ i2).1 h]
theorem sm_setP (m : Int) : Sm l (setP l m) (setP l' m) := fun σ hi h => by
  unfold setP at h ⊢
  dsimp only at h ⊢
  have m1 := mon_expr l m 0 _ h
  have m2 := mon_need1 l _ _ m1
  have i2 := (iv_name X.ok σ hi).1
  rw [sm_name X σ hi m2, sm_need1 X [61] _ i2 m1, sm_expr X m 0 _ (iv_need1 X.ok [61] _ i2).1 h]
theorem sm_update (m : Int) : Sm l (updateP l m) (updateP l' m) := fun σ hi h => by
  unfold updateP at h ⊢
  dsimp only at h ⊢
  have m1 := mon_where l m _ h
  have m2 := mon_within l _ _ _ m1
  have m3 := mon_list l (mon_setP l m) _ m2
  have m4 := mon_need1 l _ _ m3
  have i4 := (iv_name X.ok σ hi).1
  have i3 := (iv_need1 X.ok [115, 101, 116] _ i4).1
  have i2 := (iv_list X.ok (iv_setP X.ok m) _ i3).1
  rw [sm_name X σ hi m4, sm_need1 X [115, 101, 116] _ i4 m3, sm_list X (sm_setP X m) (mon_setP l m) (iv_setP X.ok m) _ i3 m2, sm_within X _ _ _ i2 m1, sm_where X m _ (iv_within X.ok _ _ _ i2).1 h]
theorem sm_refresh : Sm l (refreshP l) (refreshP l') := fun σ hi h => by
  unfold refreshP at h ⊢
  dsimp only at h ⊢
  have m1 := mon_take l _ _ h
  have m2 := mon_mode l _ m1
  have i2 := (iv_name X.ok σ hi).1
  rw [sm_name X σ hi m2, sm_mode X _ i2 m1, sm_take X (X.ne [110, 101, 115, 116, 101, 100] (by decide) (by decide)) _ (iv_mode X.ok _ i2).1 h]
theorem sm_choice {s t : List UInt8} (hs : s ≠ b) : Sm l (choiceP l s t) (choiceP l' s t) := fun σ hi h => by
  unfold choiceP at h ⊢
  rw [X.isP hi hs]
  by_cases h1 : isP l s σ = true
  · rw [if_pos h1, if_pos h1]
  rw [if_neg h1] at h ⊢; rw [if_neg h1]
  rw [sm_need1 X t σ hi h]
theorem sm_setting : Sm l (settingP l) (settingP l') := fun σ hi h => by
  unfold settingP at h ⊢
  rw [X.isP hi (X.ne [114, 101, 119, 114, 105, 116, 101] (by decide) (by decide))]
  by_cases h1 : isP l [114, 101, 119, 114, 105, 116, 101] σ = true
  · rw [if_pos h1] at h ⊢; rw [if_pos h1]
    rw [show (⟨σ.i + 1, σ.e⟩ : PS) = nx σ from rfl, sm_choice X (X.ne [111, 102, 102] (by decide) (by decide)) _ (IvE.nx X.ok h1 hi).1 h]
  rw [if_neg h1] at h ⊢; rw [if_neg h1]
  have m1 := mon_choice l [101, 110, 102, 111, 114, 99, 101, 100] [116, 111, 108, 101, 114, 97, 116, 101, 100] _ h
  rw [sm_need1 X [112, 111, 108, 105, 99, 121] σ hi m1, sm_choice X (X.ne [101, 110, 102, 111, 114, 99, 101, 100] (by decide) (by decide)) _ (iv_need1 X.ok [112, 111, 108, 105, 99, 121] σ hi).1 h]
theorem sm_stmt (m : Int) : Sm l (stmtP l m) (stmtP l' m) := fun σ hi h => by
  unfold stmtP at h ⊢
  rw [X.isP hi (X.ne [115, 101, 108, 101, 99, 116] (by decide) (by decide))]
  by_cases h0 : isP l [115, 101, 108, 101, 99, 116] σ = true
  · rw [if_pos h0] at h ⊢; rw [if_pos h0]; have hi2 := (IvE.nx X.ok h0 hi).1; rw [sm_query X m σ hi h]
  rw [if_neg h0] at h ⊢; rw [if_neg h0]
  rw [X.isP hi (X.ne [99, 114, 101, 97, 116, 101] (by decide) (by decide))]
  by_cases h1 : isP l [99, 114, 101, 97, 116, 101] σ = true
  · rw [if_pos h1] at h ⊢; rw [if_pos h1]; have hi2 := (IvE.nx X.ok h1 hi).1; exact sm_create X m _ hi2 h
  rw [if_neg h1] at h ⊢; rw [if_neg h1]
  rw [X.isP hi (X.ne [100, 114, 111, 112] (by decide) (by decide))]
  by_cases h2 : isP l [100, 114, 111, 112] σ = true
  · rw [if_pos h2] at h ⊢; rw [if_pos h2]; have hi2 := (IvE.nx X.ok h2 hi).1; exact sm_drop X _ hi2 h
  rw [if_neg h2] at h ⊢; rw [if_neg h2]
  rw [X.isP hi (X.ne [105, 110, 115, 101, 114, 116] (by decide) (by decide))]
  by_cases h3 : isP l [105, 110, 115, 101, 114, 116] σ = true
  · rw [if_pos h3] at h ⊢; rw [if_pos h3]; have hi2 := (IvE.nx X.ok h3 hi).1; exact sm_insert X _ hi2 h
  rw [if_neg h3] at h ⊢; rw [if_neg h3]
  rw [X.isP hi (X.ne [100, 101, 108, 101, 116, 101] (by decide) (by decide))]
  by_cases h4 : isP l [100, 101, 108, 101, 116, 101] σ = true
  · rw [if_pos h4] at h ⊢; rw [if_pos h4]; have hi2 := (IvE.nx X.ok h4 hi).1; exact sm_delete X m _ hi2 h
  rw [if_neg h4] at h ⊢; rw [if_neg h4]
  rw [X.isP hi (X.ne [117, 112, 100, 97, 116, 101] (by decide) (by decide))]
  by_cases h5 : isP l [117, 112, 100, 97, 116, 101] σ = true
  · rw [if_pos h5] at h ⊢; rw [if_pos h5]; have hi2 := (IvE.nx X.ok h5 hi).1; exact sm_update X m _ hi2 h
  rw [if_neg h5] at h ⊢; rw [if_neg h5]
  rw [X.isP hi (X.ne [114, 101, 102, 114, 101, 115, 104] (by decide) (by decide))]
  by_cases h6 : isP l [114, 101, 102, 114, 101, 115, 104] σ = true
  · rw [if_pos h6] at h ⊢; rw [if_pos h6]; have hi2 := (IvE.nx X.ok h6 hi).1; exact sm_refresh X _ hi2 h
  rw [if_neg h6] at h ⊢; rw [if_neg h6]
  rw [X.isP hi (X.ne [112, 117, 114, 103, 101] (by decide) (by decide))]
  by_cases h7 : isP l [112, 117, 114, 103, 101] σ = true
  · rw [if_pos h7] at h ⊢; rw [if_pos h7]; have hi2 := (IvE.nx X.ok h7 hi).1; have m1 := mon_named l 12 _ h; have m2 := mon_need1 l _ _ m1; have i3 := (iv_need1 X.ok [108, 111, 103] _ hi2).1; rw [show (⟨σ.i + 1, σ.e⟩ : PS) = nx σ from rfl, sm_need1 X [108, 111, 103] _ hi2 m2, sm_need1 X [111, 110] _ i3 m1]; exact sm_named X 12 _ (iv_need1 X.ok [111, 110] _ i3).1 h
  rw [if_neg h7] at h ⊢; rw [if_neg h7]
  rw [X.isP hi (X.ne [115, 101, 116] (by decide) (by decide))]
  by_cases h8 : isP l [115, 101, 116] σ = true
  · rw [if_pos h8] at h ⊢; rw [if_pos h8]; have hi2 := (IvE.nx X.ok h8 hi).1; exact sm_setting X _ hi2 h
  rw [if_neg h8] at h ⊢; rw [if_neg h8]
  rw [X.isP hi (X.ne [115, 104, 111, 119] (by decide) (by decide))]
  by_cases h9 : isP l [115, 104, 111, 119] σ = true
  · rw [if_pos h9] at h ⊢; rw [if_pos h9]; have hi2 := (IvE.nx X.ok h9 hi).1; exact sm_named X 15 _ hi2 h
  rw [if_neg h9] at h ⊢; rw [if_neg h9]
  exact absurd h (fault_e (by decide))
/-- A statement with a bracket behind it is none. -/
theorem readP_end (m : Int) (h : (readP l m).2 = 0) : (readP l' m).2 ≠ 0 := by
  have hi0 : Inv l ⟨0, 0⟩ := ⟨List.length_pos_iff.2 X.ok.ne, fun h => absurd rfl h⟩
  have he : (endP l (stmtP l m ⟨0, 0⟩).2).e = 0 := by
    unfold readP at h
    dsimp only at h
    split at h
    · assumption
    · rename_i hne; exact absurd h hne
  have h1 := mon_end l _ he
  have v := iv_stmt X.ok m _ hi0
  have q := sm_stmt X m _ hi0 h1
  have h5 : (wdP l (stmtP l m ⟨0, 0⟩).2).k = 5 := by
    unfold endP at he
    split at he
    · assumption
    · exact absurd he (fault_e (by decide))
  have hl : (stmtP l m ⟨0, 0⟩).2.i + 1 = l.length := by
    rcases Nat.lt_or_ge ((stmtP l m ⟨0, 0⟩).2.i + 1) l.length with h9 | h9
    · have e : wdP l (stmtP l m ⟨0, 0⟩).2 = l[(stmtP l m ⟨0, 0⟩).2.i]'v.1.1 := by unfold wdP; rw [List.getD_eq_getElem?_getD, List.getElem?_eq_getElem v.1.1]; rfl
      rw [e] at h5
      exact (X.ok.end_ _ v.1.1).1 h5
    · have := v.1.1; omega
  have h4 := (X.last _ hl).1
  have hk : (endP l' (stmtP l m ⟨0, 0⟩).2).e ≠ 0 := by
    unfold endP
    rw [if_neg (by rw [h4]; decide)]
    exact fault_e (by decide)
  unfold readP
  dsimp only
  rw [q, if_neg hk]
  exact hk
end
end Go.Proofs.YtneebnankghhgacGreatDoor

/- Two commands with a blank between, plainly: they have the words of both. Nothing of any program here: lemmas on lists. Conditions: each lemma names its own. -/
namespace Go.Proofs.YtneebnankghhgacGreatDoor
open Go.RowKit

theorem cnt_app {p : UInt8 → Bool} (h : p 32 = false) (r : List UInt8) : ∀ l, cnt p (l ++ 32 :: r) = cnt p l
  | [] => by simp [cnt, h]
  | c :: l => by simp only [List.cons_append, cnt]; rw [cnt_app h r l]
theorem nmS_app (r : List UInt8) : ∀ l, l ≠ [] → nmS (l ++ 32 :: r) = nmS l
  | [], h => absurd rfl h
  | c :: l, _ => by simp only [List.cons_append, nmS]; rw [cnt_app (by decide) r l]
theorem numBad_app (r : List UInt8) (c : UInt8) (l : List UInt8) : numBad ((c :: l) ++ 32 :: r) = numBad (c :: l) ∧ numN ((c :: l) ++ 32 :: r) = numN (c :: l) := by
  have e := cnt_app (p := isD) (by decide) r (c :: l)
  have hl := cnt_le isD (c :: l)
  have en : numN ((c :: l) ++ 32 :: r) = numN (c :: l) := by unfold numN; rw [e, List.take_append_of_le_length hl]
  refine ⟨?_, en⟩
  unfold numBad
  rw [e, en]
  have h1 : ((c :: l) ++ 32 :: r).head? = (c :: l).head? := rfl
  rw [h1]
  rcases Nat.lt_or_ge (cnt isD (c :: l)) (c :: l).length with g | g
  · rw [List.getElem?_append_left g]
  · have h2 : cnt isD (c :: l) = (c :: l).length := Nat.le_antisymm hl g
    rw [h2, List.getElem?_append_right (Nat.le_refl _), Nat.sub_self, List.getElem?_eq_none (Nat.le_refl _)]
    rfl
theorem txR_app (r : List UInt8) : ∀ (n : Nat) (l : List UInt8), l.length ≤ n → ∀ x, txR l = some x → txR (l ++ 32 :: r) = some x
  | _, [], _, x, h => by simp [txR] at h
  | 0, _ :: _, h, _, _ => absurd h (by simp)
  | n + 1, c :: l, hn, x, h => by
    by_cases hc : c = 39
    · subst hc
      cases l with
      | nil =>
        rw [← h]
        show txR (39 :: 32 :: r) = txR [39]
        rw [txR_end (by intro d hd; cases hd; decide), txR_end (by intro d hd; cases hd)]
      | cons d l =>
        by_cases hd : d = 39
        · subst hd
          rw [txR_two] at h
          obtain ⟨y, hy, rfl⟩ := Option.map_eq_some_iff.1 h
          have := txR_app r n l (by simp at hn; omega) y hy
          show txR (39 :: 39 :: (l ++ 32 :: r)) = _
          rw [txR_two, this]; rfl
        · rw [← h]
          show txR (39 :: d :: (l ++ 32 :: r)) = txR (39 :: d :: l)
          rw [txR_end (by intro q hq; cases hq; exact hd), txR_end (by intro q hq; cases hq; exact hd)]
    · rw [txR_plain hc] at h
      obtain ⟨y, hy, rfl⟩ := Option.map_eq_some_iff.1 h
      have := txR_app r n l (by simp at hn; omega) y hy
      show txR (c :: (l ++ 32 :: r)) = _
      rw [txR_plain hc, this]; rfl
theorem sgS_app (r : List UInt8) (c : UInt8) : ∀ l, sgS ((c :: l) ++ 32 :: r) = sgS (c :: l)
  | [] => by
    show sgS (c :: 32 :: r) = 1
    rw [sgS_else]
    rintro (⟨_, h⟩ | ⟨_, h⟩ | ⟨_, h⟩) <;> exact absurd h (by decide)
  | d :: l => rfl
/-- A word that is there stays as it is, whatever follows behind a blank. -/
theorem word_app (r : List UInt8) (c : UInt8) (l : List UInt8) (h0 : (wordM (c :: l)).2 ≠ 0) : wordM ((c :: l) ++ 32 :: r) = wordM (c :: l) := by
  have hcons : (c :: l) ++ 32 :: r = c :: (l ++ 32 :: r) := rfl
  rcases word_cases c with h | ⟨h, h1⟩ | ⟨h, h1, h2⟩ | ⟨h, h1, h2, h3⟩ | ⟨h, h1, h2, h3⟩
  · have e := nmS_app r (c :: l) (by simp)
    have ht : ((c :: l) ++ 32 :: r).take (nmS (c :: l)) = (c :: l).take (nmS (c :: l)) := List.take_append_of_le_length (nmS_le _)
    rw [hcons] at e ht ⊢
    rw [word_name h, word_name h, e, ht]
  · obtain ⟨e1, e2⟩ := numBad_app r c l
    have e := cnt_app (p := isD) (by decide) r (c :: l)
    rw [hcons] at e e1 e2 ⊢
    rw [word_num h h1, word_num h h1, e, e1, e2]
  · rw [hcons, word_text h h1 h2, word_text h h1 h2]
    rw [word_text h h1 h2] at h0
    cases hx : txR l with
    | none => rw [hx] at h0; exact absurd rfl h0
    | some x => rw [txR_app r l.length l (Nat.le_refl _) x hx]
  · have e := sgS_app r c l
    have ht : ((c :: l) ++ 32 :: r).take (sgS (c :: l)) = (c :: l).take (sgS (c :: l)) := List.take_append_of_le_length (sgS_le (by simp))
    rw [hcons] at e ht ⊢
    rw [word_sign h h1 h2 h3, word_sign h h1 h2 h3, e, ht]
  · rw [hcons, word_none h h1 h2 h3, word_none h h1 h2 h3]

theorem lexM_ok {f i : Nat} {c : UInt8} {l : List UInt8} {acc ws : List Wd} (h : lexM (f + 1) i (c :: l) acc = .ok ws) :
    (c = 32 ∧ lexM f (i + 1) l acc = .ok ws) ∨ (c ≠ 32 ∧ (wordM (c :: l)).2 ≠ 0 ∧ acc.length ≠ 512 ∧ lexM f (i + (wordM (c :: l)).2) ((c :: l).drop (wordM (c :: l)).2) (acc ++ [(wordM (c :: l)).1.put i]) = .ok ws) := by
  by_cases hc : c = 32
  · subst hc
    rw [lexM_blank] at h
    exact .inl ⟨rfl, h⟩
  · by_cases h0 : (wordM (c :: l)).2 = 0
    · rw [lexM_syn hc h0] at h; cases h
    · by_cases h1 : acc.length = 512
      · rw [lexM_long hc h0 h1] at h; cases h
      · rw [lexM_more hc h0 h1] at h
        exact .inr ⟨hc, h0, h1, h⟩
theorem lexM_fuel : ∀ (f g i : Nat) (l : List UInt8) (acc : List Wd), l.length < f → l.length < g → lexM f i l acc = lexM g i l acc
  | 0, _, _, _, _, h, _ => absurd h (by omega)
  | _, 0, _, _, _, _, h => absurd h (by omega)
  | f + 1, g + 1, i, [], acc, _, _ => rfl
  | f + 1, g + 1, i, c :: l, acc, hf, hg => by
    simp only [List.length_cons] at hf hg
    by_cases hc : c = 32
    · subst hc
      rw [lexM_blank, lexM_blank]
      exact lexM_fuel f g _ l acc (by omega) (by omega)
    · by_cases h0 : (wordM (c :: l)).2 = 0
      · rw [lexM_syn hc h0, lexM_syn hc h0]
      · by_cases h1 : acc.length = 512
        · rw [lexM_long hc h0 h1, lexM_long hc h0 h1]
        · rw [lexM_more hc h0 h1, lexM_more hc h0 h1]
          exact lexM_fuel f g _ _ _ (by rw [List.length_drop, List.length_cons]; omega) (by rw [List.length_drop, List.length_cons]; omega)
/-- What stands behind a blank is read from there on. -/
theorem lex_app (r : List UInt8) : ∀ (f i : Nat) (l : List UInt8) (acc ws : List Wd), l.length < f → lexM f i l acc = .ok ws → ∀ g, r.length < g → lexM (f + g) i (l ++ 32 :: r) acc = lexM g (i + l.length + 1) r ws
  | 0, _, _, _, _, h, _, _, _ => absurd h (by omega)
  | f + 1, i, [], acc, ws, _, h, g, hg => by
    rw [lexM_end] at h
    cases h
    show lexM (f + 1 + g) i (32 :: r) acc = _
    rw [show f + 1 + g = (f + g) + 1 by omega, lexM_blank]
    exact lexM_fuel _ _ _ _ _ (by omega) hg
  | f + 1, i, c :: l, acc, ws, hf, h, g, hg => by
    simp only [List.length_cons] at hf
    rw [show f + 1 + g = (f + g) + 1 by omega]
    rcases lexM_ok h with ⟨rfl, h⟩ | ⟨hc, h0, h1, h⟩
    · show lexM (f + g + 1) i (32 :: (l ++ 32 :: r)) acc = _
      rw [lexM_blank, lex_app r f (i + 1) l acc ws (by omega) h g hg]
      congr 1
      simp; omega
    · have e := word_app r c l h0
      have hle := word_le (c :: l)
      show lexM (f + g + 1) i (c :: (l ++ 32 :: r)) acc = _
      have e' : wordM (c :: (l ++ 32 :: r)) = wordM (c :: l) := e
      rw [lexM_more hc (by rw [e']; exact h0) h1, e']
      have hd : (c :: (l ++ 32 :: r)).drop (wordM (c :: l)).2 = (c :: l).drop (wordM (c :: l)).2 ++ 32 :: r := List.drop_append_of_le_length (l₁ := c :: l) hle
      rw [hd, lex_app r f _ _ _ ws (by rw [List.length_drop, List.length_cons]; omega) h g hg]
      congr 1
      rw [List.length_drop, List.length_cons] at *
      omega
/-- A word, d bytes further on. -/
def Wd.far (d : Nat) (x : Wd) : Wd := ⟨x.k, x.s, x.n, x.p + d⟩
theorem lex_far : ∀ (f i : Nat) (l : List UInt8) (acc ws : List Wd), lexM f i l acc = .ok ws → ∃ ms, ws = acc ++ ms ∧ ∀ d acc', acc'.length + ms.length ≤ 512 → lexM f (i + d) l acc' = .ok (acc' ++ ms.map (Wd.far d))
  | 0, i, l, acc, ws, h => by
    cases h
    exact ⟨[], by simp, fun d acc' _ => by simp [lexM]⟩
  | f + 1, i, [], acc, ws, h => by
    cases h
    exact ⟨[], by simp, fun d acc' _ => by simp [lexM]⟩
  | f + 1, i, c :: l, acc, ws, h => by
    rcases lexM_ok h with ⟨rfl, h⟩ | ⟨hc, h0, h1, h⟩
    · obtain ⟨ms, e, H⟩ := lex_far f _ _ _ _ h
      refine ⟨ms, e, fun d acc' hm => ?_⟩
      rw [lexM_blank, show i + d + 1 = i + 1 + d by omega]
      exact H d acc' hm
    · obtain ⟨ms, e, H⟩ := lex_far f _ _ _ _ h
      refine ⟨(wordM (c :: l)).1.put i :: ms, by rw [e]; simp, fun d acc' hm => ?_⟩
      simp only [List.length_cons] at hm
      rw [lexM_more hc h0 (by omega), show i + d + (wordM (c :: l)).2 = i + (wordM (c :: l)).2 + d by omega]
      have := H d (acc' ++ [(wordM (c :: l)).1.put (i + d)]) (by simp; omega)
      rw [this]
      simp [Wd.far, Wd.put]
/-- Two commands with a blank between. -/
theorem lexR_parts {s t : List UInt8} {ws ms : List Wd} (hs : lexR s = .ok ws) (ht : lexR t = .ok ms) (hlen : s.length + 1 + t.length ≤ 2048) (hw : ws.length + ms.length ≤ 512) :
    lexR (s ++ 32 :: t) = .ok (ws ++ ms.map (Wd.far (s.length + 1))) := by
  unfold lexR at hs ht ⊢
  rw [if_neg (by omega)] at hs ht
  rw [if_neg (by simp; omega)]
  have h1 := lex_app t _ _ _ _ _ (Nat.lt_succ_self _) hs (t.length + 1) (Nat.lt_succ_self _)
  obtain ⟨ms', e, H⟩ := lex_far _ _ _ _ _ ht
  simp only [List.nil_append] at e
  subst e
  have h2 := H (s.length + 1) ws hw
  rw [lexM_fuel _ (s.length + 1 + (t.length + 1)) _ _ _ (Nat.lt_succ_self _) (by simp), h1, show 0 + s.length + 1 = 0 + (s.length + 1) by omega]
  exact h2
end Go.Proofs.YtneebnankghhgacGreatDoor

/- The words of a text with a bracket behind it, plainly: they are the text's words with the bracket ahead of the end, or the text is refused. Nothing of any program here: lemmas on lists. Conditions: each lemma names its own. -/
namespace Go.Proofs.YtneebnankghhgacGreatDoor
open Go.RowKit

theorem lex_br {c : UInt8} (hc : c = 40 ∨ c = 41) : lexR [c] = .ok [⟨4, [c], 0, 0⟩] := by
  rcases hc with rfl | rfl <;> decide +kernel
/-- Words, and the same with a sign ahead of the end. -/
theorem ext_of {ws : List Wd} {n n' p : Nat} {c : UInt8} (ok : WsOk (ws ++ [⟨5, [], 0, n⟩])) (hc : c = 40 ∨ c = 41) : Ext (ws ++ [⟨5, [], 0, n⟩]) (ws ++ [⟨4, [c], 0, p⟩] ++ [⟨5, [], 0, n'⟩]) [c] := by
  refine ⟨ok, by simp, fun σ h => ?_, fun σ h => ?_, by rcases hc with rfl | rfl <;> simp⟩
  · simp at h
    unfold wdP
    rw [List.getD_eq_getElem?_getD, List.getD_eq_getElem?_getD, List.append_assoc, List.getElem?_append_left h, List.getElem?_append_left h]
  · simp at h
    unfold wdP
    rw [List.getD_eq_getElem?_getD, List.append_assoc, List.getElem?_append_right (by omega), h, Nat.sub_self]
    exact ⟨rfl, rfl⟩
theorem word_br {c : UInt8} (hc : c = 40 ∨ c = 41) : c ≠ 32 ∧ (wordM [c]).2 ≠ 0 := by
  rcases hc with rfl | rfl <;> decide +kernel
/-- A statement with a bracket behind it is none. -/
theorem parM_end {s : List UInt8} {m : Int} {c : UInt8} (hc : c = 40 ∨ c = 41) (h : (parM s m).2 = 0) : (parM (s ++ [32, c]) m).2 ≠ 0 := by
  have h0 : outE (lexR s) = 0 := by
    unfold parM at h
    split at h
    · assumption
    · exact h
  obtain ⟨ws, hw⟩ : ∃ ws, lexR s = .ok ws := by
    cases hr : lexR s with
    | ok ws => exact ⟨ws, rfl⟩
    | syn i => rw [hr] at h0; cases h0
    | long i => rw [hr] at h0; cases h0
  have hr : (readP (ws ++ [⟨5, [], 0, s.length⟩]) m).2 = 0 := by
    unfold parM at h
    rw [if_pos h0, hw] at h
    exact h
  have hok : WsOk (ws ++ [⟨5, [], 0, s.length⟩]) := by
    have := words_ok hw
    rw [hw] at this
    exact this
  have hfew : ws.length ≤ 512 := by have := hok.few; simp at this; omega
  have e : s ++ [32, c] = s ++ 32 :: [c] := rfl
  rw [e]
  rcases Nat.lt_or_ge 2048 (s.length + 2) with hl | hl
  · have hL : lexR (s ++ 32 :: [c]) = .long 0 := if_pos (by simp; omega)
    unfold parM
    rw [hL]
    exact fun h9 => by cases h9
  rcases Nat.lt_or_ge ws.length 512 with hn | hn
  · have hp := lexR_parts hw (lex_br hc) (by simp; omega) (by simp; omega)
    have hz : outE (lexR (s ++ 32 :: [c])) = 0 := by rw [hp]; rfl
    unfold parM
    rw [if_pos hz, hp]
    exact readP_end (ext_of (n' := (s ++ 32 :: [c]).length) (p := 0 + (s.length + 1)) hok hc) m hr
  · obtain ⟨h32, hw0⟩ := word_br hc
    have hs : lexM (s.length + 1) 0 s [] = .ok ws := by
      have := hw
      unfold lexR at this
      rwa [if_neg (by omega)] at this
    have ha := lex_app [c] (s.length + 1) 0 s [] ws (by omega) hs 2 (by simp)
    have hlong : lexM 2 (0 + s.length + 1) [c] ws = .long (0 + s.length + 1) := lexM_long h32 hw0 (by omega)
    have hL : lexR (s ++ 32 :: [c]) = .long (0 + s.length + 1) := by
      unfold lexR
      rw [if_neg (by simp; omega), show (s ++ 32 :: [c]).length + 1 = s.length + 1 + 2 by simp, ha, hlong]
    unfold parM
    rw [hL]
    exact fun h9 => by cases h9
/-- What isn't refused for its depth is told the same at any greater depth. -/
theorem parM_depth {s : List UInt8} {m m' : Int} (hm : m ≤ m') (h : (parM s m).2 ≠ 19) : parM s m' = parM s m := by
  unfold parM at h ⊢
  by_cases h0 : outE (lexR s) = 0
  · rw [if_pos h0] at h ⊢
    rw [if_pos h0]
    exact readP_depth (words_ok' h0) hm h
  · rw [if_neg h0, if_neg h0]
/-- What is refused has no statement. -/
theorem parM_fault {s : List UInt8} {m : Int} (h : (parM s m).2 ≠ 0) : (parM s m).1 = zS := by
  unfold parM at h ⊢
  split
  · rename_i h0
    rw [if_pos h0] at h
    unfold readP at h ⊢
    dsimp only at h ⊢
    split
    · rename_i h1; rw [if_pos h1] at h; exact absurd rfl h
    · rfl
  · rfl
/-- The document's example. -/
theorem parM_ex1 : (parM [115, 101, 108, 101, 99, 116, 32, 97, 44, 32, 99, 111, 117, 110, 116, 40, 42, 41, 32, 97, 115, 32, 110, 32, 102, 114, 111, 109, 32, 116, 32, 119, 104, 101, 114, 101, 32, 97, 32, 60, 32, 51, 32, 97, 110, 100, 32, 110, 111, 116, 32, 98, 32, 105, 115, 32, 110, 117, 108, 108, 32, 103, 114, 111, 117, 112, 32, 98, 121, 32, 97] 4).2 = 0 ∧ (parM [115, 101, 108, 101, 99, 116, 32, 97, 44, 32, 99, 111, 117, 110, 116, 40, 42, 41, 32, 97, 115, 32, 110, 32, 102, 114, 111, 109, 32, 116, 32, 119, 104, 101, 114, 101, 32, 97, 32, 60, 32, 51, 32, 97, 110, 100, 32, 110, 111, 116, 32, 98, 32, 105, 115, 32, 110, 117, 108, 108, 32, 103, 114, 111, 117, 112, 32, 98, 121, 32, 97] 4).1.k = 1 ∧ (parM [115, 101, 108, 101, 99, 116, 32, 97, 44, 32, 99, 111, 117, 110, 116, 40, 42, 41, 32, 97, 115, 32, 110, 32, 102, 114, 111, 109, 32, 116, 32, 119, 104, 101, 114, 101, 32, 97, 32, 60, 32, 51, 32, 97, 110, 100, 32, 110, 111, 116, 32, 98, 32, 105, 115, 32, 110, 117, 108, 108, 32, 103, 114, 111, 117, 112, 32, 98, 121, 32, 97] 4).1.parts.length = 1 := by decide +kernel
theorem parM_ex2 : (parM [115, 101, 108, 101, 99, 116, 32, 97, 32, 102, 114, 111, 109, 32, 116, 32, 119, 104, 101, 114, 101, 32, 40, 40, 40, 40, 40, 40, 97, 32, 61, 32, 49, 41, 41, 41, 41, 41, 41] 4).2 = 19 := by decide +kernel
theorem parM_ex3 : (parM [115, 101, 108, 101, 99, 116, 32, 102, 114, 111, 109, 32, 116] 4).2 = 4 := by decide +kernel
end Go.Proofs.YtneebnankghhgacGreatDoor

/- The parser's plain model hangs on its words alone, not on where they stand. Nothing of any program here: lemmas on lists. Conditions: each lemma names its own. -/
namespace Go.Proofs.YtneebnankghhgacGreatDoor
open Go.RowKit

/-- The same words, wherever they stand. -/
structure Eqw (l l' : List Wd) : Prop where
  len : l'.length = l.length
  k : ∀ σ : PS, (wdP l' σ).k = (wdP l σ).k
  s : ∀ σ : PS, (wdP l' σ).s = (wdP l σ).s
  n : ∀ σ : PS, (wdP l' σ).n = (wdP l σ).n
section
variable {l l' : List Wd} (H : Eqw l l')
include H
theorem q_faultP : faultP l' = faultP l := by
  funext c σ
  simp only [faultP, H.len]
theorem q_isP : isP l' = isP l := by
  funext s σ
  simp only [isP, isW, H.k, H.s]
theorem q_takeP : takeP l' = takeP l := by
  funext s σ
  simp only [takeP, q_isP H]
theorem q_need1 : need1 l' = need1 l := by
  funext s σ
  simp only [need1, q_isP H, q_faultP H]
theorem q_endP : endP l' = endP l := by
  funext σ
  simp only [endP, H.k, q_faultP H]
theorem q_nameP : nameP l' = nameP l := by
  funext σ
  simp only [nameP, H.k, H.s, q_faultP H]
theorem q_deepP : deepP l' = deepP l := by
  funext m d σ
  simp only [deepP, q_faultP H]
theorem q_withinP : withinP l' = withinP l := by
  funext n k σ
  simp only [withinP, q_faultP H]
theorem q_emptyP : emptyP l' = emptyP l := by
  funext n σ
  simp only [emptyP, q_faultP H]
theorem q_moreP {α : Type} (sep : List UInt8) (f : PS → α × PS) : ∀ k acc σ, moreP l' sep f k acc σ = moreP l sep f k acc σ
  | 0, _, _ => rfl
  | k + 1, acc, σ => by simp only [moreP, q_isP H, q_moreP sep f k]
theorem q_listP {α : Type} (f : PS → α × PS) : listP l' f = listP l f := by
  funext σ
  simp only [listP, H.len, q_moreP H]
theorem q_valuedP : valuedP l' = valuedP l := by
  funext σ
  simp only [valuedP, H.k, q_isP H]
theorem q_textP : textP l' = textP l := by
  funext σ
  simp only [textP, H.s, q_faultP H]
theorem q_numP : numP l' = numP l := by
  funext b σ
  simp only [numP, H.k, H.n, q_faultP H]
theorem q_numberP : numberP l' = numberP l := by
  funext σ
  simp only [numberP, q_numP H, q_takeP H]
theorem q_valueP : valueP l' = valueP l := by
  funext σ
  simp only [valueP, H.k, q_isP H, q_textP H, q_numberP H]
theorem q_columnP : columnP l' = columnP l := by
  funext σ
  simp only [columnP, q_isP H, q_nameP H]
theorem q_operandP : operandP l' = operandP l := by
  funext σ
  simp only [operandP, q_valuedP H, q_valueP H, q_columnP H]
theorem q_mulP (f : PS → List Lf × PS) : ∀ k e σ, mulP l' f k e σ = mulP l f k e σ
  | 0, _, _ => rfl
  | k + 1, e, σ => by simp only [mulP, q_isP H, q_mulP f k]
theorem q_termP (f : PS → List Lf × PS) : termP l' f = termP l f := by
  funext σ
  simp only [termP, H.len, q_mulP H]
theorem q_addP (f : PS → List Lf × PS) : ∀ k e σ, addP l' f k e σ = addP l f k e σ
  | 0, _, _ => rfl
  | k + 1, e, σ => by simp only [addP, q_isP H, q_termP H, q_addP f k]
theorem q_exprOf (f : PS → List Lf × PS) : exprOf l' f = exprOf l f := by
  funext σ
  simp only [exprOf, H.len, q_termP H, q_addP H]
theorem q_factorP (m : Int) : ∀ n d, factorP l' m n d = factorP l m n d
  | 0, _ => rfl
  | n + 1, d => by
    funext σ
    simp only [factorP, q_valuedP H, q_operandP H, q_isP H, q_deepP H, q_need1 H, q_exprOf H, q_factorP m n]
theorem q_exprP : exprP l' = exprP l := by
  funext m d σ
  simp only [exprP, H.len, q_exprOf H, q_factorP H]
theorem q_opP : opP l' = opP l := by
  funext σ
  simp only [opP, q_isP H, q_faultP H]
theorem q_compP : compP l' = compP l := by
  funext a σ
  simp only [compP, q_isP H, q_need1 H, q_opP H, q_operandP H]
theorem q_comparedP : comparedP l' = comparedP l := by
  funext σ
  simp only [comparedP, q_compP H, q_operandP H]
theorem q_joinedP (k : Nat) (sep : List UInt8) (f : PS → List Lf × PS) : joinedP l' k sep f = joinedP l k sep f := by
  funext σ
  simp only [joinedP, H.len, q_isP H, q_moreP H]
theorem q_condOf (f : PS → List Lf × PS) : condOf l' f = condOf l f := by simp only [condOf, bothOf, q_joinedP H]
theorem q_simpleP (m : Int) : ∀ n d, simpleP l' m n d = simpleP l m n d
  | 0, _ => rfl
  | n + 1, d => by
    funext σ
    simp only [simpleP, q_comparedP H, q_isP H, q_deepP H, q_need1 H, q_condOf H, q_simpleP m n]
theorem q_condP : condP l' = condP l := by
  funext m d σ
  simp only [condP, H.len, q_condOf H, q_simpleP H]
theorem q_whereP : whereP l' = whereP l := by
  funext m σ
  simp only [whereP, q_isP H, q_condP H]
theorem q_countP : countP l' = countP l := by
  funext m σ
  simp only [countP, q_isP H, q_need1 H, q_exprP H]
theorem q_aggP : aggP l' = aggP l := by
  funext m k σ
  simp only [aggP, q_need1 H, q_exprP H]
theorem q_toldP : toldP l' = toldP l := by
  funext m σ
  simp only [toldP, q_isP H, q_countP H, q_aggP H, q_exprP H]
theorem q_asP : asP l' = asP l := by
  funext s σ
  simp only [asP, q_isP H, q_nameP H]
theorem q_itemP : itemP l' = itemP l := by
  funext m σ
  simp only [itemP, q_toldP H, q_asP H]
theorem q_sourceP : sourceP l' = sourceP l := by
  funext σ
  simp only [sourceP, q_nameP H, q_asP H]
theorem q_groupP : groupP l' = groupP l := by
  funext σ
  simp only [groupP, q_isP H, q_need1 H, q_columnP H, q_listP H]
theorem q_selectP : selectP l' = selectP l := by
  funext m σ
  simp only [selectP, q_takeP H, q_need1 H, q_itemP H, q_sourceP H, q_listP H, q_whereP H, q_groupP H, q_withinP H]
theorem q_unionP (m : Int) : ∀ k acc σ, unionP l' m k acc σ = unionP l m k acc σ
  | 0, _, _ => rfl
  | k + 1, acc, σ => by simp only [unionP, q_isP H, q_need1 H, q_selectP H, q_unionP m k]
theorem q_queryP : queryP l' = queryP l := by
  funext m σ
  simp only [queryP, H.len, q_selectP H, q_unionP H, q_withinP H]
theorem q_modeP : modeP l' = modeP l := by
  funext σ
  simp only [modeP, q_isP H]
theorem q_keyP : keyP l' = keyP l := by
  funext σ
  simp only [keyP, q_need1 H, q_nameP H, q_listP H]
theorem q_typeP : typeP l' = typeP l := by
  funext σ
  simp only [typeP, q_isP H, q_faultP H]
theorem q_mustP : mustP l' = mustP l := by
  funext σ
  simp only [mustP, q_isP H, q_need1 H]
theorem q_colP : colP l' = colP l := by
  funext σ
  simp only [colP, q_nameP H, q_typeP H, q_mustP H]
theorem q_colsP : ∀ k acc σ, colsP l' k acc σ = colsP l k acc σ
  | 0, _, _ => rfl
  | k + 1, acc, σ => by simp only [colsP, q_isP H, q_keyP H, q_colP H, q_colsP k]
theorem q_tableP : tableP l' = tableP l := by
  funext σ
  simp only [tableP, H.len, q_nameP H, q_need1 H, q_colsP H, q_withinP H, q_emptyP H]
theorem q_viewP : viewP l' = viewP l := by
  funext m σ
  simp only [viewP, q_nameP H, q_need1 H, q_modeP H, q_emptyP H, q_queryP H]
theorem q_namedP : namedP l' = namedP l := by
  funext k σ
  simp only [namedP, q_nameP H]
theorem q_createP : createP l' = createP l := by
  funext m σ
  simp only [createP, q_isP H, q_tableP H, q_need1 H, q_namedP H, q_viewP H]
theorem q_dropP : dropP l' = dropP l := by
  funext σ
  simp only [dropP, q_isP H, q_need1 H, q_namedP H]
theorem q_tupleP : tupleP l' = tupleP l := by
  funext σ
  simp only [tupleP, q_need1 H, q_valueP H, q_listP H, q_withinP H]
theorem q_tup1P : tup1P l' = tup1P l := by
  funext σ
  simp only [tup1P, q_tupleP H]
theorem q_insertP : insertP l' = insertP l := by
  funext σ
  simp only [insertP, q_need1 H, q_nameP H, q_tup1P H, q_listP H, q_withinP H]
theorem q_deleteP : deleteP l' = deleteP l := by
  funext m σ
  simp only [deleteP, q_need1 H, q_nameP H, q_whereP H]
theorem q_setP : setP l' = setP l := by
  funext m σ
  simp only [setP, q_nameP H, q_need1 H, q_exprP H]
theorem q_updateP : updateP l' = updateP l := by
  funext m σ
  simp only [updateP, q_nameP H, q_need1 H, q_setP H, q_listP H, q_withinP H, q_whereP H]
theorem q_refreshP : refreshP l' = refreshP l := by
  funext σ
  simp only [refreshP, q_nameP H, q_modeP H, q_takeP H]
theorem q_choiceP : choiceP l' = choiceP l := by
  funext s t σ
  simp only [choiceP, q_isP H, q_need1 H]
theorem q_settingP : settingP l' = settingP l := by
  funext σ
  simp only [settingP, q_isP H, q_choiceP H, q_need1 H]
theorem q_stmtP : stmtP l' = stmtP l := by
  funext m σ
  simp only [stmtP, q_isP H, q_queryP H, q_createP H, q_dropP H, q_insertP H, q_deleteP H, q_updateP H, q_refreshP H, q_namedP H, q_need1 H, q_settingP H, q_faultP H]
theorem q_readP : readP l' = readP l := by
  funext m
  simp only [readP, q_stmtP H, q_endP H]
end
end Go.Proofs.YtneebnankghhgacGreatDoor
