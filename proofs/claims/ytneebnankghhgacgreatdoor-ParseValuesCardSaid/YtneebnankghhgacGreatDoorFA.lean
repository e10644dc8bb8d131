/- Several of my texts laid together, each as it was: Fa, Fb, Fc, Fd, Fe, Ff. Conditions: each names its own. -/
import Derived.Test.YtneebnankghhgacGreatDoorGA
import Derived.Test.YtneebnankghhgacGreatDoorGB
import Derived.Test.YtneebnankghhgacGreatDoorGC
import Derived.Test.YtneebnankghhgacGreatDoorGD
/- What the parser's plain model tells is the leaves of a statement: shapes, rule by rule. Nothing of any program here: lemmas on lists. Conditions: 513 words at most. -/
namespace Go.Proofs.YtneebnankghhgacGreatDoor
open Go.RowKit

def IsV (xs : List Lf) : Prop := ∃ (a : Nat) (b : Int) (s : List UInt8), xs = [iL a, .v (.int .i64 b), sL s]
def IsExN : Nat → List Lf → Prop
  | 0, _ => False
  | n + 1, xs => ∃ (k : Nat) (t nm : List UInt8) (v : List Lf) (args : List (List Lf)), IsV v ∧ args.length ≤ 1000 ∧ xs = exL k t nm v (rL args) ∧ ∀ x ∈ args, IsExN n x
def IsEx (xs : List Lf) : Prop := ∃ n, IsExN n xs
def IsCoN : Nat → List Lf → Prop
  | 0, _ => False
  | n + 1, xs => ∃ (k op : Nat) (a b : List Lf) (args : List (List Lf)), IsEx a ∧ IsEx b ∧ args.length ≤ 1000 ∧ xs = coL k op a b (rL args) ∧ ∀ x ∈ args, IsCoN n x
def IsCo (xs : List Lf) : Prop := ∃ n, IsCoN n xs
theorem IsExN.mono : ∀ {n m : Nat} {xs : List Lf}, n ≤ m → IsExN n xs → IsExN m xs
  | 0, _, _, _, h => h.elim
  | n + 1, 0, _, h, _ => absurd h (by omega)
  | n + 1, m + 1, xs, h, ⟨k, t, nm, v, args, hv, hl, e, hA⟩ => ⟨k, t, nm, v, args, hv, hl, e, fun x hx => IsExN.mono (Nat.le_of_succ_le_succ h) (hA x hx)⟩
theorem IsCoN.mono : ∀ {n m : Nat} {xs : List Lf}, n ≤ m → IsCoN n xs → IsCoN m xs
  | 0, _, _, _, h => h.elim
  | n + 1, 0, _, h, _ => absurd h (by omega)
  | n + 1, m + 1, xs, h, ⟨k, op, a, b, args, ha, hb, hl, e, hA⟩ => ⟨k, op, a, b, args, ha, hb, hl, e, fun x hx => IsCoN.mono (Nat.le_of_succ_le_succ h) (hA x hx)⟩
/-- A bound for all of a list. -/
theorem all_bound {α : Type} {P : Nat → α → Prop} (hP : ∀ {n m : Nat} {x : α}, n ≤ m → P n x → P m x) : ∀ (l : List α), (∀ x ∈ l, ∃ n, P n x) → ∃ n, ∀ x ∈ l, P n x
  | [], _ => ⟨0, by simp⟩
  | a :: l, h => by
    obtain ⟨n, hn⟩ := h a (by simp)
    obtain ⟨m, hm⟩ := all_bound (P := P) hP l (fun x hx => h x (by simp [hx]))
    refine ⟨max n m, fun x hx => ?_⟩
    rcases List.mem_cons.1 hx with rfl | hx
    · exact hP (Nat.le_max_left _ _) hn
    · exact hP (Nat.le_max_right _ _) (hm x hx)
theorem IsEx.mk {k : Nat} {t nm : List UInt8} {v : List Lf} {args : List (List Lf)} (hv : IsV v) (hl : args.length ≤ 1000) (hA : ∀ x ∈ args, IsEx x) : IsEx (exL k t nm v (rL args)) := by
  obtain ⟨n, hn⟩ := all_bound (P := IsExN) (fun h => IsExN.mono h) args hA
  exact ⟨n + 1, k, t, nm, v, args, hv, hl, rfl, hn⟩
theorem IsCo.mk {k op : Nat} {a b : List Lf} {args : List (List Lf)} (ha : IsEx a) (hb : IsEx b) (hl : args.length ≤ 1000) (hA : ∀ x ∈ args, IsCo x) : IsCo (coL k op a b (rL args)) := by
  obtain ⟨n, hn⟩ := all_bound (P := IsCoN) (fun h => IsCoN.mono h) args hA
  exact ⟨n + 1, k, op, a, b, args, ha, hb, hl, rfl, hn⟩
theorem isV_zV : IsV zV := ⟨0, 0, [], rfl⟩
theorem IsEx.leaf {k : Nat} {t nm : List UInt8} {v : List Lf} (hv : IsV v) : IsEx (exL k t nm v nL) := IsEx.mk (args := []) hv (by simp) (by simp)
theorem isEx_zE : IsEx zE := .leaf isV_zV
theorem isCo_zC : IsCo zC := IsCo.mk (args := []) isEx_zE isEx_zE (by simp) (by simp)
def IsIt (xs : List Lf) : Prop := ∃ (agg : Nat) (e : List Lf) (nm : List UInt8), IsEx e ∧ xs = itL agg e nm
def IsSo (xs : List Lf) : Prop := ∃ a b : List UInt8, xs = [sL a, sL b]
/-- A list of such, not too long. -/
structure Alls (P : List Lf → Prop) (l : List (List Lf)) : Prop where
  few : l.length ≤ 1000
  all : ∀ x ∈ l, P x
theorem Alls.nil (P : List Lf → Prop) : Alls P [] := ⟨by simp, by simp⟩
def IsSe (xs : List Lf) : Prop := ∃ (dis : Bool) (items from_ : List (List Lf)) (wh : List Lf) (gr : List (List Lf)), Alls IsIt items ∧ Alls IsSo from_ ∧ IsCo wh ∧ Alls IsEx gr ∧ xs = seL dis items from_ wh gr
def IsCl (xs : List Lf) : Prop := ∃ (a : List UInt8) (b : Nat) (c : Bool), xs = [sL a, iL b, .v (.bool c)]
def IsKe (xs : List Lf) : Prop := ∃ a : List UInt8, xs = [sL a]
def IsRo (xs : List Lf) : Prop := ∃ vs : List (List Lf), Alls IsV vs ∧ xs = [rL vs]
def IsNv (xs : List Lf) : Prop := ∃ (a : List UInt8) (e : List Lf), IsEx e ∧ xs = sL a :: e
structure IsSt (x : SM) : Prop where
  cols : Alls IsCl x.cols
  keys : Alls IsKe x.keys
  parts : Alls IsSe x.parts
  rows : Alls IsRo x.rows
  sets : Alls IsNv x.sets
  wh : IsCo x.wh
theorem isSt_zS : IsSt zS := ⟨.nil _, .nil _, .nil _, .nil _, .nil _, isCo_zC⟩

section
variable {l : List Wd}
theorem s_more {α : Type} {P : α → Prop} {sep : List UInt8} {one : PS → α × PS} (h : ∀ σ, P (one σ).1) : ∀ k acc σ, (∀ x ∈ acc, P x) → (∀ x ∈ (moreP l sep one k acc σ).1, P x) ∧ (moreP l sep one k acc σ).1.length ≤ acc.length + k
  | 0, acc, σ, ha => ⟨ha, Nat.le_refl _⟩
  | k + 1, acc, σ, ha => by
    simp only [moreP]
    split
    · obtain ⟨h1, h2⟩ := s_more (sep := sep) h k (acc ++ [(one ⟨σ.i + 1, σ.e⟩).1]) (one ⟨σ.i + 1, σ.e⟩).2 (fun x hx => by
        rcases List.mem_append.1 hx with hx | hx
        · exact ha x hx
        · rw [List.mem_singleton.1 hx]; exact h _)
      exact ⟨h1, by simp at h2; omega⟩
    · exact ⟨ha, by dsimp only; omega⟩
theorem s_list {P : List Lf → Prop} {one : PS → List Lf × PS} (hl : l.length ≤ 513) (h : ∀ σ, P (one σ).1) (σ : PS) : Alls P (listP l one σ).1 := by
  obtain ⟨h1, h2⟩ := s_more (l := l) (sep := [44]) h l.length [(one σ).1] (one σ).2 (fun x hx => by rw [List.mem_singleton.1 hx]; exact h _)
  exact ⟨by simp at h2; unfold listP; omega, h1⟩
theorem s_num (b : Bool) (σ : PS) : IsV (numP l b σ).1 := by
  unfold numP
  split
  · exact isV_zV
  · exact ⟨1, _, [], rfl⟩
theorem s_value (σ : PS) : IsV (valueP l σ).1 := by
  unfold valueP
  split
  · exact isV_zV
  split
  · exact ⟨2, 1, [], rfl⟩
  split
  · exact ⟨2, 0, [], rfl⟩
  split
  · unfold textP
    split
    · exact isV_zV
    · exact ⟨3, 0, _, rfl⟩
  · exact s_num _ _
theorem s_column (σ : PS) : IsEx (columnP l σ).1 := by
  unfold columnP
  split <;> exact .leaf isV_zV
theorem s_operand (σ : PS) : IsEx (operandP l σ).1 := by
  unfold operandP
  split
  · exact .leaf (s_value σ)
  · exact s_column σ
theorem IsEx.two {k : Nat} {a b : List Lf} (ha : IsEx a) (hb : IsEx b) : IsEx (opTwo k a b) :=
  IsEx.mk (args := [a, b]) isV_zV (by simp) (fun x hx => by
    rcases List.mem_cons.1 hx with rfl | hx
    · exact ha
    · rw [List.mem_singleton.1 hx]; exact hb)
theorem s_mul {fac : PS → List Lf × PS} (h : ∀ σ, IsEx (fac σ).1) : ∀ k e σ, IsEx e → IsEx (mulP l fac k e σ).1
  | 0, _, _, he => he
  | k + 1, e, σ, he => by
    simp only [mulP]
    split
    · exact s_mul h k _ _ (.two he (h _))
    · exact he
theorem s_term {fac : PS → List Lf × PS} (h : ∀ σ, IsEx (fac σ).1) (σ : PS) : IsEx (termP l fac σ).1 := s_mul h _ _ _ (h _)
theorem s_add {fac : PS → List Lf × PS} (h : ∀ σ, IsEx (fac σ).1) : ∀ k e σ, IsEx e → IsEx (addP l fac k e σ).1
  | 0, _, _, he => he
  | k + 1, e, σ, he => by
    simp only [addP]
    split
    · exact s_add h k _ _ (.two he (s_term h _))
    split
    · exact s_add h k _ _ (.two he (s_term h _))
    · exact he
theorem s_exprOf {fac : PS → List Lf × PS} (h : ∀ σ, IsEx (fac σ).1) (σ : PS) : IsEx (exprOf l fac σ).1 := s_add h _ _ _ (s_term h _)
theorem s_factor (m : Int) : ∀ n d σ, IsEx (factorP l m n d σ).1
  | 0, _, _ => isEx_zE
  | n + 1, d, σ => by
    simp only [factorP]
    split
    · exact s_operand σ
    split
    · exact s_exprOf (s_factor m n (d + 1)) _
    split
    · exact IsEx.mk (args := [_]) isV_zV (by simp) (fun x hx => by rw [List.mem_singleton.1 hx]; exact s_factor m n (d + 1) _)
    · exact s_operand σ
theorem s_expr (m : Int) (d : Nat) (σ : PS) : IsEx (exprP l m d σ).1 := s_exprOf (s_factor m _ d) σ
theorem s_compared (σ : PS) : IsCo (comparedP l σ).1 := by
  unfold comparedP compP
  split
  · split <;> exact IsCo.mk (args := []) (s_operand σ) isEx_zE (by simp) (by simp)
  · exact IsCo.mk (args := []) (s_operand σ) (s_operand _) (by simp) (by simp)
theorem s_joined (hl : l.length ≤ 513) {k : Nat} {sep : List UInt8} {one : PS → List Lf × PS} (h : ∀ σ, IsCo (one σ).1) (σ : PS) : IsCo (joinedP l k sep one σ).1 := by
  unfold joinedP
  split
  · obtain ⟨h1, h2⟩ := s_more (l := l) (sep := sep) h l.length [(one σ).1] (one σ).2 (fun x hx => by rw [List.mem_singleton.1 hx]; exact h _)
    exact IsCo.mk isEx_zE isEx_zE (by simp at h2; omega) h1
  · exact h σ
theorem s_condOf (hl : l.length ≤ 513) {f : PS → List Lf × PS} (h : ∀ σ, IsCo (f σ).1) (σ : PS) : IsCo (condOf l f σ).1 := s_joined hl (s_joined hl h) σ
theorem s_simple (hl : l.length ≤ 513) (m : Int) : ∀ n d σ, IsCo (simpleP l m n d σ).1
  | 0, _, _ => isCo_zC
  | n + 1, d, σ => by
    simp only [simpleP]
    split
    · exact IsCo.mk (args := [_]) isEx_zE isEx_zE (by simp) (fun x hx => by rw [List.mem_singleton.1 hx]; exact s_simple hl m n (d + 1) _)
    split
    · exact s_condOf hl (s_simple hl m n (d + 1)) _
    · exact s_compared σ
theorem s_where (hl : l.length ≤ 513) (m : Int) (σ : PS) : IsCo (whereP l m σ).1 := by
  unfold whereP
  split
  · exact s_condOf hl (s_simple hl m _ 0) _
  · exact isCo_zC
theorem s_told (m : Int) (σ : PS) : IsEx (toldP l m σ).1.2 := by
  unfold toldP
  split
  · unfold countP
    split
    · exact isEx_zE
    · exact s_expr m 0 _
  split
  · exact s_expr m 0 _
  split
  · exact s_expr m 0 _
  split
  · exact s_expr m 0 _
  · exact s_expr m 0 _
theorem s_item (m : Int) (σ : PS) : IsIt (itemP l m σ).1 := ⟨_, _, _, s_told m σ, rfl⟩
theorem s_source (σ : PS) : IsSo (sourceP l σ).1 := ⟨_, _, rfl⟩
theorem s_group (hl : l.length ≤ 513) (σ : PS) : Alls IsEx (groupP l σ).1 := by
  unfold groupP
  split
  · exact s_list hl s_column _
  · exact .nil _
theorem s_select (hl : l.length ≤ 513) (m : Int) (σ : PS) : IsSe (selectP l m σ).1 := ⟨_, _, _, _, _, s_list hl (s_item m) _, s_list hl s_source _, s_where hl m _, s_group hl _, rfl⟩
theorem s_union (hl : l.length ≤ 513) (m : Int) : ∀ k acc σ, (∀ x ∈ acc, IsSe x) → (∀ x ∈ (unionP l m k acc σ).1, IsSe x) ∧ (unionP l m k acc σ).1.length ≤ acc.length + k
  | 0, acc, σ, ha => ⟨ha, Nat.le_refl _⟩
  | k + 1, acc, σ, ha => by
    simp only [unionP]
    split
    · obtain ⟨h1, h2⟩ := s_union hl m k (acc ++ [(selectP l m (need1 l [97, 108, 108] ⟨σ.i + 1, σ.e⟩)).1]) (selectP l m (need1 l [97, 108, 108] ⟨σ.i + 1, σ.e⟩)).2 (fun x hx => by
        rcases List.mem_append.1 hx with hx | hx
        · exact ha x hx
        · rw [List.mem_singleton.1 hx]; exact s_select hl m _)
      exact ⟨h1, by simp at h2; omega⟩
    · exact ⟨ha, by dsimp only; omega⟩
theorem s_query (hl : l.length ≤ 513) (m : Int) (σ : PS) : Alls IsSe (queryP l m σ).1 := by
  obtain ⟨h1, h2⟩ := s_union hl m l.length [(selectP l m σ).1] (selectP l m σ).2 (fun x hx => by rw [List.mem_singleton.1 hx]; exact s_select hl m _)
  exact ⟨by simp at h2; unfold queryP; dsimp only; omega, h1⟩
theorem s_key (hl : l.length ≤ 513) (σ : PS) : Alls IsKe (keyP l σ).1 := s_list hl (one := fun σ => ([sL (nameP l σ).1], (nameP l σ).2)) (fun _ => ⟨_, rfl⟩) _
theorem s_col (σ : PS) : IsCl (colP l σ).1 := ⟨_, _, _, rfl⟩
theorem s_cols (hl : l.length ≤ 513) : ∀ k acc σ, (∀ x ∈ acc, IsCl x) → (∀ x ∈ (colsP l k acc σ).1.1, IsCl x) ∧ (colsP l k acc σ).1.1.length ≤ acc.length + k ∧ Alls IsKe (colsP l k acc σ).1.2
  | 0, acc, σ, ha => ⟨ha, Nat.le_refl _, .nil _⟩
  | k + 1, acc, σ, ha => by
    have hA : ∀ x ∈ acc ++ [(colP l σ).1], IsCl x := fun x hx => by
      rcases List.mem_append.1 hx with hx | hx
      · exact ha x hx
      · rw [List.mem_singleton.1 hx]; exact s_col _
    simp only [colsP]
    split
    · exact ⟨ha, by dsimp only; omega, s_key hl _⟩
    split
    · obtain ⟨h1, h2, h3⟩ := s_cols hl k (acc ++ [(colP l σ).1]) ⟨(colP l σ).2.i + 1, (colP l σ).2.e⟩ hA
      exact ⟨h1, by simp at h2; omega, h3⟩
    · exact ⟨hA, by simp, .nil _⟩
theorem s_table (hl : l.length ≤ 513) (σ : PS) : IsSt (tableP l σ).1 := by
  obtain ⟨h1, h2, h3⟩ := s_cols hl l.length [] (need1 l [40] (nameP l σ).2) (by simp)
  exact ⟨⟨by simp at h2; show (colsP l l.length [] (need1 l [40] (nameP l σ).2)).1.1.length ≤ 1000; omega, h1⟩, h3, .nil _, .nil _, .nil _, isCo_zC⟩
theorem s_named (k : Nat) (σ : PS) : IsSt (namedP l k σ).1 := ⟨.nil _, .nil _, .nil _, .nil _, .nil _, isCo_zC⟩
theorem s_view (hl : l.length ≤ 513) (m : Int) (σ : PS) : IsSt (viewP l m σ).1 := ⟨.nil _, .nil _, s_query hl m _, .nil _, .nil _, isCo_zC⟩
theorem s_tup1 (hl : l.length ≤ 513) (σ : PS) : IsRo (tup1P l σ).1 := ⟨_, s_list hl s_value _, rfl⟩
theorem s_insert (hl : l.length ≤ 513) (σ : PS) : IsSt (insertP l σ).1 := ⟨.nil _, .nil _, .nil _, s_list hl (s_tup1 hl) _, .nil _, isCo_zC⟩
theorem s_delete (hl : l.length ≤ 513) (m : Int) (σ : PS) : IsSt (deleteP l m σ).1 := ⟨.nil _, .nil _, .nil _, .nil _, .nil _, s_where hl m _⟩
theorem s_set (m : Int) (σ : PS) : IsNv (setP l m σ).1 := ⟨_, _, s_expr m 0 _, rfl⟩
theorem s_update (hl : l.length ≤ 513) (m : Int) (σ : PS) : IsSt (updateP l m σ).1 := ⟨.nil _, .nil _, .nil _, .nil _, s_list hl (s_set m) _, s_where hl m _⟩
theorem s_refresh (σ : PS) : IsSt (refreshP l σ).1 := ⟨.nil _, .nil _, .nil _, .nil _, .nil _, isCo_zC⟩
theorem s_setting (σ : PS) : IsSt (settingP l σ).1 := by
  unfold settingP
  split <;> exact ⟨.nil _, .nil _, .nil _, .nil _, .nil _, isCo_zC⟩
theorem s_stmt (hl : l.length ≤ 513) (m : Int) (σ : PS) : IsSt (stmtP l m σ).1 := by
  unfold stmtP
  split
  · exact ⟨.nil _, .nil _, s_query hl m _, .nil _, .nil _, isCo_zC⟩
  split
  · unfold createP
    split
    · exact s_table hl _
    split
    · exact s_named _ _
    · exact s_view hl m _
  split
  · unfold dropP
    split
    · exact s_named _ _
    split
    · exact s_named _ _
    · exact s_named _ _
  split
  · exact s_insert hl _
  split
  · exact s_delete hl m _
  split
  · exact s_update hl m _
  split
  · exact s_refresh _
  split
  · exact s_named _ _
  split
  · exact s_setting _
  split
  · exact s_named _ _
  · exact isSt_zS
theorem s_read (hl : l.length ≤ 513) (m : Int) : IsSt (readP l m).1 := by
  unfold readP
  dsimp only
  split
  · exact s_stmt hl m _
  · exact isSt_zS
end
end Go.Proofs.YtneebnankghhgacGreatDoor

/- The reference's Same of two expressions that have the same leaves: it answers true: a contract of the call. Conditions: each names its own. -/
namespace Go.Proofs.YtneebnankghhgacGreatDoor
open Go.RowKit

/-- Any block. -/
def anyB : Nat → Prop := fun _ => True
theorem LsAt.any {w w' : World} {P : Nat → Prop} {xs : List Lf} {us : List Value} (h : LsAt w P xs us) (hb : Below w.heap.size w w') : LsAt w' anyB xs us := h.keep (fun b _ hlt => ⟨trivial, hb.block b hlt⟩) hb.size
theorem LfAt.any {w w' : World} {P : Nat → Prop} {x : Lf} {u : Value} (h : LfAt w P x u) (hb : Below w.heap.size w w') : LfAt w' anyB x u := h.keep (fun b _ hlt => ⟨trivial, hb.block b hlt⟩) hb.size
theorem flat_at {k : Nat} {α : Type} : ∀ (ls : List (List α)), (∀ x ∈ ls, x.length = k) → ∀ (i : Nat) (hi : i < ls.length) (j : Nat), j < k → ls.flatten[i * k + j]? = (ls[i])[j]?
  | [], _, i, hi, _, _ => absurd hi (by simp)
  | x :: ls, h, 0, _, j, hj => by
    have hx := h x (by simp)
    rw [List.flatten_cons, Nat.zero_mul, Nat.zero_add, List.getElem?_append_left (by omega)]
    rfl
  | x :: ls, h, i + 1, hi, j, hj => by
    have hx := h x (by simp)
    rw [List.flatten_cons, List.getElem?_append_right (by rw [hx, Nat.succ_mul]; omega), hx, show (i + 1) * k + j - k = i * k + j by rw [Nat.succ_mul]; omega]
    exact flat_at ls (fun y hy => h y (by simp [hy])) i (by simpa using hi) j hj
theorem flat_len {k : Nat} {α : Type} : ∀ (ls : List (List α)), (∀ x ∈ ls, x.length = k) → ls.flatten.length = ls.length * k
  | [], _ => by simp
  | x :: ls, h => by
    rw [List.flatten_cons, List.length_append, flat_len ls (fun y hy => h y (by simp [hy])), h x (by simp), List.length_cons, Nat.succ_mul]
    omega
/-- A row of structs of k cells: each by itself. -/
structure RowX (w : World) (k : Nat) (args : List (List Lf)) (p : Option Addr) : Prop where
  out : ∀ i (hi : i < args.length), ∃ b o us, p = some ⟨b, o, none⟩ ∧ b < w.heap.size ∧ us.length = k ∧ LsAt w anyB args[i] us ∧ w.rangeAt b (o + i * k) us
theorem rangeAt_block {w w' : World} {b o : Nat} {us : List Value} (h : w.rangeAt b o us) (hb : w'.heap[b]? = w.heap[b]?) : w'.rangeAt b o us :=
  fun j v hv => (World.cell?_of_block (a := ⟨b, o + j, none⟩) hb).trans (h j v hv)
theorem RowX.later {w w' : World} {k : Nat} {args : List (List Lf)} {p : Option Addr} (h : RowX w k args p) (hb : Below w.heap.size w w') : RowX w' k args p :=
  ⟨fun i hi => by
    obtain ⟨b, o, us, e, hlt, hl, hA, hR⟩ := h.out i hi
    exact ⟨b, o, us, e, Nat.lt_of_lt_of_le hlt hb.size, hl, hA.any hb, rangeAt_block hR (hb.block b hlt)⟩⟩
theorem row_parts {w : World} {P : Nat → Prop} {k : Nat} {args : List (List Lf)} {u : Value} (hk : k ≠ 0) (h : LfAt w P (rL args) u) (hA : ∀ x ∈ args, x.length = k) :
    ∃ p c, u = .slice p args.length c ∧ RowX w k args p := by
  have h2 : LfAt w P (.s args.length args.flatten) u := h
  cases h2 with
  | s n ls us p c hl hn hn2 hs hc =>
    refine ⟨p, c, rfl, ⟨fun i hi => ?_⟩⟩
    have hfl := flat_len args hA
    have hmul : (i + 1) * k ≤ args.length * k := Nat.mul_le_mul_right k hi
    rw [Nat.succ_mul] at hmul
    have hne : args.flatten ≠ [] := by
      intro e
      have hpos : 0 < args.length * k := Nat.mul_pos (by omega) (by omega)
      rw [e, List.length_nil] at hfl
      exact absurd hfl.symm (Nat.ne_of_gt hpos)
    obtain ⟨b, o, e, _, hlt, hcell⟩ := hc hne
    have hlx : (args[i]).length = k := hA _ (List.getElem_mem hi)
    refine ⟨b, o, (us.drop (i * k)).take k, e, hlt, by rw [List.length_take, List.length_drop]; omega, ⟨by rw [List.length_take, List.length_drop, hlx]; omega, fun j x v hx hv => ?_⟩, fun j v hv => ?_⟩
    · have hj : j < k := by
        rcases Nat.lt_or_ge j k with h | h
        · exact h
        · rw [List.getElem?_eq_none (by omega)] at hx; cases hx
      rw [List.getElem?_take_of_lt hj, List.getElem?_drop] at hv
      exact (hs (i * k + j) x v ((flat_at args hA i hi j hj).trans hx) hv).any (Below.refl _ _)
    · have hj : j < k := by
        rcases Nat.lt_or_ge j k with h | h
        · exact h
        · rw [List.getElem?_eq_none (by rw [List.length_take]; omega)] at hv; cases hv
      rw [List.getElem?_take_of_lt hj, List.getElem?_drop] at hv
      rw [show o + i * k + j = o + (i * k + j) by omega]
      exact hcell (i * k + j) v hv
theorem LsAt.uncons {w : World} {P : Nat → Prop} {x : Lf} {xs : List Lf} {us : List Value} (h : LsAt w P (x :: xs) us) : ∃ u vs, us = u :: vs ∧ LfAt w P x u ∧ LsAt w P xs vs := by
  cases us with
  | nil => have := h.len; simp at this
  | cons u vs => exact ⟨u, vs, rfl, h.out 0 x u rfl rfl, ⟨by have := h.len; simpa using this, fun i y v hy hv => h.out (i + 1) y v (by simpa using hy) (by simpa using hv)⟩⟩
theorem LsAt.unnil {w : World} {P : Nat → Prop} {us : List Value} (h : LsAt w P [] us) : us = [] := List.length_eq_zero_iff.1 (by have := h.len; simpa using this)
theorem LsAt.split {w : World} {P : Nat → Prop} {xs ys : List Lf} {us : List Value} (h : LsAt w P (xs ++ ys) us) : ∃ vs ws, us = vs ++ ws ∧ LsAt w P xs vs ∧ LsAt w P ys ws := by
  have hl := h.len
  rw [List.length_append] at hl
  refine ⟨us.take xs.length, us.drop xs.length, (List.take_append_drop _ _).symm, ⟨by rw [List.length_take]; omega, fun i x u hx hu => ?_⟩, ⟨by rw [List.length_drop]; omega, fun i x u hx hu => ?_⟩⟩
  · have hi : i < xs.length := by
      rcases Nat.lt_or_ge i xs.length with h | h
      · exact h
      · rw [List.getElem?_eq_none h] at hx; cases hx
    rw [List.getElem?_take_of_lt hi] at hu
    exact h.out i x u ((List.getElem?_append_left hi).trans hx) hu
  · rw [List.getElem?_drop] at hu
    exact h.out (xs.length + i) x u ((List.getElem?_append_right (by omega)).trans (by rw [show xs.length + i - xs.length = i by omega]; exact hx)) hu
theorem LfAt.val {w : World} {P : Nat → Prop} {x u : Value} (h : LfAt w P (.v x) u) : u = x := by cases h; rfl
theorem v_parts {w : World} {P : Nat → Prop} {a : Nat} {b : Int} {s : List UInt8} {us : List Value} (h : LsAt w P [iL a, .v (.int .i64 b), sL s] us) : us = [.int .i64 (a : Nat), .int .i64 b, .string (txt s)] := by
  obtain ⟨u0, r0, rfl, h0, h⟩ := h.uncons
  obtain ⟨u1, r1, rfl, h1, h⟩ := h.uncons
  obtain ⟨u2, r2, rfl, h2, h3⟩ := h.uncons
  obtain rfl := LsAt.unnil h3
  obtain rfl := LfAt.val h0
  obtain rfl := LfAt.val h1
  obtain rfl := LfAt.val h2
  rfl
theorem isEx_len {n : Nat} {xs : List Lf} (h : IsExN n xs) : xs.length = 7 := by
  cases n with
  | zero => exact h.elim
  | succ n => obtain ⟨k, t, nm, v, args, ⟨a, b, s, rfl⟩, _, rfl, _⟩ := h; rfl
theorem ex_parts {w : World} {P : Nat → Prop} {k a : Nat} {b : Int} {t nm s : List UInt8} {args : List (List Lf)} {us : List Value} (h : LsAt w P (exL k t nm [iL a, .v (.int .i64 b), sL s] (rL args)) us) (hA : ∀ x ∈ args, x.length = 7) :
    ∃ p c, us = [.int .i64 (k : Nat), .string (txt t), .string (txt nm), .int .i64 (a : Nat), .int .i64 b, .string (txt s), .slice p args.length c] ∧ RowX w 7 args p := by
  replace h : LsAt w P [iL k, sL t, sL nm, iL a, .v (.int .i64 b), sL s, rL args] us := h
  obtain ⟨u0, r0, rfl, h0, h⟩ := h.uncons
  obtain ⟨u1, r1, rfl, h1, h⟩ := h.uncons
  obtain ⟨u2, r2, rfl, h2, h⟩ := h.uncons
  obtain ⟨u3, r3, rfl, h3, h⟩ := h.uncons
  obtain ⟨u4, r4, rfl, h4, h⟩ := h.uncons
  obtain ⟨u5, r5, rfl, h5, h⟩ := h.uncons
  obtain ⟨u6, r6, rfl, h6, h7⟩ := h.uncons
  obtain ⟨p, c, rfl, hp⟩ := row_parts (by decide) h6 hA
  obtain rfl := LsAt.unnil h7
  obtain rfl := LfAt.val h0
  obtain rfl := LfAt.val h1
  obtain rfl := LfAt.val h2
  obtain rfl := LfAt.val h3
  obtain rfl := LfAt.val h4
  obtain rfl := LfAt.val h5
  exact ⟨p, c, rfl, hp⟩
theorem VarB.two {w : World} (us vs : List Value) (ty : TypeId) : VarB ((w.alloc (.cells us.toArray ty)).alloc (.cells vs.toArray ty)) w.heap.size us ∧ VarB ((w.alloc (.cells us.toArray ty)).alloc (.cells vs.toArray ty)) (w.heap.size + 1) vs := by
  refine ⟨(VarB.new w us ty).alloc _, ?_⟩
  have := VarB.new (w.alloc (.cells us.toArray ty)) vs ty
  rwa [World.size_alloc] at this
theorem VarB.below {w w' : World} {B : Nat} {us : List Value} (h : VarB w B us) (hb : Below w.heap.size w w') : VarB w' B us := h.keep (hb.block B h.lt) hb.size
/-- Two structs in their blocks, and two more somewhere. -/
structure SameS (w0 : World) (A B : Nat) (us vs : List Value) (b1 o1 b2 o2 : Nat) (xs ys : List Value) (w : World) : Prop where
  a : VarB w A us
  b : VarB w B vs
  x : w.rangeAt b1 o1 xs
  y : w.rangeAt b2 o2 ys
  bel : Below w0.heap.size w0 w

section
variable {w0 w w' : World} {A B b1 o1 b2 o2 : Nat} {us vs xs ys : List Value}
theorem SameS.drew (h : SameS w0 A B us vs b1 o1 b2 o2 xs ys w) : SameS w0 A B us vs b1 o1 b2 o2 xs ys w.drew := ⟨h.a.drew, h.b.drew, rangeAt_block h.x rfl, rangeAt_block h.y rfl, h.bel.drew⟩
theorem SameS.below (h : SameS w0 A B us vs b1 o1 b2 o2 xs ys w) (hx : b1 < w.heap.size) (hy : b2 < w.heap.size) (hb : Below w.heap.size w w') : SameS w0 A B us vs b1 o1 b2 o2 xs ys w' := ⟨h.a.below hb, h.b.below hb, rangeAt_block h.x (hb.block b1 hx), rangeAt_block h.y (hb.block b2 hy), below_through hb h.bel.size h.bel⟩
end

end Go.Proofs.YtneebnankghhgacGreatDoor

/- The reference's Same of two conditions that have the same leaves: it answers true: a contract of the call. Conditions: each names its own. -/
namespace Go.Proofs.YtneebnankghhgacGreatDoor
open Go.RowKit

theorem isEx_len' {xs : List Lf} (h : IsEx xs) : xs.length = 7 := by obtain ⟨n, h⟩ := h; exact isEx_len h
theorem isCoN_len {n : Nat} {xs : List Lf} (h : IsCoN n xs) : xs.length = 17 := by
  cases n with
  | zero => exact h.elim
  | succ n => obtain ⟨k, op, a, b, args, ha, hb, _, rfl, _⟩ := h; simp [coL, isEx_len' ha, isEx_len' hb]
theorem isCo_len {xs : List Lf} (h : IsCo xs) : xs.length = 17 := by obtain ⟨n, h⟩ := h; exact isCoN_len h
theorem co_parts {w : World} {P : Nat → Prop} {k op : Nat} {a b : List Lf} {args : List (List Lf)} {us : List Value} (h : LsAt w P (coL k op a b (rL args)) us) (hA : ∀ x ∈ args, x.length = 17) :
    ∃ ua ub p c, us = .int .i64 (k : Nat) :: .int .i64 (op : Nat) :: (ua ++ ub ++ [.slice p args.length c]) ∧ LsAt w P a ua ∧ LsAt w P b ub ∧ RowX w 17 args p := by
  replace h : LsAt w P (iL k :: iL op :: (a ++ b ++ [rL args])) us := h
  obtain ⟨u0, r0, rfl, h0, h1⟩ := h.uncons
  obtain ⟨u1, r1, rfl, h2, h3⟩ := h1.uncons
  obtain ⟨uab, uc, rfl, h4, h5⟩ := h3.split
  obtain ⟨ua, ub, rfl, h6, h7⟩ := h4.split
  obtain ⟨u2, r2, rfl, h8, h9⟩ := h5.uncons
  obtain rfl := LsAt.unnil h9
  obtain rfl := LfAt.val h0
  obtain rfl := LfAt.val h2
  obtain ⟨p, c, rfl, hp⟩ := row_parts (by decide) h8 hA
  exact ⟨ua, ub, p, c, rfl, h6, h7, hp⟩
theorem wp_getG {P : Program} {ops : Array Oper} {rest : List Oper} {a : Act} {w : World} {Q : Exit → Act → World → Prop} {B o : Nat} {us : List Value} {dst : Option Nat} {ty tt : TypeId} {x : Operand} {pos : String} {af : Array Edge} {gd : Option (Nat × Bool)} (hR : w.rangeAt B o us) (hw : Region.wanted ⟨dst, .load ty x, tt, pos, af, gd⟩ (yielded ops a.tmps) = true) {d : TypeDesc} (hu : P.underlying ty = some d) (hd : d.isRow = true) (hi : (P.info? ty).map (·.size) = some us.length)
    (hx : a.eval x = .pointer (some ⟨B, o, none⟩)) (h : wpList P ops Q rest (a.put dst (.agg us.toArray)) w) : wpList P ops Q (⟨dst, .load ty x, tt, pos, af, gd⟩ :: rest) a w :=
  BigFrame.wpList_want hw (fun _ hK => wp_load_mid ty x rfl B o hx us d hR hu hd hi (hK _ _ h))
theorem range0 {w : World} {b o : Nat} {x : Value} {xs : List Value} (h : w.rangeAt b o (x :: xs)) : w.cell? ⟨b, o, none⟩ = some x := h 0 x rfl
theorem range_mid {w : World} {b o : Nat} {xs ys zs : List Value} (h : w.rangeAt b o (xs ++ (ys ++ zs))) : w.rangeAt b (o + xs.length) ys := fun j v hv => by
  have hj : j < ys.length := by
    rcases Nat.lt_or_ge j ys.length with h | h
    · exact h
    · rw [List.getElem?_eq_none h] at hv; cases hv
  rw [Nat.add_assoc]
  exact h (xs.length + j) v (by rw [List.getElem?_append_right (by omega), show xs.length + j - xs.length = j by omega, List.getElem?_append_left hj]; exact hv)

end Go.Proofs.YtneebnankghhgacGreatDoor

/- The reference's Same of two selects that have the same leaves: it answers true: a contract of the call. Conditions: each names its own. -/
namespace Go.Proofs.YtneebnankghhgacGreatDoor
open Go.RowKit

theorem isIt_len {xs : List Lf} (h : IsIt xs) : xs.length = 9 := by obtain ⟨agg, e, nm, he, rfl⟩ := h; simp [itL, isEx_len' he]
theorem isSo_len {xs : List Lf} (h : IsSo xs) : xs.length = 2 := by obtain ⟨a, b, rfl⟩ := h; rfl
theorem isSe_len {xs : List Lf} (h : IsSe xs) : xs.length = 21 := by obtain ⟨dis, it, fr, wh, gr, _, _, hw, _, rfl⟩ := h; simp [seL, isCo_len hw]
theorem se_parts {w : World} {P : Nat → Prop} {dis : Bool} {items from_ gr : List (List Lf)} {wh : List Lf} {us : List Value} (h : LsAt w P (seL dis items from_ wh gr) us) (h1 : Alls IsIt items) (h2 : Alls IsSo from_) (h3 : Alls IsEx gr) :
    ∃ p1 c1 p2 c2 uw p3 c3, us = .bool dis :: .slice p1 items.length c1 :: .slice p2 from_.length c2 :: (uw ++ [.slice p3 gr.length c3]) ∧ LsAt w P wh uw ∧ RowX w 9 items p1 ∧ RowX w 2 from_ p2 ∧ RowX w 7 gr p3 := by
  replace h : LsAt w P (.v (.bool dis) :: rL items :: rL from_ :: (wh ++ [rL gr])) us := h
  obtain ⟨u0, r0, rfl, k0, g1⟩ := h.uncons
  obtain ⟨u1, r1, rfl, k1, g2⟩ := g1.uncons
  obtain ⟨u2, r2, rfl, k2, g3⟩ := g2.uncons
  obtain ⟨uw, uc, rfl, k3, g4⟩ := g3.split
  obtain ⟨u4, r4, rfl, k4, g5⟩ := g4.uncons
  obtain rfl := LsAt.unnil g5
  obtain rfl := LfAt.val k0
  obtain ⟨p1, c1, rfl, hp1⟩ := row_parts (by decide) k1 (fun x hx => isIt_len (h1.all x hx))
  obtain ⟨p2, c2, rfl, hp2⟩ := row_parts (by decide) k2 (fun x hx => isSo_len (h2.all x hx))
  obtain ⟨p3, c3, rfl, hp3⟩ := row_parts (by decide) k4 (fun x hx => isEx_len' (h3.all x hx))
  exact ⟨p1, c1, p2, c2, uw, p3, c3, rfl, k3, hp1, hp2, hp3⟩
theorem it_parts {w : World} {P : Nat → Prop} {agg : Nat} {e : List Lf} {nm : List UInt8} {us : List Value} (h : LsAt w P (itL agg e nm) us) : ∃ ue, us = .int .i64 (agg : Nat) :: (ue ++ [.string (txt nm)]) ∧ LsAt w P e ue := by
  replace h : LsAt w P (iL agg :: (e ++ [sL nm])) us := h
  obtain ⟨u0, r0, rfl, k0, g1⟩ := h.uncons
  obtain ⟨ue, uc, rfl, k1, g2⟩ := g1.split
  obtain ⟨u2, r2, rfl, k2, g3⟩ := g2.uncons
  obtain rfl := LsAt.unnil g3
  obtain rfl := LfAt.val k0
  obtain rfl := LfAt.val k2
  exact ⟨ue, rfl, k1⟩
theorem so_parts {w : World} {P : Nat → Prop} {a b : List UInt8} {us : List Value} (h : LsAt w P [sL a, sL b] us) : us = [.string (txt a), .string (txt b)] := by
  obtain ⟨u0, r0, rfl, k0, g1⟩ := h.uncons
  obtain ⟨u1, r1, rfl, k1, g2⟩ := g1.uncons
  obtain rfl := LsAt.unnil g2
  obtain rfl := LfAt.val k0
  obtain rfl := LfAt.val k1
  rfl

end Go.Proofs.YtneebnankghhgacGreatDoor

/- The reference's Same of two lists of rows that have the same leaves: it answers true: a contract of the call. Conditions: each names its own. -/
namespace Go.Proofs.YtneebnankghhgacGreatDoor
open Go.RowKit

/-- Two cells somewhere. -/
structure SameC (w0 : World) (b1 e1 b2 e2 : Nat) (s1 s2 : Value) (w : World) : Prop where
  x : w.cell? ⟨b1, e1, none⟩ = some s1
  y : w.cell? ⟨b2, e2, none⟩ = some s2
  bel : Below w0.heap.size w0 w
/-- Two cells, and two structs of three cells. -/
structure SameD (w0 : World) (b1 e1 b2 e2 : Nat) (s1 s2 : Value) (g1 f1 g2 f2 : Nat) (xs : List Value) (w : World) : Prop where
  x : w.cell? ⟨b1, e1, none⟩ = some s1
  y : w.cell? ⟨b2, e2, none⟩ = some s2
  p : w.rangeAt g1 f1 xs
  q : w.rangeAt g2 f2 xs
  bel : Below w0.heap.size w0 w
theorem isRo_len {xs : List Lf} (h : IsRo xs) : xs.length = 1 := by obtain ⟨vs, _, rfl⟩ := h; rfl
theorem isV_len {xs : List Lf} (h : IsV xs) : xs.length = 3 := by obtain ⟨a, b, s, rfl⟩ := h; rfl
theorem ro_parts {w : World} {P : Nat → Prop} {vs : List (List Lf)} {us : List Value} (h : LsAt w P [rL vs] us) (hv : Alls IsV vs) : ∃ p c, us = [.slice p vs.length c] ∧ RowX w 3 vs p := by
  obtain ⟨u0, r0, rfl, k0, g1⟩ := h.uncons
  obtain rfl := LsAt.unnil g1
  obtain ⟨p, c, rfl, hp⟩ := row_parts (by decide) k0 (fun x hx => isV_len (hv.all x hx))
  exact ⟨p, c, rfl, hp⟩

end Go.Proofs.YtneebnankghhgacGreatDoor

/- The reference's Same of two statements that have the same leaves: it answers true: a contract of the call. Conditions: each names its own. -/
namespace Go.Proofs.YtneebnankghhgacGreatDoor
open Go.RowKit

theorem isCl_len {xs : List Lf} (h : IsCl xs) : xs.length = 3 := by obtain ⟨a, b, c, rfl⟩ := h; rfl
theorem isKe_len {xs : List Lf} (h : IsKe xs) : xs.length = 1 := by obtain ⟨a, rfl⟩ := h; rfl
theorem isNv_len {xs : List Lf} (h : IsNv xs) : xs.length = 8 := by obtain ⟨a, e, he, rfl⟩ := h; simp [isEx_len' he]
theorem cl_parts {w : World} {P : Nat → Prop} {a : List UInt8} {b : Nat} {c : Bool} {us : List Value} (h : LsAt w P [sL a, iL b, .v (.bool c)] us) : us = [.string (txt a), .int .i64 (b : Nat), .bool c] := by
  obtain ⟨u0, r0, rfl, k0, g1⟩ := h.uncons
  obtain ⟨u1, r1, rfl, k1, g2⟩ := g1.uncons
  obtain ⟨u2, r2, rfl, k2, g3⟩ := g2.uncons
  obtain rfl := LsAt.unnil g3
  obtain rfl := LfAt.val k0
  obtain rfl := LfAt.val k1
  obtain rfl := LfAt.val k2
  rfl
theorem ke_parts {w : World} {P : Nat → Prop} {a : List UInt8} {us : List Value} (h : LsAt w P [sL a] us) : us = [.string (txt a)] := by
  obtain ⟨u0, r0, rfl, k0, g1⟩ := h.uncons
  obtain rfl := LsAt.unnil g1
  obtain rfl := LfAt.val k0
  rfl
theorem nv_parts {w : World} {P : Nat → Prop} {a : List UInt8} {ex : List Lf} {us : List Value} (h : LsAt w P (sL a :: ex) us) : ∃ ue, us = .string (txt a) :: ue ∧ LsAt w P ex ue := by
  obtain ⟨u0, r0, rfl, k0, g1⟩ := h.uncons
  obtain rfl := LfAt.val k0
  exact ⟨r0, rfl, g1⟩
theorem st_parts {w : World} {P : Nat → Prop} {x : SM} {us : List Value} (h : LsAt w P (stL x) us) (hx : IsSt x) :
    ∃ p1 c1 p2 c2 p3 c3 p4 c4 p5 c5 uw, us = .int .i64 (x.k : Nat) :: .string (txt x.nam) :: .slice p1 x.cols.length c1 :: .slice p2 x.keys.length c2 :: .slice p3 x.parts.length c3 :: .int .i64 (x.mode : Nat) :: .slice p4 x.rows.length c4 :: .slice p5 x.sets.length c5 :: (uw ++ [.int .i64 (x.n : Nat)]) ∧ LsAt w P x.wh uw ∧ RowX w 3 x.cols p1 ∧ RowX w 1 x.keys p2 ∧ RowX w 21 x.parts p3 ∧ RowX w 1 x.rows p4 ∧ RowX w 8 x.sets p5 := by
  replace h : LsAt w P (iL x.k :: sL x.nam :: rL x.cols :: rL x.keys :: rL x.parts :: iL x.mode :: rL x.rows :: rL x.sets :: (x.wh ++ [iL x.n])) us := h
  obtain ⟨u0, r0, rfl, k0, g0⟩ := h.uncons
  obtain ⟨u1, r1, rfl, k1, g1⟩ := g0.uncons
  obtain ⟨u2, r2, rfl, k2, g2⟩ := g1.uncons
  obtain ⟨u3, r3, rfl, k3, g3⟩ := g2.uncons
  obtain ⟨u4, r4, rfl, k4, g4⟩ := g3.uncons
  obtain ⟨u5, r5, rfl, k5, g5⟩ := g4.uncons
  obtain ⟨u6, r6, rfl, k6, g6⟩ := g5.uncons
  obtain ⟨u7, r7, rfl, k7, g7⟩ := g6.uncons
  obtain ⟨uw, uc, rfl, k8, g8⟩ := g7.split
  obtain ⟨u9, r9, rfl, k9, g9⟩ := g8.uncons
  obtain rfl := LsAt.unnil g9
  obtain rfl := LfAt.val k0
  obtain rfl := LfAt.val k1
  obtain rfl := LfAt.val k5
  obtain rfl := LfAt.val k9
  obtain ⟨p1, c1, rfl, hp1⟩ := row_parts (by decide) k2 (fun y hy => isCl_len (hx.cols.all y hy))
  obtain ⟨p2, c2, rfl, hp2⟩ := row_parts (by decide) k3 (fun y hy => isKe_len (hx.keys.all y hy))
  obtain ⟨p3, c3, rfl, hp3⟩ := row_parts (by decide) k4 (fun y hy => isSe_len (hx.parts.all y hy))
  obtain ⟨p4, c4, rfl, hp4⟩ := row_parts (by decide) k6 (fun y hy => isRo_len (hx.rows.all y hy))
  obtain ⟨p5, c5, rfl, hp5⟩ := row_parts (by decide) k7 (fun y hy => isNv_len (hx.sets.all y hy))
  exact ⟨p1, c1, p2, c2, p3, c3, p4, c4, p5, c5, uw, rfl, k8, hp1, hp2, hp3, hp4, hp5⟩
theorem infoSelx : (Tryz.prog.info? 52).map (·.size) = some 21 := by kernel_rfl

theorem range_tail {w : World} {b o : Nat} {x : Value} {ys : List Value} (h : w.rangeAt b o (x :: ys)) : w.rangeAt b (o + 1) ys := by
  have := range_mid (xs := [x]) (ys := ys) (zs := []) (w := w) (b := b) (o := o) (by simpa using h)
  exact this

end Go.Proofs.YtneebnankghhgacGreatDoor
