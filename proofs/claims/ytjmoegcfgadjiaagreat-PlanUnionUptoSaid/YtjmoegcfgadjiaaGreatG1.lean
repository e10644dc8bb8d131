/- Several of my texts laid together, each as it was: Q1, Q2, Q3, Q4. Conditions: each names its own. -/
import Derived.Test.YtjmoegcfgadjiaaGreatI2
/- Sorting that keeps what is alike in order, plainly: insertion, what is put together of two sorted lists, lists sorted piece by piece, a list turned. Nothing of any program here. Conditions: the order is total and goes through, where it is said. -/
namespace Go.Proofs.YtjmoegcfgadjiaaGreat

section
variable {α : Type}
/-- An order: any two stand to one another, and it goes through. -/
structure LeT (le : α → α → Bool) : Prop where
  total : ∀ a b, le a b = true ∨ le b a = true
  trans : ∀ a b c, le a b = true → le b c = true → le a c = true
def insL (le : α → α → Bool) (x : α) : List α → List α
  | [] => [x]
  | y :: L => if le x y = true then x :: y :: L else y :: insL le x L
def srt (le : α → α → Bool) (L : List α) : List α := L.foldr (insL le) []
def Srd (le : α → α → Bool) (L : List α) : Prop := L.Pairwise fun a b => le a b = true
variable {le : α → α → Bool}
theorem srt_cons (x : α) (L : List α) : srt le (x :: L) = insL le x (srt le L) := rfl
theorem insL_perm (x : α) : ∀ L : List α, (insL le x L).Perm (x :: L)
  | [] => List.Perm.refl _
  | y :: L => by
    unfold insL
    split
    · exact List.Perm.refl _
    · exact ((insL_perm x L).cons y).trans (List.Perm.swap x y L)
theorem srt_perm : ∀ L : List α, (srt le L).Perm L
  | [] => List.Perm.refl _
  | x :: L => (insL_perm x _).trans ((srt_perm L).cons x)
theorem srt_len (L : List α) : (srt le L).length = L.length := (srt_perm L).length_eq
theorem mem_srt {L : List α} {x : α} : x ∈ srt le L ↔ x ∈ L := (srt_perm L).mem_iff
theorem insL_srd (h : LeT le) (x : α) : ∀ {L : List α}, Srd le L → Srd le (insL le x L)
  | [], _ => List.pairwise_singleton _ _
  | y :: L, hs => by
    unfold insL
    obtain ⟨h1, h2⟩ := List.pairwise_cons.1 hs
    by_cases hx : le x y = true
    · rw [if_pos hx]
      refine List.pairwise_cons.2 ⟨fun z hz => ?_, hs⟩
      rcases List.mem_cons.1 hz with rfl | hz
      · exact hx
      · exact h.trans _ _ _ hx (h1 z hz)
    · rw [if_neg hx]
      refine List.pairwise_cons.2 ⟨fun z hz => ?_, insL_srd h x h2⟩
      rcases List.mem_cons.1 ((insL_perm x L).mem_iff.1 hz) with rfl | hz
      · exact (h.total z y).resolve_left hx
      · exact h1 z hz
theorem srt_srd (h : LeT le) : ∀ L : List α, Srd le (srt le L)
  | [] => List.Pairwise.nil
  | x :: L => insL_srd h x (srt_srd h L)
theorem insL_le (x : α) {L : List α} (h : ∀ y ∈ L, le x y = true) : insL le x L = x :: L := by
  cases L with
  | nil => rfl
  | cons y L => unfold insL; rw [if_pos (h y (by simp))]
theorem srt_of_srd : ∀ {L : List α}, Srd le L → srt le L = L
  | [], _ => rfl
  | x :: L, hs => by
    obtain ⟨h1, h2⟩ := List.pairwise_cons.1 hs
    rw [srt_cons, srt_of_srd h2, insL_le x h1]
theorem insL_comm (h : LeT le) {a b : α} (hab : le b a = false) : ∀ L : List α, insL le a (insL le b L) = insL le b (insL le a L)
  | [] => by
    have h1 : le a b = true := (h.total a b).resolve_right (by simp [hab])
    simp [insL, hab, h1]
  | y :: L => by
    have h1 : le a b = true := (h.total a b).resolve_right (by simp [hab])
    by_cases hb : le b y = true
    · have ha := h.trans _ _ _ h1 hb
      simp [insL, hb, ha, hab, h1]
    · have hb' : le b y = false := by simpa using hb
      by_cases ha : le a y = true
      · simp [insL, hb', ha, hab]
      · have ha' : le a y = false := by simpa using ha
        simp [insL, hb', ha', insL_comm h hab L]
theorem insL_app (x : α) {Y : List α} (h : ∀ y ∈ Y, le x y = true) : ∀ X : List α, insL le x (X ++ Y) = insL le x X ++ Y
  | [] => by rw [List.nil_append, insL_le x h]; rfl
  | z :: X => by
    rw [List.cons_append]
    unfold insL
    split
    · rfl
    · rw [insL_app x h X]; rfl
theorem srt_app_le : ∀ {X Y : List α}, (∀ x ∈ X, ∀ y ∈ Y, le x y = true) → srt le (X ++ Y) = srt le X ++ srt le Y
  | [], Y, _ => rfl
  | x :: X, Y, h => by
    rw [List.cons_append, srt_cons, srt_app_le (fun z hz => h z (List.mem_cons_of_mem _ hz)), insL_app x (fun y hy => h x (by simp) y (mem_srt.1 hy))]; rfl
/-- One that is above all of a row may stand behind it. -/
theorem srt_past (h : LeT le) {a : α} : ∀ {B : List α} (R : List α), (∀ b ∈ B, le a b = false) → srt le (a :: B ++ R) = srt le (B ++ a :: R)
  | [], R, _ => rfl
  | b :: B, R, hB => by
    have ih := srt_past h R (fun x hx => hB x (List.mem_cons_of_mem _ hx))
    have e1 : srt le (a :: (b :: B) ++ R) = insL le a (insL le b (srt le (B ++ R))) := rfl
    rw [e1, ← insL_comm h (hB b (by simp))]
    have e2 : insL le a (srt le (B ++ R)) = srt le (B ++ a :: R) := ih
    rw [e2]; rfl
theorem srt_head (X : List α) {Y Z : List α} (h : srt le Y = srt le Z) : srt le (X ++ Y) = srt le (X ++ Z) := by
  induction X with
  | nil => exact h
  | cons x X ih => rw [List.cons_append, List.cons_append, srt_cons, srt_cons, ih]
theorem srt_swap (h : LeT le) {B : List α} : ∀ {A : List α} (Y : List α), (∀ a ∈ A, ∀ b ∈ B, le a b = false) → srt le (A ++ (B ++ Y)) = srt le (B ++ (A ++ Y))
  | [], Y, _ => rfl
  | a :: A, Y, hA => by
    have ih := srt_swap h (A := A) Y (fun x hx => hA x (List.mem_cons_of_mem _ hx))
    have e := srt_past h (a := a) (B := B) (A ++ Y) (hA a (by simp))
    rw [List.cons_append, srt_cons, ih, ← srt_cons]; exact e
theorem srt_ins_app (h : LeT le) (x : α) (R : List α) : ∀ M : List α, srt le (insL le x M ++ R) = srt le (x :: M ++ R)
  | [] => rfl
  | y :: M => by
    unfold insL
    by_cases hx : le x y = true
    · rw [if_pos hx]
    · have hx' : le x y = false := by simpa using hx
      rw [if_neg hx, List.cons_append, srt_cons, srt_ins_app h x R M]
      show insL le y (insL le x (srt le (M ++ R))) = insL le x (insL le y (srt le (M ++ R)))
      exact insL_comm h hx' _
theorem srt_srt_app (h : LeT le) (R : List α) : ∀ L : List α, srt le (srt le L ++ R) = srt le (L ++ R)
  | [] => rfl
  | x :: L => by rw [srt_cons, srt_ins_app h, List.cons_append, srt_cons, srt_srt_app h R L]; rfl
theorem srt_app_srt (h : LeT le) (L R : List α) : srt le (L ++ srt le R) = srt le (L ++ R) := srt_head L (srt_of_srd (srt_srd h R))
/-- Two sorted lists, each parted in two, so that what is behind is nowhere below what is ahead. -/
theorem srt_parts (h : LeT le) {A1 A2 B1 B2 : List α} (hA : Srd le (A1 ++ A2)) (hB : Srd le (B1 ++ B2)) (h1 : ∀ a ∈ A1, ∀ b ∈ B2, le a b = true) (h2 : ∀ b ∈ B1, ∀ a ∈ A2, le a b = false) :
    srt le (A1 ++ A2 ++ (B1 ++ B2)) = srt le (A1 ++ B1) ++ srt le (A2 ++ B2) := by
  have e1 : srt le (A1 ++ A2 ++ (B1 ++ B2)) = srt le (A1 ++ B1 ++ (A2 ++ B2)) := by
    rw [List.append_assoc, List.append_assoc]
    exact srt_head A1 (srt_swap h B2 (fun a ha b hb => h2 b hb a ha))
  rw [e1]
  refine srt_app_le fun x hx y hy => ?_
  obtain ⟨_, _, pA⟩ := List.pairwise_append.1 hA
  obtain ⟨_, _, pB⟩ := List.pairwise_append.1 hB
  rcases List.mem_append.1 hx with hx | hx
  · rcases List.mem_append.1 hy with hy | hy
    · exact pA x hx y hy
    · exact h1 x hx y hy
  · rcases List.mem_append.1 hy with hy | hy
    · exact (h.total x y).resolve_right (by simp [h2 x hx y hy])
    · exact pB x hx y hy
theorem srt_merge (h : LeT le) (L : List α) : L.mergeSort le = srt le L := by
  induction L with
  | nil => simp [srt]
  | cons x L ih =>
    obtain ⟨l1, l2, e1, e2, e3⟩ := List.mergeSort_cons (le := le) h.trans (fun a b => by simpa using h.total a b) x L
    have hs : Srd le ((x :: L).mergeSort le) := by
      have := List.pairwise_mergeSort (le := le) h.trans (fun a b => by simpa using h.total a b) (x :: L)
      exact this
    rw [e1] at hs
    rw [e1, srt_cons, ← ih, e2]
    have h2' := (List.pairwise_cons.1 (List.pairwise_append.1 hs).2.1).1
    clear hs e1 e2
    induction l1 with
    | nil => rw [List.nil_append, List.nil_append, insL_le x h2']
    | cons y l1 ih1 =>
      have hy : ¬ le x y = true := by have := e3 y (by simp); simpa using this
      rw [List.cons_append, List.cons_append]
      unfold insL
      rw [if_neg hy, ← ih1 (fun b hb => e3 b (List.mem_cons_of_mem _ hb))]
theorem srt_map {β : Type} {le' : β → β → Bool} (f : α → β) (hf : ∀ a b, le' (f a) (f b) = le a b) : ∀ L : List α, (srt le L).map f = srt le' (L.map f)
  | [] => rfl
  | x :: L => by
    have hi : ∀ M : List α, (insL le x M).map f = insL le' (f x) (M.map f) := by
      intro M
      induction M with
      | nil => rfl
      | cons y M ih =>
        rw [List.map_cons]
        unfold insL
        rw [hf]
        split
        · rfl
        · rw [List.map_cons, ih]
    rw [srt_cons, hi, srt_map f hf L]; rfl

/-! ### Piece by piece -/
/-- Each k of a list sorted, the last ones too. -/
def srtC (le : α → α → Bool) (k : Nat) : Nat → List α → List α
  | 0, L => L
  | f + 1, L => if L.length ≤ k then srt le L else srt le (L.take k) ++ srtC le k f (L.drop k)
theorem srtC_len (k : Nat) : ∀ (f : Nat) (L : List α), (srtC le k f L).length = L.length
  | 0, L => rfl
  | f + 1, L => by
    unfold srtC
    split
    · exact srt_len L
    · rw [List.length_append, srt_len, srtC_len k f, List.length_take, List.length_drop]; omega
theorem srtC_more {k : Nat} (hk : 0 < k) : ∀ (f g : Nat) (L : List α), L.length < f → L.length < g → srtC le k f L = srtC le k g L
  | 0, _, L, h, _ => by omega
  | f + 1, 0, L, _, h => by omega
  | f + 1, g + 1, L, h1, h2 => by
    unfold srtC
    by_cases hl : L.length ≤ k
    · rw [if_pos hl, if_pos hl]
    · rw [if_neg hl, if_neg hl, srtC_more hk f g _ (by rw [List.length_drop]; omega) (by rw [List.length_drop]; omega)]
/-- Sorted piece by piece. -/
def pcs (le : α → α → Bool) (k : Nat) (L : List α) : List α := srtC le k (L.length + 1) L
theorem pcs_len (k : Nat) (L : List α) : (pcs le k L).length = L.length := srtC_len k _ L
theorem pcs_all {k : Nat} {L : List α} (h : L.length ≤ k) : pcs le k L = srt le L := by unfold pcs srtC; rw [if_pos h]
theorem pcs_step {k : Nat} (hk : 0 < k) {L : List α} (h : k ≤ L.length) : pcs le k L = srt le (L.take k) ++ pcs le k (L.drop k) := by
  by_cases h2 : L.length = k
  · rw [pcs_all (by omega), List.take_of_length_le (by omega), List.drop_of_length_le (by omega)]
    rw [show pcs le k ([] : List α) = [] by rw [pcs_all (by simp)]; rfl, List.append_nil]
  · have e : pcs le k L = srt le (L.take k) ++ srtC le k L.length (L.drop k) := by
      conv => lhs; unfold pcs srtC
      rw [if_neg (by omega)]
    rw [e]
    unfold pcs
    rw [srtC_more hk L.length ((L.drop k).length + 1) _ (by rw [List.length_drop]; omega) (by rw [List.length_drop]; omega)]
theorem pcs_perm {k : Nat} (hk : 0 < k) : ∀ (n : Nat) (L : List α), L.length ≤ n → (pcs le k L).Perm L
  | 0, L, h => by
    rw [pcs_all (by omega)]; exact srt_perm L
  | n + 1, L, h => by
    by_cases h2 : L.length ≤ k
    · rw [pcs_all h2]; exact srt_perm L
    · rw [pcs_step hk (by omega)]
      have ih := pcs_perm hk n (L.drop k) (by rw [List.length_drop]; omega)
      have := (srt_perm (le := le) (L.take k)).append ih
      rwa [List.take_append_drop] at this
end
end Go.Proofs.YtjmoegcfgadjiaaGreat

/- Elements that change places, plainly: ranges, a list turned, an insertion from behind, two sorted pieces merged in place. Nothing of any program here. Conditions: each lemma names its own. -/
namespace Go.Proofs.YtjmoegcfgadjiaaGreat

section
variable {α : Type} {le : α → α → Bool}
/-- The elements at i and j in each other's place. -/
def swp (F : List α) (i j : Nat) (hi : i < F.length) (hj : j < F.length) : List α := (F.set i F[j]).set j F[i]
theorem swp_len (F : List α) (i j : Nat) (hi : i < F.length) (hj : j < F.length) : (swp F i j hi hj).length = F.length := by simp [swp]
theorem swp_app (P M S : List α) (x y : α) (i j : Nat) (ei : i = P.length) (ej : j = P.length + 1 + M.length) (hi : i < (P ++ x :: (M ++ y :: S)).length) (hj : j < (P ++ x :: (M ++ y :: S)).length) :
    swp (P ++ x :: (M ++ y :: S)) i j hi hj = P ++ y :: (M ++ x :: S) := by
  subst ei ej
  unfold swp
  have e1 : (P ++ x :: (M ++ y :: S))[P.length] = x := by rw [List.getElem_append_right (Nat.le_refl _)]; simp
  have e2 : (P ++ x :: (M ++ y :: S))[P.length + 1 + M.length] = y := by
    rw [List.getElem_append_right (by omega)]
    simp only [show P.length + 1 + M.length - P.length = M.length + 1 by omega, List.getElem_cons_succ]
    rw [List.getElem_append_right (Nat.le_refl _)]; simp
  rw [e1, e2, List.set_append_right _ _ (Nat.le_refl _), Nat.sub_self, List.set_cons_zero, List.set_append_right _ _ (by omega), show P.length + 1 + M.length - P.length = M.length + 1 by omega, List.set_cons_succ, List.set_append_right _ _ (Nat.le_refl _), Nat.sub_self, List.set_cons_zero]
theorem swp_comm (F : List α) (i j : Nat) (hi : i < F.length) (hj : j < F.length) (hij : i ≠ j) : swp F i j hi hj = swp F j i hj hi := by
  unfold swp; rw [List.set_comm _ _ hij]
theorem swp_mem {F : List α} {i j : Nat} {hi : i < F.length} {hj : j < F.length} {x : α} (h : x ∈ swp F i j hi hj) : x ∈ F := by
  rcases List.mem_or_eq_of_mem_set h with h | rfl
  · rcases List.mem_or_eq_of_mem_set h with h | rfl
    · exact h
    · exact List.getElem_mem hj
  · exact List.getElem_mem hi
/-- Behind i of n exchanges of two ranges. -/
def swR (P X M Y S : List α) (i : Nat) : List α := P ++ (Y.take i ++ X.drop i) ++ M ++ (X.take i ++ Y.drop i) ++ S
theorem swR_zero (P X M Y S : List α) : swR P X M Y S 0 = P ++ X ++ M ++ Y ++ S := by simp [swR]
theorem swR_all (P X M Y S : List α) (n : Nat) (hX : X.length = n) (hY : Y.length = n) : swR P X M Y S n = P ++ Y ++ M ++ X ++ S := by
  unfold swR; rw [List.take_of_length_le (by omega), List.drop_of_length_le (l := X) (by omega), List.take_of_length_le (by omega), List.drop_of_length_le (by omega)]; simp
theorem swR_len (P X M Y S : List α) (i : Nat) (h : X.length = Y.length) (hi : i ≤ X.length) : (swR P X M Y S i).length = P.length + X.length + M.length + Y.length + S.length := by
  simp only [swR, List.length_append, List.length_take, List.length_drop]; omega
theorem swR_step (P X M Y S : List α) (i a b : Nat) (h : X.length = Y.length) (hi : i < X.length) (ha : a = P.length + i) (hb : b = P.length + X.length + M.length + i) (h1 : a < (swR P X M Y S i).length) (h2 : b < (swR P X M Y S i).length) :
    swp (swR P X M Y S i) a b h1 h2 = swR P X M Y S (i + 1) := by
  have hi' : i < Y.length := by omega
  have e : ∀ k, k = i → swR P X M Y S k = (P ++ Y.take i) ++ X[i] :: ((X.drop (i + 1) ++ M ++ X.take i) ++ Y[i] :: (Y.drop (i + 1) ++ S)) := by
    rintro k rfl
    unfold swR
    rw [List.drop_eq_getElem_cons hi, List.drop_eq_getElem_cons hi']; simp only [List.append_assoc, List.cons_append]
  have e2 : swR P X M Y S (i + 1) = (P ++ Y.take i) ++ Y[i] :: ((X.drop (i + 1) ++ M ++ X.take i) ++ X[i] :: (Y.drop (i + 1) ++ S)) := by
    unfold swR
    rw [List.take_succ_eq_append_getElem hi, List.take_succ_eq_append_getElem hi']; simp only [List.append_assoc, List.cons_append, List.nil_append]
  rw [e2]
  have e1 := e i rfl
  generalize swR P X M Y S i = Z at e1 h1 h2
  subst e1
  exact swp_app _ _ _ _ _ a b (by rw [List.length_append, List.length_take]; omega) (by simp only [List.length_append, List.length_take, List.length_drop]; omega) h1 h2
/-- What is left of turning a list: two pieces that must change places. -/
structure Rot (T : List α) (m i j : Nat) (F : List α) (P X Y S : List α) : Prop where
  eq : F = P ++ X ++ Y ++ S
  fin : T = P ++ Y ++ X ++ S
  li : X.length = i
  lj : Y.length = j
  m : P.length + i = m
theorem Rot.len {T F P X Y S : List α} {m i j : Nat} (h : Rot T m i j F P X Y S) : F.length = P.length + i + j + S.length := by rw [h.eq]; simp [h.li, h.lj]; omega
/-- i > j. -/
theorem Rot.left {T F P X Y S : List α} {m i j : Nat} (h : Rot T m i j F P X Y S) (hij : j < i) :
    F = swR P (X.take j) (X.drop j) Y S 0 ∧ Rot T m (i - j) j (P ++ Y ++ X.drop j ++ X.take j ++ S) (P ++ Y) (X.drop j) (X.take j) S := by
  obtain ⟨e, f, rfl, rfl, hm⟩ := h
  refine ⟨?_, ⟨rfl, ?_, by simp, by simp; omega, by simp; omega⟩⟩
  · conv => lhs; rw [e, ← List.take_append_drop Y.length X]
    rw [swR_zero]; simp only [List.append_assoc]
  · conv => lhs; rw [f, ← List.take_append_drop Y.length X]
    simp only [List.append_assoc]
/-- i < j. -/
theorem Rot.right {T F P X Y S : List α} {m i j : Nat} (h : Rot T m i j F P X Y S) (hij : i < j) :
    F = swR P X (Y.take (j - i)) (Y.drop (j - i)) S 0 ∧ Rot T m i (j - i) (P ++ Y.drop (j - i) ++ Y.take (j - i) ++ X ++ S) P (Y.drop (j - i)) (Y.take (j - i)) (X ++ S) := by
  obtain ⟨e, f, rfl, rfl, hm⟩ := h
  refine ⟨?_, ⟨by simp only [List.append_assoc], ?_, by simp; omega, by simp, by omega⟩⟩
  · conv => lhs; rw [e, ← List.take_append_drop (Y.length - X.length) Y]
    rw [swR_zero]; simp only [List.append_assoc]
  · conv => lhs; rw [f, ← List.take_append_drop (Y.length - X.length) Y]
    simp only [List.append_assoc]
theorem Rot.last {T F P X Y S : List α} {m i : Nat} (h : Rot T m i i F P X Y S) : F = swR P X [] Y S 0 ∧ T = P ++ Y ++ [] ++ X ++ S := by
  obtain ⟨e, f, _, _, _⟩ := h
  exact ⟨by rw [swR_zero, e]; simp, by rw [f]; simp⟩

/-! ### One that is laid into a sorted row -/
theorem ins_behind (h : LeT le) {U V : List α} {x : α} (hs : Srd le (U ++ V)) (h1 : ∀ u ∈ U, le u x = true) (h2 : ∀ v ∈ V, le v x = false) : srt le (U ++ V ++ [x]) = U ++ x :: V := by
  have e : srt le (U ++ V ++ [x]) = srt le (U ++ x :: V) := by
    rw [List.append_assoc]
    have := srt_head U (srt_swap h (A := V) (B := [x]) [] (fun a ha b hb => by obtain rfl := List.mem_singleton.1 hb; exact h2 a ha))
    simpa using this
  rw [e]
  refine srt_of_srd ?_
  obtain ⟨hU, hV, hUV⟩ := List.pairwise_append.1 hs
  refine List.pairwise_append.2 ⟨hU, List.pairwise_cons.2 ⟨fun v hv => (h.total x v).resolve_right (by simp [h2 v hv]), hV⟩, fun u hu y hy => ?_⟩
  rcases List.mem_cons.1 hy with rfl | hy
  · exact h1 u hu
  · exact hUV u hu y hy
theorem ins_ahead (h : LeT le) {U V : List α} {x : α} (hs : Srd le (U ++ V)) (h1 : ∀ u ∈ U, le x u = false) (h2 : ∀ v ∈ V, le x v = true) : srt le (x :: (U ++ V)) = U ++ x :: V := by
  have e : srt le (x :: (U ++ V)) = srt le (U ++ x :: V) := srt_past h V h1
  rw [e]
  refine srt_of_srd ?_
  obtain ⟨hU, hV, hUV⟩ := List.pairwise_append.1 hs
  refine List.pairwise_append.2 ⟨hU, List.pairwise_cons.2 ⟨h2, hV⟩, fun u hu y hy => ?_⟩
  rcases List.mem_cons.1 hy with rfl | hy
  · exact (h.total u y).resolve_right (by simp [h1 u hu])
  · exact hUV u hu y hy
/-- In a sorted row what is up to one that is not above x is not above x, and what is from one that is above on, is. -/
theorem srd_up {A : List α} (hs : Srd le A) {i j : Nat} (hij : i ≤ j) (hj : j < A.length) (h : LeT le) : le (A[i]'(by omega)) A[j] = true := by
  rcases Nat.lt_or_ge i j with hl | hg
  · exact List.pairwise_iff_getElem.1 hs i j (by omega) hj hl
  · obtain rfl : i = j := by omega
    exact (h.total _ _).elim id id
theorem take_le (h : LeT le) {A : List α} (hs : Srd le A) {i : Nat} (hi : i ≤ A.length) (x : α) (h0 : i = 0 ∨ ∃ hk : i - 1 < A.length, le A[i - 1] x = true) : ∀ u ∈ A.take i, le u x = true := by
  intro u hu
  obtain ⟨k, hk, rfl⟩ := List.mem_take_iff_getElem.1 hu
  rcases h0 with rfl | ⟨hk1, h0⟩
  · omega
  · exact h.trans _ _ _ (srd_up hs (by omega) hk1 h) h0
theorem drop_gt (h : LeT le) {A : List α} (hs : Srd le A) {i : Nat} (x : α) (h0 : i = A.length ∨ ∃ hk : i < A.length, le A[i] x = false) : ∀ v ∈ A.drop i, le v x = false := by
  intro v hv
  obtain ⟨k, hk, rfl⟩ := List.mem_drop_iff_getElem.1 hv
  rcases h0 with rfl | ⟨hk1, h0⟩
  · omega
  · have := srd_up hs (show i ≤ i + k by omega) (by omega) h
    cases hx : le (A[i + k]'(by omega)) x with
    | false => rfl
    | true => rw [h.trans _ _ _ this hx] at h0; cases h0
theorem take_lt (h : LeT le) {A : List α} (hs : Srd le A) {i : Nat} (hi : i ≤ A.length) (x : α) (h0 : i = 0 ∨ ∃ hk : i - 1 < A.length, le x A[i - 1] = false) : ∀ u ∈ A.take i, le x u = false := by
  intro u hu
  obtain ⟨k, hk, rfl⟩ := List.mem_take_iff_getElem.1 hu
  rcases h0 with rfl | ⟨hk1, h0⟩
  · omega
  · have := srd_up hs (show k ≤ i - 1 by omega) hk1 h
    cases hx : le x A[k] with
    | false => rfl
    | true => rw [h.trans _ _ _ hx this] at h0; cases h0
theorem drop_ge (h : LeT le) {A : List α} (hs : Srd le A) {i : Nat} (x : α) (h0 : i = A.length ∨ ∃ hk : i < A.length, le x A[i] = true) : ∀ v ∈ A.drop i, le x v = true := by
  intro v hv
  obtain ⟨k, hk, rfl⟩ := List.mem_drop_iff_getElem.1 hv
  rcases h0 with rfl | ⟨hk1, h0⟩
  · omega
  · exact h.trans _ _ _ h0 (srd_up hs (show i ≤ i + k by omega) (by omega) h)
end
end Go.Proofs.YtjmoegcfgadjiaaGreat

/- Merging in place, plainly: where the two sorted pieces are parted. Nothing of any program here. Conditions: each lemma names its own. -/
namespace Go.Proofs.YtjmoegcfgadjiaaGreat

section
variable {α : Type} {le : α → α → Bool}
/-- How two elements stand, if both are there. -/
def lq (le : α → α → Bool) (F : List α) (i j : Nat) : Option Bool := (F[i]?).bind fun x => (F[j]?).map (le x)
theorem lq_of {F : List α} {i j : Nat} (hi : i < F.length) (hj : j < F.length) : lq le F i j = some (le F[i] F[j]) := by
  unfold lq; rw [List.getElem?_eq_getElem hi, List.getElem?_eq_getElem hj]; rfl
theorem lq_parts {F : List α} {i j : Nat} {b : Bool} (h : lq le F i j = some b) : ∃ (hi : i < F.length) (hj : j < F.length), le F[i] F[j] = b := by
  unfold lq at h
  rcases Nat.lt_or_ge i F.length with hi | hi
  · rcases Nat.lt_or_ge j F.length with hj | hj
    · rw [List.getElem?_eq_getElem hi, List.getElem?_eq_getElem hj] at h
      exact ⟨hi, hj, by simpa using h⟩
    · rw [List.getElem?_eq_none hj] at h; simp at h
  · rw [List.getElem?_eq_none hi] at h; simp at h
/-- A row's piece: what lies from a on. -/
theorem piece_at {P A R : List α} {k : Nat} (hk : P.length ≤ k) (hk2 : k < P.length + A.length) (h : k < (P ++ A ++ R).length) : (P ++ A ++ R)[k] = A[k - P.length]'(by omega) := by
  rw [List.getElem_append_left (by rw [List.length_append]; omega), List.getElem_append_right hk]
/-- What the search of the place finds: from s0 to r0, now between s and r. -/
structure Bis (le : α → α → Bool) (F : List α) (n s0 r0 s r : Nat) : Prop where
  lo : s0 ≤ s
  mid : s ≤ r
  hi : r ≤ r0
  yes : s = s0 ∨ lq le F (s - 1) (n - s) = some true
  no : r = r0 ∨ lq le F r (n - r - 1) = some false
theorem Bis.start (F : List α) (n s0 r0 : Nat) (h : s0 ≤ r0) : Bis le F n s0 r0 s0 r0 := ⟨Nat.le_refl _, h, Nat.le_refl _, Or.inl rfl, Or.inl rfl⟩
theorem Bis.up {F : List α} {n s0 r0 s r c : Nat} (h : Bis le F n s0 r0 s r) (h1 : s ≤ c) (h2 : c < r) (hq : lq le F c (n - 1 - c) = some true) : Bis le F n s0 r0 (c + 1) r :=
  ⟨by have := h.lo; omega, h2, h.hi, Or.inr (by rw [show c + 1 - 1 = c by omega, show n - (c + 1) = n - 1 - c by omega]; exact hq), h.no⟩
theorem Bis.down {F : List α} {n s0 r0 s r c : Nat} (h : Bis le F n s0 r0 s r) (h1 : s ≤ c) (h2 : c < r) (hq : lq le F c (n - 1 - c) = some false) : Bis le F n s0 r0 s c :=
  ⟨h.lo, h1, by have := h.hi; omega, h.yes, Or.inr (by rw [show n - c - 1 = n - 1 - c by omega]; exact hq)⟩
/-- Two sorted pieces, from a to m and from m to b. -/
structure Two (le : α → α → Bool) (F P A B S : List α) (a m b : Nat) : Prop where
  eq : F = P ++ A ++ B ++ S
  ea : P.length = a
  em : a + A.length = m
  eb : m + B.length = b
  sa : Srd le A
  sb : Srd le B
  am : a < m
  mb : m < b
theorem Two.len {F P A B S : List α} {a m b : Nat} (h : Two le F P A B S a m b) : F.length = b + S.length := by
  have := h.ea; have := h.em; have := h.eb; rw [h.eq]; simp only [List.length_append]; omega
theorem Two.inA {F P A B S : List α} {a m b k : Nat} (h : Two le F P A B S a m b) (h1 : a ≤ k) (h2 : k < m) (hk : k < F.length) : F[k] = A[k - a]'(by have := h.em; omega) := by
  have ha := h.ea; have hm := h.em
  have e := h.eq
  subst ha
  simp only [e, List.append_assoc P A]
  rw [List.getElem_append_left (by simp; omega), List.getElem_append_right h1, List.getElem_append_left (by omega)]
theorem Two.inB {F P A B S : List α} {a m b k : Nat} (h : Two le F P A B S a m b) (h1 : m ≤ k) (h2 : k < b) (hk : k < F.length) : F[k] = B[k - m]'(by have := h.eb; omega) := by
  have ha := h.ea; have hm := h.em; have hb := h.eb
  have e := h.eq
  have hl : (P ++ A).length = m := by rw [List.length_append]; omega
  subst hl
  simp only [e]
  rw [List.getElem_append_left (by simp only [List.length_append] at *; omega), List.getElem_append_right h1]
/-- Where the search begins, and where it ends. -/
def s0of (a m b : Nat) : Nat := if (a + b) / 2 < m then (a + b) / 2 + m - b else a
def r0of (a m b : Nat) : Nat := if (a + b) / 2 < m then (a + b) / 2 else m
theorem so_le {a m b : Nat} (h1 : a < m) (h2 : m < b) : s0of a m b ≤ r0of a m b ∧ a ≤ s0of a m b ∧ r0of a m b ≤ m ∧ m ≤ (a + b) / 2 + m - r0of a m b ∧ (a + b) / 2 + m - s0of a m b ≤ b ∧ r0of a m b ≤ (a + b) / 2 := by
  unfold s0of r0of; split <;> omega
/-- What has been found parts both pieces. -/
theorem sym_found (hL : LeT le) {F P A B S : List α} {a m b s : Nat} (h : Two le F P A B S a m b) (hb : Bis le F ((a + b) / 2 + m) (s0of a m b) (r0of a m b) s s) :
    ∃ A1 A2 B1 B2, A = A1 ++ A2 ∧ B = B1 ++ B2 ∧ a + A1.length = s ∧ s + A2.length = m ∧ m + B1.length = (a + b) / 2 + m - s ∧ (a + b) / 2 + m - s + B2.length = b ∧ s ≤ (a + b) / 2 ∧
      srt le (A ++ B) = srt le (A1 ++ B1) ++ srt le (A2 ++ B2) := by
  obtain ⟨z1, z2, z3, z4, z5, z6⟩ := so_le h.am h.mb
  have hm := h.em; have hB := h.eb; have hlen := h.len
  have q1 := hb.lo; have q2 := hb.hi
  obtain ⟨n, hn⟩ : ∃ n, (a + b) / 2 + m = n := ⟨_, rfl⟩
  rw [hn] at hb z4 z5 ⊢
  refine ⟨A.take (s - a), A.drop (s - a), B.take (n - s - m), B.drop (n - s - m), (List.take_append_drop _ _).symm, (List.take_append_drop _ _).symm, by rw [List.length_take]; omega, by rw [List.length_drop]; omega, by rw [List.length_take]; omega, by rw [List.length_drop]; omega, by omega, ?_⟩
  have key := srt_parts hL (A1 := A.take (s - a)) (A2 := A.drop (s - a)) (B1 := B.take (n - s - m)) (B2 := B.drop (n - s - m)) (by rw [List.take_append_drop]; exact h.sa) (by rw [List.take_append_drop]; exact h.sb)
  rw [List.take_append_drop, List.take_append_drop] at key
  refine key ?_ ?_
  · intro x hx y hy
    rcases hb.yes with e | e
    · exfalso
      by_cases hc : (a + b) / 2 < m
      · have : s0of a m b = n - b := by unfold s0of; rw [if_pos hc, hn]
        rw [List.drop_of_length_le (by omega)] at hy; exact absurd hy (by simp)
      · have : s0of a m b = a := by unfold s0of; rw [if_neg hc]
        rw [show s - a = 0 by omega, List.take_zero] at hx; exact absurd hx (by simp)
    · obtain ⟨k1, k2, e⟩ := lq_parts e
      by_cases hs : s = a
      · rw [show s - a = 0 by omega, List.take_zero] at hx; exact absurd hx (by simp)
      by_cases hd : n - s = b
      · rw [List.drop_of_length_le (by omega)] at hy; exact absurd hy (by simp)
      rw [h.inA (k := s - 1) (by omega) (by omega) k1, h.inB (k := n - s) (by omega) (by omega) k2] at e
      obtain ⟨i, hi, rfl⟩ := List.mem_take_iff_getElem.1 hx
      obtain ⟨j, hj, rfl⟩ := List.mem_drop_iff_getElem.1 hy
      have e1 := srd_up h.sa (i := i) (j := s - 1 - a) (by omega) (by omega) hL
      have e2 := srd_up h.sb (i := n - s - m) (j := n - s - m + j) (by omega) (by omega) hL
      exact hL.trans _ _ _ e1 (hL.trans _ _ _ e e2)
  · intro y hy x hx
    rcases hb.no with e | e
    · exfalso
      by_cases hc : (a + b) / 2 < m
      · have : r0of a m b = (a + b) / 2 := by unfold r0of; rw [if_pos hc]
        rw [show n - s - m = 0 by omega, List.take_zero] at hy; exact absurd hy (by simp)
      · have : r0of a m b = m := by unfold r0of; rw [if_neg hc]
        rw [List.drop_of_length_le (by omega)] at hx; exact absurd hx (by simp)
    · obtain ⟨k1, k2, e⟩ := lq_parts e
      by_cases hs : s = m
      · rw [List.drop_of_length_le (by omega)] at hx; exact absurd hx (by simp)
      by_cases hd : n - s = m
      · rw [show n - s - m = 0 by omega, List.take_zero] at hy; exact absurd hy (by simp)
      rw [h.inA (k := s) (by omega) (by omega) k1, h.inB (k := n - s - 1) (by omega) (by omega) k2] at e
      obtain ⟨i, hi, rfl⟩ := List.mem_take_iff_getElem.1 hy
      obtain ⟨j, hj, rfl⟩ := List.mem_drop_iff_getElem.1 hx
      have e1 := srd_up h.sa (i := s - a) (j := s - a + j) (by omega) (by omega) hL
      have e2 := srd_up h.sb (i := i) (j := n - s - 1 - m) (by omega) (by omega) hL
      cases hx : le (A[s - a + j]'(by omega)) B[i] with
      | false => rfl
      | true =>
        have := hL.trans _ _ _ e1 (hL.trans _ _ _ hx e2)
        rw [this] at e; cases e
/-- One piece of one element, ahead: where it belongs. -/
theorem one_found (hL : LeT le) {F P B S : List α} {x : α} {a m b i : Nat} (h : Two le F P [x] B S a m b) (hi : m ≤ i) (hib : i ≤ b)
    (h1 : i = m ∨ lq le F a (i - 1) = some false) (h2 : i = b ∨ lq le F a i = some true) : srt le ([x] ++ B) = B.take (i - m) ++ x :: B.drop (i - m) := by
  have hm := h.em; have hB := h.eb; have hlen := h.len
  simp only [List.length_singleton] at hm
  have ex : ∀ k : a < F.length, F[a] = x := fun k => by have := h.inA (k := a) (Nat.le_refl _) h.am k; rw [this]; simp
  have key := ins_ahead hL (U := B.take (i - m)) (V := B.drop (i - m)) (x := x) (by rw [List.take_append_drop]; exact h.sb)
    (take_lt hL h.sb (by omega) x (by
      rcases h1 with e | e
      · exact Or.inl (by omega)
      · obtain ⟨k1, k2, e⟩ := lq_parts e
        by_cases h0 : i = m
        · exact Or.inl (by omega)
        · refine Or.inr ⟨by omega, ?_⟩
          rw [ex k1, h.inB (k := i - 1) (by omega) (by omega) k2] at e
          simpa only [show i - m - 1 = i - 1 - m by omega] using e))
    (drop_ge hL h.sb x (by
      rcases h2 with e | e
      · exact Or.inl (by omega)
      · obtain ⟨k1, k2, e⟩ := lq_parts e
        by_cases h0 : i = b
        · exact Or.inl (by omega)
        · exact Or.inr ⟨by omega, by rw [ex k1, h.inB (k := i) (by omega) (by omega) k2] at e; exact e⟩))
  rw [List.take_append_drop] at key
  exact key
/-- One piece of one element, behind: where it belongs. -/
theorem last_found (hL : LeT le) {F P A S : List α} {x : α} {a m b i : Nat} (h : Two le F P A [x] S a m b) (hi : a ≤ i) (him : i ≤ m)
    (h1 : i = a ∨ lq le F (i - 1) m = some true) (h2 : i = m ∨ lq le F i m = some false) : srt le (A ++ [x]) = A.take (i - a) ++ x :: A.drop (i - a) := by
  have hm := h.em; have hB := h.eb; have hlen := h.len
  simp only [List.length_singleton] at hB
  have ex : ∀ k : m < F.length, F[m] = x := fun k => by have := h.inB (k := m) (Nat.le_refl _) h.mb k; rw [this]; simp
  have key := ins_behind hL (U := A.take (i - a)) (V := A.drop (i - a)) (x := x) (by rw [List.take_append_drop]; exact h.sa)
    (take_le hL h.sa (by omega) x (by
      rcases h1 with e | e
      · exact Or.inl (by omega)
      · obtain ⟨k1, k2, e⟩ := lq_parts e
        by_cases h0 : i = a
        · exact Or.inl (by omega)
        · refine Or.inr ⟨by omega, ?_⟩
          rw [ex k2, h.inA (k := i - 1) (by omega) (by omega) k1] at e
          simpa only [show i - a - 1 = i - 1 - a by omega] using e))
    (drop_gt hL h.sa x (by
      rcases h2 with e | e
      · exact Or.inl (by omega)
      · obtain ⟨k1, k2, e⟩ := lq_parts e
        by_cases h0 : i = m
        · exact Or.inl (by omega)
        · exact Or.inr ⟨by omega, by rw [ex k2, h.inA (k := i) (by omega) (by omega) k1] at e; exact e⟩))
  rw [List.take_append_drop] at key
  exact key
end
end Go.Proofs.YtjmoegcfgadjiaaGreat

/- A list sorted piece by piece, plainly: pieces of a length, then pieces of twice that length. Nothing of any program here. Conditions: each lemma names its own. -/
namespace Go.Proofs.YtjmoegcfgadjiaaGreat

section
variable {α : Type} {le : α → α → Bool}
theorem ph1_step {T D R : List α} {k : Nat} (hk : 0 < k) (h : D ++ pcs le k R = T) (hR : k ≤ R.length) : (D ++ srt le (R.take k)) ++ pcs le k (R.drop k) = T := by
  rw [← h, pcs_step hk hR, List.append_assoc]
theorem ph2_parts {R : List α} {k : Nat} (hk : 0 < k) (hR : 2 * k ≤ R.length) : pcs le k R = srt le (R.take k) ++ srt le ((R.drop k).take k) ++ pcs le k (R.drop (2 * k)) := by
  rw [pcs_step hk (by omega), pcs_step (L := R.drop k) hk (by rw [List.length_drop]; omega), List.drop_drop, show k + k = 2 * k by omega, List.append_assoc]
theorem two_srt (hL : LeT le) (X Y : List α) : srt le (srt le X ++ srt le Y) = srt le (X ++ Y) := by rw [srt_srt_app hL, srt_app_srt hL]
theorem take_two (R : List α) (k : Nat) : R.take k ++ (R.drop k).take k = R.take (2 * k) := by
  rw [show 2 * k = k + k by omega, List.take_add]
theorem ph2_step (hL : LeT le) {T D R : List α} {k : Nat} (hk : 0 < k) (h : D ++ pcs le (2 * k) R = T) (hR : 2 * k ≤ R.length) :
    (D ++ srt le (srt le (R.take k) ++ srt le ((R.drop k).take k))) ++ pcs le (2 * k) (R.drop (2 * k)) = T := by
  rw [two_srt hL, take_two]; exact ph1_step (by omega) h hR
theorem ph2_last (hL : LeT le) {R : List α} {k : Nat} (hk : 0 < k) (h1 : k < R.length) (h2 : R.length ≤ 2 * k) : pcs le k R = srt le (R.take k) ++ srt le (R.drop k) ∧ srt le (srt le (R.take k) ++ srt le (R.drop k)) = pcs le (2 * k) R := by
  refine ⟨by rw [pcs_step hk (by omega), pcs_all (L := R.drop k) (by rw [List.length_drop]; omega)], ?_⟩
  rw [two_srt hL, List.take_append_drop, pcs_all h2]
theorem ph2_none {R : List α} {k : Nat} (h1 : R.length ≤ k) : pcs le k R = pcs le (2 * k) R := by rw [pcs_all h1, pcs_all (by omega)]
/-- What is laid at last: sorted. -/
theorem ph_end {L : List α} {k : Nat} (h : L.length ≤ k) : pcs le k L = srt le L := pcs_all h
theorem srt_srd_pcs (hL : LeT le) (R : List α) : Srd le (srt le R) := srt_srd hL R
end
/-! ### The order of groups -/
theorem leG_LeT (gs : List Int) : LeT (leG gs) := ⟨fun a b => by
    unfold leG
    have h := rowsV_flip (keyV gs a.1) (keyV gs b.1)
    rcases (show rowsV (keyV gs a.1) (keyV gs b.1) ≤ 0 ∨ rowsV (keyV gs b.1) (keyV gs a.1) ≤ 0 by omega) with h | h
    · exact Or.inl (by simpa using h)
    · exact Or.inr (by simpa using h), fun a b c h1 h2 => by
    unfold leG at *
    have := rowsV_trans _ _ _ (of_decide_eq_true h1) (of_decide_eq_true h2)
    simpa using this⟩
theorem sortG_srt (gs : List Int) (K : List Pair) : sortG gs K = srt (leG gs) K := srt_merge (leG_LeT gs) K
/-- The order of elements. -/
def leE (gs : List Int) (x y : Elem) : Bool := leG gs (pr x) (pr y)
theorem leE_LeT (gs : List Int) : LeT (leE gs) := ⟨fun _ _ => (leG_LeT gs).total _ _, fun _ _ _ => (leG_LeT gs).trans _ _ _⟩
theorem srt_pr (gs : List Int) (E : List Elem) : (srt (leE gs) E).map pr = sortG gs (E.map pr) := by
  rw [sortG_srt]; exact srt_map pr (fun _ _ => rfl) E
end Go.Proofs.YtjmoegcfgadjiaaGreat
