/- Expressions and conditions over a row, plainly: trees that know where they lie; what they come to, which columns they read, what stands apart. Nothing of any program here. Conditions: none. -/
import Derived.Test.YtolcebbpbihnoaaTc
import Derived.Test.YtolcebbpbihnoaaWd
namespace Go.Proofs.Ytolcebbpbihnoaa
open Go.RowKit

/-- An expression: its kind, its place, its value, where its arguments lie. -/
inductive Cx where
  | mk (k a : Int) (v : Val) (p : Option Addr) (c : Nat) (ys : List Cx)
/-- A condition. -/
inductive Tx where
  | mk (k op : Int) (l r : Cx) (p : Option Addr) (c : Nat) (ys : List Tx)

def zV : Val := ⟨0, 0, ⟨#[]⟩⟩
def zCx : Cx := .mk 0 0 zV none 0 []
def colV (row : List Val) (a : Int) : Val × Int := if a < 0 then (zV, 8) else match row[a.toNat]? with | some v => (v, 0) | none => (zV, 8)
def twoV (k : Int) (x y : Val × Int) : Val × Int :=
  if x.2 ≠ 0 then (zV, x.2) else if y.2 ≠ 0 then (zV, y.2) else (⟨cK k x.1.k x.1.n y.1.k y.1.n, cN k x.1.k x.1.n y.1.k y.1.n, ⟨#[]⟩⟩, cE k x.1.k x.1.n y.1.k y.1.n)
def negV (x : Val × Int) : Val × Int := if x.2 ≠ 0 then (zV, x.2) else (⟨cK 4 1 0 x.1.k x.1.n, cN 4 1 0 x.1.k x.1.n, ⟨#[]⟩⟩, cE 4 1 0 x.1.k x.1.n)
def evOf (row : List Val) (k a : Int) (v : Val) (rs : List (Val × Int)) : Val × Int :=
  if k = 1 then colV row a else if k = 2 then (v, 0)
  else if k = 3 ∨ k = 4 ∨ k = 5 then (match rs with | [x, y] => twoV k x y | _ => (zV, 8))
  else if k = 6 then (match rs with | [x] => negV x | _ => (zV, 8))
  else (zV, 8)
mutual
def evC (row : List Val) : Cx → Val × Int
  | .mk k a v _ _ ys => evOf row k a v (evL row ys)
def evL (row : List Val) : List Cx → List (Val × Int)
  | [] => []
  | x :: l => evC row x :: evL row l
end
theorem evL_map (row : List Val) : ∀ l, evL row l = l.map (evC row)
  | [] => rfl
  | x :: l => by rw [evL, evL_map row l]; rfl
mutual
/-- The places of all columns, ys they are met. -/
def rdC : Cx → List Int
  | .mk k a _ _ _ ys => (if k = 1 then [a] else []) ++ rdL ys
def rdL : List Cx → List Int
  | [] => []
  | x :: l => rdC x ++ rdL l
end
mutual
def sizeC : Cx → Nat
  | .mk _ _ _ _ _ ys => 1 + sizeCL ys
def sizeCL : List Cx → Nat
  | [] => 0
  | x :: l => sizeC x + sizeCL l
end
mutual
theorem rdC_len : ∀ c, (rdC c).length ≤ sizeC c
  | .mk k a _ _ _ ys => by
    have := rdL_len ys
    rw [rdC, sizeC, List.length_append]
    split
    · simp; omega
    · simp; omega
theorem rdL_len : ∀ l, (rdL l).length ≤ sizeCL l
  | [] => by simp [rdL]
  | x :: l => by
    have := rdC_len x
    have := rdL_len l
    rw [rdL, sizeCL, List.length_append]; omega
end
/-- A comparison's side. -/
def sdC (row : List Val) : Cx → Val
  | .mk k a v p c ys => if k = 1 ∨ k = 2 then (evC row (.mk k a v p c ys)).1 else zV
def nulV (v : Val) : Int := if v.k = 0 then 2 else 0
def hoOf (k op : Int) (l r : Val) (rs : List Int) : Int :=
  if k = 0 then 2 else if k = 1 then cmpO op l.k l.n l.s r.k r.n r.s else if k = 2 then nulV l else if k = 3 then 2 - nulV l
  else if k = 4 then andV rs else if k = 5 then orV rs else if k = 6 then (match rs with | [x] => notV x | _ => 1) else 1
mutual
def hoT (row : List Val) : Tx → Int
  | .mk k op l r _ _ ys => hoOf k op (sdC row l) (sdC row r) (hoL row ys)
def hoL (row : List Val) : List Tx → List Int
  | [] => []
  | x :: l => hoT row x :: hoL row l
end
theorem hoL_map (row : List Val) : ∀ l, hoL row l = l.map (hoT row)
  | [] => rfl
  | x :: l => by rw [hoL, hoL_map row l]; rfl
mutual
def asT : Tx → List Int
  | .mk _ _ l r _ _ ys => rdC l ++ rdC r ++ asL ys
def asL : List Tx → List Int
  | [] => []
  | x :: l => asT x ++ asL l
end
mutual
def sizeT : Tx → Nat
  | .mk _ _ l r _ _ ys => 1 + sizeC l + sizeC r + sizeTL ys
def sizeTL : List Tx → Nat
  | [] => 0
  | x :: l => sizeT x + sizeTL l
end
mutual
theorem asT_len : ∀ c, (asT c).length ≤ sizeT c
  | .mk k op l r _ _ ys => by
    have := asL_len ys
    have := rdC_len l
    have := rdC_len r
    rw [asT, sizeT, List.length_append, List.length_append]; omega
theorem asL_len : ∀ l, (asL l).length ≤ sizeTL l
  | [] => by simp [asL]
  | x :: l => by
    have := asT_len x
    have := asL_len l
    rw [asL, sizeTL, List.length_append]; omega
end
mutual
/-- What stands apart. -/
def boT : Tx → List Tx
  | .mk k op l r p c ys => if k = 0 then [] else if k = 4 then boL ys else [.mk k op l r p c ys]
def boL : List Tx → List Tx
  | [] => []
  | x :: l => boT x ++ boL l
end
theorem sizeT_pos : ∀ c, 1 ≤ sizeT c
  | .mk .. => by rw [sizeT]; omega
mutual
theorem boT_len : ∀ c, (boT c).length ≤ sizeT c
  | .mk k op l r p c ys => by
    have := boL_len ys
    rw [boT, sizeT]
    split
    · simp
    split
    · omega
    · simp; omega
theorem boL_len : ∀ l, (boL l).length ≤ sizeTL l
  | [] => by simp [boL]
  | x :: l => by
    have := boT_len x
    have := boL_len l
    rw [boL, sizeTL, List.length_append]; omega
end
theorem hoOf_cases (k op : Int) (l r : Val) (rs : List Int) : hoOf k op l r rs = 0 ∨ hoOf k op l r rs = 1 ∨ hoOf k op l r rs = 2 := by
  have h1 : ∀ v, nulV v = 0 ∨ nulV v = 2 := fun v => by unfold nulV; split <;> simp
  have h2 : ∀ x : Int, notV x = 0 ∨ notV x = 1 ∨ notV x = 2 := notV_cases
  have h3 : ∀ b, tv b = 0 ∨ tv b = 2 := fun b => by cases b <;> simp [tv]
  have h4 : cmpO op l.k l.n l.s r.k r.n r.s = 0 ∨ cmpO op l.k l.n l.s r.k r.n r.s = 1 ∨ cmpO op l.k l.n l.s r.k r.n r.s = 2 := by
    unfold cmpO opV
    repeat' split
    all_goals first | simp | (rcases h3 _ with h | h <;> rw [h] <;> simp)
  unfold hoOf
  repeat' split
  all_goals first | simp | exact h4 | exact andV_cases _ | exact orV_cases _ | exact h2 _ | (rcases h1 l with h | h <;> rw [h] <;> simp)
theorem hoT_cases (row : List Val) : ∀ c, hoT row c = 0 ∨ hoT row c = 1 ∨ hoT row c = 2
  | .mk .. => by rw [hoT]; exact hoOf_cases ..
theorem known_ho (row : List Val) (c : Tx) : knownV (hoT row c) = hoT row c := by
  rcases hoT_cases row c with h | h | h <;> rw [h] <;> rfl
theorem not_ho (row : List Val) (c : Tx) : notV (hoT row c) = 2 - hoT row c := by rw [not_eq, known_ho]

/-- What a value that is reckoned may be. -/
def ValOk (v : Val) : Prop := inI v
theorem inI_zV : inI zV := ⟨by simp [zV], by simp [zV], (Nat.zero_le _ : 0 ≤ maxLen)⟩
theorem cN_bd (op ka na kb nb : Int) : -9223372036854775808 ≤ cN op ka na kb nb ∧ cN op ka na kb nb ≤ 9223372036854775807 := by
  unfold cN calc3
  repeat' split
  all_goals first | (refine ⟨?_, ?_⟩ <;> simp; done) | skip
  all_goals (have := inR_bd ‹_›; omega)
theorem inI_calc (op ka na kb nb : Int) : inI ⟨cK op ka na kb nb, cN op ka na kb nb, ⟨#[]⟩⟩ := ⟨(cN_bd ..).1, (cN_bd ..).2, (Nat.zero_le _ : 0 ≤ maxLen)⟩
theorem inI_two (k : Int) (x y : Val × Int) : inI (twoV k x y).1 := by
  unfold twoV
  split
  · exact inI_zV
  split
  · exact inI_zV
  · exact inI_calc ..
theorem inI_neg (x : Val × Int) : inI (negV x).1 := by
  unfold negV
  split
  · exact inI_zV
  · exact inI_calc ..
theorem inI_col {row : List Val} (hr : ∀ x ∈ row, inI x) (a : Int) : inI (colV row a).1 := by
  unfold colV
  split
  · exact inI_zV
  · split
    · exact hr _ (List.mem_of_getElem? ‹_›)
    · exact inI_zV
theorem inI_ev {row : List Val} (hr : ∀ x ∈ row, inI x) {k a : Int} {v : Val} (hv : inI v) (rs : List (Val × Int)) : inI (evOf row k a v rs).1 := by
  unfold evOf
  repeat' split
  all_goals first | exact inI_zV | exact hv | exact inI_col hr _ | exact inI_two .. | exact inI_neg _

theorem sizeCL_mem {x : Cx} : ∀ {l : List Cx}, x ∈ l → sizeC x ≤ sizeCL l
  | y :: l, h => by
    rw [sizeCL]
    rcases List.mem_cons.1 h with rfl | h
    · omega
    · have := sizeCL_mem h; omega
theorem sizeTL_mem {x : Tx} : ∀ {l : List Tx}, x ∈ l → sizeT x ≤ sizeTL l
  | y :: l, h => by
    rw [sizeTL]
    rcases List.mem_cons.1 h with rfl | h
    · omega
    · have := sizeTL_mem h; omega
theorem rdL_take (l : List Cx) (j : Nat) (h : j < l.length) : rdL (l.take (j + 1)) = rdL (l.take j) ++ rdC l[j] := by
  rw [List.take_succ_eq_append_getElem h]
  generalize l.take j = m
  induction m with
  | nil => simp [rdL]
  | cons x m ih => simp only [List.cons_append, rdL, ih, List.append_assoc]
theorem asL_take (l : List Tx) (j : Nat) (h : j < l.length) : asL (l.take (j + 1)) = asL (l.take j) ++ asT l[j] := by
  rw [List.take_succ_eq_append_getElem h]
  generalize l.take j = m
  induction m with
  | nil => simp [asL]
  | cons x m ih => simp only [List.cons_append, asL, ih, List.append_assoc]
theorem boL_take (l : List Tx) (j : Nat) (h : j < l.length) : boL (l.take (j + 1)) = boL (l.take j) ++ boT l[j] := by
  rw [List.take_succ_eq_append_getElem h]
  generalize l.take j = m
  induction m with
  | nil => simp [boL]
  | cons x m ih => simp only [List.cons_append, boL, ih, List.append_assoc]
theorem sizeCL_take (l : List Cx) (j : Nat) (h : j < l.length) : sizeCL (l.take j) + sizeC l[j] ≤ sizeCL l := by
  induction l generalizing j with
  | nil => simp at h
  | cons x l ih =>
    cases j with
    | zero => simp [sizeCL]
    | succ j =>
      have := ih j (by simpa using h)
      simp only [List.take_succ_cons, sizeCL, List.getElem_cons_succ]; omega
theorem sizeTL_take (l : List Tx) (j : Nat) (h : j < l.length) : sizeTL (l.take j) + sizeT l[j] ≤ sizeTL l := by
  induction l generalizing j with
  | nil => simp at h
  | cons x l ih =>
    cases j with
    | zero => simp [sizeTL]
    | succ j =>
      have := ih j (by simpa using h)
      simp only [List.take_succ_cons, sizeTL, List.getElem_cons_succ]; omega

/-! ### Where they lie -/
def Cx.cells : Cx → List Value
  | .mk k a v p c ys => [.int .i64 k, .int .i64 a, .int .i64 v.k, .int .i64 v.n, .string v.s, .slice p ys.length c]
def Tx.cells : Tx → List Value
  | .mk k op l r p c ys => .int .i64 k :: .int .i64 op :: (l.cells ++ r.cells ++ [.slice p ys.length c])
def Cx.val (c : Cx) : Value := .agg c.cells.toArray
def Tx.val (c : Tx) : Value := .agg c.cells.toArray
theorem Cx.cells_len : ∀ c : Cx, c.cells.length = 6
  | .mk .. => rfl
theorem Tx.cells_len : ∀ c : Tx, c.cells.length = 15
  | .mk _ _ l r .. => by simp [Tx.cells, Cx.cells_len]
/-- Structs of m cells, one behind the other, from where a slice begins. -/
structure RowC (w : World) (m : Nat) (p : Option Addr) (us : List (List Value)) : Prop where
  out : ∀ i (hi : i < us.length), ∃ b o, p = some ⟨b, o, none⟩ ∧ b < w.heap.size ∧ w.rangeAt b (o + i * m) us[i]
theorem rangeAt_blk {w w' : World} {b o : Nat} {us : List Value} (h : w.rangeAt b o us) (hb : w'.heap[b]? = w.heap[b]?) : w'.rangeAt b o us :=
  fun j v hv => (World.cell?_of_block (a := ⟨b, o + j, none⟩) hb).trans (h j v hv)
theorem RowC.later {w w' : World} {m : Nat} {p : Option Addr} {us : List (List Value)} (h : RowC w m p us) (hb : Below w.heap.size w w') : RowC w' m p us :=
  ⟨fun i hi => by
    obtain ⟨b, o, e, hlt, hR⟩ := h.out i hi
    exact ⟨b, o, e, Nat.lt_of_lt_of_le hlt hb.size, rangeAt_blk hR (hb.block b hlt)⟩⟩
structure CxOk (w : World) (k a : Int) (v : Val) (p : Option Addr) (c : Nat) (ys : List Cx) : Prop where
  i : inI v
  k1 : -9223372036854775808 ≤ k
  k2 : k ≤ 9223372036854775807
  a1 : -9223372036854775808 ≤ a
  a2 : a ≤ 9223372036854775807
  c : ys.length ≤ c
  room : ys.length * 72 ≤ 140737488351232
  row : RowC w 6 p (ys.map Cx.cells)
def CxAt (w : World) : Nat → Cx → Prop
  | 0, _ => False
  | n + 1, .mk k a v p c ys => CxOk w k a v p c ys ∧ ∀ x ∈ ys, CxAt w n x
structure TxOk (w : World) (p : Option Addr) (c : Nat) (ys : List Tx) : Prop where
  c : ys.length ≤ c
  room : ys.length * 184 ≤ 140737488351232
  row : RowC w 15 p (ys.map Tx.cells)
def TxAt (w : World) : Nat → Tx → Prop
  | 0, _ => False
  | n + 1, .mk _ _ l r p c ys => (CxAt w n l ∧ CxAt w n r) ∧ TxOk w p c ys ∧ ∀ x ∈ ys, TxAt w n x
theorem CxAt.later {w w' : World} (hb : Below w.heap.size w w') : ∀ {n : Nat} {c : Cx}, CxAt w n c → CxAt w' n c
  | _ + 1, .mk .., h => ⟨⟨h.1.i, h.1.k1, h.1.k2, h.1.a1, h.1.a2, h.1.c, h.1.room, h.1.row.later hb⟩, fun x hx => (h.2 x hx).later hb⟩
theorem TxAt.later {w w' : World} (hb : Below w.heap.size w w') : ∀ {n : Nat} {c : Tx}, TxAt w n c → TxAt w' n c
  | _ + 1, .mk .., h => ⟨⟨h.1.1.later hb, h.1.2.later hb⟩, ⟨h.2.1.c, h.2.1.room, h.2.1.row.later hb⟩, fun x hx => (h.2.2 x hx).later hb⟩
theorem CxAt.mono {w : World} : ∀ {n m : Nat} {c : Cx}, n ≤ m → CxAt w n c → CxAt w m c
  | n + 1, 0, _, h, _ => absurd h (by omega)
  | n + 1, m + 1, .mk .., h, g => ⟨g.1, fun x hx => (g.2 x hx).mono (Nat.le_of_succ_le_succ h)⟩
theorem TxAt.mono {w : World} : ∀ {n m : Nat} {c : Tx}, n ≤ m → TxAt w n c → TxAt w m c
  | n + 1, 0, _, h, _ => absurd h (by omega)
  | n + 1, m + 1, .mk .., h, g => ⟨⟨g.1.1.mono (Nat.le_of_succ_le_succ h), g.1.2.mono (Nat.le_of_succ_le_succ h)⟩, g.2.1, fun x hx => (g.2.2 x hx).mono (Nat.le_of_succ_le_succ h)⟩
theorem CxAt.i {w : World} {row : List Val} (hr : ∀ x ∈ row, inI x) : ∀ {n : Nat} {c : Cx}, CxAt w n c → inI (evC row c).1
  | n + 1, .mk .., h => by rw [evC]; exact inI_ev hr h.1.i _
theorem CxAt.si {w : World} {row : List Val} (hr : ∀ x ∈ row, inI x) : ∀ {n : Nat} {c : Cx}, CxAt w n c → inI (sdC row c)
  | n + 1, .mk .., h => by
    rw [sdC]
    split
    · exact CxAt.i hr h
    · exact inI_zV
end Go.Proofs.Ytolcebbpbihnoaa
