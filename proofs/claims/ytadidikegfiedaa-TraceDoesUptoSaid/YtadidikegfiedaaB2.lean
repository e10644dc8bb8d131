/- Several of my texts laid together, each as it was: Ya, Yv, Yo, Ba, Ma, Mb, Mc, Lb, Bb, Xa, X7. Conditions: each names its own. -/
import Derived.Test.YtadidikegfiedaaB1
import Derived.Deep.MidRow
import Derived.Deep.RegionHeld3
import Derived.Deep.AppendLies
import Derived.BigQuiet
import Derived.WalkKit
import Derived.OwnWalk
/- Expressions and conditions over a row, plainly: trees that know where they lie; what they come to, which columns they read, what stands apart. Nothing of any program here. Conditions: none. -/
namespace Go.Proofs.Ytadidikegfiedaa
open Go.RowKit

/-- An expression: its kind, its place, its value, where its arguments lie. -/
inductive Cx where
  | mk (k a : Int) (v : Val) (p : Option Addr) (c : Nat) (ys : List Cx)
/-- A condition. -/
inductive Tx where
  | mk (k op : Int) (l r : Cx) (p : Option Addr) (c : Nat) (ys : List Tx)

def zV : Val := ⟨0, 0, ⟨#[]⟩⟩
def zCx : Cx := .mk 0 0 zV none 0 []
def colV (row : List Val) (a : Int) : Val × Int := if a < 0 then (zV, 8) else match row[a.toNat]? with | some v => (v, 0) | none => (zV, 8)
def twoV (k : Int) (x y : Val × Int) : Val × Int :=
  if x.2 ≠ 0 then (zV, x.2) else if y.2 ≠ 0 then (zV, y.2) else (⟨cK k x.1.k x.1.n y.1.k y.1.n, cN k x.1.k x.1.n y.1.k y.1.n, ⟨#[]⟩⟩, cE k x.1.k x.1.n y.1.k y.1.n)
def negV (x : Val × Int) : Val × Int := if x.2 ≠ 0 then (zV, x.2) else (⟨cK 4 1 0 x.1.k x.1.n, cN 4 1 0 x.1.k x.1.n, ⟨#[]⟩⟩, cE 4 1 0 x.1.k x.1.n)
def evOf (row : List Val) (k a : Int) (v : Val) (rs : List (Val × Int)) : Val × Int :=
  if k = 1 then colV row a else if k = 2 then (v, 0)
  else if k = 3 ∨ k = 4 ∨ k = 5 then (match rs with | [x, y] => twoV k x y | _ => (zV, 8))
  else if k = 6 then (match rs with | [x] => negV x | _ => (zV, 8))
  else (zV, 8)
mutual
def evC (row : List Val) : Cx → Val × Int
  | .mk k a v _ _ ys => evOf row k a v (evL row ys)
def evL (row : List Val) : List Cx → List (Val × Int)
  | [] => []
  | x :: l => evC row x :: evL row l
end
theorem evL_map (row : List Val) : ∀ l, evL row l = l.map (evC row)
  | [] => rfl
  | x :: l => by rw [evL, evL_map row l]; rfl
mutual
/-- The places of all columns, ys they are met. -/
def rdC : Cx → List Int
  | .mk k a _ _ _ ys => (if k = 1 then [a] else []) ++ rdL ys
def rdL : List Cx → List Int
  | [] => []
  | x :: l => rdC x ++ rdL l
end
mutual
def sizeC : Cx → Nat
  | .mk _ _ _ _ _ ys => 1 + sizeCL ys
def sizeCL : List Cx → Nat
  | [] => 0
  | x :: l => sizeC x + sizeCL l
end
mutual
theorem rdC_len : ∀ c, (rdC c).length ≤ sizeC c
  | .mk k a _ _ _ ys => by
    have := rdL_len ys
    rw [rdC, sizeC, List.length_append]
    split
    · simp; omega
    · simp; omega
theorem rdL_len : ∀ l, (rdL l).length ≤ sizeCL l
  | [] => by simp [rdL]
  | x :: l => by
    have := rdC_len x
    have := rdL_len l
    rw [rdL, sizeCL, List.length_append]; omega
end
/-- A comparison's side. -/
def sdC (row : List Val) : Cx → Val
  | .mk k a v p c ys => if k = 1 ∨ k = 2 then (evC row (.mk k a v p c ys)).1 else zV
def nulV (v : Val) : Int := if v.k = 0 then 2 else 0
def hoOf (k op : Int) (l r : Val) (rs : List Int) : Int :=
  if k = 0 then 2 else if k = 1 then cmpO op l.k l.n l.s r.k r.n r.s else if k = 2 then nulV l else if k = 3 then 2 - nulV l
  else if k = 4 then andV rs else if k = 5 then orV rs else if k = 6 then (match rs with | [x] => notV x | _ => 1) else 1
mutual
def hoT (row : List Val) : Tx → Int
  | .mk k op l r _ _ ys => hoOf k op (sdC row l) (sdC row r) (hoL row ys)
def hoL (row : List Val) : List Tx → List Int
  | [] => []
  | x :: l => hoT row x :: hoL row l
end
theorem hoL_map (row : List Val) : ∀ l, hoL row l = l.map (hoT row)
  | [] => rfl
  | x :: l => by rw [hoL, hoL_map row l]; rfl
mutual
def asT : Tx → List Int
  | .mk _ _ l r _ _ ys => rdC l ++ rdC r ++ asL ys
def asL : List Tx → List Int
  | [] => []
  | x :: l => asT x ++ asL l
end
mutual
def sizeT : Tx → Nat
  | .mk _ _ l r _ _ ys => 1 + sizeC l + sizeC r + sizeTL ys
def sizeTL : List Tx → Nat
  | [] => 0
  | x :: l => sizeT x + sizeTL l
end
mutual
theorem asT_len : ∀ c, (asT c).length ≤ sizeT c
  | .mk k op l r _ _ ys => by
    have := asL_len ys
    have := rdC_len l
    have := rdC_len r
    rw [asT, sizeT, List.length_append, List.length_append]; omega
theorem asL_len : ∀ l, (asL l).length ≤ sizeTL l
  | [] => by simp [asL]
  | x :: l => by
    have := asT_len x
    have := asL_len l
    rw [asL, sizeTL, List.length_append]; omega
end
mutual
/-- What stands apart. -/
def boT : Tx → List Tx
  | .mk k op l r p c ys => if k = 0 then [] else if k = 4 then boL ys else [.mk k op l r p c ys]
def boL : List Tx → List Tx
  | [] => []
  | x :: l => boT x ++ boL l
end
theorem sizeT_pos : ∀ c, 1 ≤ sizeT c
  | .mk .. => by rw [sizeT]; omega
mutual
theorem boT_len : ∀ c, (boT c).length ≤ sizeT c
  | .mk k op l r p c ys => by
    have := boL_len ys
    rw [boT, sizeT]
    split
    · simp
    split
    · omega
    · simp; omega
theorem boL_len : ∀ l, (boL l).length ≤ sizeTL l
  | [] => by simp [boL]
  | x :: l => by
    have := boT_len x
    have := boL_len l
    rw [boL, sizeTL, List.length_append]; omega
end
theorem hoOf_cases (k op : Int) (l r : Val) (rs : List Int) : hoOf k op l r rs = 0 ∨ hoOf k op l r rs = 1 ∨ hoOf k op l r rs = 2 := by
  have h1 : ∀ v, nulV v = 0 ∨ nulV v = 2 := fun v => by unfold nulV; split <;> simp
  have h2 : ∀ x : Int, notV x = 0 ∨ notV x = 1 ∨ notV x = 2 := notV_cases
  have h3 : ∀ b, tv b = 0 ∨ tv b = 2 := fun b => by cases b <;> simp [tv]
  have h4 : cmpO op l.k l.n l.s r.k r.n r.s = 0 ∨ cmpO op l.k l.n l.s r.k r.n r.s = 1 ∨ cmpO op l.k l.n l.s r.k r.n r.s = 2 := by
    unfold cmpO opV
    repeat' split
    all_goals first | simp | (rcases h3 _ with h | h <;> rw [h] <;> simp)
  unfold hoOf
  repeat' split
  all_goals first | simp | exact h4 | exact andV_cases _ | exact orV_cases _ | exact h2 _ | (rcases h1 l with h | h <;> rw [h] <;> simp)
theorem hoT_cases (row : List Val) : ∀ c, hoT row c = 0 ∨ hoT row c = 1 ∨ hoT row c = 2
  | .mk .. => by rw [hoT]; exact hoOf_cases ..
theorem known_ho (row : List Val) (c : Tx) : knownV (hoT row c) = hoT row c := by
  rcases hoT_cases row c with h | h | h <;> rw [h] <;> rfl
theorem not_ho (row : List Val) (c : Tx) : notV (hoT row c) = 2 - hoT row c := by rw [not_eq, known_ho]

/-- What a value that is reckoned may be. -/
def ValOk (v : Val) : Prop := inI v
theorem inI_zV : inI zV := ⟨by simp [zV], by simp [zV], (Nat.zero_le _ : 0 ≤ maxLen)⟩
theorem cN_bd (op ka na kb nb : Int) : -9223372036854775808 ≤ cN op ka na kb nb ∧ cN op ka na kb nb ≤ 9223372036854775807 := by
  unfold cN calc3
  repeat' split
  all_goals first | (refine ⟨?_, ?_⟩ <;> simp; done) | skip
  all_goals (have := inR_bd ‹_›; omega)
theorem inI_calc (op ka na kb nb : Int) : inI ⟨cK op ka na kb nb, cN op ka na kb nb, ⟨#[]⟩⟩ := ⟨(cN_bd ..).1, (cN_bd ..).2, (Nat.zero_le _ : 0 ≤ maxLen)⟩
theorem inI_two (k : Int) (x y : Val × Int) : inI (twoV k x y).1 := by
  unfold twoV
  split
  · exact inI_zV
  split
  · exact inI_zV
  · exact inI_calc ..
theorem inI_neg (x : Val × Int) : inI (negV x).1 := by
  unfold negV
  split
  · exact inI_zV
  · exact inI_calc ..
theorem inI_col {row : List Val} (hr : ∀ x ∈ row, inI x) (a : Int) : inI (colV row a).1 := by
  unfold colV
  split
  · exact inI_zV
  · split
    · exact hr _ (List.mem_of_getElem? ‹_›)
    · exact inI_zV
theorem inI_ev {row : List Val} (hr : ∀ x ∈ row, inI x) {k a : Int} {v : Val} (hv : inI v) (rs : List (Val × Int)) : inI (evOf row k a v rs).1 := by
  unfold evOf
  repeat' split
  all_goals first | exact inI_zV | exact hv | exact inI_col hr _ | exact inI_two .. | exact inI_neg _

theorem sizeCL_mem {x : Cx} : ∀ {l : List Cx}, x ∈ l → sizeC x ≤ sizeCL l
  | y :: l, h => by
    rw [sizeCL]
    rcases List.mem_cons.1 h with rfl | h
    · omega
    · have := sizeCL_mem h; omega
theorem sizeTL_mem {x : Tx} : ∀ {l : List Tx}, x ∈ l → sizeT x ≤ sizeTL l
  | y :: l, h => by
    rw [sizeTL]
    rcases List.mem_cons.1 h with rfl | h
    · omega
    · have := sizeTL_mem h; omega
theorem rdL_take (l : List Cx) (j : Nat) (h : j < l.length) : rdL (l.take (j + 1)) = rdL (l.take j) ++ rdC l[j] := by
  rw [List.take_succ_eq_append_getElem h]
  generalize l.take j = m
  induction m with
  | nil => simp [rdL]
  | cons x m ih => simp only [List.cons_append, rdL, ih, List.append_assoc]
theorem asL_take (l : List Tx) (j : Nat) (h : j < l.length) : asL (l.take (j + 1)) = asL (l.take j) ++ asT l[j] := by
  rw [List.take_succ_eq_append_getElem h]
  generalize l.take j = m
  induction m with
  | nil => simp [asL]
  | cons x m ih => simp only [List.cons_append, asL, ih, List.append_assoc]
theorem boL_take (l : List Tx) (j : Nat) (h : j < l.length) : boL (l.take (j + 1)) = boL (l.take j) ++ boT l[j] := by
  rw [List.take_succ_eq_append_getElem h]
  generalize l.take j = m
  induction m with
  | nil => simp [boL]
  | cons x m ih => simp only [List.cons_append, boL, ih, List.append_assoc]
theorem sizeCL_take (l : List Cx) (j : Nat) (h : j < l.length) : sizeCL (l.take j) + sizeC l[j] ≤ sizeCL l := by
  induction l generalizing j with
  | nil => simp at h
  | cons x l ih =>
    cases j with
    | zero => simp [sizeCL]
    | succ j =>
      have := ih j (by simpa using h)
      simp only [List.take_succ_cons, sizeCL, List.getElem_cons_succ]; omega
theorem sizeTL_take (l : List Tx) (j : Nat) (h : j < l.length) : sizeTL (l.take j) + sizeT l[j] ≤ sizeTL l := by
  induction l generalizing j with
  | nil => simp at h
  | cons x l ih =>
    cases j with
    | zero => simp [sizeTL]
    | succ j =>
      have := ih j (by simpa using h)
      simp only [List.take_succ_cons, sizeTL, List.getElem_cons_succ]; omega

/-! ### Where they lie -/
def Cx.cells : Cx → List Value
  | .mk k a v p c ys => [.int .i64 k, .int .i64 a, .int .i64 v.k, .int .i64 v.n, .string v.s, .slice p ys.length c]
def Tx.cells : Tx → List Value
  | .mk k op l r p c ys => .int .i64 k :: .int .i64 op :: (l.cells ++ r.cells ++ [.slice p ys.length c])
def Cx.val (c : Cx) : Value := .agg c.cells.toArray
def Tx.val (c : Tx) : Value := .agg c.cells.toArray
theorem Cx.cells_len : ∀ c : Cx, c.cells.length = 6
  | .mk .. => rfl
theorem Tx.cells_len : ∀ c : Tx, c.cells.length = 15
  | .mk _ _ l r .. => by simp [Tx.cells, Cx.cells_len]
/-- Structs of m cells, one behind the other, from where a slice begins. -/
structure RowC (w : World) (m : Nat) (p : Option Addr) (us : List (List Value)) : Prop where
  out : ∀ i (hi : i < us.length), ∃ b o, p = some ⟨b, o, none⟩ ∧ b < w.heap.size ∧ w.rangeAt b (o + i * m) us[i]
theorem rangeAt_blk {w w' : World} {b o : Nat} {us : List Value} (h : w.rangeAt b o us) (hb : w'.heap[b]? = w.heap[b]?) : w'.rangeAt b o us :=
  fun j v hv => (World.cell?_of_block (a := ⟨b, o + j, none⟩) hb).trans (h j v hv)
theorem RowC.later {w w' : World} {m : Nat} {p : Option Addr} {us : List (List Value)} (h : RowC w m p us) (hb : Below w.heap.size w w') : RowC w' m p us :=
  ⟨fun i hi => by
    obtain ⟨b, o, e, hlt, hR⟩ := h.out i hi
    exact ⟨b, o, e, Nat.lt_of_lt_of_le hlt hb.size, rangeAt_blk hR (hb.block b hlt)⟩⟩
structure CxOk (w : World) (k a : Int) (v : Val) (p : Option Addr) (c : Nat) (ys : List Cx) : Prop where
  i : inI v
  k1 : -9223372036854775808 ≤ k
  k2 : k ≤ 9223372036854775807
  a1 : -9223372036854775808 ≤ a
  a2 : a ≤ 9223372036854775807
  c : ys.length ≤ c
  room : ys.length * 72 ≤ 140737488351232
  row : RowC w 6 p (ys.map Cx.cells)
def CxAt (w : World) : Nat → Cx → Prop
  | 0, _ => False
  | n + 1, .mk k a v p c ys => CxOk w k a v p c ys ∧ ∀ x ∈ ys, CxAt w n x
structure TxOk (w : World) (p : Option Addr) (c : Nat) (ys : List Tx) : Prop where
  c : ys.length ≤ c
  room : ys.length * 184 ≤ 140737488351232
  row : RowC w 15 p (ys.map Tx.cells)
def TxAt (w : World) : Nat → Tx → Prop
  | 0, _ => False
  | n + 1, .mk _ _ l r p c ys => (CxAt w n l ∧ CxAt w n r) ∧ TxOk w p c ys ∧ ∀ x ∈ ys, TxAt w n x
theorem CxAt.later {w w' : World} (hb : Below w.heap.size w w') : ∀ {n : Nat} {c : Cx}, CxAt w n c → CxAt w' n c
  | _ + 1, .mk .., h => ⟨⟨h.1.i, h.1.k1, h.1.k2, h.1.a1, h.1.a2, h.1.c, h.1.room, h.1.row.later hb⟩, fun x hx => (h.2 x hx).later hb⟩
theorem TxAt.later {w w' : World} (hb : Below w.heap.size w w') : ∀ {n : Nat} {c : Tx}, TxAt w n c → TxAt w' n c
  | _ + 1, .mk .., h => ⟨⟨h.1.1.later hb, h.1.2.later hb⟩, ⟨h.2.1.c, h.2.1.room, h.2.1.row.later hb⟩, fun x hx => (h.2.2 x hx).later hb⟩
theorem CxAt.mono {w : World} : ∀ {n m : Nat} {c : Cx}, n ≤ m → CxAt w n c → CxAt w m c
  | n + 1, 0, _, h, _ => absurd h (by omega)
  | n + 1, m + 1, .mk .., h, g => ⟨g.1, fun x hx => (g.2 x hx).mono (Nat.le_of_succ_le_succ h)⟩
theorem TxAt.mono {w : World} : ∀ {n m : Nat} {c : Tx}, n ≤ m → TxAt w n c → TxAt w m c
  | n + 1, 0, _, h, _ => absurd h (by omega)
  | n + 1, m + 1, .mk .., h, g => ⟨⟨g.1.1.mono (Nat.le_of_succ_le_succ h), g.1.2.mono (Nat.le_of_succ_le_succ h)⟩, g.2.1, fun x hx => (g.2.2 x hx).mono (Nat.le_of_succ_le_succ h)⟩
theorem CxAt.i {w : World} {row : List Val} (hr : ∀ x ∈ row, inI x) : ∀ {n : Nat} {c : Cx}, CxAt w n c → inI (evC row c).1
  | n + 1, .mk .., h => by rw [evC]; exact inI_ev hr h.1.i _
theorem CxAt.si {w : World} {row : List Val} (hr : ∀ x ∈ row, inI x) : ∀ {n : Nat} {c : Cx}, CxAt w n c → inI (sdC row c)
  | n + 1, .mk .., h => by
    rw [sdC]
    split
    · exact CxAt.i hr h
    · exact inI_zV
end Go.Proofs.Ytadidikegfiedaa

/- A struct's block: what lies in it, that it may be written; whole structs stored and loaded; a call that ends with a struct. Nothing of any program here. Conditions: each names its own. -/
namespace Go.Proofs.Ytadidikegfiedaa
open Go.RowKit

theorem heap_setCells (b : Nat) : ∀ (vs : List Value) (o : Nat) (w : World) (k : Nat), k ≠ b → (w.setCells b o vs).heap[k]? = w.heap[k]?
  | [], _, _, _, _ => rfl
  | v :: r, o, w, k, h => by
    rw [World.setCells, heap_setCells b r _ _ k h]
    exact Below.heap_setCell w ⟨b, o, none⟩ v k h
theorem size_setCells (b : Nat) : ∀ (vs : List Value) (o : Nat) (w : World), (w.setCells b o vs).heap.size = w.heap.size
  | [], _, _ => rfl
  | v :: r, o, w => by rw [World.setCells, size_setCells b r]; simp
theorem below_setCells {n b : Nat} : ∀ (vs : List Value) (o : Nat) {x y : World}, Below n x y → n ≤ b → Below n x (y.setCells b o vs)
  | [], _, _, _, h, _ => h
  | v :: r, o, _, _, h, hb => below_setCells r (o + 1) (h.setCell hb v) hb

structure VarB (w : World) (B : Nat) (us : List Value) : Prop where
  at_ : w.rangeAt B 0 us
  there : w.there B 0 us.length
  lt : B < w.heap.size
theorem VarB.new (w : World) (us : List Value) (ty : TypeId) : VarB (w.alloc (.cells us.toArray ty)) w.heap.size us := by
  have hc : ∀ j, (w.alloc (.cells us.toArray ty)).cell? ⟨w.heap.size, 0 + j, none⟩ = us[j]? := fun j => by
    rw [cell_of_row _ _ _ us.toArray ty (0, 0) (heap_alloc_new w _)]; simp
  refine ⟨fun j v hv => (hc j).trans hv, fun j hj => ⟨by rw [hc j, List.getElem?_eq_getElem hj]; rfl, World.frozen?_alloc_at _ _ _ _ rfl⟩, by simp⟩
theorem VarB.keep {w w' : World} {B : Nat} {us : List Value} (h : VarB w B us) (hb : w'.heap[B]? = w.heap[B]?) (hs : w.heap.size ≤ w'.heap.size) : VarB w' B us :=
  ⟨fun j v hv => (World.cell?_of_block (a := ⟨B, 0 + j, none⟩) hb).trans (h.at_ j v hv), fun j hj => ⟨by rw [World.cell?_of_block (a := ⟨B, 0 + j, none⟩) hb]; exact (h.there j hj).1, (World.frozen?_of_block (a := ⟨B, 0 + j, none⟩) hb).trans (h.there j hj).2⟩, Nat.lt_of_lt_of_le h.lt hs⟩
theorem VarB.alloc {w : World} {B : Nat} {us : List Value} (h : VarB w B us) (o : Obj) : VarB (w.alloc o) B us := h.keep (Below.heap_alloc w o B h.lt) (by simp)
theorem VarB.drew {w : World} {B : Nat} {us : List Value} (h : VarB w B us) : VarB w.drew B us := h.keep rfl (Nat.le_refl _)
theorem VarB.below {w w' : World} {B : Nat} {us : List Value} (h : VarB w B us) (hb : Below w.heap.size w w') : VarB w' B us := h.keep (hb.block B h.lt) hb.size
theorem VarB.under {n : Nat} {w w' : World} {B : Nat} {us : List Value} (h : VarB w B us) (hb : Below n w w') (hn : B < n) : VarB w' B us := h.keep (hb.block B hn) hb.size
theorem VarB.puts {w : World} {B : Nat} {us : List Value} (h : VarB w B us) (vs : List Value) (hl : vs.length = us.length) : VarB (w.setCells B 0 vs) B vs :=
  ⟨World.rangeAt_setCells_same w B 0 vs (by rw [hl]; exact h.there), World.there_setCells (by rw [hl]; exact h.there) B 0 vs, by rw [size_setCells]; exact h.lt⟩
theorem VarB.other {w : World} {B b o : Nat} {us : List Value} (h : VarB w B us) (vs : List Value) (hb : B ≠ b) : VarB (w.setCells b o vs) B us := h.keep (heap_setCells b vs o w B hb) (Nat.le_of_eq (size_setCells b vs o w).symm)
theorem VarB.cell {w : World} {B : Nat} {us : List Value} (h : VarB w B us) (i : Nat) {u : Value} (hu : us[i]? = some u) : w.cell? ⟨B, i, none⟩ = some u := by
  have := h.at_ i u hu
  rwa [Nat.zero_add] at this
theorem VarB.frz {w : World} {B : Nat} {us : List Value} (h : VarB w B us) (i : Nat) (hi : i < us.length) : w.frozen? ⟨B, i, none⟩ = false := by
  have := (h.there i hi).2
  rwa [Nat.zero_add] at this
theorem VarB.two {w : World} (us vs : List Value) (ty tv : TypeId) : VarB ((w.alloc (.cells us.toArray ty)).alloc (.cells vs.toArray tv)) w.heap.size us ∧ VarB ((w.alloc (.cells us.toArray ty)).alloc (.cells vs.toArray tv)) (w.heap.size + 1) vs := by
  refine ⟨(VarB.new w us ty).alloc _, ?_⟩
  have := VarB.new (w.alloc (.cells us.toArray ty)) vs tv
  rwa [World.size_alloc] at this

/-- A whole struct goes into its block. -/
theorem wp_putB {P : Program} {ops : Array Oper} {rest : List Oper} {a : Act} {w : World} {Q : Exit → Act → World → Prop} {B : Nat} {us vs : List Value} {ty tt : TypeId} {x y : Operand} {pos : String} {af : Array Edge} (hV : VarB w B us) (h1 : ∀ v ∈ vs, v.oneCell' = true) (hl : vs.length = us.length)
    (hi : (P.info? ty).map (·.size) = some us.length) (hx : a.eval x = .pointer (some ⟨B, 0, none⟩)) (hy : a.eval y = .agg vs.toArray)
    (h : ∀ w', VarB w' B vs → Hid (w' = w.setCells B 0 vs) → wpList P ops Q rest (a.put none undef) w') : wpList P ops Q (⟨none, .store ty x y, tt, pos, af, none⟩ :: rest) a w :=
  wpList_store_mid rfl ty x y rfl B 0 vs.toArray hx hy (by simpa [hl] using hV.there) (by simpa [hl] using hi) (all_oneCell_toArray h1) (h _ (hV.puts vs hl) (hid0 rfl))
/-- A whole struct is read. -/
theorem wp_getB {P : Program} {ops : Array Oper} {rest : List Oper} {a : Act} {w : World} {Q : Exit → Act → World → Prop} {b o : Nat} {us : List Value} {dst : Option Nat} {ty tt : TypeId} {x : Operand} {pos : String} {af : Array Edge} (hV : w.rangeAt b o us) {d : TypeDesc} (hu : P.underlying ty = some d) (hd : d.isRow = true) (hi : (P.info? ty).map (·.size) = some us.length)
    (hx : a.eval x = .pointer (some ⟨b, o, none⟩)) (h : wpList P ops Q rest (a.put dst (.agg us.toArray)) w) : wpList P ops Q (⟨dst, .load ty x, tt, pos, af, none⟩ :: rest) a w :=
  wpList_load_mid rfl ty x rfl b o hx us d hV hu hd hi h
/-- A whole struct is read by a guarded operation. -/
theorem wp_getG {P : Program} {ops : Array Oper} {rest : List Oper} {a : Act} {w : World} {Q : Exit → Act → World → Prop} {b o : Nat} {us : List Value} {dst : Option Nat} {ty tt : TypeId} {x : Operand} {pos : String} {af : Array Edge} {gd : Option (Nat × Bool)} (hw : Region.wanted ⟨dst, .load ty x, tt, pos, af, gd⟩ (yielded ops a.tmps) = true) (hR : w.rangeAt b o us) {d : TypeDesc} (hu : P.underlying ty = some d) (hd : d.isRow = true) (hi : (P.info? ty).map (·.size) = some us.length)
    (hx : a.eval x = .pointer (some ⟨b, o, none⟩)) (h : wpList P ops Q rest (a.put dst (.agg us.toArray)) w) : wpList P ops Q (⟨dst, .load ty x, tt, pos, af, gd⟩ :: rest) a w :=
  BigFrame.wpList_want hw (fun _ hK => wp_load_mid ty x rfl b o hx us d hR hu hd hi (hK _ _ h))
/-- A call ends whose result lies in a block of its own. -/
theorem end_blk {P : Program} {f : Func} {Q : Ending → World → Prop} {a : Act} {w : World} {B t : Nat} {ty : TypeId} {us : List Value} (hV : VarB w B us) (hf : f.results = #[.cell t ty]) (ht : a.tmps.getD t undef = .pointer (some ⟨B, 0, none⟩)) (d : TypeDesc) (hu : P.underlying ty = some d) (hd : d.isRow = true) (hi : (P.info? ty).map (·.size) = some us.length)
    (hde : a.defers = []) (hQ : Q (.returned (.agg us.toArray)) w) : bodyPost P f Q .ret a w := by
  refine bodyPost_ret (v := .agg us.toArray) ?_ hde hQ
  have hl := run_loadVar_mid (P := P) w B 0 ty us d hV.at_ hu hd hi
  have ht2 : a.tmps[t]?.getD undef = .pointer (some ⟨B, 0, none⟩) := by simpa using ht
  simp [results, hf, ht2, asAddr, hl]
/-- The same, where a number is told beside it. -/
theorem end_vt {P : Program} {f : Func} {Q : Ending → World → Prop} {a : Act} {w : World} {B t s : Nat} {ty : TypeId} {us : List Value} {x : Value} (hV : VarB w B us) (hf : f.results = #[.cell t ty, .tmp s]) (ht : a.tmps.getD t undef = .pointer (some ⟨B, 0, none⟩)) (hs : a.tmps.getD s undef = x) (d : TypeDesc) (hu : P.underlying ty = some d) (hd : d.isRow = true) (hi : (P.info? ty).map (·.size) = some us.length)
    (hde : a.defers = []) (hQ : Q (.returned (.tuple #[.agg us.toArray, x])) w) : bodyPost P f Q .ret a w := by
  refine bodyPost_ret (v := .tuple #[.agg us.toArray, x]) ?_ hde hQ
  have hl := run_loadVar_mid (P := P) w B 0 ty us d hV.at_ hu hd hi
  have ht2 : a.tmps[t]?.getD undef = .pointer (some ⟨B, 0, none⟩) := by simpa using ht
  have hs2 : a.tmps[s]?.getD undef = x := by simpa using hs
  simp [results, hf, ht2, hs2, asAddr, hl]
theorem one3 (k n : Int) (s : ByteArray) : ∀ v ∈ [Value.int .i64 k, .int .i64 n, .string s], v.oneCell' = true := by
  intro v hv
  simp at hv
  rcases hv with rfl | rfl | rfl <;> rfl
theorem infoV : (Try.prog.info? 62).map (·.size) = some 3 := by kernel_rfl
theorem Cx.one : ∀ (c : Cx), ∀ u ∈ c.cells, u.oneCell' = true
  | .mk .., u, hu => by
    simp [Cx.cells] at hu
    rcases hu with rfl | rfl | rfl | rfl | rfl | rfl <;> rfl
theorem Tx.one : ∀ (c : Tx), ∀ u ∈ c.cells, u.oneCell' = true
  | .mk _ _ l r _ _ _, u, hu => by
    simp only [Tx.cells, List.mem_cons, List.mem_append, List.not_mem_nil, or_false] at hu
    rcases hu with rfl | rfl | (h | h) | rfl
    · rfl
    · rfl
    · exact l.one u h
    · exact r.one u h
    · rfl
theorem len6 {us : List Value} (h : us.length = 6) : ∃ u0 u1 u2 u3 u4 u5, us = [u0, u1, u2, u3, u4, u5] := by
  match us, h with
  | [u0, u1, u2, u3, u4, u5], _ => exact ⟨_, _, _, _, _, _, rfl⟩
/-- A row that came in: its cells, what its values may be. -/
structure RowIn (w : World) (a : Option Addr) (row : List Val) : Prop where
  at_ : RowAt w a row
  i : ∀ x ∈ row, inI x
  len : row.length ≤ maxLen
theorem RowIn.later {w w' : World} {a : Option Addr} {row : List Val} (h : RowIn w a row) (hb : Below w.heap.size w w') : RowIn w' a row := ⟨h.at_.later hb, h.i, h.len⟩
/-- One of a row of structs, as it lies. -/
theorem CxOk.arg {w : World} {k a : Int} {v : Val} {p : Option Addr} {c : Nat} {ys : List Cx} (h : CxOk w k a v p c ys) (i : Nat) (hi : i < ys.length) : ∃ b o, p = some ⟨b, o, none⟩ ∧ b < w.heap.size ∧ w.rangeAt b (o + i * 6) (ys[i]).cells := by
  obtain ⟨b, o, e, hlt, hR⟩ := h.row.out i (by simpa using hi)
  exact ⟨b, o, e, hlt, by simpa using hR⟩
theorem TxOk.arg {w : World} {p : Option Addr} {c : Nat} {ys : List Tx} (h : TxOk w p c ys) (i : Nat) (hi : i < ys.length) : ∃ b o, p = some ⟨b, o, none⟩ ∧ b < w.heap.size ∧ w.rangeAt b (o + i * 15) (ys[i]).cells := by
  obtain ⟨b, o, e, hlt, hR⟩ := h.row.out i (by simpa using hi)
  exact ⟨b, o, e, hlt, by simpa using hR⟩
theorem rng {w : World} {b o : Nat} {us : List Value} (h : w.rangeAt b o us) (i : Nat) {u : Value} (hu : us[i]? = some u) : w.cell? ⟨b, o + i, none⟩ = some u := h i u hu


end Go.Proofs.Ytadidikegfiedaa

/- Expressions and conditions that came in, opened: where they lie, how great they are. Nothing of any program here but the types. Conditions: none. -/
namespace Go.Proofs.Ytadidikegfiedaa
open Go.ChangeShapes Go.WideShapes Go.ChangeAt Go.RowKit Go.Joins Go.Deep

theorem bulk_one {H : Type} (d : DataW H) : 1 ≤ Rows.uptoBulk d := by
  cases d with
  | lit l => cases l <;> simp [Rows.uptoBulk]
  | nil => simp [Rows.uptoBulk]
  | ptr d => simp [Rows.uptoBulk]
  | slice elems spare => simp [Rows.uptoBulk]
  | agg parts => simp [Rows.uptoBulk]
  | iface t d => simp [Rows.uptoBulk]
  | map entries => simp [Rows.uptoBulk]
  | held h => simp [Rows.uptoBulk]
theorem bulk_mem {H : Type} {d : DataW H} {l : List (DataW H)} (h : d ∈ l) : Rows.uptoBulk d ≤ Rows.uptoBulkAll l := by
  induction l with
  | nil => cases h
  | cons x r ih =>
    simp only [Rows.uptoBulkAll]
    cases List.mem_cons.1 h with
    | inl e => subst e; omega
    | inr e => have := ih e; omega
theorem bulk_sum {H α : Type} (sz : α → Nat) (szL : List α → Nat) (h0 : szL [] = 0) (h1 : ∀ x l, szL (x :: l) = sz x + szL l) : ∀ (l : List α) (E : List (DataW H)), l.length = E.length → (∀ i (h : i < l.length) (h' : i < E.length), sz l[i] ≤ Rows.uptoBulk E[i]) → szL l ≤ Rows.uptoBulkAll E
  | [], E, _, _ => by rw [h0]; omega
  | x :: l, [], h, _ => absurd h (by simp)
  | x :: l, d :: E, h, hi => by
    have a := hi 0 (by simp) (by simp)
    have b := bulk_sum sz szL h0 h1 l E (by simpa using h) (fun i g g' => by have := hi (i + 1) (by simpa using g) (by simpa using g'); simpa using this)
    rw [h1]
    simp only [Rows.uptoBulkAll]
    simp only [List.getElem_cons_zero] at a
    omega
set_option maxRecDepth 1000000 in
theorem cellsS : Try.prog.cellsOf 9 = 1 := by kernel_rfl
theorem six_of {α : Type} : ∀ {l : List α}, l.length = 6 → ∃ a b c d e f, l = [a, b, c, d, e, f]
  | [a, b, c, d, e, f], _ => ⟨a, b, c, d, e, f, rfl⟩
theorem fifteen_of {α : Type} : ∀ {l : List α}, l.length = 15 → ∃ a b c d e f g h i j k m n o p, l = [a, b, c, d, e, f, g, h, i, j, k, m, n, o, p]
  | [a, b, c, d, e, f, g, h, i, j, k, m, n, o, p], _ => ⟨a, b, c, d, e, f, g, h, i, j, k, m, n, o, p, rfl⟩
theorem weights_mem_all11 {H : Type} {P : Program} {e : TypeId} : ∀ {l : List (DataW H)} {d : DataW H}, d ∈ l → ∀ n ∈ d.weights P e, n ∈ DataW.weightsAll P e l
  | d0 :: l, d, hd, n, hn => by
    simp only [DataW.weightsAll, List.mem_append]
    rcases List.mem_cons.1 hd with rfl | hd
    · exact .inl hn
    · exact .inr (weights_mem_all11 hd n hn)

section
variable {H : Type} {enc : TypeId × Value → H} {w : World} {base : Nat} {sp : Nat → Bool} {held : Bool}

theorem trod_s4 {P : Program} {t : TypeId} {f0 f1 f2 f3 : Field} {fuel : Nat} {cs : List Value} {x : DataW H × List MemPlace} (ht : P.underlying t = some (.struct #[f0, f1, f2, f3])) (h : DataW.trod enc P w base sp held fuel t cs = some x) :
    ∃ y0 y1 y2 y3 n, x.1 = .agg [y0.1, y1.1, y2.1, y3.1] ∧ cs.length = P.cellsOf t ∧ DataW.trod enc P w base sp held n f0.type ((cs.drop f0.offset).take (P.cellsOf f0.type)) = some y0 ∧
      DataW.trod enc P w base sp held n f1.type ((cs.drop f1.offset).take (P.cellsOf f1.type)) = some y1 ∧ DataW.trod enc P w base sp held n f2.type ((cs.drop f2.offset).take (P.cellsOf f2.type)) = some y2 ∧ DataW.trod enc P w base sp held n f3.type ((cs.drop f3.offset).take (P.cellsOf f3.type)) = some y3 := by
  obtain ⟨xs, n, _, rfl, hl, hlen, hf⟩ := DataW.trod_struct ht h
  match xs, hlen with
  | [y0, y1, y2, y3], _ => exact ⟨y0, y1, y2, y3, n, by simp, hl, by simpa using hf 0 f0 rfl, by simpa using hf 1 f1 rfl, by simpa using hf 2 f2 rfl, by simpa using hf 3 f3 rfl⟩
theorem trod_s5 {P : Program} {t : TypeId} {f0 f1 f2 f3 f4 : Field} {fuel : Nat} {cs : List Value} {x : DataW H × List MemPlace} (ht : P.underlying t = some (.struct #[f0, f1, f2, f3, f4])) (h : DataW.trod enc P w base sp held fuel t cs = some x) :
    ∃ y0 y1 y2 y3 y4 n, x.1 = .agg [y0.1, y1.1, y2.1, y3.1, y4.1] ∧ cs.length = P.cellsOf t ∧ DataW.trod enc P w base sp held n f0.type ((cs.drop f0.offset).take (P.cellsOf f0.type)) = some y0 ∧
      DataW.trod enc P w base sp held n f1.type ((cs.drop f1.offset).take (P.cellsOf f1.type)) = some y1 ∧ DataW.trod enc P w base sp held n f2.type ((cs.drop f2.offset).take (P.cellsOf f2.type)) = some y2 ∧ DataW.trod enc P w base sp held n f3.type ((cs.drop f3.offset).take (P.cellsOf f3.type)) = some y3 ∧
      DataW.trod enc P w base sp held n f4.type ((cs.drop f4.offset).take (P.cellsOf f4.type)) = some y4 := by
  obtain ⟨xs, n, _, rfl, hl, hlen, hf⟩ := DataW.trod_struct ht h
  match xs, hlen with
  | [y0, y1, y2, y3, y4], _ => exact ⟨y0, y1, y2, y3, y4, n, by simp, hl, by simpa using hf 0 f0 rfl, by simpa using hf 1 f1 rfl, by simpa using hf 2 f2 rfl, by simpa using hf 3 f3 rfl, by simpa using hf 4 f4 rfl⟩
theorem block_add (a : Addr) (n : Nat) : (a.add n).block = a.block := by unfold Addr.add; split <;> rfl
/-- The cells of a row's elements, each by itself. -/
theorem rowc_of {m : Nat} (hm : 0 < m) {a : Addr} {us : List (List Value)} (hl : ∀ x ∈ us, x.length = m) (h : ∀ i (hi : i < us.length) j v, (us[i])[j]? = some v → w.cell? ((a.add (i * m)).add j) = some v) : RowC w m (some a) us := by
  refine ⟨fun i hi => ?_⟩
  obtain ⟨b, off, spot⟩ := a
  have hl0 := hl _ (List.getElem_mem (show 0 < us.length by omega))
  obtain ⟨v1, hv1⟩ : ∃ v, (us[0]'(by omega))[0]? = some v := ⟨_, List.getElem?_eq_getElem (l := us[0]'(by omega)) (i := 0) (by omega)⟩
  have hspot : spot = none := by
    have := World.cell?_spot (h 0 (by omega) 0 v1 hv1)
    simpa [Addr.add] using this
  have h0 : ∀ j v, (us[i])[j]? = some v → w.cell? (((⟨b, off, spot⟩ : Addr).add (i * m)).add j) = some v := h i hi
  have hlen := hl _ (List.getElem_mem hi)
  obtain ⟨v0, hv0⟩ : ∃ v, (us[i])[0]? = some v := ⟨_, List.getElem?_eq_getElem (l := us[i]) (i := 0) (by omega)⟩
  subst hspot
  have hb := World.block_lt_of_cell? w _ (h0 0 v0 hv0)
  refine ⟨b, off, rfl, by rw [block_add, block_add] at hb; exact hb, fun j v hv => ?_⟩
  have := h0 j v hv
  simpa only [Go.WideShapes.add_plain] using this
end
end Go.Proofs.Ytadidikegfiedaa

/- Bags of rows, plainly: the one list of rows that rise, each with the sum of its numbers; that merging two gives the one of both; the rows of a bag, each as often as it is there. Nothing of any program here. Conditions: each lemma names its own. -/
namespace Go.Proofs.Ytadidikegfiedaa
open Go.RowKit

abbrev Pair := List Val × Int

theorem rowsV_is : ∀ (a b : List Val), rowsV a b = 0 ↔ a = b
  | [], [] => by simp [rowsV]
  | [], _ :: _ => by simp [rowsV]
  | _ :: _, [] => by simp [rowsV]
  | x :: a, y :: b => by
    unfold rowsV
    by_cases h : cmpT x y = 0
    · rw [if_pos h, rowsV_is a b]
      obtain rfl := (cmpT_zero x y).1 h
      simp
    · rw [if_neg h]
      constructor
      · intro e; exact absurd e h
      · intro e
        obtain ⟨rfl, _⟩ := List.cons.inj e
        exact absurd ((cmpT_zero x x).2 rfl) h
theorem rowsV_self (a : List Val) : rowsV a a = 0 := (rowsV_is a a).2 rfl
theorem rowsV_lt_trans {a b c : List Val} (h1 : rowsV a b < 0) (h2 : rowsV b c < 0) : rowsV a c < 0 := by
  have h := rowsV_trans a b c (by omega) (by omega)
  have h0 : rowsV a c ≠ 0 := fun e => by
    obtain rfl := (rowsV_is a c).1 e
    have := rowsV_flip a b
    omega
  omega

/-- The sum of a row's numbers. -/
def sumOf (r : List Val) : List Pair → Int
  | [] => 0
  | x :: L => (if rowsV x.1 r = 0 then x.2 else 0) + sumOf r L
theorem sumOf_append (r : List Val) : ∀ (A B : List Pair), sumOf r (A ++ B) = sumOf r A + sumOf r B
  | [], B => by simp [sumOf]
  | x :: A, B => by rw [List.cons_append, sumOf, sumOf_append r A B, sumOf]; omega

/-- Rows that rise, no number 0. -/
def Rises : List Pair → Prop
  | [] => True
  | x :: L => x.2 ≠ 0 ∧ (∀ y ∈ L, rowsV x.1 y.1 < 0) ∧ Rises L
theorem sumOf_below {r : List Val} : ∀ {L : List Pair}, (∀ y ∈ L, rowsV r y.1 < 0) → sumOf r L = 0
  | [], _ => rfl
  | y :: L, h => by
    have h1 := h y (by simp)
    have h2 := rowsV_flip r y.1
    rw [sumOf, if_neg (by omega), sumOf_below (fun z hz => h z (by simp [hz]))]; rfl
theorem rises_unique : ∀ {A B : List Pair}, Rises A → Rises B → (∀ r, sumOf r A = sumOf r B) → A = B
  | [], [], _, _, _ => rfl
  | [], y :: B, _, hB, h => by
    have e := h y.1
    rw [sumOf, sumOf, if_pos (rowsV_self _), sumOf_below hB.2.1] at e
    exact absurd (by omega) hB.1
  | x :: A, [], hA, _, h => by
    have e := h x.1
    rw [sumOf, sumOf, if_pos (rowsV_self _), sumOf_below hA.2.1] at e
    exact absurd (by omega) hA.1
  | x :: A, y :: B, hA, hB, h => by
    by_cases h1 : rowsV x.1 y.1 < 0
    · have e := h x.1
      rw [sumOf, if_pos (rowsV_self _), sumOf_below hA.2.1, sumOf_below (L := y :: B) (fun z hz => by
        rcases List.mem_cons.1 hz with rfl | hz
        · exact h1
        · exact rowsV_lt_trans h1 (hB.2.1 z hz))] at e
      exact absurd (by omega) hA.1
    by_cases h2 : rowsV y.1 x.1 < 0
    · have e := h y.1
      have eA : sumOf y.1 (x :: A) = 0 := sumOf_below (fun z hz => by
        rcases List.mem_cons.1 hz with rfl | hz
        · exact h2
        · exact rowsV_lt_trans h2 (hA.2.1 z hz))
      have eB : sumOf y.1 (y :: B) = y.2 := by rw [sumOf, if_pos (rowsV_self _), sumOf_below hB.2.1]; omega
      exact absurd (by omega) hB.1
    have h3 := rowsV_flip x.1 y.1
    have e1 : x.1 = y.1 := (rowsV_is _ _).1 (by omega)
    have e2 : x.2 = y.2 := by
      have e := h x.1
      rw [sumOf, sumOf, if_pos (rowsV_self _), sumOf_below hA.2.1, ← e1, if_pos (rowsV_self _), sumOf_below (r := x.1) (fun z hz => by rw [e1]; exact hB.2.1 z hz)] at e
      omega
    have e : x = y := Prod.ext e1 e2
    subst e
    rw [rises_unique hA.2.2 hB.2.2 (fun r => by have := h r; rw [sumOf, sumOf] at this; omega)]

/-! ### The bag of rows, each so often -/
def insB (x : Pair) : List Pair → List Pair
  | [] => if x.2 = 0 then [] else [x]
  | y :: B =>
    if rowsV x.1 y.1 < 0 then (if x.2 = 0 then y :: B else x :: y :: B)
    else if rowsV x.1 y.1 = 0 then (if x.2 + y.2 = 0 then B else (y.1, x.2 + y.2) :: B)
    else y :: insB x B
def ofB (L : List Pair) : List Pair := L.foldr insB []

theorem sumOf_ins (r : List Val) (x : Pair) : ∀ B : List Pair, sumOf r (insB x B) = (if rowsV x.1 r = 0 then x.2 else 0) + sumOf r B
  | [] => by
    unfold insB
    by_cases h : x.2 = 0
    · rw [if_pos h, h]; simp [sumOf]
    · rw [if_neg h]; simp [sumOf]
  | y :: B => by
    unfold insB
    by_cases h1 : rowsV x.1 y.1 < 0
    · rw [if_pos h1]
      by_cases h : x.2 = 0
      · rw [if_pos h, h]; simp
      · rw [if_neg h]; rw [sumOf]
    · rw [if_neg h1]
      by_cases h2 : rowsV x.1 y.1 = 0
      · rw [if_pos h2]
        have e := (rowsV_is _ _).1 h2
        rw [sumOf, ← e]
        by_cases h3 : x.2 + y.2 = 0
        · rw [if_pos h3]; split <;> omega
        · rw [if_neg h3, sumOf]; dsimp only; split <;> omega
      · rw [if_neg h2, sumOf, sumOf_ins r x B, sumOf]; omega
theorem ins_mem {x : Pair} : ∀ {B : List Pair} {z : Pair}, z ∈ insB x B → (z.1 = x.1 ∨ ∃ y ∈ B, z.1 = y.1)
  | [], z, h => by
    unfold insB at h
    split at h
    · simp at h
    · left; simp at h; rw [h]
  | y :: B, z, h => by
    unfold insB at h
    split at h
    · split at h
      · exact .inr ⟨z, h, rfl⟩
      · rcases List.mem_cons.1 h with rfl | h
        · exact .inl rfl
        · exact .inr ⟨z, h, rfl⟩
    · split at h
      · split at h
        · exact .inr ⟨z, by simp [h], rfl⟩
        · rcases List.mem_cons.1 h with rfl | h
          · exact .inr ⟨y, by simp, rfl⟩
          · exact .inr ⟨z, by simp [h], rfl⟩
      · rcases List.mem_cons.1 h with rfl | h
        · exact .inr ⟨z, by simp, rfl⟩
        · rcases ins_mem h with h | ⟨y', hy, h⟩
          · exact .inl h
          · exact .inr ⟨y', by simp [hy], h⟩
theorem rises_ins (x : Pair) : ∀ {B : List Pair}, Rises B → Rises (insB x B)
  | [], _ => by
    unfold insB
    split
    · exact trivial
    · rename_i h; exact ⟨h, by simp, trivial⟩
  | y :: B, hB => by
    unfold insB
    by_cases h1 : rowsV x.1 y.1 < 0
    · rw [if_pos h1]
      split
      · exact hB
      · rename_i h
        refine ⟨h, fun z hz => ?_, hB⟩
        rcases List.mem_cons.1 hz with rfl | hz
        · exact h1
        · exact rowsV_lt_trans h1 (hB.2.1 z hz)
    · rw [if_neg h1]
      by_cases h2 : rowsV x.1 y.1 = 0
      · rw [if_pos h2]
        split
        · exact hB.2.2
        · rename_i h; exact ⟨h, hB.2.1, hB.2.2⟩
      · rw [if_neg h2]
        refine ⟨hB.1, fun z hz => ?_, rises_ins x hB.2.2⟩
        rcases ins_mem hz with e | ⟨y', hy, e⟩
        · rw [e]
          have := rowsV_flip x.1 y.1
          omega
        · rw [e]; exact hB.2.1 y' hy
theorem rises_ofB : ∀ L : List Pair, Rises (ofB L)
  | [] => trivial
  | x :: L => rises_ins x (rises_ofB L)
theorem sumOf_ofB (r : List Val) : ∀ L : List Pair, sumOf r (ofB L) = sumOf r L
  | [] => rfl
  | x :: L => by
    show sumOf r (insB x (ofB L)) = _
    rw [sumOf_ins, sumOf_ofB r L, sumOf]
/-- What rises and has the sums is the bag. -/
theorem ofB_is {B L : List Pair} (h1 : Rises B) (h2 : ∀ r, sumOf r B = sumOf r L) : B = ofB L :=
  rises_unique h1 (rises_ofB L) (fun r => by rw [h2, sumOf_ofB])

/-! ### Two bags merged -/
def joinB : List Pair → List Pair → List Pair
  | [], B => B
  | A, [] => A
  | x :: A, y :: B =>
    if rowsV x.1 y.1 < 0 then x :: joinB A (y :: B)
    else if rowsV x.1 y.1 = 0 then (if x.2 + y.2 = 0 then joinB A B else (x.1, x.2 + y.2) :: joinB A B)
    else y :: joinB (x :: A) B
termination_by A B => A.length + B.length
theorem joinB_nil (A : List Pair) : joinB A [] = A := by cases A <;> rw [joinB]; simp
theorem nil_joinB (B : List Pair) : joinB [] B = B := by rw [joinB]
theorem joinB_less {x y : Pair} (A B : List Pair) (h : rowsV x.1 y.1 < 0) : joinB (x :: A) (y :: B) = x :: joinB A (y :: B) := by rw [joinB, if_pos h]
theorem joinB_more {x y : Pair} (A B : List Pair) (h : 0 < rowsV x.1 y.1) : joinB (x :: A) (y :: B) = y :: joinB (x :: A) B := by rw [joinB, if_neg (by omega), if_neg (by omega)]
theorem joinB_none {x y : Pair} (A B : List Pair) (h : rowsV x.1 y.1 = 0) (h0 : x.2 + y.2 = 0) : joinB (x :: A) (y :: B) = joinB A B := by rw [joinB, if_neg (by omega), if_pos h, if_pos h0]
theorem joinB_both {x y : Pair} (A B : List Pair) (h : rowsV x.1 y.1 = 0) (h0 : x.2 + y.2 ≠ 0) : joinB (x :: A) (y :: B) = (x.1, x.2 + y.2) :: joinB A B := by rw [joinB, if_neg (by omega), if_pos h, if_neg h0]
theorem joinB_sum (r : List Val) : ∀ (n : Nat) (A B : List Pair), A.length + B.length ≤ n → sumOf r (joinB A B) = sumOf r A + sumOf r B := by
  intro n
  induction n with
  | zero =>
    intro A B h
    obtain rfl : A = [] := List.length_eq_zero_iff.1 (by omega)
    rw [nil_joinB]; simp [sumOf]
  | succ n ih =>
    intro A B h
    cases A with
    | nil => rw [nil_joinB]; simp [sumOf]
    | cons x A =>
      cases B with
      | nil => rw [joinB_nil]; simp [sumOf]
      | cons y B =>
        simp only [List.length_cons] at h
        by_cases h1 : rowsV x.1 y.1 < 0
        · rw [joinB_less A B h1, sumOf, ih A (y :: B) (by simp; omega)]
          have e : sumOf r (x :: A) = (if rowsV x.1 r = 0 then x.2 else 0) + sumOf r A := rfl
          omega
        by_cases h2 : rowsV x.1 y.1 = 0
        · have e := (rowsV_is _ _).1 h2
          by_cases h3 : x.2 + y.2 = 0
          · rw [joinB_none A B h2 h3, ih A B (by omega), sumOf, sumOf, ← e]; split <;> omega
          · rw [joinB_both A B h2 h3, sumOf, ih A B (by omega), sumOf, sumOf, ← e]; dsimp only; split <;> omega
        · rw [joinB_more A B (by omega), sumOf, ih (x :: A) B (by simp; omega)]
          have e : sumOf r (y :: B) = (if rowsV y.1 r = 0 then y.2 else 0) + sumOf r B := rfl
          omega
theorem joinB_mem : ∀ (n : Nat) (A B : List Pair), A.length + B.length ≤ n → ∀ z ∈ joinB A B, (∃ x ∈ A, z.1 = x.1) ∨ ∃ y ∈ B, z.1 = y.1 := by
  intro n
  induction n with
  | zero =>
    intro A B h z hz
    obtain rfl : A = [] := List.length_eq_zero_iff.1 (by omega)
    rw [nil_joinB] at hz
    exact .inr ⟨z, hz, rfl⟩
  | succ n ih =>
    intro A B h z hz
    cases A with
    | nil => rw [nil_joinB] at hz; exact .inr ⟨z, hz, rfl⟩
    | cons x A =>
      cases B with
      | nil => rw [joinB_nil] at hz; exact .inl ⟨z, hz, rfl⟩
      | cons y B =>
        simp only [List.length_cons] at h
        by_cases h1 : rowsV x.1 y.1 < 0
        · rw [joinB_less A B h1] at hz
          rcases List.mem_cons.1 hz with rfl | hz
          · exact .inl ⟨z, by simp, rfl⟩
          · rcases ih A (y :: B) (by simp; omega) z hz with ⟨w, hw, e⟩ | h'
            · exact .inl ⟨w, by simp [hw], e⟩
            · exact .inr h'
        by_cases h2 : rowsV x.1 y.1 = 0
        · by_cases h3 : x.2 + y.2 = 0
          · rw [joinB_none A B h2 h3] at hz
            rcases ih A B (by omega) z hz with ⟨w, hw, e⟩ | ⟨w, hw, e⟩
            · exact .inl ⟨w, by simp [hw], e⟩
            · exact .inr ⟨w, by simp [hw], e⟩
          · rw [joinB_both A B h2 h3] at hz
            rcases List.mem_cons.1 hz with rfl | hz
            · exact .inl ⟨x, by simp, rfl⟩
            · rcases ih A B (by omega) z hz with ⟨w, hw, e⟩ | ⟨w, hw, e⟩
              · exact .inl ⟨w, by simp [hw], e⟩
              · exact .inr ⟨w, by simp [hw], e⟩
        · rw [joinB_more A B (by omega)] at hz
          rcases List.mem_cons.1 hz with rfl | hz
          · exact .inr ⟨z, by simp, rfl⟩
          · rcases ih (x :: A) B (by simp; omega) z hz with h' | ⟨w, hw, e⟩
            · exact .inl h'
            · exact .inr ⟨w, by simp [hw], e⟩
theorem rises_join : ∀ (n : Nat) (A B : List Pair), A.length + B.length ≤ n → Rises A → Rises B → Rises (joinB A B) := by
  intro n
  induction n with
  | zero =>
    intro A B h _ hB
    obtain rfl : A = [] := List.length_eq_zero_iff.1 (by omega)
    rw [nil_joinB]; exact hB
  | succ n ih =>
    intro A B h hA hB
    cases A with
    | nil => rw [nil_joinB]; exact hB
    | cons x A =>
      cases B with
      | nil => rw [joinB_nil]; exact hA
      | cons y B =>
        simp only [List.length_cons] at h
        by_cases h1 : rowsV x.1 y.1 < 0
        · rw [joinB_less A B h1]
          refine ⟨hA.1, fun z hz => ?_, ih A (y :: B) (by simp; omega) hA.2.2 hB⟩
          rcases joinB_mem _ A (y :: B) (Nat.le_refl _) z hz with ⟨w, hw, e⟩ | ⟨w, hw, e⟩
          · rw [e]; exact hA.2.1 w hw
          · rw [e]
            rcases List.mem_cons.1 hw with rfl | hw
            · exact h1
            · exact rowsV_lt_trans h1 (hB.2.1 w hw)
        by_cases h2 : rowsV x.1 y.1 = 0
        · have e0 := (rowsV_is _ _).1 h2
          by_cases h3 : x.2 + y.2 = 0
          · rw [joinB_none A B h2 h3]; exact ih A B (by omega) hA.2.2 hB.2.2
          · rw [joinB_both A B h2 h3]
            refine ⟨h3, fun z hz => ?_, ih A B (by omega) hA.2.2 hB.2.2⟩
            rcases joinB_mem _ A B (Nat.le_refl _) z hz with ⟨w, hw, e⟩ | ⟨w, hw, e⟩
            · rw [e]; exact hA.2.1 w hw
            · rw [e]; show rowsV x.1 w.1 < 0; rw [e0]; exact hB.2.1 w hw
        · rw [joinB_more A B (by omega)]
          have h4 : rowsV y.1 x.1 < 0 := by have := rowsV_flip x.1 y.1; omega
          refine ⟨hB.1, fun z hz => ?_, ih (x :: A) B (by simp; omega) hA hB.2.2⟩
          rcases joinB_mem _ (x :: A) B (Nat.le_refl _) z hz with ⟨w, hw, e⟩ | ⟨w, hw, e⟩
          · rw [e]
            rcases List.mem_cons.1 hw with rfl | hw
            · exact h4
            · exact rowsV_lt_trans h4 (hA.2.1 w hw)
          · rw [e]; exact hB.2.1 w hw
theorem joinB_ofB (A B : List Pair) : joinB (ofB A) (ofB B) = ofB (A ++ B) :=
  ofB_is (rises_join _ _ _ (Nat.le_refl _) (rises_ofB A) (rises_ofB B)) (fun r => by rw [joinB_sum r _ _ _ (Nat.le_refl _), sumOf_ofB, sumOf_ofB, sumOf_append])
theorem ofB_one (x : Pair) : ofB [x] = if x.2 = 0 then [] else [x] := rfl

/-! ### Sums that are small enough -/
def absS : List Pair → Int
  | [] => 0
  | x :: L => (if x.2 < 0 then -x.2 else x.2) + absS L
theorem absS_nonneg : ∀ L, 0 ≤ absS L
  | [] => Int.le_refl _
  | x :: L => by have := absS_nonneg L; unfold absS; split <;> omega
theorem absS_append : ∀ A B, absS (A ++ B) = absS A + absS B
  | [], B => by simp [absS]
  | x :: A, B => by rw [List.cons_append, absS, absS_append A B, absS]; omega
theorem absS_mem : ∀ {L : List Pair} {x : Pair}, x ∈ L → -absS L ≤ x.2 ∧ x.2 ≤ absS L
  | y :: L, x, h => by
    have h0 := absS_nonneg L
    unfold absS
    rcases List.mem_cons.1 h with rfl | h
    · split <;> omega
    · have := absS_mem h
      split <;> omega
theorem absS_ins (x : Pair) : ∀ B, absS (insB x B) ≤ (if x.2 < 0 then -x.2 else x.2) + absS B
  | [] => by
    unfold insB
    split
    · simp only [absS]; split <;> omega
    · simp [absS]
  | y :: B => by
    unfold insB
    have h0 := absS_nonneg B
    have hx : 0 ≤ (if x.2 < 0 then -x.2 else x.2) := by split <;> omega
    split
    · split
      · omega
      · simp [absS]
    · split
      · split
        · simp only [absS]
          have hy : 0 ≤ (if y.2 < 0 then -y.2 else y.2) := by split <;> omega
          omega
        · simp only [absS]
          split <;> split <;> split <;> omega
      · have := absS_ins x B
        simp only [absS]
        omega
theorem absS_ofB : ∀ L, absS (ofB L) ≤ absS L
  | [] => Int.le_refl _
  | x :: L => by
    have h1 := absS_ins x (ofB L)
    have h2 := absS_ofB L
    show absS (insB x (ofB L)) ≤ (if x.2 < 0 then -x.2 else x.2) + absS L
    omega
theorem len_ins (x : Pair) : ∀ B, (insB x B).length ≤ B.length + 1
  | [] => by unfold insB; split <;> simp
  | y :: B => by
    have := len_ins x B
    unfold insB
    repeat' split
    all_goals simp
    all_goals omega
theorem len_ofB : ∀ L, (ofB L).length ≤ L.length
  | [] => Nat.le_refl _
  | x :: L => by
    have h1 := len_ins x (ofB L)
    have h2 := len_ofB L
    show (insB x (ofB L)).length ≤ _
    rw [List.length_cons]; omega

/-! ### Rows, each once; the rows of a bag -/
def onesB (L : List (List Val)) : List Pair := L.map fun r => (r, 1)
def rowsB : List Pair → List (List Val)
  | [] => []
  | x :: B => List.replicate x.2.toNat x.1 ++ rowsB B
def countB : List Pair → Int
  | [] => 0
  | x :: B => (if 0 < x.2 then x.2 else 0) + countB B
def sumAll : List Pair → Int
  | [] => 0
  | x :: B => x.2 + sumAll B
theorem absS_ones : ∀ L, absS (onesB L) = L.length
  | [] => rfl
  | r :: L => by
    have := absS_ones L
    show (if (1 : Int) < 0 then -1 else 1) + absS (onesB L) = _
    rw [this, if_neg (by omega), List.length_cons]; omega
theorem len_ones (L : List (List Val)) : (onesB L).length = L.length := List.length_map _
theorem sumAll_ins (x : Pair) : ∀ B, sumAll (insB x B) = x.2 + sumAll B
  | [] => by unfold insB; split <;> simp [sumAll]; omega
  | y :: B => by
    have := sumAll_ins x B
    unfold insB
    repeat' split
    all_goals simp only [sumAll]
    all_goals omega
theorem sumAll_ofB : ∀ L, sumAll (ofB L) = sumAll L
  | [] => rfl
  | x :: L => by
    show sumAll (insB x (ofB L)) = _
    rw [sumAll_ins, sumAll_ofB L, sumAll]
theorem sumAll_ones : ∀ L, sumAll (onesB L) = L.length
  | [] => rfl
  | r :: L => by
    have := sumAll_ones L
    show 1 + sumAll (onesB L) = _
    rw [this, List.length_cons]; omega
theorem pos_ins {x : Pair} (hx : 0 ≤ x.2) : ∀ {B : List Pair}, (∀ y ∈ B, 0 < y.2) → ∀ y ∈ insB x B, 0 < y.2
  | [], _, z, hz => by
    unfold insB at hz
    split at hz
    · simp at hz
    · simp at hz; subst hz; omega
  | y :: B, h, z, hz => by
    have hy := h y (by simp)
    unfold insB at hz
    split at hz
    · split at hz
      · exact h z hz
      · rcases List.mem_cons.1 hz with rfl | hz
        · omega
        · exact h z hz
    · split at hz
      · split at hz
        · exact h z (by simp [hz])
        · rcases List.mem_cons.1 hz with rfl | hz
          · show 0 < x.2 + y.2; omega
          · exact h z (by simp [hz])
      · rcases List.mem_cons.1 hz with rfl | hz
        · exact hy
        · exact pos_ins hx (fun w hw => h w (by simp [hw])) z hz
theorem pos_ofB : ∀ {L : List Pair}, (∀ x ∈ L, 0 ≤ x.2) → ∀ y ∈ ofB L, 0 < y.2
  | [], _, y, hy => by simp [ofB] at hy
  | x :: L, h, y, hy => pos_ins (h x (by simp)) (pos_ofB (fun z hz => h z (by simp [hz]))) y hy
theorem pos_ones (L : List (List Val)) : ∀ y ∈ ofB (onesB L), 0 < y.2 := pos_ofB (fun x hx => by
  obtain ⟨r, _, rfl⟩ := List.mem_map.1 hx
  show (0 : Int) ≤ 1; decide)
theorem rowsB_len : ∀ {B : List Pair}, (∀ y ∈ B, 0 < y.2) → ((rowsB B).length : Int) = sumAll B
  | [], _ => rfl
  | x :: B, h => by
    have h1 := h x (by simp)
    have h2 := rowsB_len (B := B) (fun y hy => h y (by simp [hy]))
    rw [rowsB, List.length_append, List.length_replicate, sumAll]; omega
theorem countB_is : ∀ {B : List Pair}, (∀ y ∈ B, 0 < y.2) → countB B = sumAll B
  | [], _ => rfl
  | x :: B, h => by
    rw [countB, if_pos (h x (by simp)), countB_is (B := B) (fun y hy => h y (by simp [hy])), sumAll]
theorem sumOf_ones_rep (r x : List Val) : ∀ (n : Nat) (L : List (List Val)), sumOf r (onesB (List.replicate n x ++ L)) = (if rowsV x r = 0 then (n : Int) else 0) + sumOf r (onesB L)
  | 0, L => by simp
  | n + 1, L => by
    have := sumOf_ones_rep r x n L
    rw [List.replicate_succ, List.cons_append]
    show (if rowsV x r = 0 then (1 : Int) else 0) + sumOf r (onesB (List.replicate n x ++ L)) = _
    rw [this]; split <;> omega
theorem sumOf_rowsB (r : List Val) : ∀ {B : List Pair}, (∀ y ∈ B, 0 < y.2) → sumOf r (onesB (rowsB B)) = sumOf r B
  | [], _ => rfl
  | x :: B, h => by
    have h1 := h x (by simp)
    rw [rowsB, sumOf_ones_rep, sumOf_rowsB r (B := B) (fun y hy => h y (by simp [hy])), sumOf]
    split <;> omega
/-- The bag of a bag's rows is the bag. -/
theorem bag_back (L : List (List Val)) : ofB (onesB (rowsB (ofB (onesB L)))) = ofB (onesB L) :=
  (ofB_is (rises_ofB _) (fun r => by rw [sumOf_rowsB r (pos_ones L)])).symm
theorem bagRows_len (L : List (List Val)) : (rowsB (ofB (onesB L))).length = L.length := by
  have := rowsB_len (pos_ones L)
  rw [sumAll_ofB, sumAll_ones] at this
  omega
theorem count_len (L : List (List Val)) : countB (ofB (onesB L)) = L.length := by
  rw [countB_is (pos_ones L), sumAll_ofB, sumAll_ones]
theorem small_ones (L : List (List Val)) : ∀ y ∈ ofB (onesB L), y.2 ≤ L.length := fun y hy => by
  have h1 := (absS_mem hy).2
  have h2 := absS_ofB (onesB L)
  rw [absS_ones] at h2
  omega
end Go.Proofs.Ytadidikegfiedaa

/- Rows of values as bytes, plainly: numbers in eight bytes, a code that goes value by value and is read back value by value, the order of bytes. Nothing of any program here: lemmas on lists. Conditions: each lemma names its own. -/
namespace Go.Proofs.Ytadidikegfiedaa
open Go.RowKit

/-! ### Numbers, the highest byte first -/
def encBE : Nat → Nat → List UInt8
  | 0, _ => []
  | j + 1, u => encBE j (u / 256) ++ [UInt8.ofNat u]
def decBE (l : List UInt8) : Nat := l.foldl (fun u b => 256 * u + b.toNat) 0

theorem u8_ofNat (u : Nat) : (UInt8.ofNat u).toNat = u % 256 := by simp
theorem encBE_len : ∀ j u, (encBE j u).length = j
  | 0, _ => rfl
  | j + 1, u => by simp [encBE, encBE_len j]
theorem decBE_snoc (l : List UInt8) (b : UInt8) : decBE (l ++ [b]) = 256 * decBE l + b.toNat := by simp [decBE]
theorem pow256 (j : Nat) : 256 ^ (j + 1) = 256 * 256 ^ j := by rw [Nat.pow_succ, Nat.mul_comm]
theorem decBE_encBE : ∀ j u, u < 256 ^ j → decBE (encBE j u) = u
  | 0, u, h => by simp at h; subst h; rfl
  | j + 1, u, h => by
    rw [pow256] at h
    rw [encBE, decBE_snoc, decBE_encBE j (u / 256) (by omega), u8_ofNat]; omega
theorem decBE_lt (l : List UInt8) : decBE l < 256 ^ l.length := by
  have H : ∀ (l : List UInt8) (u n : Nat), u < 256 ^ n → l.foldl (fun u b => 256 * u + b.toNat) u < 256 ^ (n + l.length) := by
    intro l
    induction l with
    | nil => intro u n h; exact h
    | cons b l ih =>
      intro u n h
      have hb := b.toNat_lt
      have := ih (256 * u + b.toNat) (n + 1) (by rw [pow256]; omega)
      rw [List.length_cons, show n + (l.length + 1) = n + 1 + l.length by omega]
      exact this
  have := H l 0 0 (by simp)
  simpa [decBE] using this
theorem encBE_decBE_of (l : List UInt8) : ∀ j, l.length = j → encBE j (decBE l) = l := by
  have H : ∀ r : List UInt8, encBE r.length (decBE r.reverse) = r.reverse := by
    intro r
    induction r with
    | nil => rfl
    | cons b r ih =>
      have hb := b.toNat_lt
      rw [List.reverse_cons, decBE_snoc, List.length_cons, encBE, show (256 * decBE r.reverse + b.toNat) / 256 = decBE r.reverse by omega, ih]
      congr 2
      exact UInt8.toNat_inj.1 (by rw [u8_ofNat]; omega)
  intro j h
  subst h
  have := H l.reverse
  rwa [List.reverse_reverse, List.length_reverse] at this

theorem u8_lt {a b : UInt8} : a < b ↔ a.toNat < b.toNat := UInt8.lt_iff_toNat_lt
theorem bytes_cons (a b : UInt8) (x y : List UInt8) : Lib.compareBytes (a :: x) (b :: y) = if a.toNat < b.toNat then -1 else if b.toNat < a.toNat then 1 else Lib.compareBytes x y := by
  rw [Lib.compareBytes]
  simp only [u8_lt]
theorem bytes_cons_same (a : UInt8) (x y : List UInt8) : Lib.compareBytes (a :: x) (a :: y) = Lib.compareBytes x y := by
  rw [bytes_cons, if_neg (by omega), if_neg (by omega)]
theorem bytes_BE : ∀ j u v r r', u < 256 ^ j → v < 256 ^ j → Lib.compareBytes (encBE j u ++ r) (encBE j v ++ r') = if u < v then -1 else if v < u then 1 else Lib.compareBytes r r'
  | 0, u, v, r, r', h, h' => by
    simp at h h'; subst h h'; rfl
  | j + 1, u, v, r, r', h, h' => by
    rw [pow256] at h h'
    rw [encBE, encBE, List.append_assoc, List.append_assoc, bytes_BE j (u / 256) (v / 256) _ _ (by omega) (by omega), List.singleton_append, List.singleton_append, bytes_cons, u8_ofNat, u8_ofNat]
    repeat' split
    all_goals first | rfl | omega

def un64 (n : Int) : Nat := (n % 18446744073709551616).toNat
def sn64 (u : Nat) : Int := if u < 9223372036854775808 then u else (u : Int) - 18446744073709551616
theorem un64_lt (n : Int) : un64 n < 256 ^ 8 := by unfold un64; omega
theorem sn64_un64 {n : Int} (h1 : -9223372036854775808 ≤ n) (h2 : n ≤ 9223372036854775807) : sn64 (un64 n) = n := by unfold sn64 un64; split <;> omega
theorem un64_sn64 {u : Nat} (h : u < 256 ^ 8) : un64 (sn64 u) = u := by unfold sn64 un64; split <;> omega
theorem sn64_in {u : Nat} (h : u < 256 ^ 8) : -9223372036854775808 ≤ sn64 u ∧ sn64 u ≤ 9223372036854775807 := by unfold sn64; split <;> omega

/-! ### A code value by value -/
/-- A value that may be, whose number is an int. -/
def okV (v : Val) : Prop := chk v.k v.n v.s = 0 ∧ inI v
def noV : Val := ⟨0, 0, ⟨#[]⟩⟩

structure Coded (enc : Val → List UInt8) (dec : List UInt8 → Option (Val × Nat)) : Prop where
  there : ∀ v, okV v → ∀ r, dec (enc v ++ r) = some (v, (enc v).length)
  back : ∀ s v m, dec s = some (v, m) → okV v ∧ s = enc v ++ s.drop m ∧ m = (enc v).length
  pos : ∀ v, 0 < (enc v).length

def encL (enc : Val → List UInt8) (l : List Val) : List UInt8 := l.flatMap enc
def decL (dec : List UInt8 → Option (Val × Nat)) : Nat → List UInt8 → Option (List Val)
  | _, [] => some []
  | 0, _ :: _ => none
  | n + 1, c :: s => match dec (c :: s) with
    | none => none
    | some (v, m) => (decL dec n ((c :: s).drop m)).map (v :: ·)

theorem encL_nil (enc : Val → List UInt8) : encL enc [] = [] := rfl
theorem encL_cons (enc : Val → List UInt8) (v : Val) (l : List Val) : encL enc (v :: l) = enc v ++ encL enc l := by simp [encL]
theorem encL_append (enc : Val → List UInt8) (a b : List Val) : encL enc (a ++ b) = encL enc a ++ encL enc b := by simp [encL]
theorem decL_nil (dec : List UInt8 → Option (Val × Nat)) (n : Nat) : decL dec n [] = some [] := by cases n <;> rfl
theorem decL_full {dec : List UInt8 → Option (Val × Nat)} {s : List UInt8} (h : s ≠ []) : decL dec 0 s = none := by
  cases s with
  | nil => exact absurd rfl h
  | cons c s => rfl
theorem decL_stop {dec : List UInt8 → Option (Val × Nat)} {n : Nat} {s : List UInt8} (h : s ≠ []) (hd : dec s = none) : decL dec n s = none := by
  cases s with
  | nil => exact absurd rfl h
  | cons c s => cases n with
    | zero => rfl
    | succ n => simp [decL, hd]
theorem decL_go {dec : List UInt8 → Option (Val × Nat)} {n : Nat} {s : List UInt8} {v : Val} {m : Nat} (h : s ≠ []) (hd : dec s = some (v, m)) : decL dec (n + 1) s = (decL dec n (s.drop m)).map (v :: ·) := by
  cases s with
  | nil => exact absurd rfl h
  | cons c s => simp [decL, hd]

section
variable {enc : Val → List UInt8} {dec : List UInt8 → Option (Val × Nat)} (C : Coded enc dec)
include C

theorem Coded.ne (v : Val) (r : List UInt8) : enc v ++ r ≠ [] := fun h => by
  have := C.pos v
  rw [(List.append_eq_nil_iff.1 h).1] at this
  exact absurd this (by simp)
theorem Coded.decL_encL : ∀ (l : List Val) (n : Nat), (∀ v ∈ l, okV v) → l.length ≤ n → decL dec n (encL enc l) = some l
  | [], n, _, _ => by rw [encL_nil, decL_nil]
  | v :: l, 0, _, h => by simp at h
  | v :: l, n + 1, hv, h => by
    rw [encL_cons, decL_go (C.ne v _) (C.there v (hv v (by simp)) _), List.drop_left, Coded.decL_encL l n (fun x hx => hv x (by simp [hx])) (by simp at h; omega)]
    rfl
theorem Coded.encL_decL : ∀ (n : Nat) (s : List UInt8) (l : List Val), decL dec n s = some l → (∀ v ∈ l, okV v) ∧ l.length ≤ n ∧ encL enc l = s
  | n, [], l, h => by
    rw [decL_nil] at h
    obtain rfl := Option.some.inj h
    exact ⟨fun v hv => absurd hv (by simp), Nat.zero_le _, rfl⟩
  | 0, c :: s, l, h => by cases h
  | n + 1, c :: s, l, h => by
    cases hd : dec (c :: s) with
    | none => rw [decL_stop (by simp) hd] at h; cases h
    | some x =>
      obtain ⟨v, m⟩ := x
      rw [decL_go (by simp) hd] at h
      obtain ⟨l', hl', rfl⟩ := Option.map_eq_some_iff.1 h
      obtain ⟨ok, e, _⟩ := C.back _ _ _ hd
      obtain ⟨h1, h2, h3⟩ := Coded.encL_decL n _ l' hl'
      refine ⟨fun x hx => ?_, by simp; omega, by rw [encL_cons, h3, ← e]⟩
      rcases List.mem_cons.1 hx with rfl | hx
      · exact ok
      · exact h1 x hx
theorem Coded.inj {a b : List Val} (ha : ∀ v ∈ a, okV v) (hb : ∀ v ∈ b, okV v) (h : encL enc a = encL enc b) : a = b := by
  have h1 := Coded.decL_encL C a (max a.length b.length) ha (by omega)
  have h2 := Coded.decL_encL C b (max a.length b.length) hb (by omega)
  rw [h, h2] at h1
  exact (Option.some.inj h1).symm
theorem Coded.begins : ∀ (a b : List Val) (r : List UInt8), (∀ v ∈ a, okV v) → (∀ v ∈ b, okV v) → encL enc b = encL enc a ++ r → ∃ c, b = a ++ c
  | [], b, _, _, _, _ => ⟨b, rfl⟩
  | x :: a, [], r, _, _, h => absurd (by rw [encL_nil, encL_cons, List.append_assoc] at h; exact h.symm) (C.ne x _)
  | x :: a, y :: b, r, ha, hb, h => by
    rw [encL_cons, encL_cons, List.append_assoc] at h
    have h1 := C.there x (ha x (by simp)) (encL enc a ++ r)
    have h2 := C.there y (hb y (by simp)) (encL enc b)
    rw [h, h1] at h2
    obtain rfl : x = y := congrArg Prod.fst (Option.some.inj h2)
    obtain ⟨c, rfl⟩ := Coded.begins a b r (fun v hv => ha v (by simp [hv])) (fun v hv => hb v (by simp [hv])) (List.append_cancel_left h)
    exact ⟨c, rfl⟩
end
end Go.Proofs.Ytadidikegfiedaa

/- The two codes of a row, plainly: as it stands in a page, and as a key; each is read back as it was written; keys stand to one another as their rows do. Nothing of any program here. Conditions: each lemma names its own. -/
namespace Go.Proofs.Ytadidikegfiedaa
open Go.RowKit

def txt (l : List UInt8) : ByteArray := ⟨l.toArray⟩
theorem txt_list (l : List UInt8) : (txt l).data.toList = l := rfl
theorem txt_get (l : List UInt8) (k : Nat) (h : k < (txt l).size) (h' : k < l.length) : (txt l)[k]'h = l[k] := rfl
theorem txt_add (a b : List UInt8) : txt a ++ txt b = txt (a ++ b) := WideShapes.bytes_inj (by simp [txt])
theorem txt_cut (l : List UInt8) (a b : Nat) : (txt l).extract a b = txt ((l.drop a).take (b - a)) := WideShapes.bytes_inj (by
  show ((txt l).extract a b).data.toList = _
  rw [ByteArray.data_extract, txt_list]
  simp [txt])
theorem txt_of (s : ByteArray) : txt s.data.toList = s := WideShapes.bytes_inj rfl
theorem txt_size (l : List UInt8) : (txt l).size = l.length := by simp [txt, ByteArray.size]
theorem size_list (s : ByteArray) : s.data.toList.length = s.size := Array.length_toList

theorem okV_cases {v : Val} (h : okV v) : v = noV ∨ (∃ n, v = ⟨1, n, txt []⟩ ∧ -9223372036854775808 ≤ n ∧ n ≤ 9223372036854775807) ∨ (∃ n, v = ⟨2, n, txt []⟩ ∧ (n = 0 ∨ n = 1)) ∨ ∃ l : List UInt8, v = ⟨3, 0, txt l⟩ ∧ l.length ≤ 64 := by
  obtain ⟨k, n, s⟩ := v
  obtain ⟨h, h1, h2, _⟩ := h
  simp only at h h1 h2
  have hs : s.toList = [] → s = txt [] := fun e => WideShapes.bytes_inj (by rw [ByteArray.toList_eq] at e; rw [e]; rfl)
  unfold chk at h
  by_cases k0 : k = 0
  · rw [if_pos k0] at h
    split at h
    · rename_i g; left; rw [k0, g.1, hs g.2]; rfl
    · cases h
  rw [if_neg k0] at h
  by_cases k1 : k = 1
  · rw [if_pos k1] at h
    split at h
    · rename_i g; right; left; exact ⟨n, by rw [k1, hs g], h1, h2⟩
    · cases h
  rw [if_neg k1] at h
  by_cases k2 : k = 2
  · rw [if_pos k2] at h
    split at h
    · rename_i g; right; right; left; exact ⟨n, by rw [k2, hs g.1], g.2⟩
    · cases h
  rw [if_neg k2] at h
  by_cases k3 : k = 3
  · rw [if_pos k3] at h
    split at h
    · split at h
      · rename_i g g2; right; right; right; exact ⟨s.data.toList, by rw [k3, g, txt_of], by rw [size_list]; exact g2⟩
      · cases h
    · cases h
  rw [if_neg k3] at h; cases h
theorem ok_none : okV noV := ⟨by simp [chk, noV, ByteArray.toList_eq], by decide, by decide, by show (0 : Nat) ≤ maxLen; exact Nat.zero_le _⟩
theorem ok_int {n : Int} (h1 : -9223372036854775808 ≤ n) (h2 : n ≤ 9223372036854775807) : okV ⟨1, n, txt []⟩ := ⟨by simp [chk, txt, ByteArray.toList_eq], h1, h2, by show (0 : Nat) ≤ maxLen; exact Nat.zero_le _⟩
theorem ok_bool {n : Int} (h : n = 0 ∨ n = 1) : okV ⟨2, n, txt []⟩ := ⟨by simp [chk, txt, ByteArray.toList_eq, h], by show -9223372036854775808 ≤ n; omega, by show n ≤ 9223372036854775807; omega, by show (0 : Nat) ≤ maxLen; exact Nat.zero_le _⟩
theorem ok_text {l : List UInt8} (h : l.length ≤ 64) : okV ⟨3, 0, txt l⟩ := ⟨by simp [chk, txt_size, h], by show (-9223372036854775808 : Int) ≤ 0; omega, by show (0 : Int) ≤ 9223372036854775807; omega, by show (txt l).size ≤ maxLen; rw [txt_size]; unfold maxLen; omega⟩

/-! ### As it stands in a page -/
def rowB (v : Val) : List UInt8 :=
  if v.k = 1 then 1 :: encBE 8 (un64 v.n) else if v.k = 2 then [2, UInt8.ofNat v.n.toNat] else if v.k = 3 then 3 :: UInt8.ofNat v.s.size :: v.s.data.toList else [0]
def rowD : List UInt8 → Option (Val × Nat)
  | [] => none
  | b :: r =>
    if b = 0 then some (noV, 1)
    else if b = 1 then (if 8 ≤ r.length then some (⟨1, sn64 (decBE (r.take 8)), txt []⟩, 9) else none)
    else if b = 2 then (match r with | [] => none | c :: _ => if c.toNat ≤ 1 then some (⟨2, c.toNat, txt []⟩, 2) else none)
    else if b = 3 then (match r with | [] => none | c :: t => if c.toNat ≤ 64 ∧ c.toNat ≤ t.length then some (⟨3, 0, txt (t.take c.toNat)⟩, 2 + c.toNat) else none)
    else none

theorem rowB_none : rowB noV = [0] := rfl
theorem rowB_int (n : Int) : rowB ⟨1, n, txt []⟩ = 1 :: encBE 8 (un64 n) := rfl
theorem rowB_bool (n : Int) : rowB ⟨2, n, txt []⟩ = [2, UInt8.ofNat n.toNat] := rfl
theorem rowB_text (l : List UInt8) : rowB ⟨3, 0, txt l⟩ = 3 :: UInt8.ofNat l.length :: l := by simp [rowB, txt, ByteArray.size]

theorem rowD_none (r : List UInt8) : rowD (0 :: r) = some (noV, 1) := rfl
theorem rowD_int (r : List UInt8) : rowD (1 :: r) = if 8 ≤ r.length then some (⟨1, sn64 (decBE (r.take 8)), txt []⟩, 9) else none := rfl
theorem rowD_bool (c : UInt8) (r : List UInt8) : rowD (2 :: c :: r) = if c.toNat ≤ 1 then some (⟨2, c.toNat, txt []⟩, 2) else none := rfl
theorem rowD_text (c : UInt8) (r : List UInt8) : rowD (3 :: c :: r) = if c.toNat ≤ 64 ∧ c.toNat ≤ r.length then some (⟨3, 0, txt (r.take c.toNat)⟩, 2 + c.toNat) else none := rfl
theorem rowD_else {b : UInt8} (r : List UInt8) (h0 : b ≠ 0) (h1 : b ≠ 1) (h2 : b ≠ 2) (h3 : b ≠ 3) : rowD (b :: r) = none := by
  simp [rowD, h0, h1, h2, h3]
theorem rowB_len {v : Val} (h : okV v) : (rowB v).length ≤ 66 := by
  rcases okV_cases h with rfl | ⟨n, rfl, _⟩ | ⟨n, rfl, _⟩ | ⟨l, rfl, hl⟩
  · rw [rowB_none]; simp
  · rw [rowB_int, List.length_cons, encBE_len]; omega
  · rw [rowB_bool]; simp
  · rw [rowB_text]; simp; omega

theorem pow8 : 256 ^ 8 = 18446744073709551616 := by decide
theorem rowCoded : Coded rowB rowD := {
  there := fun v h r => by
    rcases okV_cases h with rfl | ⟨n, rfl, h1, h2⟩ | ⟨n, rfl, hn⟩ | ⟨l, rfl, hl⟩
    · rfl
    · rw [rowB_int, List.cons_append, rowD_int, if_pos (by rw [List.length_append, encBE_len]; omega), List.take_left' (encBE_len 8 _), decBE_encBE 8 _ (un64_lt n), sn64_un64 h1 h2, List.length_cons, encBE_len]
    · rw [rowB_bool]
      rcases hn with rfl | rfl <;> rfl
    · have e : (UInt8.ofNat l.length).toNat = l.length := by rw [u8_ofNat]; omega
      rw [rowB_text, List.cons_append, List.cons_append, rowD_text, e, if_pos ⟨hl, by simp⟩, List.take_left' rfl]
      simp; omega
  back := fun s v m h => by
    cases s with
    | nil => cases h
    | cons b r =>
      by_cases b0 : b = 0
      · subst b0
        rw [rowD_none] at h
        obtain ⟨rfl, rfl⟩ := Prod.mk.inj (Option.some.inj h)
        exact ⟨ok_none, rfl, rfl⟩
      by_cases b1 : b = 1
      · subst b1
        rw [rowD_int] at h
        split at h
        · rename_i h8
          obtain ⟨rfl, rfl⟩ := Prod.mk.inj (Option.some.inj h)
          have hl : (r.take 8).length = 8 := by rw [List.length_take]; omega
          have hlt := decBE_lt (r.take 8)
          rw [hl] at hlt
          have hs := sn64_in hlt
          refine ⟨ok_int hs.1 hs.2, ?_, by rw [rowB_int, List.length_cons, encBE_len]⟩
          rw [rowB_int, un64_sn64 hlt, encBE_decBE_of _ 8 hl, List.cons_append, List.drop_succ_cons, List.take_append_drop]
        · cases h
      by_cases b2 : b = 2
      · subst b2
        cases r with
        | nil => cases h
        | cons c r =>
          rw [rowD_bool] at h
          split at h
          · rename_i hc
            obtain ⟨rfl, rfl⟩ := Prod.mk.inj (Option.some.inj h)
            refine ⟨ok_bool (by omega), ?_, rfl⟩
            rw [rowB_bool]
            show 2 :: c :: r = 2 :: UInt8.ofNat _ :: r
            rw [Int.toNat_natCast, UInt8.ofNat_toNat]
          · cases h
      by_cases b3 : b = 3
      · subst b3
        cases r with
        | nil => cases h
        | cons c r =>
          rw [rowD_text] at h
          split at h
          · rename_i hc
            obtain ⟨rfl, rfl⟩ := Prod.mk.inj (Option.some.inj h)
            have hl : (r.take c.toNat).length = c.toNat := by rw [List.length_take]; omega
            refine ⟨ok_text (by rw [hl]; exact hc.1), ?_, by rw [rowB_text, List.length_cons, List.length_cons, hl]; omega⟩
            rw [rowB_text, hl, UInt8.ofNat_toNat, show 2 + c.toNat = c.toNat + 1 + 1 by omega, List.drop_succ_cons, List.drop_succ_cons, List.cons_append, List.cons_append, List.take_append_drop]
          · cases h
      rw [rowD_else r b0 b1 b2 b3] at h; cases h
  pos := fun v => by
    unfold rowB
    repeat' split
    all_goals simp }
end Go.Proofs.Ytadidikegfiedaa

/- A row's key, plainly: it is read back as it was written; keys stand to one another, byte by byte, as their rows do. Nothing of any program here. Conditions: each lemma names its own. -/
namespace Go.Proofs.Ytadidikegfiedaa
open Go.RowKit

/-! ### A text's bytes in a key -/
def esc : List UInt8 → List UInt8
  | [] => []
  | b :: t => if b = 0 then 0 :: 255 :: esc t else b :: esc t
def unesc : List UInt8 → Option (List UInt8 × Nat)
  | [] => none
  | [_] => none
  | a :: b :: r =>
    if a ≠ 0 then (unesc (b :: r)).map (fun x => (a :: x.1, x.2 + 1))
    else if b = 0 then some ([], 2)
    else if b = 255 then (unesc r).map (fun x => (0 :: x.1, x.2 + 2))
    else none
theorem esc_zero (t : List UInt8) : esc (0 :: t) = 0 :: 255 :: esc t := rfl
theorem esc_more {b : UInt8} (t : List UInt8) (h : b ≠ 0) : esc (b :: t) = b :: esc t := by simp [esc, h]
theorem unesc_more {a : UInt8} {l : List UInt8} (h : a ≠ 0) : unesc (a :: l) = (unesc l).map (fun x => (a :: x.1, x.2 + 1)) := by
  cases l with
  | nil => rfl
  | cons b r => rw [unesc, if_pos h]
theorem unesc_end (r : List UInt8) : unesc (0 :: 0 :: r) = some ([], 2) := by simp [unesc]
theorem unesc_zero (r : List UInt8) : unesc (0 :: 255 :: r) = (unesc r).map (fun x => (0 :: x.1, x.2 + 2)) := by simp [unesc]
theorem unesc_bad {b : UInt8} (r : List UInt8) (h0 : b ≠ 0) (h1 : b ≠ 255) : unesc (0 :: b :: r) = none := by simp [unesc, h0, h1]
theorem unesc_one (a : UInt8) : unesc [a] = none := rfl
theorem unesc_esc : ∀ (t r : List UInt8), unesc (esc t ++ 0 :: 0 :: r) = some (t, (esc t).length + 2)
  | [], r => by simp [esc, unesc_end]
  | b :: t, r => by
    by_cases h : b = 0
    · subst h
      rw [esc_zero, List.cons_append, List.cons_append, unesc_zero, unesc_esc t r]; rfl
    · rw [esc_more t h, List.cons_append, unesc_more h, unesc_esc t r]; simp
theorem esc_unesc : ∀ (n : Nat) (s t : List UInt8) (m : Nat), s.length ≤ n → unesc s = some (t, m) → s = esc t ++ 0 :: 0 :: s.drop m ∧ m = (esc t).length + 2 := by
  intro n
  induction n with
  | zero =>
    intro s t m hl h
    rw [List.length_eq_zero_iff.1 (Nat.le_zero.1 hl)] at h
    cases h
  | succ n ih =>
    intro s t m hl h
    cases s with
    | nil => cases h
    | cons a l =>
      by_cases ha : a = 0
      · subst ha
        cases l with
        | nil => cases h
        | cons b r =>
          by_cases hb : b = 0
          · subst hb
            rw [unesc_end] at h
            obtain ⟨rfl, rfl⟩ := Prod.mk.inj (Option.some.inj h)
            exact ⟨rfl, rfl⟩
          by_cases hf : b = 255
          · subst hf
            rw [unesc_zero] at h
            obtain ⟨⟨t', m'⟩, h', e⟩ := Option.map_eq_some_iff.1 h
            dsimp only at e
            obtain ⟨rfl, rfl⟩ := Prod.mk.inj e
            obtain ⟨e1, e2⟩ := ih r t' m' (by simp at hl; omega) h'
            refine ⟨?_, by rw [esc_zero, List.length_cons, List.length_cons]; omega⟩
            rw [esc_zero, List.cons_append, List.cons_append, List.drop_succ_cons, List.drop_succ_cons, ← e1]
          · rw [unesc_bad r hb hf] at h; cases h
      · rw [unesc_more ha] at h
        obtain ⟨⟨t', m'⟩, h', e⟩ := Option.map_eq_some_iff.1 h
        dsimp only at e
        obtain ⟨rfl, rfl⟩ := Prod.mk.inj e
        obtain ⟨e1, e2⟩ := ih l t' m' (by simp at hl; omega) h'
        refine ⟨?_, by rw [esc_more _ ha, List.length_cons]; omega⟩
        rw [esc_more _ ha, List.cons_append, List.drop_succ_cons, ← e1]
theorem esc_len : ∀ t, (esc t).length ≤ 2 * t.length
  | [] => Nat.le_refl _
  | b :: t => by
    have := esc_len t
    by_cases h : b = 0
    · subst h; rw [esc_zero]; simp; omega
    · rw [esc_more t h]; simp; omega
theorem u8_pos {b : UInt8} (h : b ≠ 0) : (0 : UInt8).toNat < b.toNat := by
  show 0 < b.toNat
  rcases Nat.eq_zero_or_pos b.toNat with e | e
  · exact absurd (UInt8.toNat_inj.1 (by rw [e]; rfl)) h
  · exact e
theorem u8_low (b : UInt8) : ¬ b.toNat < (0 : UInt8).toNat := by show ¬ b.toNat < 0; omega
theorem esc_order : ∀ (s t r r' : List UInt8), Lib.compareBytes (esc s ++ 0 :: 0 :: r) (esc t ++ 0 :: 0 :: r') = if s = t then Lib.compareBytes r r' else Lib.compareBytes s t
  | [], [], r, r' => by rw [if_pos rfl]; simp [esc, bytes_cons_same]
  | [], b :: t, r, r' => by
    rw [if_neg (by simp)]
    by_cases h : b = 0
    · subst h
      rw [esc_zero]
      show Lib.compareBytes (0 :: 0 :: r) (0 :: 255 :: (esc t ++ 0 :: 0 :: r')) = -1
      rw [bytes_cons_same, bytes_cons, if_pos (by decide)]
    · rw [esc_more t h]
      show Lib.compareBytes (0 :: 0 :: r) (b :: (esc t ++ 0 :: 0 :: r')) = -1
      rw [bytes_cons, if_pos (u8_pos h)]
  | b :: s, [], r, r' => by
    rw [if_neg (by simp)]
    by_cases h : b = 0
    · subst h
      rw [esc_zero]
      show Lib.compareBytes (0 :: 255 :: (esc s ++ 0 :: 0 :: r)) (0 :: 0 :: r') = 1
      rw [bytes_cons_same, bytes_cons, if_neg (by decide), if_pos (by decide)]
    · rw [esc_more s h]
      show Lib.compareBytes (b :: (esc s ++ 0 :: 0 :: r)) (0 :: 0 :: r') = 1
      have := u8_pos h
      rw [bytes_cons, if_neg (u8_low b), if_pos this]
  | b :: s, c :: t, r, r' => by
    have ih := esc_order s t r r'
    by_cases hb : b = 0
    · subst hb
      by_cases hc : c = 0
      · subst hc
        rw [esc_zero, esc_zero, List.cons_append, List.cons_append, List.cons_append, List.cons_append, bytes_cons_same, bytes_cons_same, ih, bytes_cons_same]
        simp
      · rw [esc_zero, esc_more t hc, List.cons_append, List.cons_append, List.cons_append, bytes_cons, if_pos (u8_pos hc), if_neg (by simp; intro e; exact absurd e.symm hc), bytes_cons, if_pos (u8_pos hc)]
    · by_cases hc : c = 0
      · subst hc
        have := u8_pos hb
        rw [esc_zero, esc_more s hb, List.cons_append, List.cons_append, List.cons_append, bytes_cons, if_neg (u8_low b), if_pos this, if_neg (by simp [hb]), bytes_cons, if_neg (u8_low b), if_pos this]
      · rw [esc_more s hb, esc_more t hc, List.cons_append, List.cons_append, bytes_cons, bytes_cons, ih]
        by_cases h1 : b.toNat < c.toNat
        · rw [if_pos h1, if_neg (by simp; intro e; subst e; omega), if_pos h1]
        · rw [if_neg h1]
          by_cases h2 : c.toNat < b.toNat
          · rw [if_pos h2, if_neg (by simp; intro e; subst e; omega), if_neg h1, if_pos h2]
          · obtain rfl : b = c := UInt8.toNat_inj.1 (by omega)
            rw [if_neg h2, if_neg h1, if_neg h2]
            simp

/-! ### A row's key -/
def high (n : Int) : Nat := (n + 9223372036854775808).toNat
def low (u : Nat) : Int := (u : Int) - 9223372036854775808
def keyB (v : Val) : List UInt8 :=
  if v.k = 1 then 2 :: encBE 8 (high v.n) else if v.k = 2 then [3, UInt8.ofNat v.n.toNat] else if v.k = 3 then 4 :: (esc v.s.data.toList ++ [0, 0]) else [1]
def keyD : List UInt8 → Option (Val × Nat)
  | [] => none
  | b :: r =>
    if b = 1 then some (noV, 1)
    else if b = 2 then (if 8 ≤ r.length then some (⟨1, low (decBE (r.take 8)), txt []⟩, 9) else none)
    else if b = 3 then (match r with | [] => none | c :: _ => if c.toNat ≤ 1 then some (⟨2, c.toNat, txt []⟩, 2) else none)
    else if b = 4 then (match unesc r with | none => none | some (t, m) => if t.length ≤ 64 then some (⟨3, 0, txt t⟩, m + 1) else none)
    else none
theorem keyB_none : keyB noV = [1] := rfl
theorem keyB_int (n : Int) : keyB ⟨1, n, txt []⟩ = 2 :: encBE 8 (high n) := rfl
theorem keyB_bool (n : Int) : keyB ⟨2, n, txt []⟩ = [3, UInt8.ofNat n.toNat] := rfl
theorem keyB_text (l : List UInt8) : keyB ⟨3, 0, txt l⟩ = 4 :: (esc l ++ [0, 0]) := rfl
theorem keyD_none (r : List UInt8) : keyD (1 :: r) = some (noV, 1) := rfl
theorem keyD_int (r : List UInt8) : keyD (2 :: r) = if 8 ≤ r.length then some (⟨1, low (decBE (r.take 8)), txt []⟩, 9) else none := rfl
theorem keyD_bool (c : UInt8) (r : List UInt8) : keyD (3 :: c :: r) = if c.toNat ≤ 1 then some (⟨2, c.toNat, txt []⟩, 2) else none := rfl
theorem keyD_text {r t : List UInt8} {m : Nat} (h : unesc r = some (t, m)) : keyD (4 :: r) = if t.length ≤ 64 then some (⟨3, 0, txt t⟩, m + 1) else none := by
  show (match unesc r with | none => none | some (t, m) => if t.length ≤ 64 then some (⟨3, 0, txt t⟩, m + 1) else none : Option (Val × Nat)) = _
  rw [h]
theorem keyD_no {r : List UInt8} (h : unesc r = none) : keyD (4 :: r) = none := by
  show (match unesc r with | none => none | some (t, m) => if t.length ≤ 64 then some (⟨3, 0, txt t⟩, m + 1) else none : Option (Val × Nat)) = _
  rw [h]
theorem keyD_else {b : UInt8} (r : List UInt8) (h0 : b ≠ 1) (h1 : b ≠ 2) (h2 : b ≠ 3) (h3 : b ≠ 4) : keyD (b :: r) = none := by
  simp [keyD, h0, h1, h2, h3]
theorem high_lt {n : Int} (h2 : n ≤ 9223372036854775807) : high n < 256 ^ 8 := by unfold high; rw [pow8]; omega
theorem low_high {n : Int} (h1 : -9223372036854775808 ≤ n) : low (high n) = n := by unfold low high; omega
theorem high_low (u : Nat) : high (low u) = u := by unfold low high; omega
theorem low_in {u : Nat} (h : u < 256 ^ 8) : -9223372036854775808 ≤ low u ∧ low u ≤ 9223372036854775807 := by unfold low; rw [pow8] at h; omega

theorem keyCoded : Coded keyB keyD := {
  there := fun v h r => by
    rcases okV_cases h with rfl | ⟨n, rfl, h1, h2⟩ | ⟨n, rfl, hn⟩ | ⟨l, rfl, hl⟩
    · rfl
    · rw [keyB_int, List.cons_append, keyD_int, if_pos (by rw [List.length_append, encBE_len]; omega), List.take_left' (encBE_len 8 _), decBE_encBE 8 _ (high_lt h2), low_high h1, List.length_cons, encBE_len]
    · rw [keyB_bool]
      rcases hn with rfl | rfl <;> rfl
    · rw [keyB_text, List.cons_append, List.append_assoc]
      show keyD (4 :: (esc l ++ 0 :: 0 :: r)) = _
      rw [keyD_text (unesc_esc l r), if_pos hl]
      simp
  back := fun s v m h => by
    cases s with
    | nil => cases h
    | cons b r =>
      by_cases b0 : b = 1
      · subst b0
        rw [keyD_none] at h
        obtain ⟨rfl, rfl⟩ := Prod.mk.inj (Option.some.inj h)
        exact ⟨ok_none, rfl, rfl⟩
      by_cases b1 : b = 2
      · subst b1
        rw [keyD_int] at h
        split at h
        · rename_i h8
          obtain ⟨rfl, rfl⟩ := Prod.mk.inj (Option.some.inj h)
          have hl : (r.take 8).length = 8 := by rw [List.length_take]; omega
          have hlt := decBE_lt (r.take 8)
          rw [hl] at hlt
          have hs := low_in hlt
          refine ⟨ok_int hs.1 hs.2, ?_, by rw [keyB_int, List.length_cons, encBE_len]⟩
          rw [keyB_int, high_low, encBE_decBE_of _ 8 hl, List.cons_append, List.drop_succ_cons, List.take_append_drop]
        · cases h
      by_cases b2 : b = 3
      · subst b2
        cases r with
        | nil => cases h
        | cons c r =>
          rw [keyD_bool] at h
          split at h
          · rename_i hc
            obtain ⟨rfl, rfl⟩ := Prod.mk.inj (Option.some.inj h)
            refine ⟨ok_bool (by omega), ?_, rfl⟩
            rw [keyB_bool]
            show 3 :: c :: r = 3 :: UInt8.ofNat _ :: r
            rw [Int.toNat_natCast, UInt8.ofNat_toNat]
          · cases h
      by_cases b3 : b = 4
      · subst b3
        cases hu : unesc r with
        | none => rw [keyD_no hu] at h; cases h
        | some x =>
          obtain ⟨t, m'⟩ := x
          rw [keyD_text hu] at h
          split at h
          · rename_i hl
            obtain ⟨rfl, rfl⟩ := Prod.mk.inj (Option.some.inj h)
            obtain ⟨e1, e2⟩ := esc_unesc r.length r t m' (Nat.le_refl _) hu
            refine ⟨ok_text hl, ?_, by rw [keyB_text]; simp; omega⟩
            rw [keyB_text, List.drop_succ_cons, List.cons_append, List.append_assoc]
            show 4 :: r = 4 :: (esc t ++ 0 :: 0 :: r.drop m')
            rw [← e1]
          · cases h
      rw [keyD_else r b0 b1 b2 b3] at h; cases h
  pos := fun v => by
    unfold keyB
    repeat' split
    all_goals simp }

/-! ### The order of keys -/
theorem key_less {x y : Val} {a b : UInt8} {s t : List UInt8} (r r' : List UInt8) (hx : keyB x = a :: s) (hy : keyB y = b :: t) (h : a.toNat < b.toNat) (hk : x.k < y.k) : Lib.compareBytes (keyB x ++ r) (keyB y ++ r') = if cmpT x y = 0 then Lib.compareBytes r r' else cmpT x y := by
  have e : cmpT x y = -1 := by unfold cmpT cmpV; rw [if_pos hk]
  rw [e, if_neg (by decide), hx, hy, List.cons_append, List.cons_append, bytes_cons, if_pos h]
theorem key_more {x y : Val} {a b : UInt8} {s t : List UInt8} (r r' : List UInt8) (hx : keyB x = a :: s) (hy : keyB y = b :: t) (h : b.toNat < a.toNat) (hk : y.k < x.k) : Lib.compareBytes (keyB x ++ r) (keyB y ++ r') = if cmpT x y = 0 then Lib.compareBytes r r' else cmpT x y := by
  have e : cmpT x y = 1 := by unfold cmpT cmpV; rw [if_neg (by omega), if_pos hk]
  rw [e, if_neg (by decide), hx, hy, List.cons_append, List.cons_append, bytes_cons, if_neg (by omega), if_pos h]
theorem cmpT_num (k n n' : Int) : cmpT ⟨k, n, txt []⟩ ⟨k, n', txt []⟩ = if n < n' then -1 else if n' < n then 1 else 0 := by
  unfold cmpT cmpV
  dsimp only
  rw [if_neg (by omega), if_neg (by omega)]; rfl
theorem cmpT_text (l l' : List UInt8) : cmpT ⟨3, 0, txt l⟩ ⟨3, 0, txt l'⟩ = Lib.compareBytes l l' := by
  unfold cmpT cmpV
  dsimp only
  rw [if_neg (by omega), if_neg (by omega), if_neg (by omega), if_neg (by omega)]; rfl
theorem key_order {x y : Val} (hx : okV x) (hy : okV y) (r r' : List UInt8) : Lib.compareBytes (keyB x ++ r) (keyB y ++ r') = if cmpT x y = 0 then Lib.compareBytes r r' else cmpT x y := by
  rcases okV_cases hx with rfl | ⟨n, rfl, h1, h2⟩ | ⟨n, rfl, hn⟩ | ⟨l, rfl, hl⟩ <;> rcases okV_cases hy with rfl | ⟨n', rfl, h1', h2'⟩ | ⟨n', rfl, hn'⟩ | ⟨l', rfl, hl'⟩
  · rw [if_pos ((cmpT_zero _ _).2 rfl)]; exact bytes_cons_same _ _ _
  · exact key_less r r' keyB_none (keyB_int n') (by decide) (by show (0 : Int) < 1; decide)
  · exact key_less r r' keyB_none (keyB_bool n') (by decide) (by show (0 : Int) < 2; decide)
  · exact key_less r r' keyB_none (keyB_text l') (by decide) (by show (0 : Int) < 3; decide)
  · exact key_more r r' (keyB_int n) keyB_none (by decide) (by show (0 : Int) < 1; decide)
  · rw [keyB_int, keyB_int, List.cons_append, List.cons_append, bytes_cons_same, bytes_BE 8 _ _ _ _ (high_lt h2) (high_lt h2'), cmpT_num]
    unfold high
    repeat' split
    all_goals first | rfl | omega
  · exact key_less r r' (keyB_int n) (keyB_bool n') (by decide) (by show (1 : Int) < 2; decide)
  · exact key_less r r' (keyB_int n) (keyB_text l') (by decide) (by show (1 : Int) < 3; decide)
  · exact key_more r r' (keyB_bool n) keyB_none (by decide) (by show (0 : Int) < 2; decide)
  · exact key_more r r' (keyB_bool n) (keyB_int n') (by decide) (by show (1 : Int) < 2; decide)
  · rw [keyB_bool, keyB_bool, cmpT_num]
    show Lib.compareBytes (3 :: UInt8.ofNat n.toNat :: r) (3 :: UInt8.ofNat n'.toNat :: r') = _
    rw [bytes_cons_same, bytes_cons, u8_ofNat, u8_ofNat]
    rcases hn with rfl | rfl <;> rcases hn' with rfl | rfl <;> rfl
  · exact key_less r r' (keyB_bool n) (keyB_text l') (by decide) (by show (2 : Int) < 3; decide)
  · exact key_more r r' (keyB_text l) keyB_none (by decide) (by show (0 : Int) < 3; decide)
  · exact key_more r r' (keyB_text l) (keyB_int n') (by decide) (by show (1 : Int) < 3; decide)
  · exact key_more r r' (keyB_text l) (keyB_bool n') (by decide) (by show (2 : Int) < 3; decide)
  · rw [keyB_text, keyB_text, List.cons_append, List.cons_append, bytes_cons_same, List.append_assoc, List.append_assoc, cmpT_text]
    show Lib.compareBytes (esc l ++ 0 :: 0 :: r) (esc l' ++ 0 :: 0 :: r') = _
    rw [esc_order]
    by_cases e : l = l'
    · subst e; rw [if_pos rfl, if_pos (bytes_same l)]
    · rw [if_neg e, if_neg (fun h => e (bytes_zero l l' h))]
theorem keys_order : ∀ (a b : List Val), (∀ v ∈ a, okV v) → (∀ v ∈ b, okV v) → Lib.compareBytes (encL keyB a) (encL keyB b) = rowsV a b
  | [], [], _, _ => rfl
  | [], y :: b, _, _ => by
    rw [encL_cons, encL_nil]
    have := keyCoded.pos y
    cases h : keyB y with
    | nil => rw [h] at this; exact absurd this (by simp)
    | cons c s => rfl
  | x :: a, [], _, _ => by
    rw [encL_cons, encL_nil]
    have := keyCoded.pos x
    cases h : keyB x with
    | nil => rw [h] at this; exact absurd this (by simp)
    | cons c s => rfl
  | x :: a, y :: b, ha, hb => by
    rw [encL_cons, encL_cons, key_order (ha x (by simp)) (hb y (by simp)), keys_order a b (fun v hv => ha v (by simp [hv])) (fun v hv => hb v (by simp [hv])), rowsV]

/-! ### Which rows may be -/
def firstBad : List Val → Int
  | [] => 0
  | v :: l => if chk v.k v.n v.s = 0 then firstBad l else chk v.k v.n v.s
/-- The error that a row is refused with; 0: none. -/
def rightV (l : List Val) : Int := if 8 < l.length then 3 else firstBad l
theorem firstBad_ok : ∀ {l : List Val}, (∀ v ∈ l, inI v) → firstBad l = 0 → ∀ v ∈ l, okV v
  | [], _, _, v, hv => absurd hv (by simp)
  | x :: l, hn, h, v, hv => by
    unfold firstBad at h
    by_cases hx : chk x.k x.n x.s = 0
    · rw [if_pos hx] at h
      rcases List.mem_cons.1 hv with rfl | hv
      · exact ⟨hx, hn v (by simp)⟩
      · exact firstBad_ok (fun v hv => hn v (by simp [hv])) h v hv
    · rw [if_neg hx] at h; exact absurd h hx
theorem firstBad_of : ∀ {l : List Val}, (∀ v ∈ l, okV v) → firstBad l = 0
  | [], _ => rfl
  | x :: l, h => by unfold firstBad; rw [if_pos (h x (by simp)).1]; exact firstBad_of (fun v hv => h v (by simp [hv]))
theorem rightV_ok {l : List Val} (hn : ∀ v ∈ l, inI v) (h : rightV l = 0) : l.length ≤ 8 ∧ ∀ v ∈ l, okV v := by
  unfold rightV at h
  split at h
  · cases h
  · exact ⟨by omega, firstBad_ok hn h⟩
theorem rightV_of {l : List Val} (h1 : l.length ≤ 8) (h2 : ∀ v ∈ l, okV v) : rightV l = 0 := by
  unfold rightV; rw [if_neg (by omega)]; exact firstBad_of h2
theorem rightV_take {l : List Val} (k : Nat) (h : rightV l = 0) (hn : ∀ v ∈ l, inI v) : rightV (l.take k) = 0 := by
  obtain ⟨h1, h2⟩ := rightV_ok hn h
  exact rightV_of (by rw [List.length_take]; omega) (fun v hv => h2 v (List.mem_of_mem_take hv))
theorem rightV_drop {l : List Val} (k : Nat) (h : rightV l = 0) (hn : ∀ v ∈ l, inI v) : rightV (l.drop k) = 0 := by
  obtain ⟨h1, h2⟩ := rightV_ok hn h
  exact rightV_of (by rw [List.length_drop]; omega) (fun v hv => h2 v (List.mem_of_mem_drop hv))
theorem rows_len {l : List Val} (h : ∀ v ∈ l, okV v) : (encL rowB l).length ≤ 66 * l.length := by
  induction l with
  | nil => simp [encL]
  | cons x l ih =>
    have h1 := rowB_len (h x (by simp))
    have h2 := ih (fun v hv => h v (by simp [hv]))
    rw [encL_cons, List.length_append, List.length_cons]; omega
theorem key_len {v : Val} (h : okV v) : (keyB v).length ≤ 131 := by
  rcases okV_cases h with rfl | ⟨n, rfl, _⟩ | ⟨n, rfl, _⟩ | ⟨l, rfl, hl⟩
  · rw [keyB_none]; simp
  · rw [keyB_int, List.length_cons, encBE_len]; omega
  · rw [keyB_bool]; simp
  · have := esc_len l
    rw [keyB_text]; simp; omega

/-! ### What the laws ask of keys and rows -/
theorem less_sign (x y : List UInt8) : Op.bytesLess x y = decide (Lib.compareBytes x y < 0) := by
  cases h : Op.bytesLess x y with
  | true => rw [bytes_less x y h]; rfl
  | false =>
    by_cases e : x = y
    · rw [e, bytes_same]; rfl
    · rw [bytes_more x y h e]; rfl
theorem keys_less {a b : List Val} (ha : ∀ v ∈ a, okV v) (hb : ∀ v ∈ b, okV v) : Op.bytesLess (encL keyB a) (encL keyB b) = decide (rowsV a b < 0) := by
  rw [less_sign, keys_order a b ha hb]
theorem rowsV_zero : ∀ (a b : List Val), rowsV a b = 0 ↔ a = b
  | [], [] => by simp [rowsV]
  | [], _ :: _ => by simp [rowsV]
  | _ :: _, [] => by simp [rowsV]
  | x :: a, y :: b => by
    unfold rowsV
    by_cases h : cmpT x y = 0
    · rw [if_pos h, rowsV_zero a b]
      obtain rfl := (cmpT_zero x y).1 h
      simp
    · rw [if_neg h]
      constructor
      · intro e; exact absurd e h
      · intro e
        obtain ⟨rfl, _⟩ := List.cons.inj e
        exact absurd ((cmpT_zero x x).2 rfl) h
theorem keys_same {a b : List Val} (ha : ∀ v ∈ a, okV v) (hb : ∀ v ∈ b, okV v) : encL keyB a = encL keyB b ↔ rowsV a b = 0 := by
  rw [rowsV_zero]
  exact ⟨keyCoded.inj ha hb, fun e => by rw [e]⟩
theorem rows_same {a b : List Val} (ha : ∀ v ∈ a, okV v) (hb : ∀ v ∈ b, okV v) : encL rowB a = encL rowB b ↔ rowsV a b = 0 := by
  rw [rowsV_zero]
  exact ⟨rowCoded.inj ha hb, fun e => by rw [e]⟩
theorem begins_iff {a b : List Val} (ha : ∀ v ∈ a, okV v) (hb : ∀ v ∈ b, okV v) :
    (a.length ≤ b.length ∧ rowsV a (b.take (min a.length b.length)) = 0) ↔ ((encL keyB a).length ≤ (encL keyB b).length ∧ (encL keyB b).take (min (encL keyB a).length (encL keyB b).length) = encL keyB a) := by
  rw [rowsV_zero]
  constructor
  · rintro ⟨h1, h2⟩
    rw [Nat.min_eq_left h1] at h2
    have e : encL keyB b = encL keyB a ++ encL keyB (b.drop a.length) := by
      rw [← encL_append]; congr 1
      have := (List.take_append_drop a.length b).symm
      rwa [← h2] at this
    have hl : (encL keyB a).length ≤ (encL keyB b).length := by rw [e, List.length_append]; omega
    refine ⟨hl, ?_⟩
    rw [Nat.min_eq_left hl, e, List.take_left' rfl]
  · rintro ⟨h1, h2⟩
    rw [Nat.min_eq_left h1] at h2
    have e : encL keyB b = encL keyB a ++ (encL keyB b).drop (encL keyB a).length := by
      have := (List.take_append_drop (encL keyB a).length (encL keyB b)).symm
      rwa [h2] at this
    obtain ⟨c, rfl⟩ := keyCoded.begins a b _ ha hb e
    have hl : a.length ≤ (a ++ c).length := by simp
    refine ⟨hl, ?_⟩
    rw [Nat.min_eq_left hl, List.take_left' rfl]
end Go.Proofs.Ytadidikegfiedaa

/- A row of values that a call built itself: what it holds. Nothing of any program here but a value's type. Conditions: each lemma names its own. -/
namespace Go.Proofs.Ytadidikegfiedaa
open Go.RowKit

theorem info23 : (Try.prog.info? 62).map (fun i => (i.zero, i.size, i.bytes)) = some (some (.agg #[.int .i64 0, .int .i64 0, .string ⟨#[]⟩]), 3, 32) := by kernel_rfl

theorem own_below {B : Nat} {e : TypeId} {k : Nat} {v : Value} {n : Nat} {xs : List Value} {w w' : World} (h : w.ownsRow B e k v n xs) (hb : Below w.heap.size w w') : w'.ownsRow B e k v n xs :=
  h.kept (row := none) ⟨hb.os, hb.tape, hb.output, hb.size, fun j hj _ => hb.block j hj⟩ (by cases hv : v.ownBlock <;> simp)

def rowCells (vs : List Val) : List Value := vs.flatMap fun v => [.int .i64 v.k, .int .i64 v.n, .string v.s]
theorem rowCells_snoc (vs : List Val) (v : Val) : rowCells (vs ++ [v]) = rowCells vs ++ [.int .i64 v.k, .int .i64 v.n, .string v.s] := by simp [rowCells]
theorem rowCells_len : ∀ vs, (rowCells vs).length = vs.length * 3
  | [] => rfl
  | v :: vs => by
    have := rowCells_len vs
    show (rowCells vs).length + 3 = _
    rw [this, List.length_cons]; omega
theorem rowCells_at : ∀ (vs : List Val) (i : Nat) (h : i < vs.length), (rowCells vs)[i * 3]? = some (.int .i64 vs[i].k) ∧ (rowCells vs)[i * 3 + 1]? = some (.int .i64 vs[i].n) ∧ (rowCells vs)[i * 3 + 2]? = some (.string vs[i].s)
  | v :: vs, 0, _ => ⟨rfl, rfl, rfl⟩
  | v :: vs, i + 1, h => by
    have := rowCells_at vs i (by simpa using h)
    have e : rowCells (v :: vs) = [.int .i64 v.k, .int .i64 v.n, .string v.s] ++ rowCells vs := rfl
    have g : ∀ d, (rowCells (v :: vs))[(i + 1) * 3 + d]? = (rowCells vs)[i * 3 + d]? := fun d => by
      rw [e, List.getElem?_append_right (by simp; omega)]
      congr 1
      simp; omega
    exact ⟨(g 0).trans this.1, (g 1).trans this.2.1, (g 2).trans this.2.2⟩

theorem row_owned {B : Nat} {w : World} {v : Value} {vs : List Val} (h : w.ownsRow B 62 3 v vs.length (rowCells vs)) : ∃ a c, v = .slice a vs.length c ∧ vs.length ≤ c ∧ c ≤ maxLen ∧ RowAt w a vs := by
  have h0 := h
  obtain ⟨_, hcase⟩ := h
  rcases hcase with ⟨rfl, hl⟩ | ⟨g, cap', cur, rfl, hg, hh, hn, hcap, hsz, htake⟩
  · exact ⟨none, 0, by rw [hl], by omega, by unfold maxLen; omega, fun hne => absurd (List.length_eq_zero_iff.1 hl) hne⟩
  · refine ⟨some ⟨g, 0, none⟩, cap', rfl, hn, hcap, fun _ => ⟨g, 0, rfl, fun i hi => ?_⟩⟩
    obtain ⟨h1, h2, h3⟩ := rowCells_at vs i hi
    rw [Nat.zero_add]
    exact ⟨(h0.cellAt _ (by omega)).trans h1, (h0.cellAt _ (by omega)).trans h2, (h0.cellAt _ (by omega)).trans h3⟩

/-- Behind an append of one value, laid in a block of its own first. -/
theorem row_next {vs : List Val} {x : Val} {w wr wa w1 : World} {v v' : Value} (hown : wr.ownsRow w.heap.size 62 3 v vs.length (rowCells vs)) (hnx : Below w.heap.size w wa)
    (hown' : w1.ownsRow w.heap.size 62 3 v' (vs.length + 1) (rowCells vs ++ [.int .i64 x.k, .int .i64 x.n, .string x.s])) (hgrow : wa.grownBy w1 v.ownBlock) :
    w1.ownsRow w.heap.size 62 3 v' (vs ++ [x]).length (rowCells (vs ++ [x])) ∧ Below w.heap.size w w1 := by
  refine ⟨by rw [rowCells_snoc, List.length_append]; exact hown', hnx.grown hgrow hnx.size (fun j hj => by have := (hown.lt j hj).1; omega)⟩

/-! ### How far a row has been read -/
def readL (dec : List UInt8 → Option (Val × Nat)) (l : List UInt8) : List Val := (decL dec 8 l).getD []
def readE (dec : List UInt8 → Option (Val × Nat)) (l : List UInt8) : Int := if (decL dec 8 l).isSome then 0 else 2
/-- vs have been read, s is left. -/
def ReadTo (dec : List UInt8 → Option (Val × Nat)) (l : List UInt8) (vs : List Val) (s : List UInt8) : Prop :=
  vs.length ≤ 8 ∧ s.length ≤ l.length ∧ decL dec 8 l = (decL dec (8 - vs.length) s).map (vs ++ ·)
theorem read_start (dec : List UInt8 → Option (Val × Nat)) (l : List UInt8) : ReadTo dec l [] l := ⟨by simp, Nat.le_refl _, by simp⟩
theorem read_more {dec : List UInt8 → Option (Val × Nat)} {l s : List UInt8} {vs : List Val} {v : Val} {m : Nat} (h : ReadTo dec l vs s) (hs : s ≠ []) (hd : dec s = some (v, m)) (h8 : vs.length ≠ 8) :
    ReadTo dec l (vs ++ [v]) (s.drop m) := by
  obtain ⟨h1, h2, h3⟩ := h
  refine ⟨by simp; omega, by rw [List.length_drop]; omega, ?_⟩
  rw [h3, show 8 - vs.length = (8 - (vs ++ [v]).length) + 1 by simp; omega, decL_go hs hd, Option.map_map]
  congr 1
  funext x
  simp
theorem read_none {dec : List UInt8 → Option (Val × Nat)} {l s : List UInt8} {vs : List Val} (h : ReadTo dec l vs s) (hs : s ≠ []) (hd : dec s = none ∨ vs.length = 8) : readL dec l = [] ∧ readE dec l = 2 := by
  obtain ⟨h1, h2, h3⟩ := h
  have e : decL dec 8 l = none := by
    rw [h3]
    rcases hd with hd | hd
    · rw [decL_stop hs hd]; rfl
    · rw [hd]
      show (decL dec 0 s).map _ = none
      rw [decL_full hs]; rfl
  unfold readL readE
  rw [e]
  exact ⟨rfl, rfl⟩
theorem read_all {dec : List UInt8 → Option (Val × Nat)} {l : List UInt8} {vs : List Val} (h : ReadTo dec l vs []) : readL dec l = vs ∧ readE dec l = 0 := by
  obtain ⟨h1, h2, h3⟩ := h
  have e : decL dec 8 l = some vs := by rw [h3, decL_nil]; simp
  unfold readL readE
  rw [e]
  exact ⟨rfl, rfl⟩
end Go.Proofs.Ytadidikegfiedaa

/- Bags and lists of rows in memory: their cells are known; lists that a call builds. Nothing of any program here but the types of a bag's elements. Conditions: each lemma names its own. -/
namespace Go.Proofs.Ytadidikegfiedaa
open Go.RowKit

/-- An element of a bag as it lies in memory: where its row is, its capacity, the row, how often it is there. -/
structure Elem where
  a : Option Addr
  c : Nat
  r : List Val
  n : Int
def pr (e : Elem) : Pair := (e.r, e.n)
def cellsOne (e : Elem) : List Value := [.slice e.a e.r.length e.c, .int .i64 e.n]
def cellsE (E : List Elem) : List Value := E.flatMap cellsOne
/-- A row that a slice can hold. -/
def rowOK (r : List Val) : Prop := r.length * 32 ≤ 140737488351232
def RowsIn (w : World) (E : List Elem) : Prop := ∀ e ∈ E, RowAt w e.a e.r ∧ rowOK e.r
def CellsAt (w : World) (a : Option Addr) (E : List Elem) : Prop :=
  E ≠ [] → ∃ b off, a = some ⟨b, off, none⟩ ∧ ∀ i (h : i < E.length), w.cell? ⟨b, off + i * 2, none⟩ = some (.slice (E[i]).a (E[i]).r.length (E[i]).c) ∧ w.cell? ⟨b, off + i * 2 + 1, none⟩ = some (.int .i64 (E[i]).n)
theorem CellsAt.later {w w' : World} {a : Option Addr} {E : List Elem} (h : CellsAt w a E) (hb : Below w.heap.size w w') : CellsAt w' a E := fun hn => by
  obtain ⟨b, off, e, hc⟩ := h hn
  exact ⟨b, off, e, fun i hi => ⟨cell_later hb (hc i hi).1, cell_later hb (hc i hi).2⟩⟩
theorem RowsIn.later {w w' : World} {E : List Elem} (h : RowsIn w E) (hb : Below w.heap.size w w') : RowsIn w' E := fun e he => ⟨(h e he).1.later hb, (h e he).2⟩
def ElemsAt (w : World) (a : Option Addr) (E : List Elem) : Prop := CellsAt w a E ∧ RowsIn w E
theorem ElemsAt.later {w w' : World} {a : Option Addr} {E : List Elem} (h : ElemsAt w a E) (hb : Below w.heap.size w w') : ElemsAt w' a E := ⟨h.1.later hb, h.2.later hb⟩
theorem ElemsAt.nil (w : World) (a : Option Addr) : ElemsAt w a [] := ⟨fun h => absurd rfl h, fun e he => absurd he (by simp)⟩
theorem ElemsAt.take {w : World} {a : Option Addr} {E : List Elem} (h : ElemsAt w a E) (k : Nat) : ElemsAt w a (E.take k) := by
  refine ⟨fun hn => ?_, fun e he => h.2 e (List.mem_of_mem_take he)⟩
  obtain ⟨b, off, e, hc⟩ := h.1 (fun e => hn (by rw [e]; simp))
  refine ⟨b, off, e, fun i hi => ?_⟩
  have hi' : i < E.length := by rw [List.length_take] at hi; omega
  rw [List.getElem_take]
  exact hc i hi'
theorem ElemsAt.drop {w : World} {b off : Nat} {E : List Elem} (h : ElemsAt w (some ⟨b, off, none⟩) E) (k : Nat) : ElemsAt w (some ⟨b, off + k * 2, none⟩) (E.drop k) := by
  refine ⟨fun hn => ?_, fun e he => h.2 e (List.mem_of_mem_drop he)⟩
  obtain ⟨b', off', e, hc⟩ := h.1 (fun e => hn (by rw [e]; simp))
  obtain ⟨rfl, rfl⟩ : b = b' ∧ off = off' := by simpa using e
  refine ⟨b, off + k * 2, rfl, fun i hi => ?_⟩
  have hi' : k + i < E.length := by rw [List.length_drop] at hi; omega
  rw [List.getElem_drop]
  have := hc (k + i) hi'
  rw [show off + (k + i) * 2 = off + k * 2 + i * 2 by omega] at this
  exact this

theorem cellsE_snoc (E : List Elem) (e : Elem) : cellsE (E ++ [e]) = cellsE E ++ [.slice e.a e.r.length e.c, .int .i64 e.n] := by simp [cellsE, cellsOne]
theorem cellsE_len : ∀ E, (cellsE E).length = E.length * 2
  | [] => rfl
  | e :: E => by
    have := cellsE_len E
    show (cellsE E).length + 2 = _
    rw [this, List.length_cons]; omega
theorem cellsE_at : ∀ (E : List Elem) (i : Nat) (h : i < E.length), (cellsE E)[i * 2]? = some (.slice (E[i]).a (E[i]).r.length (E[i]).c) ∧ (cellsE E)[i * 2 + 1]? = some (.int .i64 (E[i]).n)
  | e :: E, 0, _ => ⟨rfl, rfl⟩
  | e :: E, i + 1, h => by
    have := cellsE_at E i (by simpa using h)
    have e : cellsE (e :: E) = [.slice e.a e.r.length e.c, .int .i64 e.n] ++ cellsE E := rfl
    have g : ∀ d, (cellsE (_ :: E))[(i + 1) * 2 + d]? = (cellsE E)[i * 2 + d]? := fun d => by
      rw [e, List.getElem?_append_right (by simp; omega)]
      congr 1
      simp; omega
    exact ⟨(g 0).trans this.1, (g 1).trans this.2⟩
theorem elems_owned {base B : Nat} {w : World} {v : Value} {E : List Elem} (h : w.ownsRow base B 2 v E.length (cellsE E)) : ∃ a c, v = .slice a E.length c ∧ E.length ≤ c ∧ c ≤ maxLen ∧ CellsAt w a E := by
  have h0 := h
  obtain ⟨_, hcase⟩ := h
  rcases hcase with ⟨rfl, hl⟩ | ⟨g, cap', cur, rfl, hg, hh, hn, hcap, hsz, htake⟩
  · exact ⟨none, 0, by rw [hl], by omega, by unfold maxLen; omega, fun hne => absurd (List.length_eq_zero_iff.1 hl) hne⟩
  · refine ⟨some ⟨g, 0, none⟩, cap', rfl, hn, hcap, fun _ => ⟨g, 0, rfl, fun i hi => ?_⟩⟩
    obtain ⟨h1, h2⟩ := cellsE_at E i hi
    rw [Nat.zero_add]
    exact ⟨(h0.cellAt _ (by omega)).trans h1, (h0.cellAt _ (by omega)).trans h2⟩

/-! ### Lists of rows -/
structure Line where
  a : Option Addr
  c : Nat
  r : List Val
def cellsL (E : List Line) : List Value := E.map fun e => .slice e.a e.r.length e.c
def LinesIn (w : World) (E : List Line) : Prop := ∀ e ∈ E, RowAt w e.a e.r ∧ rowOK e.r
def LineCells (w : World) (a : Option Addr) (E : List Line) : Prop :=
  E ≠ [] → ∃ b off, a = some ⟨b, off, none⟩ ∧ ∀ i (h : i < E.length), w.cell? ⟨b, off + i, none⟩ = some (.slice (E[i]).a (E[i]).r.length (E[i]).c)
theorem LineCells.later {w w' : World} {a : Option Addr} {E : List Line} (h : LineCells w a E) (hb : Below w.heap.size w w') : LineCells w' a E := fun hn => by
  obtain ⟨b, off, e, hc⟩ := h hn
  exact ⟨b, off, e, fun i hi => cell_later hb (hc i hi)⟩
theorem LinesIn.later {w w' : World} {E : List Line} (h : LinesIn w E) (hb : Below w.heap.size w w') : LinesIn w' E := fun e he => ⟨(h e he).1.later hb, (h e he).2⟩
def LinesAt (w : World) (a : Option Addr) (E : List Line) : Prop := LineCells w a E ∧ LinesIn w E
theorem LinesAt.later {w w' : World} {a : Option Addr} {E : List Line} (h : LinesAt w a E) (hb : Below w.heap.size w w') : LinesAt w' a E := ⟨h.1.later hb, h.2.later hb⟩
theorem cellsL_snoc (E : List Line) (e : Line) : cellsL (E ++ [e]) = cellsL E ++ [.slice e.a e.r.length e.c] := by simp [cellsL]
theorem cellsL_len (E : List Line) : (cellsL E).length = E.length := List.length_map _
theorem lines_owned {base B : Nat} {w : World} {v : Value} {E : List Line} (h : w.ownsRow base B 1 v E.length (cellsL E)) : ∃ a c, v = .slice a E.length c ∧ E.length ≤ c ∧ c ≤ maxLen ∧ LineCells w a E := by
  have h0 := h
  obtain ⟨_, hcase⟩ := h
  rcases hcase with ⟨rfl, hl⟩ | ⟨g, cap', cur, rfl, hg, hh, hn, hcap, hsz, htake⟩
  · exact ⟨none, 0, by rw [hl], by omega, by unfold maxLen; omega, fun hne => absurd (List.length_eq_zero_iff.1 hl) hne⟩
  · refine ⟨some ⟨g, 0, none⟩, cap', rfl, hn, hcap, fun _ => ⟨g, 0, rfl, fun i hi => ?_⟩⟩
    rw [Nat.zero_add, h0.cellAt _ (by omega)]
    simp [cellsL, hi]

/-! ### Blocks that an append leaves -/
/-- Below base all is as it was, and each block of another type than e. -/
structure KeptT (e : TypeId) (base : Nat) (w w' : World) : Prop where
  below : Below base w w'
  other : ∀ (B : Nat) cs fz (t : TypeId), t ≠ e → w.heap[B]? = some (Obj.cells cs t fz) → w'.heap[B]? = some (Obj.cells cs t fz)
theorem keptT_grown {e : TypeId} {size n : Nat} {xs : List Value} {w w' : World} {base : Nat} {v : Value} (h : w.ownsRow base e size v n xs) (hb : base ≤ w.heap.size) (hg : w.grownBy w' v.ownBlock) : KeptT e base w w' := by
  refine ⟨(Below.refl _ _).grown hg hb (fun k hk => (h.lt k hk).1), fun B cs fz t ht hB => ?_⟩
  rw [hg.block B (Array.getElem?_eq_some_iff.1 hB).1 (fun hB' => ?_)]; exact hB
  rcases h.2 with ⟨rfl, _⟩ | ⟨g, cap, cur, rfl, _, hh, _⟩
  · cases hB'
  · have hB' : B = g := Option.some.inj hB'
    subst hB'
    rw [hh] at hB
    obtain ⟨-, h2, -⟩ := Obj.cells.inj (Option.some.inj hB)
    exact ht h2.symm
end Go.Proofs.Ytadidikegfiedaa

/- Plans and what is there, as they lie in memory: parts, what they tell, names with their rows. Nothing of any program here but the types. Conditions: each lemma names its own. -/
namespace Go.Proofs.Ytadidikegfiedaa
open Go.RowKit

/-- What is told: how, of what, its name, its type. -/
structure Ox where
  g : Int
  e : Cx
  nm : ByteArray
  ty : Int
/-- A part of a plan, and where its lists lie. -/
structure Px where
  d : Bool
  fp : Option Addr
  fc : Nat
  fs : List ByteArray
  wp : Option Addr
  wc : Nat
  ws : List Int
  wh : Tx
  gp : Option Addr
  gc : Nat
  gs : List Int
  op : Option Addr
  oc : Nat
  os : List Ox
def Ox.cells (o : Ox) : List Value := .int .i64 o.g :: (o.e.cells ++ [.string o.nm, .int .i64 o.ty])
def Px.cells (p : Px) : List Value := .bool p.d :: .slice p.fp p.fs.length p.fc :: .slice p.wp p.ws.length p.wc :: (p.wh.cells ++ [.slice p.gp p.gs.length p.gc, .slice p.op p.os.length p.oc])
theorem Ox.cells_len (o : Ox) : o.cells.length = 9 := by simp [Ox.cells, Cx.cells_len]
theorem Px.cells_len (p : Px) : p.cells.length = 20 := by simp [Px.cells, Tx.cells_len]
theorem Ox.one (o : Ox) : ∀ u ∈ o.cells, u.oneCell' = true := by
  intro u hu
  simp only [Ox.cells, List.mem_cons, List.mem_append, List.not_mem_nil, or_false] at hu
  rcases hu with rfl | h | rfl | rfl
  · rfl
  · exact o.e.one u h
  · rfl
  · rfl
theorem Px.one (p : Px) : ∀ u ∈ p.cells, u.oneCell' = true := by
  intro u hu
  simp only [Px.cells, List.mem_cons, List.mem_append, List.not_mem_nil, or_false] at hu
  rcases hu with rfl | rfl | rfl | h | rfl | rfl
  · rfl
  · rfl
  · rfl
  · exact p.wh.one u h
  · rfl
  · rfl
/-- The cells of a list of texts. -/
structure StrsA (w : World) (a : Option Addr) (l : List ByteArray) : Prop where
  out : l ≠ [] → ∃ b off, a = some ⟨b, off, none⟩ ∧ ∀ i (h : i < l.length), w.cell? ⟨b, off + i, none⟩ = some (.string l[i])
  small : ∀ s ∈ l, s.size ≤ maxLen
theorem StrsA.later {w w' : World} {a : Option Addr} {l : List ByteArray} (h : StrsA w a l) (hb : Below w.heap.size w w') : StrsA w' a l := ⟨fun hn => by
  obtain ⟨b, off, e, hc⟩ := h.out hn
  exact ⟨b, off, e, fun i hi => cell_later hb (hc i hi)⟩, h.small⟩
def in64 (x : Int) : Prop := -9223372036854775808 ≤ x ∧ x ≤ 9223372036854775807
/-- Ints that came in. -/
structure IntsI (w : World) (a : Option Addr) (l : List Int) : Prop where
  at_ : IntsAt w a l
  i : ∀ x ∈ l, in64 x
  few : l.length ≤ 17592186044416
theorem IntsI.later {w w' : World} {a : Option Addr} {l : List Int} (h : IntsI w a l) (hb : Below w.heap.size w w') : IntsI w' a l := ⟨h.at_.later hb, h.i, h.few⟩
structure PxOk (w : World) (n : Nat) (p : Px) : Prop where
  fs : StrsA w p.fp p.fs
  ws : IntsI w p.wp p.ws
  wh : TxAt w n p.wh
  gs : IntsI w p.gp p.gs
  os : RowC w 9 p.op (p.os.map Ox.cells)
  es : ∀ o ∈ p.os, CxAt w n o.e ∧ in64 o.g
  fewF : p.fs.length ≤ 17592186044416
  fewO : p.os.length ≤ 1099511627776
  capF : p.fs.length ≤ p.fc
  capW : p.ws.length ≤ p.wc
  capG : p.gs.length ≤ p.gc
  capO : p.os.length ≤ p.oc
  sizeT : sizeT p.wh ≤ 8000000
  sizeC : ∀ o ∈ p.os, sizeC o.e ≤ 8000000
theorem PxOk.later {w w' : World} {n : Nat} {p : Px} (h : PxOk w n p) (hb : Below w.heap.size w w') : PxOk w' n p :=
  ⟨h.fs.later hb, h.ws.later hb, h.wh.later hb, h.gs.later hb, h.os.later hb, fun o ho => ⟨(h.es o ho).1.later hb, (h.es o ho).2⟩, h.fewF, h.fewO, h.capF, h.capW, h.capG, h.capO, h.sizeT, h.sizeC⟩
/-- One of the outs, as it lies. -/
theorem PxOk.out {w : World} {n : Nat} {p : Px} (h : PxOk w n p) (i : Nat) (hi : i < p.os.length) : ∃ b o, p.op = some ⟨b, o, none⟩ ∧ b < w.heap.size ∧ w.rangeAt b (o + i * 9) (p.os[i]).cells := by
  obtain ⟨b, o, e, hlt, hR⟩ := h.os.out i (by simpa using hi)
  exact ⟨b, o, e, hlt, by simpa using hR⟩
/-- A plan's parts. -/
structure PsOk (w : World) (n : Nat) (a : Option Addr) (c : Nat) (l : List Px) : Prop where
  row : RowC w 20 a (l.map Px.cells)
  ok : ∀ p ∈ l, PxOk w n p
  few : l.length ≤ 879609302220
  cap : l.length ≤ c
theorem PsOk.later {w w' : World} {n : Nat} {a : Option Addr} {c : Nat} {l : List Px} (h : PsOk w n a c l) (hb : Below w.heap.size w w') : PsOk w' n a c l := ⟨h.row.later hb, fun p hp => (h.ok p hp).later hb, h.few, h.cap⟩
theorem PsOk.part {w : World} {n : Nat} {a : Option Addr} {c : Nat} {l : List Px} (h : PsOk w n a c l) (i : Nat) (hi : i < l.length) : ∃ b o, a = some ⟨b, o, none⟩ ∧ b < w.heap.size ∧ w.rangeAt b (o + i * 20) (l[i]).cells := by
  obtain ⟨b, o, e, hlt, hR⟩ := h.row.out i (by simpa using hi)
  exact ⟨b, o, e, hlt, by simpa using hR⟩

/-! ### What is there -/
/-- Rows that came in: their cells, what their values and numbers may be. -/
structure ElemsI (w : World) (a : Option Addr) (c : Nat) (E : List Elem) : Prop where
  at_ : ElemsAt w a E
  i : ∀ e ∈ E, (∀ x ∈ e.r, inI x) ∧ in64 e.n ∧ e.r.length ≤ e.c
  few : E.length ≤ 4398046511104
  cap : E.length ≤ c
theorem ElemsI.later {w w' : World} {a : Option Addr} {c : Nat} {E : List Elem} (h : ElemsI w a c E) (hb : Below w.heap.size w w') : ElemsI w' a c E := ⟨h.at_.later hb, h.i, h.few, h.cap⟩
/-- A name and its rows. -/
structure Nx where
  s : ByteArray
  a : Option Addr
  c : Nat
  E : List Elem
def Nx.cells (x : Nx) : List Value := [.string x.s, .slice x.a x.E.length x.c]
structure NsOk (w : World) (a : Option Addr) (l : List Nx) : Prop where
  row : RowC w 2 a (l.map Nx.cells)
  ok : ∀ x ∈ l, ElemsI w x.a x.c x.E ∧ x.s.size ≤ maxLen
  few : l.length ≤ 3518437208883
theorem NsOk.later {w w' : World} {a : Option Addr} {l : List Nx} (h : NsOk w a l) (hb : Below w.heap.size w w') : NsOk w' a l := ⟨h.row.later hb, fun p hp => ⟨(h.ok p hp).1.later hb, (h.ok p hp).2⟩, h.few⟩
theorem NsOk.name {w : World} {a : Option Addr} {l : List Nx} (h : NsOk w a l) (i : Nat) (hi : i < l.length) : ∃ b o, a = some ⟨b, o, none⟩ ∧ b < w.heap.size ∧ w.rangeAt b (o + i * 2) (l[i]).cells := by
  obtain ⟨b, o, e, hlt, hR⟩ := h.row.out i (by simpa using hi)
  exact ⟨b, o, e, hlt, by simpa using hR⟩

/-! ### Plainly: how many rows -/
def maxMany : Int := 1099511627776
def addMany (n m : Int) : Int := n + min m (maxMany - n)
def sizeB (L : List Pair) : Int := L.foldl (fun n x => addMany n (max x.2 0)) 0
theorem addMany_in {n m : Int} (hn : 0 ≤ n ∧ n ≤ maxMany) (hm : 0 ≤ m) : 0 ≤ addMany n m ∧ addMany n m ≤ maxMany := by unfold addMany; omega
theorem size_in' : ∀ (L : List Pair) (n : Int), 0 ≤ n ∧ n ≤ maxMany → 0 ≤ L.foldl (fun n x => addMany n (max x.2 0)) n ∧ L.foldl (fun n x => addMany n (max x.2 0)) n ≤ maxMany
  | [], _, h => h
  | x :: L, n, h => size_in' L _ (addMany_in h (by omega))
theorem size_in (L : List Pair) : 0 ≤ sizeB L ∧ sizeB L ≤ maxMany := size_in' L 0 (by unfold maxMany; omega)
theorem size_snoc (L : List Pair) (x : Pair) : sizeB (L ++ [x]) = addMany (sizeB L) (max x.2 0) := by unfold sizeB; rw [List.foldl_append]; rfl
/-- The first of a name. -/
def findN (l : List Nx) (s : List UInt8) : Option Nx := l.find? (fun x => x.s.data.toList == s)
def Nx.val (x : Nx) : Value := .agg #[.slice x.a x.E.length x.c, .int .i64 (sizeB (x.E.map pr))]
def noSrc : Value := .agg #[.slice none 0 0, .int .i64 0]
theorem findN_snoc (l : List Nx) (x : Nx) (s : List UInt8) : findN (l ++ [x]) s = match findN l s with
    | some y => some y
    | none => if x.s.data.toList = s then some x else none := by
  unfold findN
  rw [List.find?_append]
  cases h : l.find? (fun x => x.s.data.toList == s) with
  | some y => rfl
  | none =>
    by_cases hx : x.s.data.toList = s
    · simp [hx]
    · simp [hx]
end Go.Proofs.Ytadidikegfiedaa

/- Plans, and what is there, that came in, opened: where they lie. Nothing of any program here but the types. Conditions: they hold at most 1048576 values and letters. -/
namespace Go.Proofs.Ytadidikegfiedaa
open Go.ChangeShapes Go.WideShapes Go.ChangeAt Go.RowKit Go.Joins Go.Deep

set_option maxRecDepth 1000000 in
theorem cellsM12 : Try.prog.cellsOf 46 = 2 := by kernel_rfl
set_option maxRecDepth 1000000 in
theorem cellsLi12 : Try.prog.cellsOf 39 = 1 := by kernel_rfl
set_option maxRecDepth 1000000 in
theorem cellsLm12 : Try.prog.cellsOf 25 = 1 := by kernel_rfl
set_option maxRecDepth 1000000 in
theorem cellsLv12 : Try.prog.cellsOf 44 = 1 := by kernel_rfl
set_option maxRecDepth 1000000 in
theorem cellsB12 : Try.prog.cellsOf 4 = 1 := by kernel_rfl
theorem bulk_len12 {H : Type} : ∀ l : List (DataW H), l.length ≤ Rows.uptoBulkAll l
  | [] => by simp
  | x :: l => by
    have := bulk_len12 l
    have := bulk_one x
    simp only [Rows.uptoBulkAll, List.length_cons]; omega
theorem CxAt.deep {w : World} : ∀ {n m : Nat} {c : Cx}, CxAt w n c → n ≤ m → CxAt w m c
  | 0, _, _, h, _ => h.elim
  | n + 1, 0, _, _, hl => absurd hl (by omega)
  | n + 1, m + 1, .mk _ _ _ _ _ _, ⟨h1, h2⟩, hl => ⟨h1, fun x hx => (h2 x hx).deep (by omega)⟩
theorem TxAt.deep {w : World} : ∀ {n m : Nat} {c : Tx}, TxAt w n c → n ≤ m → TxAt w m c
  | 0, _, _, h, _ => h.elim
  | n + 1, 0, _, _, hl => absurd hl (by omega)
  | n + 1, m + 1, .mk _ _ _ _ _ _ _, ⟨⟨hl1, hl2⟩, h1, h2⟩, hl => ⟨⟨hl1.deep (by omega), hl2.deep (by omega)⟩, h1, fun x hx => (h2 x hx).deep (by omega)⟩
theorem twenty_of {α : Type} : ∀ {l : List α}, l.length = 20 → ∃ a b c d e, ∃ r : List α, l = a :: b :: c :: (r ++ [d, e]) ∧ r.length = 15
  | [u0, u1, u2, u3, u4, u5, u6, u7, u8, u9, u10, u11, u12, u13, u14, u15, u16, u17, u18, u19], _ => ⟨u0, u1, u2, u18, u19, [u3, u4, u5, u6, u7, u8, u9, u10, u11, u12, u13, u14, u15, u16, u17], rfl, rfl⟩

section
variable {H : Type} {enc : TypeId × Value → H} {w : World} {base : Nat} {sp : Nat → Bool} {held : Bool}
theorem trod_s1 {P : Program} {t : TypeId} {f0 : Field} {fuel : Nat} {cs : List Value} {x : DataW H × List MemPlace} (ht : P.underlying t = some (.struct #[f0])) (h : DataW.trod enc P w base sp held fuel t cs = some x) :
    ∃ y0 n, x.1 = .agg [y0.1] ∧ cs.length = P.cellsOf t ∧ DataW.trod enc P w base sp held n f0.type ((cs.drop f0.offset).take (P.cellsOf f0.type)) = some y0 := by
  obtain ⟨xs, n, _, rfl, hl, hlen, hf⟩ := DataW.trod_struct ht h
  match xs, hlen with
  | [y0], _ => exact ⟨y0, n, by simp, hl, by simpa using hf 0 f0 rfl⟩
theorem trod_s2 {P : Program} {t : TypeId} {f0 f1 : Field} {fuel : Nat} {cs : List Value} {x : DataW H × List MemPlace} (ht : P.underlying t = some (.struct #[f0, f1])) (h : DataW.trod enc P w base sp held fuel t cs = some x) :
    ∃ y0 y1 n, x.1 = .agg [y0.1, y1.1] ∧ cs.length = P.cellsOf t ∧ DataW.trod enc P w base sp held n f0.type ((cs.drop f0.offset).take (P.cellsOf f0.type)) = some y0 ∧
      DataW.trod enc P w base sp held n f1.type ((cs.drop f1.offset).take (P.cellsOf f1.type)) = some y1 := by
  obtain ⟨xs, n, _, rfl, hl, hlen, hf⟩ := DataW.trod_struct ht h
  match xs, hlen with
  | [y0, y1], _ => exact ⟨y0, y1, n, by simp, hl, by simpa using hf 0 f0 rfl, by simpa using hf 1 f1 rfl⟩
theorem trod_s6 {P : Program} {t : TypeId} {f0 f1 f2 f3 f4 f5 : Field} {fuel : Nat} {cs : List Value} {x : DataW H × List MemPlace} (ht : P.underlying t = some (.struct #[f0, f1, f2, f3, f4, f5])) (h : DataW.trod enc P w base sp held fuel t cs = some x) :
    ∃ y0 y1 y2 y3 y4 y5 n, x.1 = .agg [y0.1, y1.1, y2.1, y3.1, y4.1, y5.1] ∧ cs.length = P.cellsOf t ∧ DataW.trod enc P w base sp held n f0.type ((cs.drop f0.offset).take (P.cellsOf f0.type)) = some y0 ∧
      DataW.trod enc P w base sp held n f1.type ((cs.drop f1.offset).take (P.cellsOf f1.type)) = some y1 ∧ DataW.trod enc P w base sp held n f2.type ((cs.drop f2.offset).take (P.cellsOf f2.type)) = some y2 ∧ DataW.trod enc P w base sp held n f3.type ((cs.drop f3.offset).take (P.cellsOf f3.type)) = some y3 ∧
      DataW.trod enc P w base sp held n f4.type ((cs.drop f4.offset).take (P.cellsOf f4.type)) = some y4 ∧ DataW.trod enc P w base sp held n f5.type ((cs.drop f5.offset).take (P.cellsOf f5.type)) = some y5 := by
  obtain ⟨xs, n, _, rfl, hl, hlen, hf⟩ := DataW.trod_struct ht h
  match xs, hlen with
  | [y0, y1, y2, y3, y4, y5], _ => exact ⟨y0, y1, y2, y3, y4, y5, n, by simp, hl, by simpa using hf 0 f0 rfl, by simpa using hf 1 f1 rfl, by simpa using hf 2 f2 rfl, by simpa using hf 3 f3 rfl, by simpa using hf 4 f4 rfl, by simpa using hf 5 f5 rfl⟩
/-- A row of structs that came in, opened. -/
theorem open_rows {α : Type} {t e : TypeId} {m : Nat} (cl : α → List Value) (R : α → Prop) (ht : Try.prog.underlying t = some (.slice e)) (hm : 0 < m) (hc : Try.prog.cellsOf e = m) (hcl : ∀ y, (cl y).length = m)
    (each : ∀ {fuel : Nat} {cs : List Value} {x : DataW H × List MemPlace}, Rows.uptoBulk x.1 ≤ 1048576 → DataW.trod enc Try.prog w base sp held fuel e cs = some x → (∀ n ∈ x.1.weights Try.prog e, n ≤ reachBytes) → ∃ y : α, cs = cl y ∧ R y)
    {fuel : Nat} {cs : List Value} {x : DataW H × List MemPlace} (hb : Rows.uptoBulk x.1 ≤ 1048576) (h : DataW.trod enc Try.prog w base sp held fuel t cs = some x) (hw : ∀ n ∈ x.1.weights Try.prog t, n ≤ reachBytes) :
    ∃ (a : Option Addr) (l : List α) (c : Nat), cs = [.slice a l.length c] ∧ l.length ≤ c ∧ RowC w m a (l.map cl) ∧ (∀ y ∈ l, R y) ∧ l.length ≤ 1048576 := by
  rcases open_slice ht h with ⟨hcs, _⟩ | ⟨a, len, cap, mm, n3, D, Pl, hcs, _, hl, hmx, hmm, hdx, hi⟩
  · exact ⟨none, [], 0, hcs, Nat.le_refl _, ⟨fun i hi => absurd hi (by simp)⟩, fun x hx => absurd hx (by simp), by simp⟩
  · have hlm : len ≤ mm := by rw [hmm]; split <;> omega
    have hd : x.1 = .slice ((List.range len).map D) ((List.range (mm - len)).map fun j => D (len + j)) := congrArg Prod.fst hdx
    rw [hd] at hw hb
    simp only [DataW.weights, ht] at hw
    simp only [Rows.uptoBulk] at hb
    have eachx : ∀ i, i < len → ∃ y : α, (∀ j v, (cl y)[j]? = some v → w.cell? ((a.add (i * m)).add j) = some v) ∧ R y := by
      intro i hil
      obtain ⟨cs', hc', ht'⟩ := hi i (by omega)
      rw [hc] at hc'
      have hmem : D i ∈ (List.range len).map D := List.mem_map.2 ⟨i, List.mem_range.2 hil, rfl⟩
      have hbi := bulk_mem hmem
      obtain ⟨y, rfl, hy⟩ := each (x := (D i, Pl i)) (by show Rows.uptoBulk (D i) ≤ _; omega) ht' (fun n hn => hw n (List.mem_cons_of_mem _ (List.mem_append.2 (.inl (weights_mem_all11 hmem n hn)))))
      obtain ⟨_, hcl', hat⟩ := World.cells?_some hc'
      refine ⟨y, fun j v hv => ?_, hy⟩
      have hj : j < (cl y).length := (List.getElem?_eq_some_iff.1 hv).1
      rw [hat j (by rw [← hcl']; exact hj)]
      exact hv
    obtain ⟨l, hll, hp⟩ := list_of_each len eachx
    subst hll
    have hbl := bulk_len12 ((List.range l.length).map D)
    rw [List.length_map, List.length_range] at hbl
    refine ⟨some a, l, cap, hcs, hl, rowc_of hm (fun x hx => ?_) (fun i hi j v hv => ?_), fun y hy => ?_, by omega⟩
    · obtain ⟨c, _, rfl⟩ := List.mem_map.1 hx; exact hcl c
    · have hi' : i < l.length := by simpa using hi
      exact (hp i hi').1 j v (by simpa using hv)
    · obtain ⟨i, hi', rfl⟩ := List.mem_iff_getElem.1 hy
      exact (hp i hi').2
theorem rowc_all {m : Nat} {a : Option Addr} {us : List (List Value)} (h : RowC w m a us) (hn : us ≠ []) : ∃ b o, a = some ⟨b, o, none⟩ ∧ ∀ i (hi : i < us.length), w.rangeAt b (o + i * m) us[i] := by
  obtain ⟨b, o, e, _, _⟩ := h.out 0 (List.length_pos_iff.2 hn)
  refine ⟨b, o, e, fun i hi => ?_⟩
  obtain ⟨b2, o2, e2, _, hR⟩ := h.out i hi
  rw [e] at e2
  obtain ⟨rfl, rfl⟩ : b = b2 ∧ o = o2 := by simpa using e2
  exact hR
theorem open_ints {fuel : Nat} {cs : List Value} {x : DataW H × List MemPlace} (hb : Rows.uptoBulk x.1 ≤ 1048576) (h : DataW.trod enc Try.prog w base sp held fuel 39 cs = some x) (hw : ∀ n ∈ x.1.weights Try.prog 39, n ≤ reachBytes) :
    ∃ (a : Option Addr) (l : List Int) (c : Nat), cs = [.slice a l.length c] ∧ l.length ≤ c ∧ IntsI w a l := by
  obtain ⟨a, l, c, hcs, hc, hR, hA, hl⟩ := open_rows (fun s : Int => [Value.int .i64 s]) (fun s => in64 s) Try.underlying39 (by omega) cells3 (fun _ => rfl) (fun _ h _ => by
    obtain ⟨s, e, _, ws⟩ := DataW.trod_int Try.underlying3 h
    exact ⟨s, e, bounds_i64 ws⟩) hb h hw
  refine ⟨a, l, c, hcs, hc, ⟨fun hn => ?_, hA, by omega⟩⟩
  obtain ⟨b, o, e, hx⟩ := rowc_all hR (by simpa using hn)
  exact ⟨b, o, e, fun i hi => by
    have := hx i (by simpa using hi) 0 (.int .i64 l[i]) (by simp)
    simpa using this⟩
set_option maxRecDepth 1000000 in
theorem open_row_at12 {fuel : Nat} {cs : List Value} {x : DataW H × List MemPlace} (hf : DataW.trod enc Try.prog w base sp held fuel 44 cs = some x) :
    ∃ (a : Option Addr) (l : List Val) (c : Nat), cs = [.slice a l.length c] ∧ l.length ≤ maxLen ∧ l.length ≤ c ∧ RowAt w a l ∧ (∀ x ∈ l, inI x) ∧ (l ≠ [] → ∃ es sp', x.1 = .slice es sp' ∧ l.length ≤ es.length) := by
  rcases open_slice Try.underlying44 hf with ⟨hcs, _⟩ | ⟨a, len, cap, m, n, D, Pl, hcs, _, hl, hm, hmm, hdx, hi⟩
  · subst hcs
    exact ⟨none, [], 0, rfl, by unfold maxLen; simp, Nat.le_refl _, fun h => absurd rfl h, fun x hx => absurd hx (by simp), fun h => absurd rfl h⟩
  · subst hcs
    have hlm : len ≤ m := by rw [hmm]; split <;> omega
    have each : ∀ i, i < len → ∃ x : Val, (w.cell? (a.add (i * 3)) = some (.int .i64 x.k) ∧ w.cell? (a.add (i * 3 + 1)) = some (.int .i64 x.n) ∧ w.cell? (a.add (i * 3 + 2)) = some (.string x.s)) ∧ inI x := by
      intro i hil
      obtain ⟨cs', hc, ht⟩ := hi i (by omega)
      rw [cells23] at hc
      obtain ⟨y0, y1, y2, n', _, hlen, g0, g1, g2⟩ := trod_struct3 Try.underlying62 ht
      obtain ⟨_, hcl, hat⟩ := World.cells?_some hc
      obtain ⟨x0, x1, x2, rfl⟩ := three_of hcl
      have c3 : Try.prog.cellsOf 3 = 1 := by kernel_rfl
      have c9 : Try.prog.cellsOf 9 = 1 := by kernel_rfl
      simp only [c3, c9] at g0 g1 g2
      obtain ⟨k, e0, _, _⟩ := DataW.trod_int Try.underlying3 g0
      obtain ⟨nn, e1, _, wn⟩ := DataW.trod_int Try.underlying3 g1
      obtain ⟨s, e2, _, ws⟩ := DataW.trod_string Try.underlying9 g2
      simp at e0 e1 e2
      subst e0 e1 e2
      have h0 := hat 0 (by omega)
      have h1 := hat 1 (by omega)
      have h2 := hat 2 (by omega)
      rw [add_add] at h0 h1 h2
      exact ⟨⟨k, nn, s⟩, ⟨by simpa using h0, by simpa using h1, by simpa using h2⟩, (bounds_i64 wn).1, (bounds_i64 wn).2, ws⟩
    obtain ⟨l, hll, hp⟩ := list_of_each len each
    subst hll
    refine ⟨some a, l, cap, rfl, by omega, by omega, fun hne => ?_, fun x hx => ?_, fun _ => ?_⟩
    rotate_left
    · obtain ⟨i, hi', rfl⟩ := List.mem_iff_getElem.1 hx
      exact (hp i hi').2
    · exact ⟨_, _, congrArg Prod.fst hdx, by simp⟩
    have hpos : 0 < l.length := by
      cases l with
      | nil => exact absurd rfl hne
      | cons _ _ => simp
    obtain ⟨b, off, spot⟩ := a
    have hspot : spot = none := by simpa [Addr.add] using World.cell?_spot (hp 0 hpos).1.1
    subst hspot
    refine ⟨b, off, rfl, fun i hi' => ?_⟩
    have := (hp i hi').1
    simp only [Go.WideShapes.add_plain] at this
    refine ⟨this.1, ?_, ?_⟩
    · rw [Nat.add_assoc]; exact this.2.1
    · rw [Nat.add_assoc]; exact this.2.2

theorem bulk_each {H : Type} {x : DataW H} {l : List (DataW H)} (h : x = .agg l) (hb : Rows.uptoBulk x ≤ 1048576) : ∀ d ∈ l, Rows.uptoBulk d ≤ 1048576 := fun d hd => by
  have := bulk_mem hd
  rw [h] at hb; simp only [Rows.uptoBulk] at hb; omega
theorem nine_of {α : Type} : ∀ {l : List α}, l.length = 9 → ∃ a b c, ∃ r : List α, l = a :: (r ++ [b, c]) ∧ r.length = 6
  | [u0, u1, u2, u3, u4, u5, u6, u7, u8], _ => ⟨u0, u7, u8, [u1, u2, u3, u4, u5, u6], rfl, rfl⟩
theorem two_cells {α : Type} : ∀ {l : List α}, l.length = 2 → ∃ a b, l = [a, b]
  | [a, b], _ => ⟨a, b, rfl⟩
set_option maxRecDepth 1000000 in
theorem open_elem {fuel : Nat} {cs : List Value} {x : DataW H × List MemPlace} (hb : Rows.uptoBulk x.1 ≤ 1048576) (h : DataW.trod enc Try.prog w base sp held fuel 46 cs = some x) :
    ∃ e : Elem, cs = cellsOne e ∧ (RowAt w e.a e.r ∧ rowOK e.r) ∧ (∀ x ∈ e.r, inI x) ∧ in64 e.n ∧ e.r.length ≤ e.c := by
  obtain ⟨y0, y1, n, hx, hlen, g0, g1⟩ := trod_s2 Try.underlying46 h
  obtain ⟨u0, u1, rfl⟩ := two_cells (hlen.trans cellsM12)
  have c3 : Try.prog.cellsOf 3 = 1 := cells3
  simp only [c3, cellsLv12] at g0 g1
  have hbe := bulk_each hx hb
  obtain ⟨a, l, c, e0, _, hc, hr, hi, hd⟩ := open_row_at12 g0
  obtain ⟨m, e1, _, wm⟩ := DataW.trod_int Try.underlying3 g1
  simp at e0 e1
  subst e0 e1
  refine ⟨⟨a, c, l, m⟩, rfl, ⟨hr, ?_⟩, hi, bounds_i64 wm, hc⟩
  by_cases hne : l = []
  · show l.length * 32 ≤ _; rw [hne]; simp
  · obtain ⟨es, sp', e, hle⟩ := hd hne
    have h1 := hbe y0.1 (by simp)
    have h2 := bulk_len12 es
    rw [e] at h1; simp only [Rows.uptoBulk] at h1
    show l.length * 32 ≤ _; omega
set_option maxRecDepth 1000000 in
theorem open_elems {fuel : Nat} {cs : List Value} {x : DataW H × List MemPlace} (hb : Rows.uptoBulk x.1 ≤ 1048576) (h : DataW.trod enc Try.prog w base sp held fuel 25 cs = some x) (hw : ∀ n ∈ x.1.weights Try.prog 25, n ≤ reachBytes) :
    ∃ (a : Option Addr) (E : List Elem) (c : Nat), cs = [.slice a E.length c] ∧ ElemsI w a c E := by
  obtain ⟨a, l, c, hcs, hc, hR, hA, hl⟩ := open_rows cellsOne (fun e => (RowAt w e.a e.r ∧ rowOK e.r) ∧ (∀ x ∈ e.r, inI x) ∧ in64 e.n ∧ e.r.length ≤ e.c) Try.underlying25 (by omega) cellsM12 (fun _ => rfl) (fun hb h _ => open_elem hb h) hb h hw
  refine ⟨a, l, c, hcs, ⟨⟨fun hn => ?_, fun e he => (hA e he).1⟩, fun e he => (hA e he).2, by omega, hc⟩⟩
  obtain ⟨b, o, e, hx⟩ := rowc_all hR (by simpa using hn)
  refine ⟨b, o, e, fun i hi => ?_⟩
  have h0 := hx i (by simpa using hi) 0 (.slice l[i].a l[i].r.length l[i].c) (by simp [cellsOne])
  have h1 := hx i (by simpa using hi) 1 (.int .i64 l[i].n) (by simp [cellsOne])
  exact ⟨by simpa using h0, h1⟩
end
end Go.Proofs.Ytadidikegfiedaa
