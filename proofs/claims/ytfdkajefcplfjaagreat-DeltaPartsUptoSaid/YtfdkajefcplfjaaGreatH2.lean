/- Several of my texts laid together, each as it was: Ya, Yv, Wq, Wr, Yb, Wt, Yc, Wu, Wv, Yd, Ye, Yf, Yg. Conditions: each names its own. -/
import Derived.Test.YtfdkajefcplfjaaGreatH1
import Derived.Deep.MidRow
import Derived.Deep.RegionHeld3
import Derived.Deep.AppendLies
import Derived.BigQuiet
import Derived.Laws.StructEq
import Derived.Deep.RegionWith
import Derived.Lib.AppendZerosOnto
import Derived.Lib.Walk
import Derived.OwnWalk
/- Expressions and conditions over a row, plainly: trees that know where they lie; what they come to, which columns they read, what stands apart. Nothing of any program here. Conditions: none. -/
namespace Go.Proofs.YtfdkajefcplfjaaGreat
open Go.RowKit

/-- An expression: its kind, its place, its value, where its arguments lie. -/
inductive Cx where
  | mk (k a : Int) (v : Val) (p : Option Addr) (c : Nat) (ys : List Cx)
/-- A condition. -/
inductive Tx where
  | mk (k op : Int) (l r : Cx) (p : Option Addr) (c : Nat) (ys : List Tx)

def zV : Val := ⟨0, 0, ⟨#[]⟩⟩
def zCx : Cx := .mk 0 0 zV none 0 []
def colV (row : List Val) (a : Int) : Val × Int := if a < 0 then (zV, 8) else match row[a.toNat]? with | some v => (v, 0) | none => (zV, 8)
def twoV (k : Int) (x y : Val × Int) : Val × Int :=
  if x.2 ≠ 0 then (zV, x.2) else if y.2 ≠ 0 then (zV, y.2) else (⟨cK k x.1.k x.1.n y.1.k y.1.n, cN k x.1.k x.1.n y.1.k y.1.n, ⟨#[]⟩⟩, cE k x.1.k x.1.n y.1.k y.1.n)
def negV (x : Val × Int) : Val × Int := if x.2 ≠ 0 then (zV, x.2) else (⟨cK 4 1 0 x.1.k x.1.n, cN 4 1 0 x.1.k x.1.n, ⟨#[]⟩⟩, cE 4 1 0 x.1.k x.1.n)
def evOf (row : List Val) (k a : Int) (v : Val) (rs : List (Val × Int)) : Val × Int :=
  if k = 1 then colV row a else if k = 2 then (v, 0)
  else if k = 3 ∨ k = 4 ∨ k = 5 then (match rs with | [x, y] => twoV k x y | _ => (zV, 8))
  else if k = 6 then (match rs with | [x] => negV x | _ => (zV, 8))
  else (zV, 8)
mutual
def evC (row : List Val) : Cx → Val × Int
  | .mk k a v _ _ ys => evOf row k a v (evL row ys)
def evL (row : List Val) : List Cx → List (Val × Int)
  | [] => []
  | x :: l => evC row x :: evL row l
end
theorem evL_map (row : List Val) : ∀ l, evL row l = l.map (evC row)
  | [] => rfl
  | x :: l => by rw [evL, evL_map row l]; rfl
mutual
/-- The places of all columns, ys they are met. -/
def rdC : Cx → List Int
  | .mk k a _ _ _ ys => (if k = 1 then [a] else []) ++ rdL ys
def rdL : List Cx → List Int
  | [] => []
  | x :: l => rdC x ++ rdL l
end
mutual
def sizeC : Cx → Nat
  | .mk _ _ _ _ _ ys => 1 + sizeCL ys
def sizeCL : List Cx → Nat
  | [] => 0
  | x :: l => sizeC x + sizeCL l
end
mutual
theorem rdC_len : ∀ c, (rdC c).length ≤ sizeC c
  | .mk k a _ _ _ ys => by
    have := rdL_len ys
    rw [rdC, sizeC, List.length_append]
    split
    · simp; omega
    · simp; omega
theorem rdL_len : ∀ l, (rdL l).length ≤ sizeCL l
  | [] => by simp [rdL]
  | x :: l => by
    have := rdC_len x
    have := rdL_len l
    rw [rdL, sizeCL, List.length_append]; omega
end
/-- A comparison's side. -/
def sdC (row : List Val) : Cx → Val
  | .mk k a v p c ys => if k = 1 ∨ k = 2 then (evC row (.mk k a v p c ys)).1 else zV
def nulV (v : Val) : Int := if v.k = 0 then 2 else 0
def hoOf (k op : Int) (l r : Val) (rs : List Int) : Int :=
  if k = 0 then 2 else if k = 1 then cmpO op l.k l.n l.s r.k r.n r.s else if k = 2 then nulV l else if k = 3 then 2 - nulV l
  else if k = 4 then andV rs else if k = 5 then orV rs else if k = 6 then (match rs with | [x] => notV x | _ => 1) else 1
mutual
def hoT (row : List Val) : Tx → Int
  | .mk k op l r _ _ ys => hoOf k op (sdC row l) (sdC row r) (hoL row ys)
def hoL (row : List Val) : List Tx → List Int
  | [] => []
  | x :: l => hoT row x :: hoL row l
end
theorem hoL_map (row : List Val) : ∀ l, hoL row l = l.map (hoT row)
  | [] => rfl
  | x :: l => by rw [hoL, hoL_map row l]; rfl
mutual
def asT : Tx → List Int
  | .mk _ _ l r _ _ ys => rdC l ++ rdC r ++ asL ys
def asL : List Tx → List Int
  | [] => []
  | x :: l => asT x ++ asL l
end
mutual
def sizeT : Tx → Nat
  | .mk _ _ l r _ _ ys => 1 + sizeC l + sizeC r + sizeTL ys
def sizeTL : List Tx → Nat
  | [] => 0
  | x :: l => sizeT x + sizeTL l
end
mutual
theorem asT_len : ∀ c, (asT c).length ≤ sizeT c
  | .mk k op l r _ _ ys => by
    have := asL_len ys
    have := rdC_len l
    have := rdC_len r
    rw [asT, sizeT, List.length_append, List.length_append]; omega
theorem asL_len : ∀ l, (asL l).length ≤ sizeTL l
  | [] => by simp [asL]
  | x :: l => by
    have := asT_len x
    have := asL_len l
    rw [asL, sizeTL, List.length_append]; omega
end
mutual
/-- What stands apart. -/
def boT : Tx → List Tx
  | .mk k op l r p c ys => if k = 0 then [] else if k = 4 then boL ys else [.mk k op l r p c ys]
def boL : List Tx → List Tx
  | [] => []
  | x :: l => boT x ++ boL l
end
theorem sizeT_pos : ∀ c, 1 ≤ sizeT c
  | .mk .. => by rw [sizeT]; omega
mutual
theorem boT_len : ∀ c, (boT c).length ≤ sizeT c
  | .mk k op l r p c ys => by
    have := boL_len ys
    rw [boT, sizeT]
    split
    · simp
    split
    · omega
    · simp; omega
theorem boL_len : ∀ l, (boL l).length ≤ sizeTL l
  | [] => by simp [boL]
  | x :: l => by
    have := boT_len x
    have := boL_len l
    rw [boL, sizeTL, List.length_append]; omega
end
theorem hoOf_cases (k op : Int) (l r : Val) (rs : List Int) : hoOf k op l r rs = 0 ∨ hoOf k op l r rs = 1 ∨ hoOf k op l r rs = 2 := by
  have h1 : ∀ v, nulV v = 0 ∨ nulV v = 2 := fun v => by unfold nulV; split <;> simp
  have h2 : ∀ x : Int, notV x = 0 ∨ notV x = 1 ∨ notV x = 2 := notV_cases
  have h3 : ∀ b, tv b = 0 ∨ tv b = 2 := fun b => by cases b <;> simp [tv]
  have h4 : cmpO op l.k l.n l.s r.k r.n r.s = 0 ∨ cmpO op l.k l.n l.s r.k r.n r.s = 1 ∨ cmpO op l.k l.n l.s r.k r.n r.s = 2 := by
    unfold cmpO opV
    repeat' split
    all_goals first | simp | (rcases h3 _ with h | h <;> rw [h] <;> simp)
  unfold hoOf
  repeat' split
  all_goals first | simp | exact h4 | exact andV_cases _ | exact orV_cases _ | exact h2 _ | (rcases h1 l with h | h <;> rw [h] <;> simp)
theorem hoT_cases (row : List Val) : ∀ c, hoT row c = 0 ∨ hoT row c = 1 ∨ hoT row c = 2
  | .mk .. => by rw [hoT]; exact hoOf_cases ..
theorem known_ho (row : List Val) (c : Tx) : knownV (hoT row c) = hoT row c := by
  rcases hoT_cases row c with h | h | h <;> rw [h] <;> rfl
theorem not_ho (row : List Val) (c : Tx) : notV (hoT row c) = 2 - hoT row c := by rw [not_eq, known_ho]

/-- What a value that is reckoned may be. -/
def ValOk (v : Val) : Prop := inI v
theorem inI_zV : inI zV := ⟨by simp [zV], by simp [zV], (Nat.zero_le _ : 0 ≤ maxLen)⟩
theorem cN_bd (op ka na kb nb : Int) : -9223372036854775808 ≤ cN op ka na kb nb ∧ cN op ka na kb nb ≤ 9223372036854775807 := by
  unfold cN calc3
  repeat' split
  all_goals first | (refine ⟨?_, ?_⟩ <;> simp; done) | skip
  all_goals (have := inR_bd ‹_›; omega)
theorem inI_calc (op ka na kb nb : Int) : inI ⟨cK op ka na kb nb, cN op ka na kb nb, ⟨#[]⟩⟩ := ⟨(cN_bd ..).1, (cN_bd ..).2, (Nat.zero_le _ : 0 ≤ maxLen)⟩
theorem inI_two (k : Int) (x y : Val × Int) : inI (twoV k x y).1 := by
  unfold twoV
  split
  · exact inI_zV
  split
  · exact inI_zV
  · exact inI_calc ..
theorem inI_neg (x : Val × Int) : inI (negV x).1 := by
  unfold negV
  split
  · exact inI_zV
  · exact inI_calc ..
theorem inI_col {row : List Val} (hr : ∀ x ∈ row, inI x) (a : Int) : inI (colV row a).1 := by
  unfold colV
  split
  · exact inI_zV
  · split
    · exact hr _ (List.mem_of_getElem? ‹_›)
    · exact inI_zV
theorem inI_ev {row : List Val} (hr : ∀ x ∈ row, inI x) {k a : Int} {v : Val} (hv : inI v) (rs : List (Val × Int)) : inI (evOf row k a v rs).1 := by
  unfold evOf
  repeat' split
  all_goals first | exact inI_zV | exact hv | exact inI_col hr _ | exact inI_two .. | exact inI_neg _

theorem sizeCL_mem {x : Cx} : ∀ {l : List Cx}, x ∈ l → sizeC x ≤ sizeCL l
  | y :: l, h => by
    rw [sizeCL]
    rcases List.mem_cons.1 h with rfl | h
    · omega
    · have := sizeCL_mem h; omega
theorem sizeTL_mem {x : Tx} : ∀ {l : List Tx}, x ∈ l → sizeT x ≤ sizeTL l
  | y :: l, h => by
    rw [sizeTL]
    rcases List.mem_cons.1 h with rfl | h
    · omega
    · have := sizeTL_mem h; omega
theorem rdL_take (l : List Cx) (j : Nat) (h : j < l.length) : rdL (l.take (j + 1)) = rdL (l.take j) ++ rdC l[j] := by
  rw [List.take_succ_eq_append_getElem h]
  generalize l.take j = m
  induction m with
  | nil => simp [rdL]
  | cons x m ih => simp only [List.cons_append, rdL, ih, List.append_assoc]
theorem asL_take (l : List Tx) (j : Nat) (h : j < l.length) : asL (l.take (j + 1)) = asL (l.take j) ++ asT l[j] := by
  rw [List.take_succ_eq_append_getElem h]
  generalize l.take j = m
  induction m with
  | nil => simp [asL]
  | cons x m ih => simp only [List.cons_append, asL, ih, List.append_assoc]
theorem boL_take (l : List Tx) (j : Nat) (h : j < l.length) : boL (l.take (j + 1)) = boL (l.take j) ++ boT l[j] := by
  rw [List.take_succ_eq_append_getElem h]
  generalize l.take j = m
  induction m with
  | nil => simp [boL]
  | cons x m ih => simp only [List.cons_append, boL, ih, List.append_assoc]
theorem sizeCL_take (l : List Cx) (j : Nat) (h : j < l.length) : sizeCL (l.take j) + sizeC l[j] ≤ sizeCL l := by
  induction l generalizing j with
  | nil => simp at h
  | cons x l ih =>
    cases j with
    | zero => simp [sizeCL]
    | succ j =>
      have := ih j (by simpa using h)
      simp only [List.take_succ_cons, sizeCL, List.getElem_cons_succ]; omega
theorem sizeTL_take (l : List Tx) (j : Nat) (h : j < l.length) : sizeTL (l.take j) + sizeT l[j] ≤ sizeTL l := by
  induction l generalizing j with
  | nil => simp at h
  | cons x l ih =>
    cases j with
    | zero => simp [sizeTL]
    | succ j =>
      have := ih j (by simpa using h)
      simp only [List.take_succ_cons, sizeTL, List.getElem_cons_succ]; omega

/-! ### Where they lie -/
def Cx.cells : Cx → List Value
  | .mk k a v p c ys => [.int .i64 k, .int .i64 a, .int .i64 v.k, .int .i64 v.n, .string v.s, .slice p ys.length c]
def Tx.cells : Tx → List Value
  | .mk k op l r p c ys => .int .i64 k :: .int .i64 op :: (l.cells ++ r.cells ++ [.slice p ys.length c])
def Cx.val (c : Cx) : Value := .agg c.cells.toArray
def Tx.val (c : Tx) : Value := .agg c.cells.toArray
theorem Cx.cells_len : ∀ c : Cx, c.cells.length = 6
  | .mk .. => rfl
theorem Tx.cells_len : ∀ c : Tx, c.cells.length = 15
  | .mk _ _ l r .. => by simp [Tx.cells, Cx.cells_len]
/-- Structs of m cells, one behind the other, from where a slice begins. -/
structure RowC (w : World) (m : Nat) (p : Option Addr) (us : List (List Value)) : Prop where
  out : ∀ i (hi : i < us.length), ∃ b o, p = some ⟨b, o, none⟩ ∧ b < w.heap.size ∧ w.rangeAt b (o + i * m) us[i]
theorem rangeAt_blk {w w' : World} {b o : Nat} {us : List Value} (h : w.rangeAt b o us) (hb : w'.heap[b]? = w.heap[b]?) : w'.rangeAt b o us :=
  fun j v hv => (World.cell?_of_block (a := ⟨b, o + j, none⟩) hb).trans (h j v hv)
theorem RowC.later {w w' : World} {m : Nat} {p : Option Addr} {us : List (List Value)} (h : RowC w m p us) (hb : Below w.heap.size w w') : RowC w' m p us :=
  ⟨fun i hi => by
    obtain ⟨b, o, e, hlt, hR⟩ := h.out i hi
    exact ⟨b, o, e, Nat.lt_of_lt_of_le hlt hb.size, rangeAt_blk hR (hb.block b hlt)⟩⟩
structure CxOk (w : World) (k a : Int) (v : Val) (p : Option Addr) (c : Nat) (ys : List Cx) : Prop where
  i : inI v
  k1 : -9223372036854775808 ≤ k
  k2 : k ≤ 9223372036854775807
  a1 : -9223372036854775808 ≤ a
  a2 : a ≤ 9223372036854775807
  c : ys.length ≤ c
  room : ys.length * 72 ≤ 140737488351232
  row : RowC w 6 p (ys.map Cx.cells)
def CxAt (w : World) : Nat → Cx → Prop
  | 0, _ => False
  | n + 1, .mk k a v p c ys => CxOk w k a v p c ys ∧ ∀ x ∈ ys, CxAt w n x
structure TxOk (w : World) (p : Option Addr) (c : Nat) (ys : List Tx) : Prop where
  c : ys.length ≤ c
  room : ys.length * 184 ≤ 140737488351232
  row : RowC w 15 p (ys.map Tx.cells)
def TxAt (w : World) : Nat → Tx → Prop
  | 0, _ => False
  | n + 1, .mk _ _ l r p c ys => (CxAt w n l ∧ CxAt w n r) ∧ TxOk w p c ys ∧ ∀ x ∈ ys, TxAt w n x
theorem CxAt.later {w w' : World} (hb : Below w.heap.size w w') : ∀ {n : Nat} {c : Cx}, CxAt w n c → CxAt w' n c
  | _ + 1, .mk .., h => ⟨⟨h.1.i, h.1.k1, h.1.k2, h.1.a1, h.1.a2, h.1.c, h.1.room, h.1.row.later hb⟩, fun x hx => (h.2 x hx).later hb⟩
theorem TxAt.later {w w' : World} (hb : Below w.heap.size w w') : ∀ {n : Nat} {c : Tx}, TxAt w n c → TxAt w' n c
  | _ + 1, .mk .., h => ⟨⟨h.1.1.later hb, h.1.2.later hb⟩, ⟨h.2.1.c, h.2.1.room, h.2.1.row.later hb⟩, fun x hx => (h.2.2 x hx).later hb⟩
theorem CxAt.mono {w : World} : ∀ {n m : Nat} {c : Cx}, n ≤ m → CxAt w n c → CxAt w m c
  | n + 1, 0, _, h, _ => absurd h (by omega)
  | n + 1, m + 1, .mk .., h, g => ⟨g.1, fun x hx => (g.2 x hx).mono (Nat.le_of_succ_le_succ h)⟩
theorem TxAt.mono {w : World} : ∀ {n m : Nat} {c : Tx}, n ≤ m → TxAt w n c → TxAt w m c
  | n + 1, 0, _, h, _ => absurd h (by omega)
  | n + 1, m + 1, .mk .., h, g => ⟨⟨g.1.1.mono (Nat.le_of_succ_le_succ h), g.1.2.mono (Nat.le_of_succ_le_succ h)⟩, g.2.1, fun x hx => (g.2.2 x hx).mono (Nat.le_of_succ_le_succ h)⟩
theorem CxAt.i {w : World} {row : List Val} (hr : ∀ x ∈ row, inI x) : ∀ {n : Nat} {c : Cx}, CxAt w n c → inI (evC row c).1
  | n + 1, .mk .., h => by rw [evC]; exact inI_ev hr h.1.i _
theorem CxAt.si {w : World} {row : List Val} (hr : ∀ x ∈ row, inI x) : ∀ {n : Nat} {c : Cx}, CxAt w n c → inI (sdC row c)
  | n + 1, .mk .., h => by
    rw [sdC]
    split
    · exact CxAt.i hr h
    · exact inI_zV
end Go.Proofs.YtfdkajefcplfjaaGreat

/- A struct's block: what lies in it, that it may be written; whole structs stored and loaded; a call that ends with a struct. Nothing of any program here. Conditions: each names its own. -/
namespace Go.Proofs.YtfdkajefcplfjaaGreat
open Go.RowKit

theorem heap_setCells (b : Nat) : ∀ (vs : List Value) (o : Nat) (w : World) (k : Nat), k ≠ b → (w.setCells b o vs).heap[k]? = w.heap[k]?
  | [], _, _, _, _ => rfl
  | v :: r, o, w, k, h => by
    rw [World.setCells, heap_setCells b r _ _ k h]
    exact Below.heap_setCell w ⟨b, o, none⟩ v k h
theorem size_setCells (b : Nat) : ∀ (vs : List Value) (o : Nat) (w : World), (w.setCells b o vs).heap.size = w.heap.size
  | [], _, _ => rfl
  | v :: r, o, w => by rw [World.setCells, size_setCells b r]; simp
theorem below_setCells {n b : Nat} : ∀ (vs : List Value) (o : Nat) {x y : World}, Below n x y → n ≤ b → Below n x (y.setCells b o vs)
  | [], _, _, _, h, _ => h
  | v :: r, o, _, _, h, hb => below_setCells r (o + 1) (h.setCell hb v) hb

structure VarB (w : World) (B : Nat) (us : List Value) : Prop where
  at_ : w.rangeAt B 0 us
  there : w.there B 0 us.length
  lt : B < w.heap.size
theorem VarB.new (w : World) (us : List Value) (ty : TypeId) : VarB (w.alloc (.cells us.toArray ty)) w.heap.size us := by
  have hc : ∀ j, (w.alloc (.cells us.toArray ty)).cell? ⟨w.heap.size, 0 + j, none⟩ = us[j]? := fun j => by
    rw [cell_of_row _ _ _ us.toArray ty (0, 0) (heap_alloc_new w _)]; simp
  refine ⟨fun j v hv => (hc j).trans hv, fun j hj => ⟨by rw [hc j, List.getElem?_eq_getElem hj]; rfl, World.frozen?_alloc_at _ _ _ _ rfl⟩, by simp⟩
theorem VarB.keep {w w' : World} {B : Nat} {us : List Value} (h : VarB w B us) (hb : w'.heap[B]? = w.heap[B]?) (hs : w.heap.size ≤ w'.heap.size) : VarB w' B us :=
  ⟨fun j v hv => (World.cell?_of_block (a := ⟨B, 0 + j, none⟩) hb).trans (h.at_ j v hv), fun j hj => ⟨by rw [World.cell?_of_block (a := ⟨B, 0 + j, none⟩) hb]; exact (h.there j hj).1, (World.frozen?_of_block (a := ⟨B, 0 + j, none⟩) hb).trans (h.there j hj).2⟩, Nat.lt_of_lt_of_le h.lt hs⟩
theorem VarB.alloc {w : World} {B : Nat} {us : List Value} (h : VarB w B us) (o : Obj) : VarB (w.alloc o) B us := h.keep (Below.heap_alloc w o B h.lt) (by simp)
theorem VarB.drew {w : World} {B : Nat} {us : List Value} (h : VarB w B us) : VarB w.drew B us := h.keep rfl (Nat.le_refl _)
theorem VarB.below {w w' : World} {B : Nat} {us : List Value} (h : VarB w B us) (hb : Below w.heap.size w w') : VarB w' B us := h.keep (hb.block B h.lt) hb.size
theorem VarB.under {n : Nat} {w w' : World} {B : Nat} {us : List Value} (h : VarB w B us) (hb : Below n w w') (hn : B < n) : VarB w' B us := h.keep (hb.block B hn) hb.size
theorem VarB.puts {w : World} {B : Nat} {us : List Value} (h : VarB w B us) (vs : List Value) (hl : vs.length = us.length) : VarB (w.setCells B 0 vs) B vs :=
  ⟨World.rangeAt_setCells_same w B 0 vs (by rw [hl]; exact h.there), World.there_setCells (by rw [hl]; exact h.there) B 0 vs, by rw [size_setCells]; exact h.lt⟩
theorem VarB.other {w : World} {B b o : Nat} {us : List Value} (h : VarB w B us) (vs : List Value) (hb : B ≠ b) : VarB (w.setCells b o vs) B us := h.keep (heap_setCells b vs o w B hb) (Nat.le_of_eq (size_setCells b vs o w).symm)
theorem VarB.cell {w : World} {B : Nat} {us : List Value} (h : VarB w B us) (i : Nat) {u : Value} (hu : us[i]? = some u) : w.cell? ⟨B, i, none⟩ = some u := by
  have := h.at_ i u hu
  rwa [Nat.zero_add] at this
theorem VarB.frz {w : World} {B : Nat} {us : List Value} (h : VarB w B us) (i : Nat) (hi : i < us.length) : w.frozen? ⟨B, i, none⟩ = false := by
  have := (h.there i hi).2
  rwa [Nat.zero_add] at this
theorem VarB.two {w : World} (us vs : List Value) (ty tv : TypeId) : VarB ((w.alloc (.cells us.toArray ty)).alloc (.cells vs.toArray tv)) w.heap.size us ∧ VarB ((w.alloc (.cells us.toArray ty)).alloc (.cells vs.toArray tv)) (w.heap.size + 1) vs := by
  refine ⟨(VarB.new w us ty).alloc _, ?_⟩
  have := VarB.new (w.alloc (.cells us.toArray ty)) vs tv
  rwa [World.size_alloc] at this

/-- A whole struct goes into its block. -/
theorem wp_putB {P : Program} {ops : Array Oper} {rest : List Oper} {a : Act} {w : World} {Q : Exit → Act → World → Prop} {B : Nat} {us vs : List Value} {ty tt : TypeId} {x y : Operand} {pos : String} {af : Array Edge} (hV : VarB w B us) (h1 : ∀ v ∈ vs, v.oneCell' = true) (hl : vs.length = us.length)
    (hi : (P.info? ty).map (·.size) = some us.length) (hx : a.eval x = .pointer (some ⟨B, 0, none⟩)) (hy : a.eval y = .agg vs.toArray)
    (h : ∀ w', VarB w' B vs → Hid (w' = w.setCells B 0 vs) → wpList P ops Q rest (a.put none undef) w') : wpList P ops Q (⟨none, .store ty x y, tt, pos, af, none⟩ :: rest) a w :=
  wpList_store_mid rfl ty x y rfl B 0 vs.toArray hx hy (by simpa [hl] using hV.there) (by simpa [hl] using hi) (all_oneCell_toArray h1) (h _ (hV.puts vs hl) (hid0 rfl))
/-- A whole struct is read. -/
theorem wp_getB {P : Program} {ops : Array Oper} {rest : List Oper} {a : Act} {w : World} {Q : Exit → Act → World → Prop} {b o : Nat} {us : List Value} {dst : Option Nat} {ty tt : TypeId} {x : Operand} {pos : String} {af : Array Edge} (hV : w.rangeAt b o us) {d : TypeDesc} (hu : P.underlying ty = some d) (hd : d.isRow = true) (hi : (P.info? ty).map (·.size) = some us.length)
    (hx : a.eval x = .pointer (some ⟨b, o, none⟩)) (h : wpList P ops Q rest (a.put dst (.agg us.toArray)) w) : wpList P ops Q (⟨dst, .load ty x, tt, pos, af, none⟩ :: rest) a w :=
  wpList_load_mid rfl ty x rfl b o hx us d hV hu hd hi h
/-- A whole struct is read by a guarded operation. -/
theorem wp_getG {P : Program} {ops : Array Oper} {rest : List Oper} {a : Act} {w : World} {Q : Exit → Act → World → Prop} {b o : Nat} {us : List Value} {dst : Option Nat} {ty tt : TypeId} {x : Operand} {pos : String} {af : Array Edge} {gd : Option (Nat × Bool)} (hw : Region.wanted ⟨dst, .load ty x, tt, pos, af, gd⟩ (yielded ops a.tmps) = true) (hR : w.rangeAt b o us) {d : TypeDesc} (hu : P.underlying ty = some d) (hd : d.isRow = true) (hi : (P.info? ty).map (·.size) = some us.length)
    (hx : a.eval x = .pointer (some ⟨b, o, none⟩)) (h : wpList P ops Q rest (a.put dst (.agg us.toArray)) w) : wpList P ops Q (⟨dst, .load ty x, tt, pos, af, gd⟩ :: rest) a w :=
  BigFrame.wpList_want hw (fun _ hK => wp_load_mid ty x rfl b o hx us d hR hu hd hi (hK _ _ h))
/-- A call ends whose result lies in a block of its own. -/
theorem end_blk {P : Program} {f : Func} {Q : Ending → World → Prop} {a : Act} {w : World} {B t : Nat} {ty : TypeId} {us : List Value} (hV : VarB w B us) (hf : f.results = #[.cell t ty]) (ht : a.tmps.getD t undef = .pointer (some ⟨B, 0, none⟩)) (d : TypeDesc) (hu : P.underlying ty = some d) (hd : d.isRow = true) (hi : (P.info? ty).map (·.size) = some us.length)
    (hde : a.defers = []) (hQ : Q (.returned (.agg us.toArray)) w) : bodyPost P f Q .ret a w := by
  refine bodyPost_ret (v := .agg us.toArray) ?_ hde hQ
  have hl := run_loadVar_mid (P := P) w B 0 ty us d hV.at_ hu hd hi
  have ht2 : a.tmps[t]?.getD undef = .pointer (some ⟨B, 0, none⟩) := by simpa using ht
  simp [results, hf, ht2, asAddr, hl]
/-- The same, where a number is told beside it. -/
theorem end_vt {P : Program} {f : Func} {Q : Ending → World → Prop} {a : Act} {w : World} {B t s : Nat} {ty : TypeId} {us : List Value} {x : Value} (hV : VarB w B us) (hf : f.results = #[.cell t ty, .tmp s]) (ht : a.tmps.getD t undef = .pointer (some ⟨B, 0, none⟩)) (hs : a.tmps.getD s undef = x) (d : TypeDesc) (hu : P.underlying ty = some d) (hd : d.isRow = true) (hi : (P.info? ty).map (·.size) = some us.length)
    (hde : a.defers = []) (hQ : Q (.returned (.tuple #[.agg us.toArray, x])) w) : bodyPost P f Q .ret a w := by
  refine bodyPost_ret (v := .tuple #[.agg us.toArray, x]) ?_ hde hQ
  have hl := run_loadVar_mid (P := P) w B 0 ty us d hV.at_ hu hd hi
  have ht2 : a.tmps[t]?.getD undef = .pointer (some ⟨B, 0, none⟩) := by simpa using ht
  have hs2 : a.tmps[s]?.getD undef = x := by simpa using hs
  simp [results, hf, ht2, hs2, asAddr, hl]
theorem one3 (k n : Int) (s : ByteArray) : ∀ v ∈ [Value.int .i64 k, .int .i64 n, .string s], v.oneCell' = true := by
  intro v hv
  simp at hv
  rcases hv with rfl | rfl | rfl <;> rfl
theorem infoV : (Tryz.prog.info? 41).map (·.size) = some 3 := by kernel_rfl
theorem Cx.one : ∀ (c : Cx), ∀ u ∈ c.cells, u.oneCell' = true
  | .mk .., u, hu => by
    simp [Cx.cells] at hu
    rcases hu with rfl | rfl | rfl | rfl | rfl | rfl <;> rfl
theorem Tx.one : ∀ (c : Tx), ∀ u ∈ c.cells, u.oneCell' = true
  | .mk _ _ l r _ _ _, u, hu => by
    simp only [Tx.cells, List.mem_cons, List.mem_append, List.not_mem_nil, or_false] at hu
    rcases hu with rfl | rfl | (h | h) | rfl
    · rfl
    · rfl
    · exact l.one u h
    · exact r.one u h
    · rfl
theorem len6 {us : List Value} (h : us.length = 6) : ∃ u0 u1 u2 u3 u4 u5, us = [u0, u1, u2, u3, u4, u5] := by
  match us, h with
  | [u0, u1, u2, u3, u4, u5], _ => exact ⟨_, _, _, _, _, _, rfl⟩
/-- A row that came in: its cells, what its values may be. -/
structure RowIn (w : World) (a : Option Addr) (row : List Val) : Prop where
  at_ : RowAt w a row
  i : ∀ x ∈ row, inI x
  len : row.length ≤ maxLen
theorem RowIn.later {w w' : World} {a : Option Addr} {row : List Val} (h : RowIn w a row) (hb : Below w.heap.size w w') : RowIn w' a row := ⟨h.at_.later hb, h.i, h.len⟩
/-- One of a row of structs, as it lies. -/
theorem CxOk.arg {w : World} {k a : Int} {v : Val} {p : Option Addr} {c : Nat} {ys : List Cx} (h : CxOk w k a v p c ys) (i : Nat) (hi : i < ys.length) : ∃ b o, p = some ⟨b, o, none⟩ ∧ b < w.heap.size ∧ w.rangeAt b (o + i * 6) (ys[i]).cells := by
  obtain ⟨b, o, e, hlt, hR⟩ := h.row.out i (by simpa using hi)
  exact ⟨b, o, e, hlt, by simpa using hR⟩
theorem TxOk.arg {w : World} {p : Option Addr} {c : Nat} {ys : List Tx} (h : TxOk w p c ys) (i : Nat) (hi : i < ys.length) : ∃ b o, p = some ⟨b, o, none⟩ ∧ b < w.heap.size ∧ w.rangeAt b (o + i * 15) (ys[i]).cells := by
  obtain ⟨b, o, e, hlt, hR⟩ := h.row.out i (by simpa using hi)
  exact ⟨b, o, e, hlt, by simpa using hR⟩
theorem rng {w : World} {b o : Nat} {us : List Value} (h : w.rangeAt b o us) (i : Nat) {u : Value} (hu : us[i]? = some u) : w.cell? ⟨b, o + i, none⟩ = some u := h i u hu


theorem sizeX : (Tryz.prog.info? 44).map (·.size) = some 6 := by kernel_rfl
theorem sizeTT : (Tryz.prog.info? 47).map (·.size) = some 15 := by kernel_rfl
end Go.Proofs.YtfdkajefcplfjaaGreat

/- Whether two values of three fields are the same: the model's comparison of structs, as one plain function. Conditions: none. -/
namespace Go.Proofs.YtfdkajefcplfjaaGreat
open Go.RowKit

def sameV (k n : Int) (s : ByteArray) (k' n' : Int) (s' : ByteArray) : Bool := k == k' && n == n' && s.toList == s'.toList

theorem sameV_iff (k n : Int) (s : ByteArray) (k' n' : Int) (s' : ByteArray) : sameV k n s k' n' s' = true ↔ k = k' ∧ n = n' ∧ s = s' := by
  simp only [sameV, Bool.and_eq_true, beq_iff_eq, ByteArray.toList_eq]
  constructor
  · rintro ⟨⟨rfl, rfl⟩, h⟩; exact ⟨rfl, rfl, WideShapes.bytes_inj h⟩
  · rintro ⟨rfl, rfl, rfl⟩; exact ⟨⟨rfl, rfl⟩, rfl⟩

theorem eql23 (k n : Int) (s : ByteArray) (k' n' : Int) (s' : ByteArray) (w : World) :
    (binOp .eql 41 (.agg #[.int .i64 k, .int .i64 n, .string s]) (.agg #[.int .i64 k', .int .i64 n', .string s'])).run Tryz.prog w = .ok (.bool (sameV k n s k' n' s')) w := by
  rw [run_eql_struct, run_equalIn_agg _ _ _ _ _ (by kernel_rfl) (by kernel_rfl)]
  have hf : (Tryz.prog.fieldsOf 41).toList = [{ name := "Kind", type := 3, offset := 0, embedded := false, tag := "", pkgPath := "", byteOffset := 0 }, { name := "N", type := 3, offset := 1, embedded := false, tag := "", pkgPath := "", byteOffset := 8 }, { name := "S", type := 9, offset := 2, embedded := false, tag := "", pkgPath := "", byteOffset := 16 }] := by kernel_rfl
  rw [hf]
  simp only [Op.eqFields]
  simp [go_sem, sameV]
  by_cases h1 : k = k' <;> by_cases h2 : n = n' <;> by_cases h3 : s.toList = s'.toList <;> simp [h1, h2, h3]

theorem neq23 (k n : Int) (s : ByteArray) (k' n' : Int) (s' : ByteArray) (w : World) :
    (binOp .neq 41 (.agg #[.int .i64 k, .int .i64 n, .string s]) (.agg #[.int .i64 k', .int .i64 n', .string s'])).run Tryz.prog w = .ok (.bool (!sameV k n s k' n' s')) w := by
  have h := eql23 k n s k' n' s' w
  rw [run_eql_struct] at h
  rw [run_neq_struct]
  revert h
  cases (Op.equalIn 10000 41 (.agg #[.int .i64 k, .int .i64 n, .string s]) (.agg #[.int .i64 k', .int .i64 n', .string s'])).run Tryz.prog w with
  | ok b w1 => simp [Result.andThen]
  | halt x w1 => simp [Result.andThen]
end Go.Proofs.YtfdkajefcplfjaaGreat

/- The walk of the law ValueBack: it returns true, and below the heap's end memory is as it was. Conditions: internal/bytealg.MaxLen holds some integer; the two numbers lie within 64 bits. -/
namespace Go.Proofs.YtfdkajefcplfjaaGreat
open Go.RowKit

theorem calcAs {op ka na kb nb a b c : Int} (h : calc3 op ka na kb nb = (a, b, c)) (sa sb : ByteArray) (w : World) (ha1 : -9223372036854775808 ≤ na) (ha2 : na ≤ 9223372036854775807) (hb1 : -9223372036854775808 ≤ nb) (hb2 : nb ≤ 9223372036854775807) :
    Calls Tryz.prog 250 #[.int .i64 op, .agg #[.int .i64 ka, .int .i64 na, .string sa], .agg #[.int .i64 kb, .int .i64 nb, .string sb]] w
      fun e w' => e = .returned (.tuple #[.agg #[.int .i64 a, .int .i64 b, .string ⟨#[]⟩], .int .i64 c]) ∧ Below w.heap.size w w' :=
  (calc_any op ka na kb nb sa sb w ha1 ha2 hb1 hb2).mono fun e w' ⟨he, hb⟩ => ⟨by rw [he, cK, cN, cE, h], hb⟩

theorem calc_swap (op x y : Int) (h : op = 3 ∨ op = 5) : calc3 op 1 x 1 y = calc3 op 1 y 1 x := by
  have e : exact3 op x y = exact3 op y x := by
    rcases h with rfl | rfl
    · simp [exact3, Int.add_comm]
    · simp [exact3, Int.mul_comm]
  simp only [calc3, e]
theorem calc_nothing (x : Int) : calc3 5 1 x 0 0 = (0, 0, 0) := by simp [calc3]
theorem calc_back {x y : Int} (h1 : -9223372036854775808 ≤ x) (h2 : x ≤ 9223372036854775807) : calc3 4 1 (x + y) 1 y = (1, x, 0) := by
  have e : exact3 4 (x + y) y = x := by simp [exact3]
  simp [calc3, e, inR, h1, h2]
theorem calc_none0 (y : Int) : calc3 4 0 0 1 y = (0, 0, 0) := by simp [calc3]
theorem sameV_refl (k n : Int) (s : ByteArray) : sameV k n s k n s = true := (sameV_iff ..).2 ⟨rfl, rfl, rfl⟩
theorem bne_refl' (a : Int) : (a != a) = false := by simp
theorem below_alloc2 {W w1 : World} {o1 o2 : Obj} (hb : Below ((W.alloc o1).alloc o2).heap.size ((W.alloc o1).alloc o2) w1) : Below W.heap.size W w1 :=
  below_through hb (by simp; omega) (((Below.refl _ _).alloc (Nat.le_refl _) _).alloc (by simp) _)
theorem below_alloc1 {W w1 : World} {o1 : Obj} (hb : Below (W.alloc o1).heap.size (W.alloc o1) w1) : Below W.heap.size W w1 :=
  below_through hb (by simp) ((Below.refl _ _).alloc (Nat.le_refl _) _)
theorem new_cell {W w1 : World} {cs : Array Value} {t : TypeId} (hb : Below (W.alloc (.cells cs t)).heap.size (W.alloc (.cells cs t)) w1) (i : Nat) (v : Value) (h : cs[i]? = some v) : w1.cell? ⟨W.heap.size, i, none⟩ = some v :=
  cell_later hb (by rw [World.cell?_alloc_new]; exact h)

end Go.Proofs.YtfdkajefcplfjaaGreat

/- The project's Eval and what it calls: contracts of the calls, in whatever memory. Conditions: an expression's and a row's cells are known (what came in reads so). -/
namespace Go.Proofs.YtfdkajefcplfjaaGreat
open Go.RowKit

/-- What a call answers that tells a value and an error. -/
def EvAns (r : Val × Int) (w : World) (e : Ending) (w' : World) : Prop :=
  e = .returned (.tuple #[.agg #[.int .i64 r.1.k, .int .i64 r.1.n, .string r.1.s], .int .i64 r.2]) ∧ Below w.heap.size w w'
theorem EvAns.of {r : Val × Int} {k n f : Int} {s : ByteArray} {w w' : World} (h : r = (⟨k, n, s⟩, f)) (hb : Below w.heap.size w w') : EvAns r w (.returned (.tuple #[.agg #[.int .i64 k, .int .i64 n, .string s], .int .i64 f])) w' := by
  subst h; exact ⟨rfl, hb⟩
theorem col_neg {row : List Val} {a : Int} (h : a < 0) : colV row a = (zV, 8) := if_pos h
theorem col_out {row : List Val} {k : Nat} (h : row.length ≤ k) : colV row (k : Int) = (zV, 8) := by
  unfold colV; rw [if_neg (by omega)]
  have : row[((k : Nat) : Int).toNat]? = none := List.getElem?_eq_none (by omega)
  rw [this]
theorem col_in {row : List Val} {k : Nat} (h : k < row.length) : colV row (k : Int) = (row[k], 0) := by
  unfold colV; rw [if_neg (by omega)]
  have : row[((k : Nat) : Int).toNat]? = some row[k] := List.getElem?_eq_getElem (by omega)
  rw [this]

set_option maxHeartbeats 800000 in
theorem column_any (a : Option Addr) (c : Nat) (row : List Val) (n : Int) (w : World) (h : RowAt w a row) :
    Calls Tryz.prog 218 #[.slice a row.length c, .int .i64 n] w (EvAns (colV row n) w) := by

  have R := hid0 h
  clear h
  by_cases h0 : n < 0
  · have C := hid0 (col_neg (row := row) h0)
    go_enter Tryz.func218, Tryz.ntmps218
    go_wp2
    go_returns
    exact EvAns.of C.out (by go_grown)
  obtain ⟨k, rfl⟩ : ∃ k : Nat, n = (k : Int) := ⟨n.toNat, by omega⟩
  by_cases h1 : k < row.length
  · have C := hid0 (col_in h1)
    obtain ⟨b, o, rfl, hc⟩ := R.out (by intro e; rw [e] at h1; exact absurd h1 (by simp))
    obtain ⟨x0, x1, x2⟩ := hc k h1
    have hb := World.block_lt_of_cell? w _ x0
    clear hc R
    go_enter Tryz.func218, Tryz.ntmps218
    go_wp2
    go_returns
    exact EvAns.of C.out (by go_grown)
  · have C := hid0 (col_out (row := row) (k := k) (by omega))
    go_enter Tryz.func218, Tryz.ntmps218
    go_wp2
    go_returns
    exact EvAns.of C.out (by go_grown)
end Go.Proofs.YtfdkajefcplfjaaGreat

/- Contracts of the reference's Calc and Neg, and of the project's Neg, in whatever memory. Conditions: the numbers lie within 64 bits. -/
namespace Go.Proofs.YtfdkajefcplfjaaGreat
open Go.RowKit

theorem fits_pos {P : Int} (h0 : 0 ≤ P) (h1 : P < 340282366920938463463374607431768211456) (h : wH P = 0) (g : (wL P : Int) < 9223372036854775808) : inR P = true ∧ (wL P : Int) = P := by
  unfold wH wL at *
  refine ⟨inR_of _ (by omega) (by omega), by omega⟩
theorem fits_not {P : Int} (h0 : 0 ≤ P) (h1 : P < 340282366920938463463374607431768211456) (h : ¬wH P = 0 ∨ 9223372036854775808 ≤ (wL P : Int)) : inR P = false := by
  unfold wH wL at *
  rw [inR, decide_eq_false]
  omega
theorem fits_neg {P : Int} (h0 : 0 ≤ P) (h1 : P < 340282366920938463463374607431768211456) (h : wH P = 0) (g : (wL P : Int) ≤ 9223372036854775808) : inR (-P) = true ∧ wrap64 (IntKind.u64.wrap (-(wL P : Int))) = -P := by
  rw [IntKind.wrap_u64]
  unfold wH wL wrap64 at *
  refine ⟨inR_of _ (by omega) (by omega), by omega⟩
theorem fits_negnot {P : Int} (h0 : 0 ≤ P) (h1 : P < 340282366920938463463374607431768211456) (h : ¬wH P = 0 ∨ 9223372036854775808 < (wL P : Int)) : inR (-P) = false := by
  unfold wH wL at *
  rw [inR, decide_eq_false]
  omega

def fitV (x : Int) : Int := if inR x then x else 0
theorem fitV_in {x : Int} (h : inR x = true) : fitV x = x := by rw [fitV, if_pos h]
theorem fitV_out {x : Int} (h : inR x = false) : fitV x = 0 := by rw [fitV, h]; rfl

theorem ret_in {x a : Int} {b : Bool} (h : inR x = true) (ha : a = x) (hb : b = true) : Ending.returned (.tuple #[.int .i64 a, .bool b]) = .returned (.tuple #[.int .i64 (fitV x), .bool (inR x)]) := by rw [fitV_in h, h, ha, hb]
theorem ret_out {x a : Int} {b : Bool} (h : inR x = false) (ha : a = 0) (hb : b = false) : Ending.returned (.tuple #[.int .i64 a, .bool b]) = .returned (.tuple #[.int .i64 (fitV x), .bool (inR x)]) := by rw [fitV_out h, h, ha, hb]

set_option maxHeartbeats 1000000 in
theorem whole_pos (P : Int) (w : World) (h0 : 0 ≤ P) (h1 : P < 340282366920938463463374607431768211456) :
    Calls Tryz.prog 246 #[.int .u64 (wH P : Nat), .int .u64 (wL P : Nat), .bool false] w fun e w' => e = .returned (.tuple #[.int .i64 (fitV P), .bool (inR P)]) ∧ w = w' := by
  have K1 := hid0 (@fits_pos P h0 h1)
  have K2 := hid0 (@fits_not P h0 h1)
  clear h0 h1
  go_enter Tryz.func246, Tryz.ntmps246
  go_wp2
  · go_ret2
    exact ⟨ret_out (K2.out (.inr (by omega))) rfl rfl, rfl⟩
  · have hk := K1.out ‹_› (by omega)
    go_ret2
    exact ⟨ret_in hk.1 hk.2 rfl, rfl⟩
  · go_ret2
    exact ⟨ret_out (K2.out (.inr (by omega))) rfl rfl, rfl⟩
  · go_ret2
    exact ⟨ret_out (K2.out (.inl ‹_›)) rfl rfl, rfl⟩

set_option maxHeartbeats 1000000 in
theorem whole_neg (P : Int) (w : World) (h0 : 0 ≤ P) (h1 : P < 340282366920938463463374607431768211456) :
    Calls Tryz.prog 246 #[.int .u64 (wH P : Nat), .int .u64 (wL P : Nat), .bool true] w fun e w' => e = .returned (.tuple #[.int .i64 (fitV (-P)), .bool (inR (-P))]) ∧ w = w' := by
  have K1 := hid0 (@fits_neg P h0 h1)
  have K2 := hid0 (@fits_negnot P h0 h1)
  clear h0 h1
  go_enter Tryz.func246, Tryz.ntmps246
  go_wp2
  · have hk := K1.out ‹_› (by omega)
    go_ret2
    refine ⟨ret_in hk.1 ?_ rfl, rfl⟩
    rw [← hk.2, show ((wL P : Nat) : Int) = 9223372036854775808 by assumption]
  · have hk := K1.out ‹_› (by omega)
    go_ret2
    exact ⟨ret_in hk.1 hk.2 rfl, rfl⟩
  · go_ret2
    exact ⟨ret_out (K2.out (.inr ‹_›)) rfl rfl, rfl⟩
  · go_ret2
    exact ⟨ret_out (K2.out (.inl ‹_›)) rfl rfl, rfl⟩
end Go.Proofs.YtfdkajefcplfjaaGreat

/- The project's Eval, of an expression of any depth: a contract of the call, in whatever memory. Conditions: an expression's and a row's cells are known (what came in reads so). -/
namespace Go.Proofs.YtfdkajefcplfjaaGreat
open Go.RowKit

structure EvOk (n : Nat) : Prop where
  out : ∀ (x : Cx) (a : Option Addr) (cc : Nat) (row : List Val) (w : World), CxAt w n x → RowIn w a row → Calls Tryz.prog 156 #[x.val, .slice a row.length cc] w (EvAns (evC row x) w)
structure EvHalf (w : World) (u v : Value) (r : Val × Int) : Prop where
  out : ∀ W, Below w.heap.size w W → Calls Tryz.prog 156 #[u, v] W (EvAns r W)
theorem EvOk.half {n : Nat} (H : EvOk n) {x : Cx} {a : Option Addr} {cc : Nat} {row : List Val} {w : World} (hx : CxAt w n x) (hr : RowIn w a row) : EvHalf w x.val (.slice a row.length cc) (evC row x) :=
  ⟨fun W hb => H.out x a cc row W (hx.later hb) (hr.later hb)⟩
theorem ev_not2 {row : List Val} {k a : Int} {v : Val} {p : Option Addr} {c : Nat} {ys : List Cx} (hk : k = 3 ∨ k = 4 ∨ k = 5) (hl : ys.length ≠ 2) : evC row (.mk k a v p c ys) = (zV, 8) := by
  rw [evC, evL_map]; unfold evOf; rw [if_neg (by omega), if_neg (by omega), if_pos hk]
  match ys, hl with
  | [], _ => rfl
  | [_], _ => rfl
  | [_, _], h => exact absurd rfl h
  | _ :: _ :: _ :: _, _ => rfl
theorem ev_two {row : List Val} {k a : Int} {v : Val} {p : Option Addr} {c : Nat} {x y : Cx} (hk : k = 3 ∨ k = 4 ∨ k = 5) : evC row (.mk k a v p c [x, y]) = twoV k (evC row x) (evC row y) := by
  rw [evC, evL_map]; unfold evOf; rw [if_neg (by omega), if_neg (by omega), if_pos hk]; rfl
theorem ev_not1 {row : List Val} {a : Int} {v : Val} {p : Option Addr} {c : Nat} {ys : List Cx} (hl : ys.length ≠ 1) : evC row (.mk 6 a v p c ys) = (zV, 8) := by
  rw [evC, evL_map]; unfold evOf; rw [if_neg (by omega), if_neg (by omega), if_neg (by omega), if_pos rfl]
  match ys, hl with
  | [], _ => rfl
  | [_], h => exact absurd rfl h
  | _ :: _ :: _, _ => rfl
theorem ev_one {row : List Val} {a : Int} {v : Val} {p : Option Addr} {c : Nat} {x : Cx} : evC row (.mk 6 a v p c [x]) = negV (evC row x) := by
  rw [evC, evL_map]; unfold evOf; rw [if_neg (by omega), if_neg (by omega), if_neg (by omega), if_pos rfl]; rfl
theorem two_err1 {k f : Int} {x : Val} {y : Val × Int} (h : (f != 0) = true) : twoV k (x, f) y = (zV, f) := by
  unfold twoV; rw [if_pos (by simpa using h)]
theorem two_err2 {k f g : Int} {x y : Val} (h : (f != 0) = false) (h2 : (g != 0) = true) : twoV k (x, f) (y, g) = (zV, g) := by
  unfold twoV; rw [if_neg (by simpa using h), if_pos (by simpa using h2)]
theorem two_ok {k f g : Int} {x y : Val} (h : (f != 0) = false) (h2 : (g != 0) = false) : twoV k (x, f) (y, g) = (⟨cK k x.k x.n y.k y.n, cN k x.k x.n y.k y.n, ⟨#[]⟩⟩, cE k x.k x.n y.k y.n) := by
  unfold twoV; rw [if_neg (by simpa using h), if_neg (by simpa using h2)]
theorem neg_err {f : Int} {x : Val} (h : (f != 0) = true) : negV (x, f) = (zV, f) := by
  unfold negV; rw [if_pos (by simpa using h)]
theorem neg_ok {f : Int} {x : Val} (h : (f != 0) = false) : negV (x, f) = (⟨cK 4 1 0 x.k x.n, cN 4 1 0 x.k x.n, ⟨#[]⟩⟩, cE 4 1 0 x.k x.n) := by
  unfold negV; rw [if_neg (by simpa using h)]

set_option maxHeartbeats 2000000 in
theorem reckoned_step {n : Nat} (IH : EvOk n) (k q : Int) (v : Val) (p : Option Addr) (c : Nat) (ys : List Cx) (a : Option Addr) (cc : Nat) (row : List Val) (w : World) (hx : CxAt w (n + 1) (.mk k q v p c ys)) (hr : RowIn w a row) (hk : k = 3 ∨ k = 4 ∨ k = 5) :
    Calls Tryz.prog 219 #[.agg #[.int .i64 k, .int .i64 q, .int .i64 v.k, .int .i64 v.n, .string v.s, .slice p ys.length c], .slice a row.length cc] w (EvAns (evC row (.mk k q v p c ys)) w) := by
  obtain ⟨h0, hA⟩ := hx
  by_cases hl : ys.length = 2
  · obtain ⟨x, y, rfl⟩ : ∃ x y, ys = [x, y] := by
      match ys, hl with
      | [x, y], _ => exact ⟨x, y, rfl⟩
    have C := hid0 (ev_two (row := row) (a := q) (v := v) (p := p) (c := c) (x := x) (y := y) hk)
    have H1 := IH.half (cc := cc) (hA x (by simp)) hr
    have H2 := IH.half (cc := cc) (hA y (by simp)) hr
    have i1 := (hA x (by simp)).i hr.i
    have i2 := (hA y (by simp)).i hr.i
    obtain ⟨b, o, rfl, hb, hX⟩ := h0.arg 0 (by simp)
    obtain ⟨b', o', e, _, hY⟩ := h0.arg 1 (by simp)
    obtain ⟨rfl, rfl⟩ : b = b' ∧ o = o' := by cases e; exact ⟨rfl, rfl⟩
    clear hA e h0 IH hr
    generalize evC row x = r1 at C H1 i1
    generalize evC row y = r2 at C H2 i2
    obtain ⟨⟨k1, n1, s1⟩, f1⟩ := r1
    obtain ⟨⟨k2, n2, s2⟩, f2⟩ := r2
    obtain ⟨kx, ax, vx, px, cx, yx⟩ := x
    obtain ⟨ky, ay, vy, py, cy, yy⟩ := y
    obtain ⟨VA, VB⟩ := VarB.two (w := w) [.int .i64 k, .int .i64 q, .int .i64 v.k, .int .i64 v.n, .string v.s, .slice (some ⟨b, o, none⟩) 2 c] [.int .i64 0, .int .i64 0, .string ⟨#[]⟩] 44 41
    have x0 := rng hX 0 rfl
    have x1 := rng hX 1 rfl
    have x2 := rng hX 2 rfl
    have x3 := rng hX 3 rfl
    have x4 := rng hX 4 rfl
    have x5 := rng hX 5 rfl
    simp only [Nat.zero_mul, Nat.add_zero] at x0 x1 x2 x3 x4 x5
    replace hX := hid0 hX
    replace hY := hid0 hY
    have a0 := VA.cell 0 rfl
    have a5 := VA.cell 5 rfl
    replace VA := hid0 VA
    replace VB := hid0 VB
    have I1 := hid0 i1
    have I2 := hid0 i2
    clear i1 i2
    go_enter Tryz.func219, Tryz.ntmps219
    go_wp2_with fail
    go_at_call 156
    refine (H1.out _ (by go_grown)).mono ?_
    rintro e w1 ⟨rfl, hb1⟩
    have VA1 := VA.out.below hb1
    have VB1 := VB.out.below hb1
    have hB1 : Below w.heap.size w w1 := below_through hb1 (by simp; omega) (by go_grown)
    replace VA1 := hid0 VA1
    replace VB1 := hid0 VB1
    have a5 := VA1.out.cell 5 rfl
    have y0 := cell_later hB1 (rng hY.out 0 rfl)
    have y1 := cell_later hB1 (rng hY.out 1 rfl)
    have y2 := cell_later hB1 (rng hY.out 2 rfl)
    have y3 := cell_later hB1 (rng hY.out 3 rfl)
    have y4 := cell_later hB1 (rng hY.out 4 rfl)
    have y5 := cell_later hB1 (rng hY.out 5 rfl)
    simp only [Nat.one_mul, Nat.add_zero, Nat.add_assoc, Nat.reduceAdd] at y0 y1 y2 y3 y4 y5
    have z1 : w.heap.size + 1 < w1.heap.size := VB1.out.lt
    have z2 : w.heap.size < w1.heap.size := VA1.out.lt
    have z3 : b < w1.heap.size := by omega
    clear hb1
    cases hf1 : (f1 != 0)
    · go_wp2_with fail
      go_at_call 156
      refine (H2.out _ (by go_grown)).mono ?_
      rintro e w2 ⟨rfl, hb2⟩
      clear y0 y1 y2 y3 y4 y5 a5
      have VA2 := (VA1.out.alloc (.cells #[.int .i64 k1, .int .i64 n1, .string s1] 41)).below hb2
      have VB2 := (VB1.out.alloc (.cells #[.int .i64 k1, .int .i64 n1, .string s1] 41)).below hb2
      have VC2 := (VarB.new w1 [.int .i64 k1, .int .i64 n1, .string s1] 41).below hb2
      have hB2 : Below w.heap.size w w2 := below_through hb2 (by simp; omega) (hB1.alloc (by omega) _)
      have a0 := VA2.cell 0 rfl
      have m0 := VC2.cell 0 rfl
      have m1 := VC2.cell 1 rfl
      have m2 := VC2.cell 2 rfl
      have z4 : w.heap.size + 1 < w2.heap.size := VB2.lt
      have z5 : w.heap.size < w2.heap.size := VA2.lt
      have z6 : w1.heap.size < w2.heap.size := VC2.lt
      replace VA2 := hid0 VA2
      replace VB2 := hid0 VB2
      replace VC2 := hid0 VC2
      clear hb2
      cases hf2 : (f2 != 0)
      · have b1 := I1.out.1
        have b2 := I1.out.2.1
        have b3 := I2.out.1
        have b4 := I2.out.2.1
        go_wp2_with fail
        go_at_call 250
        refine (calc_any _ _ _ _ _ _ _ _ b1 b2 b3 b4).mono ?_
        rintro e w3 ⟨rfl, hb3⟩
        have VB3 := (VB2.out.alloc (.cells #[.int .i64 k2, .int .i64 n2, .string s2] 41)).below hb3
        have hB3 : Below w.heap.size w w3 := below_through hb3 (by simp; omega) (hB2.alloc (by omega) _)
        have r0 := VB3.cell 0 rfl
        have g0 := VB3.frz 0 (by decide)
        have r1 := VB3.cell 1 rfl
        have g1 := VB3.frz 1 (by decide)
        have r2 := VB3.cell 2 rfl
        have g2 := VB3.frz 2 (by decide)
        go_wp2
        exact end_vt (VB3.puts [.int .i64 (cK k k1 n1 k2 n2), .int .i64 (cN k k1 n1 k2 n2), .string ⟨#[]⟩] rfl) rfl rfl rfl _ Tryz.underlying41 rfl infoV rfl (EvAns.of (C.out.trans (two_ok hf1 hf2)) (((hB3.setCell (by simp) _).setCell (by simp) _).setCell (by simp) _))
      · have r0 := VB2.out.cell 0 rfl
        have g0 := VB2.out.frz 0 (by decide)
        have r1 := VB2.out.cell 1 rfl
        have g1 := VB2.out.frz 1 (by decide)
        have r2 := VB2.out.cell 2 rfl
        have g2 := VB2.out.frz 2 (by decide)
        go_wp2
        exact end_vt ((VB2.out.puts [.int .i64 0, .int .i64 0, .string ⟨#[]⟩] rfl).alloc _) rfl rfl rfl _ Tryz.underlying41 rfl infoV rfl (EvAns.of (C.out.trans (two_err2 hf1 hf2)) ((((hB2.setCell (by simp) _).setCell (by simp) _).setCell (by simp) _).alloc (by simp; omega) _))
    · have r0 := VB1.out.cell 0 rfl
      have g0 := VB1.out.frz 0 (by decide)
      have r1 := VB1.out.cell 1 rfl
      have g1 := VB1.out.frz 1 (by decide)
      have r2 := VB1.out.cell 2 rfl
      have g2 := VB1.out.frz 2 (by decide)
      go_wp2
      exact end_vt ((VB1.out.puts [.int .i64 0, .int .i64 0, .string ⟨#[]⟩] rfl).alloc _) rfl rfl rfl _ Tryz.underlying41 rfl infoV rfl (EvAns.of (C.out.trans (two_err1 hf1)) ((((hB1.setCell (by simp) _).setCell (by simp) _).setCell (by simp) _).alloc (by simp; omega) _))
  · have C := hid0 (ev_not2 (row := row) (a := q) (v := v) (p := p) (c := c) hk hl)
    generalize ys.length = m at *
    have hm : (((m : Nat) : Int) != 2) = true := by simp; omega
    go_enter Tryz.func219, Tryz.ntmps219
    go_wp2
    go_returns
    exact EvAns.of C.out (by go_grown)
end Go.Proofs.YtfdkajefcplfjaaGreat

/- The contract of the reference's Calc, in whatever memory. Conditions: the numbers lie within 64 bits. -/
namespace Go.Proofs.YtfdkajefcplfjaaGreat
open Go.RowKit

theorem opB_of {op : Int} (h : op = 3 ∨ op = 4 ∨ op = 5) : opB op = true := by simpa [opB] using h

set_option maxHeartbeats 1000000 in
theorem refCalc_badop (op ka na kb nb : Int) (sa sb : ByteArray) (w : World) (hop : opB op = false) :
    Calls Tryz.prog 204 #[.int .i64 op, .agg #[.int .i64 ka, .int .i64 na, .string sa], .agg #[.int .i64 kb, .int .i64 nb, .string sb]] w
      fun e w' => e = .returned (.tuple #[.agg #[.int .i64 (cK op ka na kb nb), .int .i64 (cN op ka na kb nb), .string ⟨#[]⟩], .int .i64 (cE op ka na kb nb)]) ∧ Below w.heap.size w w' := by
  by_cases hl : op < 3
  · have hd : decide (op < 3) = true := by simpa using hl
    go_enter Tryz.func204, Tryz.ntmps204
    go_wp2_with fail
    go_returns
    exact ⟨calcRet (calc_op hop), by go_grown⟩
  · have hg : 5 < op := by simp [opB] at hop; omega
    have hl' : 3 ≤ op := by omega
    clear hl
    go_enter Tryz.func204, Tryz.ntmps204
    go_wp2_with fail
    go_returns
    exact ⟨calcRet (calc_op hop), by go_grown⟩

set_option maxHeartbeats 1000000 in
theorem refCalc_kinds (op ka na kb nb : Int) (sa sb : ByteArray) (w : World) (hop : opB op = true) (h3 : 3 ≤ op) (h5 : op ≤ 5) (hk : (ka == 1 && kb == 1) = false) :
    Calls Tryz.prog 204 #[.int .i64 op, .agg #[.int .i64 ka, .int .i64 na, .string sa], .agg #[.int .i64 kb, .int .i64 nb, .string sb]] w
      fun e w' => e = .returned (.tuple #[.agg #[.int .i64 (cK op ka na kb nb), .int .i64 (cN op ka na kb nb), .string ⟨#[]⟩], .int .i64 (cE op ka na kb nb)]) ∧ Below w.heap.size w w' := by
  have HK := hid0 hk
  have HO := hid0 hop
  clear hk hop
  go_enter Tryz.func204, Tryz.ntmps204
  go_wp2_with fail
  · exact absurd HK.out (by simp_all)
  · go_returns
    exact ⟨calcRet (calc_kind HO.out (by simp_all [rk])), by go_grown⟩
  · go_returns
    exact ⟨calcRet (calc_none HO.out (by simp_all [rk]) (by simp_all [rk]) (by simp_all)), by go_grown⟩
  · exact absurd HK.out (by simp_all)
  · go_returns
    exact ⟨calcRet (calc_none HO.out (by simp_all [rk]) (by simp_all [rk]) (by simp_all)), by go_grown⟩
  · go_returns
    exact ⟨calcRet (calc_kind HO.out (by simp_all [rk])), by go_grown⟩
  · go_returns
    exact ⟨calcRet (calc_none HO.out (by simp_all [rk]) (by simp_all [rk]) (by simp_all)), by go_grown⟩
  · go_returns
    exact ⟨calcRet (calc_kind HO.out (by simp_all [rk])), by go_grown⟩

theorem plus_out (x y : Int) (hy1 : -9223372036854775808 ≤ y) (hy2 : y ≤ 9223372036854775807) (h : (!decide (x ≤ wrap64 (x + y)) == decide (0 ≤ y)) = true) : inR (exact3 3 x y) = false := by
  have e : exact3 3 x y = x + y := by simp [exact3]
  rw [e, inR, decide_eq_false]
  intro hr
  have hw : wrap64 (x + y) = x + y := by unfold wrap64; omega
  rw [hw] at h
  by_cases a : x ≤ x + y <;> by_cases b : 0 ≤ y <;> simp [a, b] at h <;> omega
theorem plus_in (x y : Int) (hx1 : -9223372036854775808 ≤ x) (hx2 : x ≤ 9223372036854775807) (hy1 : -9223372036854775808 ≤ y) (hy2 : y ≤ 9223372036854775807) (h : (!decide (x ≤ wrap64 (x + y)) == decide (0 ≤ y)) = false) : inR (exact3 3 x y) = true ∧ wrap64 (x + y) = exact3 3 x y := by
  have e : exact3 3 x y = x + y := by simp [exact3]
  have hr : -9223372036854775808 ≤ x + y ∧ x + y ≤ 9223372036854775807 := by
    unfold wrap64 at h
    by_cases a : x ≤ (x + y + 9223372036854775808) % 18446744073709551616 - 9223372036854775808 <;> by_cases b : 0 ≤ y <;> simp [a, b] at h <;> omega
  rw [e]
  exact ⟨inR_of _ hr.1 hr.2, by unfold wrap64; omega⟩
theorem minus_out (x y : Int) (hy1 : -9223372036854775808 ≤ y) (hy2 : y ≤ 9223372036854775807) (h : (!decide (wrap64 (x - y) ≤ x) == decide (0 ≤ y)) = true) : inR (exact3 4 x y) = false := by
  have e : exact3 4 x y = x - y := by simp [exact3]
  rw [e, inR, decide_eq_false]
  intro hr
  have hw : wrap64 (x - y) = x - y := by unfold wrap64; omega
  rw [hw] at h
  by_cases a : x - y ≤ x <;> by_cases b : 0 ≤ y <;> simp [a, b] at h <;> omega
theorem minus_in (x y : Int) (hx1 : -9223372036854775808 ≤ x) (hx2 : x ≤ 9223372036854775807) (hy1 : -9223372036854775808 ≤ y) (hy2 : y ≤ 9223372036854775807) (h : (!decide (wrap64 (x - y) ≤ x) == decide (0 ≤ y)) = false) : inR (exact3 4 x y) = true ∧ wrap64 (x - y) = exact3 4 x y := by
  have e : exact3 4 x y = x - y := by simp [exact3]
  have hr : -9223372036854775808 ≤ x - y ∧ x - y ≤ 9223372036854775807 := by
    unfold wrap64 at h
    by_cases a : (x - y + 9223372036854775808) % 18446744073709551616 - 9223372036854775808 ≤ x <;> by_cases b : 0 ≤ y <;> simp [a, b] at h <;> omega
  rw [e]
  exact ⟨inR_of _ hr.1 hr.2, by unfold wrap64; omega⟩
theorem prod_bd (na nb : Int) (ha1 : -9223372036854775808 ≤ na) (ha2 : na ≤ 9223372036854775807) (hb1 : -9223372036854775808 ≤ nb) (hb2 : nb ≤ 9223372036854775807) : (na.natAbs : Int) * (nb.natAbs : Int) < 340282366920938463463374607431768211456 := by
  have h := Nat.mul_le_mul (size_le na ha1 ha2) (size_le nb hb1 hb2)
  have h' : ((na.natAbs * nb.natAbs : Nat) : Int) = (na.natAbs : Int) * (nb.natAbs : Int) := Int.natCast_mul _ _
  omega
theorem whole_pos_of (na nb : Int) (ha1 : -9223372036854775808 ≤ na) (ha2 : na ≤ 9223372036854775807) (hb1 : -9223372036854775808 ≤ nb) (hb2 : nb ≤ 9223372036854775807) (w : World) :
    Calls Tryz.prog 246 #[.int .u64 (wH ((na.natAbs : Int) * (nb.natAbs : Int)) : Nat), .int .u64 (wL ((na.natAbs : Int) * (nb.natAbs : Int)) : Nat), .bool false] w fun e w' => e = .returned (.tuple #[.int .i64 (fitV ((na.natAbs : Int) * (nb.natAbs : Int))), .bool (inR ((na.natAbs : Int) * (nb.natAbs : Int)))]) ∧ w = w' :=
  whole_pos _ w (Int.mul_nonneg (by omega) (by omega)) (prod_bd na nb ha1 ha2 hb1 hb2)
theorem whole_neg_of (na nb : Int) (ha1 : -9223372036854775808 ≤ na) (ha2 : na ≤ 9223372036854775807) (hb1 : -9223372036854775808 ≤ nb) (hb2 : nb ≤ 9223372036854775807) (w : World) :
    Calls Tryz.prog 246 #[.int .u64 (wH ((na.natAbs : Int) * (nb.natAbs : Int)) : Nat), .int .u64 (wL ((na.natAbs : Int) * (nb.natAbs : Int)) : Nat), .bool true] w fun e w' => e = .returned (.tuple #[.int .i64 (fitV (-((na.natAbs : Int) * (nb.natAbs : Int)))), .bool (inR (-((na.natAbs : Int) * (nb.natAbs : Int))))]) ∧ w = w' :=
  whole_neg _ w (Int.mul_nonneg (by omega) (by omega)) (prod_bd na nb ha1 ha2 hb1 hb2)
theorem calc_yes {op na nb : Int} (h : opB op = true) (hr : inR (exact3 op na nb) = true) {v : Int} (hv : v = exact3 op na nb) : calc3 op 1 na 1 nb = (1, v, 0) := by rw [calc_in h hr, hv]

set_option maxHeartbeats 1000000 in
theorem refCalc_3 (na nb : Int) (sa sb : ByteArray) (w : World) (ha1 : -9223372036854775808 ≤ na) (ha2 : na ≤ 9223372036854775807) (hb1 : -9223372036854775808 ≤ nb) (hb2 : nb ≤ 9223372036854775807) :
    Calls Tryz.prog 204 #[.int .i64 3, .agg #[.int .i64 1, .int .i64 na, .string sa], .agg #[.int .i64 1, .int .i64 nb, .string sb]] w
      fun e w' => e = .returned (.tuple #[.agg #[.int .i64 (cK 3 1 na 1 nb), .int .i64 (cN 3 1 na 1 nb), .string ⟨#[]⟩], .int .i64 (cE 3 1 na 1 nb)]) ∧ Below w.heap.size w w' := by
  have K1 := hid0 (plus_out na nb hb1 hb2)
  have K2 := hid0 (plus_in na nb ha1 ha2 hb1 hb2)
  go_enter Tryz.func204, Tryz.ntmps204
  go_wp2_with fail
  go_region
  go_wp2_with (go_at_call 210; refine (refInt_any _ _).mono ?_; rintro e w' ⟨rfl, hb⟩; obtain ⟨hc, hf⟩ := below_cells hb; have hz2 : w.heap.size + 1 + 1 < w'.heap.size := (by have := hb.size; (try simp at this); omega))
  · go_returns
    exact ⟨calcRet (calc_out rfl (K1.out ‹_›)), by (repeat (first | (with_reducible exact Below.refl _ _) | (refine Below.setCell ?_ (by first | (simp; done) | (simp; omega)) _) | (refine below_through ‹_› (by first | omega | (simp; done) | (simp; omega)) ?_) | (refine Below.drew ?_) | (refine Below.alloc ?_ (by first | omega | (simp; done) | (simp; omega)) _)))⟩
  · have q0 : w'.cell? ⟨w.heap.size + 1 + 1, 0, none⟩ = some (.int .i64 0) := by go_cell
    have q1 : w'.cell? ⟨w.heap.size + 1 + 1, 1, none⟩ = some (.int .i64 0) := by go_cell
    have q2 : w'.cell? ⟨w.heap.size + 1 + 1, 2, none⟩ = some (.string ⟨#[]⟩) := by go_cell
    have hk := K2.out ‹_›
    refine bodyPost_ret (v := .tuple #[.agg #[.int .i64 1, .int .i64 (wrap64 (na + nb)), .string ⟨#[]⟩], .int .i64 0]) (by simp [results, Tryz.results204, go_sem, q0, q1, q2]) rfl ⟨?_, ?_⟩
    · exact calcRet (calc_yes rfl hk.1 hk.2)
    · (repeat (first | (with_reducible exact Below.refl _ _) | (refine Below.setCell ?_ (by first | (simp; done) | (simp; omega)) _) | (refine below_through ‹_› (by first | omega | (simp; done) | (simp; omega)) ?_) | (refine Below.drew ?_) | (refine Below.alloc ?_ (by first | omega | (simp; done) | (simp; omega)) _)))

set_option maxHeartbeats 1000000 in
theorem refCalc_4 (na nb : Int) (sa sb : ByteArray) (w : World) (ha1 : -9223372036854775808 ≤ na) (ha2 : na ≤ 9223372036854775807) (hb1 : -9223372036854775808 ≤ nb) (hb2 : nb ≤ 9223372036854775807) :
    Calls Tryz.prog 204 #[.int .i64 4, .agg #[.int .i64 1, .int .i64 na, .string sa], .agg #[.int .i64 1, .int .i64 nb, .string sb]] w
      fun e w' => e = .returned (.tuple #[.agg #[.int .i64 (cK 4 1 na 1 nb), .int .i64 (cN 4 1 na 1 nb), .string ⟨#[]⟩], .int .i64 (cE 4 1 na 1 nb)]) ∧ Below w.heap.size w w' := by
  have K1 := hid0 (minus_out na nb hb1 hb2)
  have K2 := hid0 (minus_in na nb ha1 ha2 hb1 hb2)
  go_enter Tryz.func204, Tryz.ntmps204
  go_wp2_with fail
  go_region
  go_wp2_with (go_at_call 210; refine (refInt_any _ _).mono ?_; rintro e w' ⟨rfl, hb⟩; obtain ⟨hc, hf⟩ := below_cells hb; have hz2 : w.heap.size + 1 + 1 < w'.heap.size := (by have := hb.size; (try simp at this); omega))
  · go_returns
    exact ⟨calcRet (calc_out rfl (K1.out ‹_›)), by (repeat (first | (with_reducible exact Below.refl _ _) | (refine Below.setCell ?_ (by first | (simp; done) | (simp; omega)) _) | (refine below_through ‹_› (by first | omega | (simp; done) | (simp; omega)) ?_) | (refine Below.drew ?_) | (refine Below.alloc ?_ (by first | omega | (simp; done) | (simp; omega)) _)))⟩
  · have q0 : w'.cell? ⟨w.heap.size + 1 + 1, 0, none⟩ = some (.int .i64 0) := by go_cell
    have q1 : w'.cell? ⟨w.heap.size + 1 + 1, 1, none⟩ = some (.int .i64 0) := by go_cell
    have q2 : w'.cell? ⟨w.heap.size + 1 + 1, 2, none⟩ = some (.string ⟨#[]⟩) := by go_cell
    have hk := K2.out ‹_›
    refine bodyPost_ret (v := .tuple #[.agg #[.int .i64 1, .int .i64 (wrap64 (na - nb)), .string ⟨#[]⟩], .int .i64 0]) (by simp [results, Tryz.results204, go_sem, q0, q1, q2]) rfl ⟨?_, ?_⟩
    · exact calcRet (calc_yes rfl hk.1 hk.2)
    · (repeat (first | (with_reducible exact Below.refl _ _) | (refine Below.setCell ?_ (by first | (simp; done) | (simp; omega)) _) | (refine below_through ‹_› (by first | omega | (simp; done) | (simp; omega)) ?_) | (refine Below.drew ?_) | (refine Below.alloc ?_ (by first | omega | (simp; done) | (simp; omega)) _)))

set_option maxHeartbeats 1000000 in
theorem refCalc_5pos (na nb : Int) (sa sb : ByteArray) (w : World) (ha1 : -9223372036854775808 ≤ na) (ha2 : na ≤ 9223372036854775807) (hb1 : -9223372036854775808 ≤ nb) (hb2 : nb ≤ 9223372036854775807) (hn : (!decide (na < 0) == decide (nb < 0)) = false) :
    Calls Tryz.prog 204 #[.int .i64 5, .agg #[.int .i64 1, .int .i64 na, .string sa], .agg #[.int .i64 1, .int .i64 nb, .string sb]] w
      fun e w' => e = .returned (.tuple #[.agg #[.int .i64 (cK 5 1 na 1 nb), .int .i64 (cN 5 1 na 1 nb), .string ⟨#[]⟩], .int .i64 (cE 5 1 na 1 nb)]) ∧ Below w.heap.size w w' := by
  have hP : ((na.natAbs : Int) * (nb.natAbs : Int)) = exact3 5 na nb := by rw [prod_alike na nb hn]; simp [exact3]
  have HP := hid0 hP
  have W := whole_pos_of na nb ha1 ha2 hb1 hb2
  have sa' := size_lt na ha1 ha2
  have sb' := size_lt nb hb1 hb2
  clear hP
  go_enter Tryz.func204, Tryz.ntmps204
  go_wp2_with fail
  go_region
  go_wp2_with (first
    | (go_at_call 245; refine (refSize_any _ _ (by first | exact ha1 | exact hb1) (by first | exact ha2 | exact hb2)).mono ?_; rintro e w' ⟨rfl, rfl⟩)
    | (go_at_call 216; refine (mul_any _ _ _ sa' sb').mono ?_; rintro e w' ⟨rfl, rfl⟩)
    | (go_at_call 246; refine (W _).mono ?_; rintro e w' ⟨rfl, rfl⟩)
    | (go_at_call 210; refine (refInt_any _ _).mono ?_; rintro e w' ⟨rfl, hb⟩; obtain ⟨hc, hf⟩ := below_cells hb; have hz2 : w.heap.size + 1 + 1 < w'.heap.size := (by have := hb.size; (try simp at this); omega)))
  · have hr : inR (exact3 5 na nb) = false := by rw [← HP.out]; simpa using ‹(!inR ((na.natAbs : Int) * (nb.natAbs : Int))) = true›
    go_returns
    exact ⟨calcRet (calc_out rfl hr), by (repeat (first | (with_reducible exact Below.refl _ _) | (refine Below.setCell ?_ (by first | (simp; done) | (simp; omega)) _) | (refine below_through ‹_› (by first | omega | (simp; done) | (simp; omega)) ?_) | (refine Below.drew ?_) | (refine Below.alloc ?_ (by first | omega | (simp; done) | (simp; omega)) _)))⟩
  · have hr : inR ((na.natAbs : Int) * (nb.natAbs : Int)) = true := by simpa using ‹(!inR ((na.natAbs : Int) * (nb.natAbs : Int))) = false›
    have q0 : w'.cell? ⟨w.heap.size + 1 + 1, 0, none⟩ = some (.int .i64 0) := by go_cell
    have q1 : w'.cell? ⟨w.heap.size + 1 + 1, 1, none⟩ = some (.int .i64 0) := by go_cell
    have q2 : w'.cell? ⟨w.heap.size + 1 + 1, 2, none⟩ = some (.string ⟨#[]⟩) := by go_cell
    refine bodyPost_ret (v := .tuple #[.agg #[.int .i64 1, .int .i64 (fitV ((na.natAbs : Int) * (nb.natAbs : Int))), .string ⟨#[]⟩], .int .i64 0]) (by simp [results, Tryz.results204, go_sem, q0, q1, q2]) rfl ⟨?_, ?_⟩
    · exact calcRet (calc_yes rfl (by rw [← HP.out]; exact hr) (by rw [fitV_in hr, HP.out]))
    · (repeat (first | (with_reducible exact Below.refl _ _) | (refine Below.setCell ?_ (by first | (simp; done) | (simp; omega)) _) | (refine below_through ‹_› (by first | omega | (simp; done) | (simp; omega)) ?_) | (refine Below.drew ?_) | (refine Below.alloc ?_ (by first | omega | (simp; done) | (simp; omega)) _)))

set_option maxHeartbeats 1000000 in
theorem refCalc_5neg (na nb : Int) (sa sb : ByteArray) (w : World) (ha1 : -9223372036854775808 ≤ na) (ha2 : na ≤ 9223372036854775807) (hb1 : -9223372036854775808 ≤ nb) (hb2 : nb ≤ 9223372036854775807) (hn : (!decide (na < 0) == decide (nb < 0)) = true) :
    Calls Tryz.prog 204 #[.int .i64 5, .agg #[.int .i64 1, .int .i64 na, .string sa], .agg #[.int .i64 1, .int .i64 nb, .string sb]] w
      fun e w' => e = .returned (.tuple #[.agg #[.int .i64 (cK 5 1 na 1 nb), .int .i64 (cN 5 1 na 1 nb), .string ⟨#[]⟩], .int .i64 (cE 5 1 na 1 nb)]) ∧ Below w.heap.size w w' := by
  have hP : (-((na.natAbs : Int) * (nb.natAbs : Int))) = exact3 5 na nb := by rw [prod_unlike na nb hn]; simp [exact3]
  have HP := hid0 hP
  have W := whole_neg_of na nb ha1 ha2 hb1 hb2
  have sa' := size_lt na ha1 ha2
  have sb' := size_lt nb hb1 hb2
  clear hP
  go_enter Tryz.func204, Tryz.ntmps204
  go_wp2_with fail
  go_region
  go_wp2_with (first
    | (go_at_call 245; refine (refSize_any _ _ (by first | exact ha1 | exact hb1) (by first | exact ha2 | exact hb2)).mono ?_; rintro e w' ⟨rfl, rfl⟩)
    | (go_at_call 216; refine (mul_any _ _ _ sa' sb').mono ?_; rintro e w' ⟨rfl, rfl⟩)
    | (go_at_call 246; refine (W _).mono ?_; rintro e w' ⟨rfl, rfl⟩)
    | (go_at_call 210; refine (refInt_any _ _).mono ?_; rintro e w' ⟨rfl, hb⟩; obtain ⟨hc, hf⟩ := below_cells hb; have hz2 : w.heap.size + 1 + 1 < w'.heap.size := (by have := hb.size; (try simp at this); omega)))
  · have hr : inR (exact3 5 na nb) = false := by rw [← HP.out]; simpa using ‹(!inR (-((na.natAbs : Int) * (nb.natAbs : Int)))) = true›
    go_returns
    exact ⟨calcRet (calc_out rfl hr), by (repeat (first | (with_reducible exact Below.refl _ _) | (refine Below.setCell ?_ (by first | (simp; done) | (simp; omega)) _) | (refine below_through ‹_› (by first | omega | (simp; done) | (simp; omega)) ?_) | (refine Below.drew ?_) | (refine Below.alloc ?_ (by first | omega | (simp; done) | (simp; omega)) _)))⟩
  · have hr : inR (-((na.natAbs : Int) * (nb.natAbs : Int))) = true := by simpa using ‹(!inR (-((na.natAbs : Int) * (nb.natAbs : Int)))) = false›
    have q0 : w'.cell? ⟨w.heap.size + 1 + 1, 0, none⟩ = some (.int .i64 0) := by go_cell
    have q1 : w'.cell? ⟨w.heap.size + 1 + 1, 1, none⟩ = some (.int .i64 0) := by go_cell
    have q2 : w'.cell? ⟨w.heap.size + 1 + 1, 2, none⟩ = some (.string ⟨#[]⟩) := by go_cell
    refine bodyPost_ret (v := .tuple #[.agg #[.int .i64 1, .int .i64 (fitV (-((na.natAbs : Int) * (nb.natAbs : Int)))), .string ⟨#[]⟩], .int .i64 0]) (by simp [results, Tryz.results204, go_sem, q0, q1, q2]) rfl ⟨?_, ?_⟩
    · exact calcRet (calc_yes rfl (by rw [← HP.out]; exact hr) (by rw [fitV_in hr, HP.out]))
    · (repeat (first | (with_reducible exact Below.refl _ _) | (refine Below.setCell ?_ (by first | (simp; done) | (simp; omega)) _) | (refine below_through ‹_› (by first | omega | (simp; done) | (simp; omega)) ?_) | (refine Below.drew ?_) | (refine Below.alloc ?_ (by first | omega | (simp; done) | (simp; omega)) _)))

theorem refCalc_any (op ka na kb nb : Int) (sa sb : ByteArray) (w : World) (ha1 : -9223372036854775808 ≤ na) (ha2 : na ≤ 9223372036854775807) (hb1 : -9223372036854775808 ≤ nb) (hb2 : nb ≤ 9223372036854775807) :
    Calls Tryz.prog 204 #[.int .i64 op, .agg #[.int .i64 ka, .int .i64 na, .string sa], .agg #[.int .i64 kb, .int .i64 nb, .string sb]] w
      fun e w' => e = .returned (.tuple #[.agg #[.int .i64 (cK op ka na kb nb), .int .i64 (cN op ka na kb nb), .string ⟨#[]⟩], .int .i64 (cE op ka na kb nb)]) ∧ Below w.heap.size w w' := by
  cases hop : opB op with
  | false => exact refCalc_badop op ka na kb nb sa sb w hop
  | true =>
    have ho : op = 3 ∨ op = 4 ∨ op = 5 := by simpa [opB] using hop
    cases hk : (ka == 1 && kb == 1) with
    | false => exact refCalc_kinds op ka na kb nb sa sb w hop (by omega) (by omega) hk
    | true =>
      simp only [Bool.and_eq_true, beq_iff_eq] at hk
      obtain ⟨rfl, rfl⟩ := hk
      rcases ho with rfl | rfl | rfl
      · exact refCalc_3 na nb sa sb w ha1 ha2 hb1 hb2
      · exact refCalc_4 na nb sa sb w ha1 ha2 hb1 hb2
      · cases hn : (!decide (na < 0) == decide (nb < 0)) with
        | false => exact refCalc_5pos na nb sa sb w ha1 ha2 hb1 hb2 hn
        | true => exact refCalc_5neg na nb sa sb w ha1 ha2 hb1 hb2 hn
end Go.Proofs.YtfdkajefcplfjaaGreat

/- Contracts of the project's Neg and the reference's, in whatever memory. Conditions: the numbers lie within 64 bits. -/
namespace Go.Proofs.YtfdkajefcplfjaaGreat
open Go.RowKit

set_option maxHeartbeats 1000000 in
theorem neg_any (k n : Int) (s : ByteArray) (w : World) (h1 : -9223372036854775808 ≤ n) (h2 : n ≤ 9223372036854775807) :
    Calls Tryz.prog 251 #[.agg #[.int .i64 k, .int .i64 n, .string s]] w
      fun e w' => e = .returned (.tuple #[.agg #[.int .i64 (cK 4 1 0 k n), .int .i64 (cN 4 1 0 k n), .string ⟨#[]⟩], .int .i64 (cE 4 1 0 k n)]) ∧ Below w.heap.size w w' := by
  go_enter Tryz.func251, Tryz.ntmps251
  go_wp2_with fail
  go_region_with (first
    | (go_at_call 275; refine (number_any _ _).mono ?_; rintro e w3 ⟨rfl, hb3⟩; obtain ⟨hc3, hf3⟩ := below_cells hb3; have hz3 : w.heap.size + 1 < w3.heap.size := (by have := hb3.size; simp at this; omega); have hy3 : w.heap.size < w3.heap.size := (by omega); have q0 : w3.cell? ⟨w.heap.size, 0, none⟩ = some (.int .i64 k) := (by go_cell); have q1 : w3.cell? ⟨w.heap.size, 1, none⟩ = some (.int .i64 n) := (by go_cell); have q2 : w3.cell? ⟨w.heap.size, 2, none⟩ = some (.string s) := (by go_cell); have r0 : w3.cell? ⟨w.heap.size + 1, 0, none⟩ = some (.int .i64 0) := (by go_cell); have r1 : w3.cell? ⟨w.heap.size + 1, 1, none⟩ = some (.int .i64 0) := (by go_cell); have r2 : w3.cell? ⟨w.heap.size + 1, 2, none⟩ = some (.string ⟨#[]⟩) := (by go_cell); have f0 := hf3 (w.heap.size + 1) 0 (by simp); have f1 := hf3 (w.heap.size + 1) 1 (by simp); have f2 := hf3 (w.heap.size + 1) 2 (by simp); simp at f0 f1 f2; clear hc3 hf3)
    | (go_at_call 250; refine (calc_any 4 1 0 k n _ _ _ (by decide) (by decide) h1 h2).mono ?_; rintro e w4 ⟨rfl, hb4⟩; obtain ⟨hc4, hf4⟩ := below_cells hb4; have t0 := (hc4 _ 0 hz3).trans r0; have t1 := (hc4 _ 1 hz3).trans r1; have t2 := (hc4 _ 2 hz3).trans r2; have g0 := (hf4 _ 0 hz3).trans f0; have g1 := (hf4 _ 1 hz3).trans f1; have g2 := (hf4 _ 2 hz3).trans f2; clear hc4 hf4))
  all_goals
    go_wp2
    refine bodyPost_ret (v := .tuple #[.agg #[.int .i64 (cK 4 1 0 k n), .int .i64 (cN 4 1 0 k n), .string ⟨#[]⟩], .int .i64 (cE 4 1 0 k n)]) (by simp [results, Tryz.results251, go_sem, t0, t1, t2]) rfl ⟨rfl, ?_⟩
    (repeat (first | (with_reducible exact Below.refl _ _) | (refine Below.setCell ?_ (by first | (simp; done) | (simp; omega)) _) | (refine below_through ‹_› (by first | omega | (simp; done) | (simp; omega)) ?_) | (refine Below.drew ?_) | (refine Below.alloc ?_ (by first | omega | (simp; done) | (simp; omega)) _)))

set_option maxHeartbeats 1000000 in
theorem refNeg_num (k n : Int) (s : ByteArray) (w : World) (h1 : -9223372036854775808 ≤ n) (h2 : n ≤ 9223372036854775807) (hk : (k == 0) = false) :
    Calls Tryz.prog 205 #[.agg #[.int .i64 k, .int .i64 n, .string s]] w
      fun e w' => e = .returned (.tuple #[.agg #[.int .i64 (cK 4 1 0 k n), .int .i64 (cN 4 1 0 k n), .string ⟨#[]⟩], .int .i64 (cE 4 1 0 k n)]) ∧ Below w.heap.size w w' := by
  go_enter Tryz.func205, Tryz.ntmps205
  go_wp2_with fail
  go_region_with (first
    | (go_at_call 210; refine (refInt_any _ _).mono ?_; rintro e w3 ⟨rfl, hb3⟩; obtain ⟨hc3, hf3⟩ := below_cells hb3; have hz3 : w.heap.size + 1 < w3.heap.size := (by have := hb3.size; simp at this; omega); have hy3 : w.heap.size < w3.heap.size := (by omega); have q0 : w3.cell? ⟨w.heap.size, 0, none⟩ = some (.int .i64 k) := (by go_cell); have q1 : w3.cell? ⟨w.heap.size, 1, none⟩ = some (.int .i64 n) := (by go_cell); have q2 : w3.cell? ⟨w.heap.size, 2, none⟩ = some (.string s) := (by go_cell); have r0 : w3.cell? ⟨w.heap.size + 1, 0, none⟩ = some (.int .i64 0) := (by go_cell); have r1 : w3.cell? ⟨w.heap.size + 1, 1, none⟩ = some (.int .i64 0) := (by go_cell); have r2 : w3.cell? ⟨w.heap.size + 1, 2, none⟩ = some (.string ⟨#[]⟩) := (by go_cell); have f0 := hf3 (w.heap.size + 1) 0 (by simp); have f1 := hf3 (w.heap.size + 1) 1 (by simp); have f2 := hf3 (w.heap.size + 1) 2 (by simp); simp at f0 f1 f2; clear hc3 hf3)
    | (go_at_call 204; refine (refCalc_any 4 1 0 k n _ _ _ (by decide) (by decide) h1 h2).mono ?_; rintro e w4 ⟨rfl, hb4⟩; obtain ⟨hc4, hf4⟩ := below_cells hb4; have t0 := (hc4 _ 0 hz3).trans r0; have t1 := (hc4 _ 1 hz3).trans r1; have t2 := (hc4 _ 2 hz3).trans r2; have g0 := (hf4 _ 0 hz3).trans f0; have g1 := (hf4 _ 1 hz3).trans f1; have g2 := (hf4 _ 2 hz3).trans f2; clear hc4 hf4))
  all_goals
    go_wp2
    refine bodyPost_ret (v := .tuple #[.agg #[.int .i64 (cK 4 1 0 k n), .int .i64 (cN 4 1 0 k n), .string ⟨#[]⟩], .int .i64 (cE 4 1 0 k n)]) (by simp [results, Tryz.results205, go_sem, t0, t1, t2]) rfl ⟨rfl, ?_⟩
    (repeat (first | (with_reducible exact Below.refl _ _) | (refine Below.setCell ?_ (by first | (simp; done) | (simp; omega)) _) | (refine below_through ‹_› (by first | omega | (simp; done) | (simp; omega)) ?_) | (refine Below.drew ?_) | (refine Below.alloc ?_ (by first | omega | (simp; done) | (simp; omega)) _)))

set_option maxHeartbeats 1000000 in
theorem refNeg_none (n : Int) (s : ByteArray) (w : World) :
    Calls Tryz.prog 205 #[.agg #[.int .i64 0, .int .i64 n, .string s]] w
      fun e w' => e = .returned (.tuple #[.agg #[.int .i64 (cK 4 1 0 0 n), .int .i64 (cN 4 1 0 0 n), .string ⟨#[]⟩], .int .i64 (cE 4 1 0 0 n)]) ∧ Below w.heap.size w w' := by
  go_enter Tryz.func205, Tryz.ntmps205
  go_wp2_with fail
  go_returns
  exact ⟨calcRet (calc_none rfl rfl rfl (.inr rfl)), by go_grown⟩
theorem refNeg_any (k n : Int) (s : ByteArray) (w : World) (h1 : -9223372036854775808 ≤ n) (h2 : n ≤ 9223372036854775807) :
    Calls Tryz.prog 205 #[.agg #[.int .i64 k, .int .i64 n, .string s]] w
      fun e w' => e = .returned (.tuple #[.agg #[.int .i64 (cK 4 1 0 k n), .int .i64 (cN 4 1 0 k n), .string ⟨#[]⟩], .int .i64 (cE 4 1 0 k n)]) ∧ Below w.heap.size w w' := by
  by_cases hk : k = 0
  · subst hk; exact refNeg_none n s w
  · exact refNeg_num k n s w h1 h2 (by simpa using hk)
end Go.Proofs.YtfdkajefcplfjaaGreat

/- The project's Eval, of an expression of any depth: a contract of the call, in whatever memory. Conditions: an expression's and a row's cells are known (what came in reads so). -/
namespace Go.Proofs.YtfdkajefcplfjaaGreat
open Go.RowKit

/-- A call that tells a value and an error, whenever it is made behind w. -/
structure StHalf (f : Nat) (w : World) (u v : Value) (r : Val × Int) : Prop where
  out : ∀ W, Below w.heap.size w W → Calls Tryz.prog f #[u, v] W (EvAns r W)
structure ColHalf (w : World) (u : Value) (q : Int) (r : Val × Int) : Prop where
  out : ∀ W, Below w.heap.size w W → Calls Tryz.prog 218 #[u, .int .i64 q] W (EvAns r W)
theorem ColHalf.mk' {w : World} {a : Option Addr} {cc : Nat} {row : List Val} {q : Int} (hr : RowIn w a row) : ColHalf w (.slice a row.length cc) q (colV row q) := ⟨fun W hb => column_any a cc row q W (hr.at_.later hb)⟩
set_option maxHeartbeats 2000000 in
theorem opposite_step {n : Nat} (IH : EvOk n) (q : Int) (v : Val) (p : Option Addr) (c : Nat) (ys : List Cx) (a : Option Addr) (cc : Nat) (row : List Val) (w : World) (hx : CxAt w (n + 1) (.mk 6 q v p c ys)) (hr : RowIn w a row) :
    Calls Tryz.prog 220 #[.agg #[.int .i64 6, .int .i64 q, .int .i64 v.k, .int .i64 v.n, .string v.s, .slice p ys.length c], .slice a row.length cc] w (EvAns (evC row (.mk 6 q v p c ys)) w) := by
  obtain ⟨h0, hA⟩ := hx
  by_cases hl : ys.length = 1
  · obtain ⟨x, rfl⟩ : ∃ x, ys = [x] := by
      match ys, hl with
      | [x], _ => exact ⟨x, rfl⟩
    have C := hid0 (ev_one (row := row) (a := q) (v := v) (p := p) (c := c) (x := x))
    have H1 := IH.half (cc := cc) (hA x (by simp)) hr
    have i1 := (hA x (by simp)).i hr.i
    obtain ⟨b, o, rfl, hb, hX⟩ := h0.arg 0 (by simp)
    clear hA h0 IH hr
    generalize evC row x = r1 at C H1 i1
    obtain ⟨⟨k1, n1, s1⟩, f1⟩ := r1
    obtain ⟨kx, ax, vx, px, cx, yx⟩ := x
    obtain ⟨VA, VB⟩ := VarB.two (w := w) [.int .i64 6, .int .i64 q, .int .i64 v.k, .int .i64 v.n, .string v.s, .slice (some ⟨b, o, none⟩) 1 c] [.int .i64 0, .int .i64 0, .string ⟨#[]⟩] 44 41
    have x0 := rng hX 0 rfl
    have x1 := rng hX 1 rfl
    have x2 := rng hX 2 rfl
    have x3 := rng hX 3 rfl
    have x4 := rng hX 4 rfl
    have x5 := rng hX 5 rfl
    simp only [Nat.zero_mul, Nat.add_zero] at x0 x1 x2 x3 x4 x5
    replace hX := hid0 hX
    have a5 := VA.cell 5 rfl
    replace VA := hid0 VA
    replace VB := hid0 VB
    have I1 := hid0 i1
    clear i1
    go_enter Tryz.func220, Tryz.ntmps220
    go_wp2_with fail
    go_at_call 156
    refine (H1.out _ (by go_grown)).mono ?_
    rintro e w1 ⟨rfl, hb1⟩
    have VA1 := VA.out.below hb1
    have VB1 := VB.out.below hb1
    have hB1 : Below w.heap.size w w1 := below_through hb1 (by simp; omega) (by go_grown)
    have z1 : w.heap.size + 1 < w1.heap.size := VB1.lt
    have z2 : w.heap.size < w1.heap.size := VA1.lt
    replace VA1 := hid0 VA1
    replace VB1 := hid0 VB1
    clear hb1
    cases hf1 : (f1 != 0)
    · have b1 := I1.out.1
      have b2 := I1.out.2.1
      go_wp2_with fail
      go_at_call 251
      refine (neg_any _ _ _ _ b1 b2).mono ?_
      rintro e w3 ⟨rfl, hb3⟩
      have VB3 := (VB1.out.alloc (.cells #[.int .i64 k1, .int .i64 n1, .string s1] 41)).below hb3
      have hB3 : Below w.heap.size w w3 := below_through hb3 (by simp; omega) (hB1.alloc (by omega) _)
      have r0 := VB3.cell 0 rfl
      have g0 := VB3.frz 0 (by decide)
      have r1 := VB3.cell 1 rfl
      have g1 := VB3.frz 1 (by decide)
      have r2 := VB3.cell 2 rfl
      have g2 := VB3.frz 2 (by decide)
      go_wp2
      exact end_vt (VB3.puts [.int .i64 (cK 4 1 0 k1 n1), .int .i64 (cN 4 1 0 k1 n1), .string ⟨#[]⟩] rfl) rfl rfl rfl _ Tryz.underlying41 rfl infoV rfl (EvAns.of (C.out.trans (neg_ok hf1)) (((hB3.setCell (by simp) _).setCell (by simp) _).setCell (by simp) _))
    ·
      have r0 := VB1.out.cell 0 rfl
      have g0 := VB1.out.frz 0 (by decide)
      have r1 := VB1.out.cell 1 rfl
      have g1 := VB1.out.frz 1 (by decide)
      have r2 := VB1.out.cell 2 rfl
      have g2 := VB1.out.frz 2 (by decide)
      go_wp2
      exact end_vt ((VB1.out.puts [.int .i64 0, .int .i64 0, .string ⟨#[]⟩] rfl).alloc _) rfl rfl rfl _ Tryz.underlying41 rfl infoV rfl (EvAns.of (C.out.trans (neg_err hf1)) ((((hB1.setCell (by simp) _).setCell (by simp) _).setCell (by simp) _).alloc (by simp; omega) _))
  · have C := hid0 (ev_not1 (row := row) (a := q) (v := v) (p := p) (c := c) hl)
    generalize ys.length = m at *
    have hm : (((m : Nat) : Int) != 1) = true := by simp; omega
    go_enter Tryz.func220, Tryz.ntmps220
    go_wp2
    go_returns
    exact EvAns.of C.out (by go_grown)

set_option maxHeartbeats 2000000 in
theorem eval_step {n : Nat} (IH : EvOk n) (k q : Int) (v : Val) (p : Option Addr) (c : Nat) (ys : List Cx) (a : Option Addr) (cc : Nat) (row : List Val) (w : World) (hx : CxAt w (n + 1) (.mk k q v p c ys)) (hr : RowIn w a row) :
    Calls Tryz.prog 156 #[.agg #[.int .i64 k, .int .i64 q, .int .i64 v.k, .int .i64 v.n, .string v.s, .slice p ys.length c], .slice a row.length cc] w (EvAns (evC row (.mk k q v p c ys)) w) := by
  by_cases h1 : k = 1
  · subst h1
    have C := hid0 (show evC row (.mk 1 q v p c ys) = colV row q by rw [evC]; exact if_pos rfl)
    have H := ColHalf.mk' (w := w) (cc := cc) (q := q) hr
    generalize colV row q = r1 at C H
    obtain ⟨⟨k1, n1, s1⟩, f1⟩ := r1
    clear IH hx hr
    obtain ⟨VA, VB⟩ := VarB.two (w := w) [.int .i64 1, .int .i64 q, .int .i64 v.k, .int .i64 v.n, .string v.s, .slice p ys.length c] [.int .i64 0, .int .i64 0, .string ⟨#[]⟩] 44 41
    have a0 := VA.cell 0 rfl
    have a1 := VA.cell 1 rfl
    have a2 := VA.cell 2 rfl
    have a3 := VA.cell 3 rfl
    have a4 := VA.cell 4 rfl
    have a5 := VA.cell 5 rfl
    replace VB := hid0 VB
    clear VA
    go_enter Tryz.func156, Tryz.ntmps156
    go_wp2_with fail
    go_at_call 218
    refine (H.out _ (by go_grown)).mono ?_
    rintro e w1 ⟨rfl, hb1⟩
    have VB1 := VB.out.below hb1
    have hB1 : Below w.heap.size w w1 := below_through hb1 (by simp; omega) (by go_grown)
    replace VB1 := hid0 VB1
    have r0 := VB1.out.cell 0 rfl
    have g0 := VB1.out.frz 0 (by decide)
    have r1 := VB1.out.cell 1 rfl
    have g1 := VB1.out.frz 1 (by decide)
    have r2 := VB1.out.cell 2 rfl
    have g2 := VB1.out.frz 2 (by decide)
    clear hb1 a0 a1 a2 a3 a4 a5
    go_wp2
    exact end_vt (VB1.out.puts [.int .i64 k1, .int .i64 n1, .string s1] rfl) rfl rfl rfl _ Tryz.underlying41 rfl infoV rfl (EvAns.of C.out (((hB1.setCell (by simp) _).setCell (by simp) _).setCell (by simp) _))
  by_cases h2 : k = 2
  · subst h2
    have C := hid0 (show evC row (.mk 2 q v p c ys) = (v, 0) by rw [evC]; unfold evOf; rw [if_neg (by omega), if_pos rfl])
    clear IH hx hr
    go_enter Tryz.func156, Tryz.ntmps156
    go_wp2
    go_returns
    exact EvAns.of C.out (by go_grown)
  by_cases h3 : k = 3 ∨ k = 4 ∨ k = 5
  · have H : StHalf 219 w (.agg #[.int .i64 k, .int .i64 q, .int .i64 v.k, .int .i64 v.n, .string v.s, .slice p ys.length c]) (.slice a row.length cc) (evC row (.mk k q v p c ys)) := ⟨fun W hW => reckoned_step IH k q v p c ys a cc row W (hx.later hW) (hr.later hW) h3⟩
    have C := hid0 (rfl : evC row (.mk k q v p c ys) = evC row (.mk k q v p c ys))
    generalize hg : evC row (.mk k q v p c ys) = r1 at C H
    obtain ⟨⟨k1, n1, s1⟩, f1⟩ := r1
    clear IH hx hr hg
    rcases h3 with rfl | rfl | rfl
    · skip
      obtain ⟨VA, VB⟩ := VarB.two (w := w) [.int .i64 3, .int .i64 q, .int .i64 v.k, .int .i64 v.n, .string v.s, .slice p ys.length c] [.int .i64 0, .int .i64 0, .string ⟨#[]⟩] 44 41
      have a0 := VA.cell 0 rfl
      have a1 := VA.cell 1 rfl
      have a2 := VA.cell 2 rfl
      have a3 := VA.cell 3 rfl
      have a4 := VA.cell 4 rfl
      have a5 := VA.cell 5 rfl
      replace VB := hid0 VB
      clear VA
      go_enter Tryz.func156, Tryz.ntmps156
      go_wp2_with fail
      go_at_call 219
      refine (H.out _ (by go_grown)).mono ?_
      rintro e w1 ⟨rfl, hb1⟩
      have VB1 := VB.out.below hb1
      have hB1 : Below w.heap.size w w1 := below_through hb1 (by simp; omega) (by go_grown)
      replace VB1 := hid0 VB1
      have r0 := VB1.out.cell 0 rfl
      have g0 := VB1.out.frz 0 (by decide)
      have r1 := VB1.out.cell 1 rfl
      have g1 := VB1.out.frz 1 (by decide)
      have r2 := VB1.out.cell 2 rfl
      have g2 := VB1.out.frz 2 (by decide)
      clear hb1 a0 a1 a2 a3 a4 a5
      go_wp2
      exact end_vt (VB1.out.puts [.int .i64 k1, .int .i64 n1, .string s1] rfl) rfl rfl rfl _ Tryz.underlying41 rfl infoV rfl (EvAns.of rfl (((hB1.setCell (by simp) _).setCell (by simp) _).setCell (by simp) _))
    · skip
      obtain ⟨VA, VB⟩ := VarB.two (w := w) [.int .i64 4, .int .i64 q, .int .i64 v.k, .int .i64 v.n, .string v.s, .slice p ys.length c] [.int .i64 0, .int .i64 0, .string ⟨#[]⟩] 44 41
      have a0 := VA.cell 0 rfl
      have a1 := VA.cell 1 rfl
      have a2 := VA.cell 2 rfl
      have a3 := VA.cell 3 rfl
      have a4 := VA.cell 4 rfl
      have a5 := VA.cell 5 rfl
      replace VB := hid0 VB
      clear VA
      go_enter Tryz.func156, Tryz.ntmps156
      go_wp2_with fail
      go_at_call 219
      refine (H.out _ (by go_grown)).mono ?_
      rintro e w1 ⟨rfl, hb1⟩
      have VB1 := VB.out.below hb1
      have hB1 : Below w.heap.size w w1 := below_through hb1 (by simp; omega) (by go_grown)
      replace VB1 := hid0 VB1
      have r0 := VB1.out.cell 0 rfl
      have g0 := VB1.out.frz 0 (by decide)
      have r1 := VB1.out.cell 1 rfl
      have g1 := VB1.out.frz 1 (by decide)
      have r2 := VB1.out.cell 2 rfl
      have g2 := VB1.out.frz 2 (by decide)
      clear hb1 a0 a1 a2 a3 a4 a5
      go_wp2
      exact end_vt (VB1.out.puts [.int .i64 k1, .int .i64 n1, .string s1] rfl) rfl rfl rfl _ Tryz.underlying41 rfl infoV rfl (EvAns.of rfl (((hB1.setCell (by simp) _).setCell (by simp) _).setCell (by simp) _))
    · skip
      obtain ⟨VA, VB⟩ := VarB.two (w := w) [.int .i64 5, .int .i64 q, .int .i64 v.k, .int .i64 v.n, .string v.s, .slice p ys.length c] [.int .i64 0, .int .i64 0, .string ⟨#[]⟩] 44 41
      have a0 := VA.cell 0 rfl
      have a1 := VA.cell 1 rfl
      have a2 := VA.cell 2 rfl
      have a3 := VA.cell 3 rfl
      have a4 := VA.cell 4 rfl
      have a5 := VA.cell 5 rfl
      replace VB := hid0 VB
      clear VA
      go_enter Tryz.func156, Tryz.ntmps156
      go_wp2_with fail
      go_at_call 219
      refine (H.out _ (by go_grown)).mono ?_
      rintro e w1 ⟨rfl, hb1⟩
      have VB1 := VB.out.below hb1
      have hB1 : Below w.heap.size w w1 := below_through hb1 (by simp; omega) (by go_grown)
      replace VB1 := hid0 VB1
      have r0 := VB1.out.cell 0 rfl
      have g0 := VB1.out.frz 0 (by decide)
      have r1 := VB1.out.cell 1 rfl
      have g1 := VB1.out.frz 1 (by decide)
      have r2 := VB1.out.cell 2 rfl
      have g2 := VB1.out.frz 2 (by decide)
      clear hb1 a0 a1 a2 a3 a4 a5
      go_wp2
      exact end_vt (VB1.out.puts [.int .i64 k1, .int .i64 n1, .string s1] rfl) rfl rfl rfl _ Tryz.underlying41 rfl infoV rfl (EvAns.of rfl (((hB1.setCell (by simp) _).setCell (by simp) _).setCell (by simp) _))
  by_cases h6 : k = 6
  · subst h6
    have H : StHalf 220 w (.agg #[.int .i64 6, .int .i64 q, .int .i64 v.k, .int .i64 v.n, .string v.s, .slice p ys.length c]) (.slice a row.length cc) (evC row (.mk 6 q v p c ys)) := ⟨fun W hW => opposite_step IH q v p c ys a cc row W (hx.later hW) (hr.later hW)⟩
    generalize evC row (.mk 6 q v p c ys) = r1 at H
    obtain ⟨⟨k1, n1, s1⟩, f1⟩ := r1
    clear IH hx hr
    obtain ⟨VA, VB⟩ := VarB.two (w := w) [.int .i64 6, .int .i64 q, .int .i64 v.k, .int .i64 v.n, .string v.s, .slice p ys.length c] [.int .i64 0, .int .i64 0, .string ⟨#[]⟩] 44 41
    have a0 := VA.cell 0 rfl
    have a1 := VA.cell 1 rfl
    have a2 := VA.cell 2 rfl
    have a3 := VA.cell 3 rfl
    have a4 := VA.cell 4 rfl
    have a5 := VA.cell 5 rfl
    replace VB := hid0 VB
    clear VA
    go_enter Tryz.func156, Tryz.ntmps156
    go_wp2_with fail
    go_at_call 220
    refine (H.out _ (by go_grown)).mono ?_
    rintro e w1 ⟨rfl, hb1⟩
    have VB1 := VB.out.below hb1
    have hB1 : Below w.heap.size w w1 := below_through hb1 (by simp; omega) (by go_grown)
    replace VB1 := hid0 VB1
    have r0 := VB1.out.cell 0 rfl
    have g0 := VB1.out.frz 0 (by decide)
    have r1 := VB1.out.cell 1 rfl
    have g1 := VB1.out.frz 1 (by decide)
    have r2 := VB1.out.cell 2 rfl
    have g2 := VB1.out.frz 2 (by decide)
    clear hb1 a0 a1 a2 a3 a4 a5
    go_wp2
    exact end_vt (VB1.out.puts [.int .i64 k1, .int .i64 n1, .string s1] rfl) rfl rfl rfl _ Tryz.underlying41 rfl infoV rfl (EvAns.of rfl (((hB1.setCell (by simp) _).setCell (by simp) _).setCell (by simp) _))
  · have C := hid0 (show evC row (.mk k q v p c ys) = (zV, 8) by rw [evC]; unfold evOf; rw [if_neg h1, if_neg h2, if_neg h3, if_neg h6])
    clear IH hx hr
    have t1 : (k == 1) = false := by simp; omega
    have t2 : (k == 2) = false := by simp; omega
    have t3 : (k == 3) = false := by simp; omega
    have t4 : (k == 4) = false := by simp; omega
    have t5 : (k == 5) = false := by simp; omega
    have t6 : (k == 6) = false := by simp; omega
    go_enter Tryz.func156, Tryz.ntmps156
    go_wp2
    go_returns
    exact EvAns.of C.out (by go_grown)
theorem eval_all : ∀ n, EvOk n
  | 0 => ⟨fun _ _ _ _ _ h _ => h.elim⟩
  | n + 1 => ⟨fun x a cc row w hx hr => by
    obtain ⟨k, q, v, p, c, ys⟩ := x
    exact eval_step (eval_all n) k q v p c ys a cc row w hx hr⟩
theorem eval_any {n : Nat} {x : Cx} {a : Option Addr} {row : List Val} {w : World} (cc : Nat) (hx : CxAt w n x) (hr : RowIn w a row) : Calls Tryz.prog 156 #[x.val, .slice a row.length cc] w (EvAns (evC row x) w) := (eval_all n).out x a cc row w hx hr
end Go.Proofs.YtfdkajefcplfjaaGreat

/- slices.Grow of nothing, at three types: contracts of the calls, in whatever memory. Conditions: what is asked for takes less than 2^47 bytes. -/
namespace Go.Proofs.YtfdkajefcplfjaaGreat
open Go.RowKit

theorem infoI : (Tryz.prog.info? 3).map (fun i => (i.zero, i.size, i.bytes)) = some (some (.int .i64 0), 1, 8) := by kernel_rfl
set_option maxHeartbeats 1000000 in
theorem growI_any (n : Nat) (w : World) (hn : n * 8 ≤ 140737488351232) :
    Calls Tryz.prog 258 #[.slice none 0 0, .int .i64 (n : Int)] w fun e w' => (∃ v, e = .returned v ∧ w'.ownsRow w.heap.size 3 1 v 0 []) ∧ Below w.heap.size w w' := by
  obtain ⟨i0, hi, hz0, hz1, hz2⟩ := info_parts infoI
  by_cases h0 : n = 0
  · subst h0
    go_enter Tryz.func258, Tryz.ntmps258
    go_wp2
    go_ret
    exact ⟨⟨_, rfl, World.ownsRow_nil _ _ _ _⟩, Below.refl _ _⟩
  · have h1 : ¬ ((n : Int) < 0) := by omega
    have h4 : (0 : Int) < (n : Int) := by omega
    have hrz : ∀ ty, (Builtin.append_ #[39, 3] ty #[.slice none 0 0, .int .i64 (n : Int)]).run Tryz.prog w =
        .ok (.slice (some ⟨w.heap.size, 0, none⟩) n (grownCap w n 0 3)) (w.drew.alloc (.cells ((([] : List Value).toArray ++ Builtin.zeroCells (Value.cells (.int .i64 0)) n) ++ Builtin.zeroCells (Value.cells (.int .i64 0)) (grownCap w n 0 3 - n)) 3)) := fun ty => by
      have h := Lib.run_append_grow_zeros w 39 3 ty 3 i0 (.int .i64 0) .i64 .i64 Tryz.underlying39 Tryz.underlying3 hi hz0 none 0 0 [] (run_firstCells_none w.drew i0.size 0 0 0) n (by omega) (by rw [hz1]; decide) (by omega) (by omega)
        (by rw [hz2]; omega)
        (by rw [Nat.zero_add]; exact growslice_fits (by omega) (by rw [hz2]; omega))
      rw [Nat.zero_add] at h
      exact h
    have hGn : n ≤ grownCap w n 0 3 := grownCap_ge w _ _ _
    have hGm := grownCap_le_maxLen w n 0 3 (by unfold maxLen; omega)
    obtain ⟨G, hG⟩ : ∃ G, grownCap w n 0 3 = G := ⟨_, rfl⟩
    rw [hG] at hrz hGn hGm
    obtain ⟨cells, hcells⟩ : ∃ cells, (([] : List Value).toArray ++ Builtin.zeroCells (Value.cells (.int .i64 0)) n) ++ Builtin.zeroCells (Value.cells (.int .i64 0)) (G - n) = cells := ⟨_, rfl⟩
    rw [hcells] at hrz
    have hGM := hid0 hGm
    unfold maxLen at hGm
    have hown := World.ownsRow_made (e := 3) (size := 1) (base := w.heap.size) w cells G (Nat.le_refl _) hGM.out (by rw [← hcells]; simp [Builtin.zeroCells, Value.cells]; try omega)
    have HO := hid0 hown
    clear hG hown hcells hi hz0 hz1 hz2
    go_enter Tryz.func258, Tryz.ntmps258
    go_wp2_with (at_builtin; refine Lib.wpList_append_run _ rfl _ _ _ _ rfl _ _ rfl rfl _ _ (hrz _) ?_)
    all_goals (go_ret; exact ⟨⟨_, rfl, HO.out⟩, Below.drew ((Below.refl _ _).alloc (Nat.le_refl _) _)⟩)
theorem infoX : (Tryz.prog.info? 44).map (fun i => (i.zero, i.size, i.bytes)) = some (some (.agg #[.int .i64 0, .int .i64 0, .int .i64 0, .int .i64 0, .string ⟨#[]⟩, .slice none 0 0]), 6, 72) := by kernel_rfl
set_option maxHeartbeats 1000000 in
theorem growX_any (n : Nat) (w : World) (hn : n * 72 ≤ 140737488351232) :
    Calls Tryz.prog 304 #[.slice none 0 0, .int .i64 (n : Int)] w fun e w' => (∃ v, e = .returned v ∧ w'.ownsRow w.heap.size 44 6 v 0 []) ∧ Below w.heap.size w w' := by
  obtain ⟨i0, hi, hz0, hz1, hz2⟩ := info_parts infoX
  by_cases h0 : n = 0
  · subst h0
    go_enter Tryz.func304, Tryz.ntmps304
    go_wp2
    go_ret
    exact ⟨⟨_, rfl, World.ownsRow_nil _ _ _ _⟩, Below.refl _ _⟩
  · have h1 : ¬ ((n : Int) < 0) := by omega
    have h4 : (0 : Int) < (n : Int) := by omega
    have hrz : ∀ ty, (Builtin.append_ #[42, 3] ty #[.slice none 0 0, .int .i64 (n : Int)]).run Tryz.prog w =
        .ok (.slice (some ⟨w.heap.size, 0, none⟩) n (grownCap w n 0 44)) (w.drew.alloc (.cells ((([] : List Value).toArray ++ Builtin.zeroCells (Value.cells (.agg #[.int .i64 0, .int .i64 0, .int .i64 0, .int .i64 0, .string ⟨#[]⟩, .slice none 0 0])) n) ++ Builtin.zeroCells (Value.cells (.agg #[.int .i64 0, .int .i64 0, .int .i64 0, .int .i64 0, .string ⟨#[]⟩, .slice none 0 0])) (grownCap w n 0 44 - n)) 44)) := fun ty => by
      have h := Lib.run_append_grow_zeros w 42 3 ty 44 i0 (.agg #[.int .i64 0, .int .i64 0, .int .i64 0, .int .i64 0, .string ⟨#[]⟩, .slice none 0 0]) .i64 .i64 Tryz.underlying42 Tryz.underlying3 hi hz0 none 0 0 [] (run_firstCells_none w.drew i0.size 0 0 0) n (by omega) (by rw [hz1]; decide) (by omega) (by omega)
        (by rw [hz2]; omega)
        (by rw [Nat.zero_add]; exact growslice_fits (by omega) (by rw [hz2]; omega))
      rw [Nat.zero_add] at h
      exact h
    have hGn : n ≤ grownCap w n 0 44 := grownCap_ge w _ _ _
    have hGm := grownCap_le_maxLen w n 0 44 (by unfold maxLen; omega)
    obtain ⟨G, hG⟩ : ∃ G, grownCap w n 0 44 = G := ⟨_, rfl⟩
    rw [hG] at hrz hGn hGm
    obtain ⟨cells, hcells⟩ : ∃ cells, (([] : List Value).toArray ++ Builtin.zeroCells (Value.cells (.agg #[.int .i64 0, .int .i64 0, .int .i64 0, .int .i64 0, .string ⟨#[]⟩, .slice none 0 0])) n) ++ Builtin.zeroCells (Value.cells (.agg #[.int .i64 0, .int .i64 0, .int .i64 0, .int .i64 0, .string ⟨#[]⟩, .slice none 0 0])) (G - n) = cells := ⟨_, rfl⟩
    rw [hcells] at hrz
    have hGM := hid0 hGm
    unfold maxLen at hGm
    have hown := World.ownsRow_made (e := 44) (size := 6) (base := w.heap.size) w cells G (Nat.le_refl _) hGM.out (by rw [← hcells]; simp [Builtin.zeroCells, Value.cells]; try omega)
    have HO := hid0 hown
    clear hG hown hcells hi hz0 hz1 hz2
    go_enter Tryz.func304, Tryz.ntmps304
    go_wp2_with (at_builtin; refine Lib.wpList_append_run _ rfl _ _ _ _ rfl _ _ rfl rfl _ _ (hrz _) ?_)
    all_goals (go_ret; exact ⟨⟨_, rfl, HO.out⟩, Below.drew ((Below.refl _ _).alloc (Nat.le_refl _) _)⟩)
theorem infoT : (Tryz.prog.info? 47).map (fun i => (i.zero, i.size, i.bytes)) = some (some (.agg #[.int .i64 0, .int .i64 0, .int .i64 0, .int .i64 0, .int .i64 0, .int .i64 0, .string ⟨#[]⟩, .slice none 0 0, .int .i64 0, .int .i64 0, .int .i64 0, .int .i64 0, .string ⟨#[]⟩, .slice none 0 0, .slice none 0 0]), 15, 184) := by kernel_rfl
set_option maxHeartbeats 1000000 in
theorem growT_any (n : Nat) (w : World) (hn : n * 184 ≤ 140737488351232) :
    Calls Tryz.prog 282 #[.slice none 0 0, .int .i64 (n : Int)] w fun e w' => (∃ v, e = .returned v ∧ w'.ownsRow w.heap.size 47 15 v 0 []) ∧ Below w.heap.size w w' := by
  obtain ⟨i0, hi, hz0, hz1, hz2⟩ := info_parts infoT
  by_cases h0 : n = 0
  · subst h0
    go_enter Tryz.func282, Tryz.ntmps282
    go_wp2
    go_ret
    exact ⟨⟨_, rfl, World.ownsRow_nil _ _ _ _⟩, Below.refl _ _⟩
  · have h1 : ¬ ((n : Int) < 0) := by omega
    have h4 : (0 : Int) < (n : Int) := by omega
    have hrz : ∀ ty, (Builtin.append_ #[45, 3] ty #[.slice none 0 0, .int .i64 (n : Int)]).run Tryz.prog w =
        .ok (.slice (some ⟨w.heap.size, 0, none⟩) n (grownCap w n 0 47)) (w.drew.alloc (.cells ((([] : List Value).toArray ++ Builtin.zeroCells (Value.cells (.agg #[.int .i64 0, .int .i64 0, .int .i64 0, .int .i64 0, .int .i64 0, .int .i64 0, .string ⟨#[]⟩, .slice none 0 0, .int .i64 0, .int .i64 0, .int .i64 0, .int .i64 0, .string ⟨#[]⟩, .slice none 0 0, .slice none 0 0])) n) ++ Builtin.zeroCells (Value.cells (.agg #[.int .i64 0, .int .i64 0, .int .i64 0, .int .i64 0, .int .i64 0, .int .i64 0, .string ⟨#[]⟩, .slice none 0 0, .int .i64 0, .int .i64 0, .int .i64 0, .int .i64 0, .string ⟨#[]⟩, .slice none 0 0, .slice none 0 0])) (grownCap w n 0 47 - n)) 47)) := fun ty => by
      have h := Lib.run_append_grow_zeros w 45 3 ty 47 i0 (.agg #[.int .i64 0, .int .i64 0, .int .i64 0, .int .i64 0, .int .i64 0, .int .i64 0, .string ⟨#[]⟩, .slice none 0 0, .int .i64 0, .int .i64 0, .int .i64 0, .int .i64 0, .string ⟨#[]⟩, .slice none 0 0, .slice none 0 0]) .i64 .i64 Tryz.underlying45 Tryz.underlying3 hi hz0 none 0 0 [] (run_firstCells_none w.drew i0.size 0 0 0) n (by omega) (by rw [hz1]; decide) (by omega) (by omega)
        (by rw [hz2]; omega)
        (by rw [Nat.zero_add]; exact growslice_fits (by omega) (by rw [hz2]; omega))
      rw [Nat.zero_add] at h
      exact h
    have hGn : n ≤ grownCap w n 0 47 := grownCap_ge w _ _ _
    have hGm := grownCap_le_maxLen w n 0 47 (by unfold maxLen; omega)
    obtain ⟨G, hG⟩ : ∃ G, grownCap w n 0 47 = G := ⟨_, rfl⟩
    rw [hG] at hrz hGn hGm
    obtain ⟨cells, hcells⟩ : ∃ cells, (([] : List Value).toArray ++ Builtin.zeroCells (Value.cells (.agg #[.int .i64 0, .int .i64 0, .int .i64 0, .int .i64 0, .int .i64 0, .int .i64 0, .string ⟨#[]⟩, .slice none 0 0, .int .i64 0, .int .i64 0, .int .i64 0, .int .i64 0, .string ⟨#[]⟩, .slice none 0 0, .slice none 0 0])) n) ++ Builtin.zeroCells (Value.cells (.agg #[.int .i64 0, .int .i64 0, .int .i64 0, .int .i64 0, .int .i64 0, .int .i64 0, .string ⟨#[]⟩, .slice none 0 0, .int .i64 0, .int .i64 0, .int .i64 0, .int .i64 0, .string ⟨#[]⟩, .slice none 0 0, .slice none 0 0])) (G - n) = cells := ⟨_, rfl⟩
    rw [hcells] at hrz
    have hGM := hid0 hGm
    unfold maxLen at hGm
    have hown := World.ownsRow_made (e := 47) (size := 15) (base := w.heap.size) w cells G (Nat.le_refl _) hGM.out (by rw [← hcells]; simp [Builtin.zeroCells, Value.cells]; try omega)
    have HO := hid0 hown
    clear hG hown hcells hi hz0 hz1 hz2
    go_enter Tryz.func282, Tryz.ntmps282
    go_wp2_with (at_builtin; refine Lib.wpList_append_run _ rfl _ _ _ _ rfl _ _ rfl rfl _ _ (hrz _) ?_)
    all_goals (go_ret; exact ⟨⟨_, rfl, HO.out⟩, Below.drew ((Below.refl _ _).alloc (Nat.le_refl _) _)⟩)
end Go.Proofs.YtfdkajefcplfjaaGreat

/- The project's side and empty: contracts of the calls, in whatever memory. Conditions: an expression's and a row's cells are known. -/
namespace Go.Proofs.YtfdkajefcplfjaaGreat
open Go.RowKit

/-- What a call answers that tells a value; a number. -/
def SdAns (v : Val) (w : World) (e : Ending) (w' : World) : Prop := e = .returned (.agg #[.int .i64 v.k, .int .i64 v.n, .string v.s]) ∧ Below w.heap.size w w'
theorem SdAns.of {r : Val} {k n : Int} {s : ByteArray} {w w' : World} (h : r = ⟨k, n, s⟩) (hb : Below w.heap.size w w') : SdAns r w (.returned (.agg #[.int .i64 k, .int .i64 n, .string s])) w' := by
  subst h; exact ⟨rfl, hb⟩
def IntAns (x : Int) (w : World) (e : Ending) (w' : World) : Prop := e = .returned (.int .i64 x) ∧ Below w.heap.size w w'
theorem IntAns.of {x y : Int} {w w' : World} (h : x = y) (hb : Below w.heap.size w w') : IntAns x w (.returned (.int .i64 y)) w' := by subst h; exact ⟨rfl, hb⟩
theorem sd_yes {row : List Val} {k a : Int} {v : Val} {p : Option Addr} {c : Nat} {ys : List Cx} (h : k = 1 ∨ k = 2) : sdC row (.mk k a v p c ys) = (evC row (.mk k a v p c ys)).1 := by rw [sdC, if_pos h]
theorem sd_no {row : List Val} {k a : Int} {v : Val} {p : Option Addr} {c : Nat} {ys : List Cx} (h : ¬ (k = 1 ∨ k = 2)) : sdC row (.mk k a v p c ys) = zV := by rw [sdC, if_neg h]
structure SdHalf (f : Nat) (w : World) (u v : Value) (r : Val) : Prop where
  out : ∀ W, Below w.heap.size w W → Calls Tryz.prog f #[u, v] W (SdAns r W)
set_option maxHeartbeats 4000000 in
set_option maxRecDepth 100000 in
theorem side_any {n : Nat} {x : Cx} {a : Option Addr} {row : List Val} {w : World} (cc : Nat) (hx : CxAt w n x) (hr : RowIn w a row) :
    Calls Tryz.prog 165 #[x.val, .slice a row.length cc] w (SdAns (sdC row x) w) := by
  obtain ⟨k, q, v, p, c, ys⟩ := x
  show Calls Tryz.prog 165 #[.agg #[.int .i64 k, .int .i64 q, .int .i64 v.k, .int .i64 v.n, .string v.s, .slice p ys.length c], .slice a row.length cc] w (SdAns (sdC row (.mk k q v p c ys)) w)
  by_cases hk : k = 1 ∨ k = 2
  rotate_left
  · have C := hid0 (sd_no (row := row) (a := q) (v := v) (p := p) (c := c) (ys := ys) hk)
    have t1 : (k != 1) = true := by simp; omega
    have t2 : (k != 2) = true := by simp; omega
    clear hx hr hk
    go_enter Tryz.func165, Tryz.ntmps165
    go_wp2
    go_returns
    exact SdAns.of C.out (by go_grown)
  rcases hk with rfl | rfl
  · skip
    have H : EvHalf w (.agg #[.int .i64 1, .int .i64 q, .int .i64 v.k, .int .i64 v.n, .string v.s, .slice p ys.length c]) (.slice a row.length cc) (evC row (.mk 1 q v p c ys)) := ⟨fun W hb => eval_any cc (hx.later hb) (hr.later hb)⟩
    have C := hid0 (sd_yes (row := row) (a := q) (v := v) (p := p) (c := c) (ys := ys) (show (1 : Int) = 1 ∨ (1 : Int) = 2 by omega))
    generalize evC row (.mk 1 q v p c ys) = r1 at C H
    obtain ⟨⟨k1, n1, s1⟩, f1⟩ := r1
    clear hx hr
    obtain ⟨VA, VB⟩ := VarB.two (w := w) [.int .i64 1, .int .i64 q, .int .i64 v.k, .int .i64 v.n, .string v.s, .slice p ys.length c] [.int .i64 0, .int .i64 0, .string ⟨#[]⟩] 44 41
    have a0 := VA.cell 0 rfl
    have a1 := VA.cell 1 rfl
    have a2 := VA.cell 2 rfl
    have a3 := VA.cell 3 rfl
    have a4 := VA.cell 4 rfl
    have a5 := VA.cell 5 rfl
    replace VB := hid0 VB
    clear VA
    go_enter Tryz.func165, Tryz.ntmps165
    go_wp2_with fail
    go_at_call 156
    refine (H.out _ (by go_grown)).mono ?_
    rintro e w1 ⟨rfl, hb1⟩
    have VB1 := VB.out.below hb1
    have hB1 : Below w.heap.size w w1 := below_through hb1 (by simp; omega) (by go_grown)
    have z1 : w.heap.size + 1 < w1.heap.size := VB1.lt
    replace VB1 := hid0 VB1
    have r0 := VB1.out.cell 0 rfl
    have g0 := VB1.out.frz 0 (by decide)
    have r1 := VB1.out.cell 1 rfl
    have g1 := VB1.out.frz 1 (by decide)
    have r2 := VB1.out.cell 2 rfl
    have g2 := VB1.out.frz 2 (by decide)
    clear hb1 a0 a1 a2 a3 a4 a5
    go_wp2
    exact end_blk ((VB1.out.puts [.int .i64 k1, .int .i64 n1, .string s1] rfl).alloc _) rfl rfl _ Tryz.underlying41 rfl infoV rfl (SdAns.of C.out ((((hB1.setCell (by simp) _).setCell (by simp) _).setCell (by simp) _).alloc (by simp; omega) _))
  · skip
    have H : EvHalf w (.agg #[.int .i64 2, .int .i64 q, .int .i64 v.k, .int .i64 v.n, .string v.s, .slice p ys.length c]) (.slice a row.length cc) (evC row (.mk 2 q v p c ys)) := ⟨fun W hb => eval_any cc (hx.later hb) (hr.later hb)⟩
    have C := hid0 (sd_yes (row := row) (a := q) (v := v) (p := p) (c := c) (ys := ys) (show (2 : Int) = 1 ∨ (2 : Int) = 2 by omega))
    generalize evC row (.mk 2 q v p c ys) = r1 at C H
    obtain ⟨⟨k1, n1, s1⟩, f1⟩ := r1
    clear hx hr
    obtain ⟨VA, VB⟩ := VarB.two (w := w) [.int .i64 2, .int .i64 q, .int .i64 v.k, .int .i64 v.n, .string v.s, .slice p ys.length c] [.int .i64 0, .int .i64 0, .string ⟨#[]⟩] 44 41
    have a0 := VA.cell 0 rfl
    have a1 := VA.cell 1 rfl
    have a2 := VA.cell 2 rfl
    have a3 := VA.cell 3 rfl
    have a4 := VA.cell 4 rfl
    have a5 := VA.cell 5 rfl
    replace VB := hid0 VB
    clear VA
    go_enter Tryz.func165, Tryz.ntmps165
    go_wp2_with fail
    go_at_call 156
    refine (H.out _ (by go_grown)).mono ?_
    rintro e w1 ⟨rfl, hb1⟩
    have VB1 := VB.out.below hb1
    have hB1 : Below w.heap.size w w1 := below_through hb1 (by simp; omega) (by go_grown)
    have z1 : w.heap.size + 1 < w1.heap.size := VB1.lt
    replace VB1 := hid0 VB1
    have r0 := VB1.out.cell 0 rfl
    have g0 := VB1.out.frz 0 (by decide)
    have r1 := VB1.out.cell 1 rfl
    have g1 := VB1.out.frz 1 (by decide)
    have r2 := VB1.out.cell 2 rfl
    have g2 := VB1.out.frz 2 (by decide)
    clear hb1 a0 a1 a2 a3 a4 a5
    go_wp2
    exact end_blk ((VB1.out.puts [.int .i64 k1, .int .i64 n1, .string s1] rfl).alloc _) rfl rfl _ Tryz.underlying41 rfl infoV rfl (SdAns.of C.out ((((hB1.setCell (by simp) _).setCell (by simp) _).setCell (by simp) _).alloc (by simp; omega) _))
set_option maxHeartbeats 4000000 in
set_option maxRecDepth 100000 in
theorem empty_any {n : Nat} {x : Cx} {a : Option Addr} {row : List Val} {w : World} (cc : Nat) (hx : CxAt w n x) (hr : RowIn w a row) :
    Calls Tryz.prog 166 #[x.val, .slice a row.length cc] w (IntAns (nulV (sdC row x)) w) := by
  obtain ⟨k, q, v, p, c, ys⟩ := x
  show Calls Tryz.prog 166 #[.agg #[.int .i64 k, .int .i64 q, .int .i64 v.k, .int .i64 v.n, .string v.s, .slice p ys.length c], .slice a row.length cc] w (IntAns (nulV (sdC row (.mk k q v p c ys))) w)
  have H : SdHalf 165 w (.agg #[.int .i64 k, .int .i64 q, .int .i64 v.k, .int .i64 v.n, .string v.s, .slice p ys.length c]) (.slice a row.length cc) (sdC row (.mk k q v p c ys)) := ⟨fun W hb => side_any cc (hx.later hb) (hr.later hb)⟩
  generalize sdC row (.mk k q v p c ys) = r1 at H
  obtain ⟨k1, n1, s1⟩ := r1
  clear hx hr
  cases hk : (k1 == 0)
  all_goals
    have C := hid0 hk
    have fl : ∀ W : World, (Instr.field 41 (.agg #[.int .i64 k1, .int .i64 n1, .string s1]) 0).run Tryz.prog W = .ok (.int .i64 k1) W := fun W => rfl
    go_enter Tryz.func166, Tryz.ntmps166
    go_wp2_with (go_at_call 165; refine (H.out _ (by go_grown)).mono ?_; rintro e w1 ⟨rfl, hb1⟩)
    have hB1 : Below w.heap.size w w1 := below_through hb1 (by simp) (by go_grown)
    go_ret
  · exact IntAns.of (by unfold nulV; rw [if_neg (by simpa using C.out)]) hB1
  · exact IntAns.of (by unfold nulV; rw [if_pos (by simpa using C.out)]) hB1
end Go.Proofs.YtfdkajefcplfjaaGreat

/- The project's stand: contracts of the calls, in whatever memory. Conditions: a condition's and a row's cells are known. -/
namespace Go.Proofs.YtfdkajefcplfjaaGreat
open Go.RowKit

structure HoOk (n : Nat) : Prop where
  out : ∀ (t : Tx) (a : Option Addr) (cc : Nat) (row : List Val) (w : World), TxAt w n t → RowIn w a row → Calls Tryz.prog 121 #[t.val, .slice a row.length cc] w (IntAns (hoT row t) w)
structure IntHalf (f : Nat) (w : World) (u v : Value) (r : Int) : Prop where
  out : ∀ W, Below w.heap.size w W → Calls Tryz.prog f #[u, v] W (IntAns r W)
theorem HoOk.half {n : Nat} (H : HoOk n) {t : Tx} {a : Option Addr} {cc : Nat} {row : List Val} {w : World} (ht : TxAt w n t) (hr : RowIn w a row) : IntHalf 121 w t.val (.slice a row.length cc) (hoT row t) :=
  ⟨fun W hb => H.out t a cc row W (ht.later hb) (hr.later hb)⟩
def ints (l : List Int) : List Value := l.map (Value.int .i64)
theorem ints_len (l : List Int) : (ints l).length = l.length := by simp [ints]
theorem ints_snoc (l : List Int) (x : Int) : ints (l ++ [x]) = ints l ++ [.int .i64 x] := by simp [ints]
theorem ints_owned {B n : Nat} {w : World} {v : Value} {l : List Int} (h : w.ownsRow B 3 1 v n (ints l)) (hn : l.length = n) : ∃ a c, v = .slice a l.length c ∧ l.length ≤ c ∧ IntsAt w a l := by
  subst hn
  have h0 := h
  obtain ⟨_, hcase⟩ := h
  rcases hcase with ⟨rfl, hl⟩ | ⟨g, cap', cur, rfl, hg, hh, hn, hcap, hsz, htake⟩
  · exact ⟨none, 0, by rw [hl], by omega, fun hne => absurd (List.length_eq_zero_iff.1 hl) hne⟩
  · refine ⟨some ⟨g, 0, none⟩, cap', rfl, hn, fun _ => ⟨g, 0, rfl, fun i hi => ?_⟩⟩
    have := h0.cellAt i (by omega)
    rw [Nat.zero_add, this]
    simp [ints, hi]
theorem hoL_len (row : List Val) (l : List Tx) : (hoL row l).length = l.length := by rw [hoL_map]; simp
theorem hoL_take (row : List Val) (l : List Tx) (j : Nat) (h : j < l.length) : hoL row (l.take (j + 1)) = hoL row (l.take j) ++ [hoT row l[j]] := by
  rw [hoL_map, hoL_map, List.take_succ_eq_append_getElem h, List.map_append]; rfl
theorem own_belowY {w w' : World} {base n k : Nat} {ty : TypeId} {v : Value} {X : List Value} (h : w.ownsRow base ty k v n X) (hb : Below w.heap.size w w') : w'.ownsRow base ty k v n X :=
  h.kept (row := none) ⟨hb.os, hb.tape, hb.output, hb.size, fun i hi _ => hb.block i hi⟩ (by cases v.ownBlock <;> simp)
theorem own_next {w w1 w2 : World} {v v' : Value} {o : Obj} {n m k : Nat} {ty : TypeId} {X Y : List Value} (hnx : Below w.heap.size w w1) (hown : w1.ownsRow w.heap.size ty k v n X) (hown' : w2.ownsRow w.heap.size ty k v' m Y) (hgrow : (w1.alloc o).grownBy w2 v.ownBlock) :
    w2.ownsRow w.heap.size ty k v' m Y ∧ Below w.heap.size w w2 :=
  ⟨hown', (hnx.alloc hnx.size o).grown hgrow (by have := hnx.size; simp; omega) (fun j hj => (hown.lt j hj).1)⟩
set_option maxHeartbeats 8000000 in
set_option maxRecDepth 1000000 in
theorem stand1_step {n : Nat} (IH : HoOk n) (t : Tx) (a : Option Addr) (cc : Nat) (row : List Val) (b0 : Nat) (w : World) (ht : TxAt w n t) (hr : RowIn w a row) (hc : w.cell? ⟨b0, 0, none⟩ = some (.slice a row.length cc)) :
    Calls Tryz.prog 229 #[t.val, .pointer (some ⟨b0, 0, none⟩)] w (IntAns (hoT row t) w) := by
  have H := IH.half (cc := cc) ht hr
  clear IH ht hr
  generalize hoT row t = x at H
  obtain ⟨k, op, ⟨kl, al, vl, pl, cl, yl⟩, ⟨kr, ar, vr, pr, cr, yr⟩, p, c, ys⟩ := t
  have z0 := World.block_lt_of_cell? w _ hc
  have V := VarB.new w [.int .i64 k, .int .i64 op, .int .i64 kl, .int .i64 al, .int .i64 vl.k, .int .i64 vl.n, .string vl.s, .slice pl yl.length cl, .int .i64 kr, .int .i64 ar, .int .i64 vr.k, .int .i64 vr.n, .string vr.s, .slice pr yr.length cr, .slice p ys.length c] 47
  have a0 := V.cell 0 rfl
  have a1 := V.cell 1 rfl
  have a2 := V.cell 2 rfl
  have a3 := V.cell 3 rfl
  have a4 := V.cell 4 rfl
  have a5 := V.cell 5 rfl
  have a6 := V.cell 6 rfl
  have a7 := V.cell 7 rfl
  have a8 := V.cell 8 rfl
  have a9 := V.cell 9 rfl
  have a10 := V.cell 10 rfl
  have a11 := V.cell 11 rfl
  have a12 := V.cell 12 rfl
  have a13 := V.cell 13 rfl
  have a14 := V.cell 14 rfl
  clear V
  show Calls Tryz.prog 229 #[.agg #[.int .i64 k, .int .i64 op, .int .i64 kl, .int .i64 al, .int .i64 vl.k, .int .i64 vl.n, .string vl.s, .slice pl yl.length cl, .int .i64 kr, .int .i64 ar, .int .i64 vr.k, .int .i64 vr.n, .string vr.s, .slice pr yr.length cr, .slice p ys.length c], .pointer (some ⟨b0, 0, none⟩)] w (IntAns x w)
  go_enter Tryz.func229, Tryz.ntmps229
  go_wp2_with (go_at_call 121; refine (H.out _ (by go_grown)).mono ?_; rintro e w1 ⟨rfl, hb1⟩)
  go_ret
  exact IntAns.of rfl (below_through hb1 (by simp) (by go_grown))
set_option maxHeartbeats 8000000 in
set_option maxRecDepth 1000000 in
theorem eachH_step {n : Nat} (IH : HoOk n) (p : Option Addr) (c : Nat) (ys : List Tx) (a : Option Addr) (cc : Nat) (row : List Val) (b0 : Nat) (w : World) (hk : TxOk w p c ys) (hA : ∀ x ∈ ys, TxAt w n x) (hr : RowIn w a row) (hc : w.cell? ⟨b0, 0, none⟩ = some (.slice a row.length cc)) :
    Calls Tryz.prog 228 #[.slice p ys.length c, .func (.func 229) #[] #[.pointer (some ⟨b0, 0, none⟩)]] w fun e w' => (∃ a' c', e = .returned (.slice a' (hoL row ys).length c') ∧ IntsAt w' a' (hoL row ys)) ∧ Below w.heap.size w w' := by
  obtain ⟨i0, hi, hz0, hz1, hz2⟩ := info_parts infoI
  have H : ∀ j (hj : j < ys.length), IntHalf 229 w (ys[j]).val (.pointer (some ⟨b0, 0, none⟩)) (hoT row ys[j]) := fun j hj => ⟨fun W hb => stand1_step IH _ a cc row b0 W ((hA _ (List.getElem_mem hj)).later hb) (hr.later hb) (cell_later hb hc)⟩
  have HH := hid0 H
  have HK := hid0 hk
  have hroom := hk.room
  clear IH hA hr hc H hk
  have hlen : ∀ k, k ≤ ys.length → (hoL row (ys.take k)).length = k := fun k hk => by rw [hoL_len, List.length_take]; omega
  have HL := hid0 hlen
  clear hlen
  go_enter Tryz.func228, Tryz.ntmps228
  go_wp2_with fail
  go_at_call 258
  refine (growI_any ys.length _ (by omega)).mono ?_
  rintro e w0 ⟨⟨v0, rfl, O0⟩, hb0⟩
  have O0 := hid0 O0
  go_wp2_with fail
  go_loopw [5, 13] (fun v i wr => ∃ k : Nat, k ≤ ys.length ∧ i = .int .i64 k ∧ wr.ownsRow w.heap.size 3 1 v k (ints (hoL row (ys.take k))) ∧ Below w.heap.size w wr) (fun _ i _ => ys.length - (intOf i).toNat)
  case atStart => exact ⟨0, Nat.zero_le _, rfl, by simpa [hoL, ints] using O0.out, hb0⟩
  case round =>
    obtain ⟨k, hk, rfl, hown, hnx⟩ := hrel
    have hsz := hnx.size
    by_cases hlt : k < ys.length
    · have H := (HH.out k hlt)
      have HT := hid0 (hoL_take row ys k hlt)
      obtain ⟨b, o, rfl, hb, hX⟩ := HK.out.arg k hlt
      generalize hy : ys[k] = t at H hX HT
      clear hy
      generalize hoT row t = x at H HT
      obtain ⟨kt, op, ⟨kl, al, vl, pl, cl, yl⟩, ⟨kr, ar, vr, pr, cr, yr⟩, pt, ct, yt⟩ := t
      have hb' : b < wr.heap.size := by omega
      have q0 := cell_later hnx (rng hX 0 rfl)
      have q1 := cell_later hnx (rng hX 1 rfl)
      have q2 := cell_later hnx (rng hX 2 rfl)
      have q3 := cell_later hnx (rng hX 3 rfl)
      have q4 := cell_later hnx (rng hX 4 rfl)
      have q5 := cell_later hnx (rng hX 5 rfl)
      have q6 := cell_later hnx (rng hX 6 rfl)
      have q7 := cell_later hnx (rng hX 7 rfl)
      have q8 := cell_later hnx (rng hX 8 rfl)
      have q9 := cell_later hnx (rng hX 9 rfl)
      have q10 := cell_later hnx (rng hX 10 rfl)
      have q11 := cell_later hnx (rng hX 11 rfl)
      have q12 := cell_later hnx (rng hX 12 rfl)
      have q13 := cell_later hnx (rng hX 13 rfl)
      have q14 := cell_later hnx (rng hX 14 rfl)
      simp only [Nat.add_zero] at q0
      clear hX
      have hO := hid0 hown
      clear hown
      go_wp2_with fail
      go_at_call 229
      refine (H.out _ (hnx.alloc hsz _)).mono ?_
      rintro e w3 ⟨rfl, hb3⟩
      have hown := own_belowY (hO.out.alloc _) hb3
      have hb3' := hb3
      rw [World.size_alloc] at hb3'
      have hnx3 : Below w.heap.size w w3 := below_through hb3 (by simp; omega) (hnx.alloc hsz _)
      have hs3 := hnx3.size
      clear hb3 hb3' q0 q1 q2 q3 q4 q5 q6 q7 q8 q9 q10 q11 q12 q13 q14
      go_wp2_with (at_builtin; refine wpList_append_own _ rfl _ _ 39 rfl w.heap.size 3 i0 (.int .i64 0) 1 8 Tryz.underlying39 hi hz0 hz1 hz2 rfl (by decide) _ _ _ rfl (hown.alloc _) ⟨w3.heap.size, 0, none⟩ 1 1 [.int .i64 x] rfl rfl ?c1 ?c2 ?c3 ?c4 ?c5 ?_)
      case c1 =>
        intro j u hj
        match j, hj with
        | 0, hj => simp at hj; subst hj; simp [Addr.add]
      case c2 => intro u hu; simp at hu; subst hu; rfl
      case c3 => unfold maxLen; omega
      case c4 => omega
      case c5 => simp; omega
      intro v' w4 hown' hgrow _
      have R := own_next hnx3 hown hown' hgrow
      rw [← ints_snoc, ← HT.out] at R
      have R1 := hid0 R.1
      have R2 := R.2
      clear R hown' hgrow hown hnx3 hnx hO
      go_wp2_with fail
      exact ⟨⟨k + 1, by omega, by go_num, R1.out, R2⟩, by simp [intOf]; omega⟩
    · obtain rfl : k = ys.length := by omega
      rw [List.take_length] at hown
      obtain ⟨a', c', rfl, hc', hR⟩ := ints_owned hown (hoL_len row ys)
      rw [hoL_len]
      have hR := hid0 hR
      clear hown
      go_wp2_with fail
      go_ret
      exact ⟨⟨a', c', by rw [hoL_len]; rfl, hR.out⟩, hnx⟩
set_option maxHeartbeats 8000000 in
set_option maxRecDepth 1000000 in
theorem stand_step {n : Nat} (IH : HoOk n) (p : Option Addr) (c : Nat) (ys : List Tx) (a : Option Addr) (cc : Nat) (row : List Val) (w : World) (hk : TxOk w p c ys) (hA : ∀ x ∈ ys, TxAt w n x) (hr : RowIn w a row) :
    Calls Tryz.prog 169 #[.slice p ys.length c, .slice a row.length cc] w fun e w' => (∃ a' c', e = .returned (.slice a' (hoL row ys).length c') ∧ IntsAt w' a' (hoL row ys)) ∧ Below w.heap.size w w' := by
  have hmf : ∀ (fn : Fn) (first cap : Array Value) (w : World), (Instr.makeFunc fn first cap).run Tryz.prog w = .ok (.func fn first cap) w := fun _ _ _ _ => rfl
  have V := VarB.new w [.slice a row.length cc] 35
  have hB : Below w.heap.size w (w.alloc (.cells #[.slice a row.length cc] 35)) := (Below.refl _ _).alloc (Nat.le_refl _) _
  have H := eachH_step IH p c ys a cc row w.heap.size _ ⟨hk.c, hk.room, hk.row.later hB⟩ (fun x hx => (hA x hx).later hB) (hr.later hB) (V.cell 0 rfl)
  have H := hid0 H
  clear V hB hk hA hr IH
  go_enter Tryz.func169, Tryz.ntmps169
  go_wp2_with fail
  go_at_call 228
  refine H.out.mono ?_
  rintro e w1 ⟨⟨a', c', rfl, hI⟩, hb1⟩
  have hI := hid0 hI
  go_wp2_with fail
  go_ret
  exact ⟨⟨a', c', rfl, hI.out⟩, below_through hb1 (by simp) ((Below.refl _ _).alloc (Nat.le_refl _) _)⟩
structure StandHalf (w : World) (u v : Value) (L : List Int) : Prop where
  out : ∀ W, Below w.heap.size w W → Calls Tryz.prog 169 #[u, v] W fun e w' => (∃ a' c', e = .returned (.slice a' L.length c') ∧ IntsAt w' a' L) ∧ Below W.heap.size W w'
theorem range_mid {w : World} {b o : Nat} {xs ys zs : List Value} (h : w.rangeAt b o (xs ++ (ys ++ zs))) : w.rangeAt b (o + xs.length) ys := fun j v hv => by
  have hj : j < ys.length := by
    rcases Nat.lt_or_ge j ys.length with h | h
    · exact h
    · rw [List.getElem?_eq_none h] at hv; cases hv
  rw [Nat.add_assoc]
  exact h (xs.length + j) v (by rw [List.getElem?_append_right (by omega), show xs.length + j - xs.length = j by omega, List.getElem?_append_left hj]; exact hv)
/-- A box, and what was there. -/
structure BoxS (w0 : World) (B : Nat) (us : List Value) (w : World) : Prop where
  a : VarB w B us
  b : Below w0.heap.size w0 w
theorem BoxS.drew {w0 w : World} {B : Nat} {us : List Value} (h : BoxS w0 B us w) : BoxS w0 B us w.drew := ⟨h.a.drew, Below.drew h.b⟩
theorem BoxS.below {w0 w w1 : World} {B : Nat} {us : List Value} (h : BoxS w0 B us w) (hb : Below w.heap.size w w1) : BoxS w0 B us w1 := ⟨h.a.below hb, below_through hb h.b.size h.b⟩
end Go.Proofs.YtfdkajefcplfjaaGreat
