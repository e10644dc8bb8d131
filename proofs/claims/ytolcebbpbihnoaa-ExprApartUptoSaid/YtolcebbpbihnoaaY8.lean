/- Expressions and conditions without where they lie; worlds of which a part is hidden: what lies in the rest lies there, too, when all is shown. Nothing of any program here but the types. Conditions: each names its own. -/
import Derived.Test.YtolcebbpbihnoaaY5
namespace Go.Proofs.Ytolcebbpbihnoaa
open Go.RowKit

inductive Nx where
  | mk (k a : Int) (v : Val) (ys : List Nx)
inductive Nt where
  | mk (k op : Int) (l r : Nx) (ys : List Nt)
mutual
def datC : Cx → Nx
  | .mk k a v _ _ ys => .mk k a v (datL ys)
def datL : List Cx → List Nx
  | [] => []
  | x :: l => datC x :: datL l
end
theorem datL_map : ∀ l, datL l = l.map datC
  | [] => rfl
  | x :: l => by rw [datL, datL_map l]; rfl
mutual
def datT : Tx → Nt
  | .mk k op l r _ _ ys => .mk k op (datC l) (datC r) (datTL ys)
def datTL : List Tx → List Nt
  | [] => []
  | x :: l => datT x :: datTL l
end
theorem datTL_map : ∀ l, datTL l = l.map datT
  | [] => rfl
  | x :: l => by rw [datTL, datTL_map l]; rfl
theorem datL_len {l m : List Cx} (h : datL l = datL m) : l.length = m.length := by
  have := congrArg List.length h
  rwa [datL_map, datL_map, List.length_map, List.length_map] at this
theorem datTL_len {l m : List Tx} (h : datTL l = datTL m) : l.length = m.length := by
  have := congrArg List.length h
  rwa [datTL_map, datTL_map, List.length_map, List.length_map] at this
theorem datL_get {l m : List Cx} (h : datL l = datL m) (i : Nat) (hl : i < l.length) (hm : i < m.length) : datC l[i] = datC m[i] := by
  rw [datL_map, datL_map] at h
  have := congrArg (fun x => x[i]?) h
  simpa [hl, hm] using this
theorem datTL_get {l m : List Tx} (h : datTL l = datTL m) (i : Nat) (hl : i < l.length) (hm : i < m.length) : datT l[i] = datT m[i] := by
  rw [datTL_map, datTL_map] at h
  have := congrArg (fun x => x[i]?) h
  simpa [hl, hm] using this
mutual
theorem ev_dat (row : List Val) : ∀ x y : Cx, datC x = datC y → evC row x = evC row y
  | .mk k a v p c ys, .mk k' a' v' p' c' ys', h => by
    rw [datC, datC] at h
    injection h with h1 h2 h3 h4
    subst h1; subst h2; subst h3
    rw [evC, evC, evL_dat row ys ys' h4]
theorem evL_dat (row : List Val) : ∀ l m : List Cx, datL l = datL m → evL row l = evL row m
  | [], [], _ => rfl
  | [], y :: m, h => by rw [datL, datL] at h; cases h
  | x :: l, [], h => by rw [datL, datL] at h; cases h
  | x :: l, y :: m, h => by
    rw [datL, datL] at h
    injection h with h1 h2
    rw [evL, evL, ev_dat row x y h1, evL_dat row l m h2]
end
theorem sd_dat (row : List Val) : ∀ x y : Cx, datC x = datC y → sdC row x = sdC row y
  | .mk k a v p c ys, .mk k' a' v' p' c' ys', h => by
    have e := ev_dat row _ _ h
    rw [datC, datC] at h
    injection h with h1 h2 h3 h4
    subst h1
    rw [sdC, sdC, e]
mutual
theorem ho_dat (row : List Val) : ∀ x y : Tx, datT x = datT y → hoT row x = hoT row y
  | .mk k op l r p c ys, .mk k' op' l' r' p' c' ys', h => by
    rw [datT, datT] at h
    injection h with h1 h2 h3 h4 h5
    subst h1; subst h2
    rw [hoT, hoT, sd_dat row l l' h3, sd_dat row r r' h4, hoL_dat row ys ys' h5]
theorem hoL_dat (row : List Val) : ∀ l m : List Tx, datTL l = datTL m → hoL row l = hoL row m
  | [], [], _ => rfl
  | [], y :: m, h => by rw [datTL, datTL] at h; cases h
  | x :: l, [], h => by rw [datTL, datTL] at h; cases h
  | x :: l, y :: m, h => by
    rw [datTL, datTL] at h
    injection h with h1 h2
    rw [hoL, hoL, ho_dat row x y h1, hoL_dat row l m h2]
end
/-- A world of which these blocks hold nothing. -/
def hide (p : Nat → Bool) (w : World) : World := { w with heap := w.heap.mapIdx fun i o => if p i then .cells #[] 0 (0, 0) else o }
theorem hide_size (p : Nat → Bool) (w : World) : (hide p w).heap.size = w.heap.size := by simp [hide]
theorem hide_heap {p : Nat → Bool} (w : World) {b : Nat} (h : p b = false) : (hide p w).heap[b]? = w.heap[b]? := by
  simp [hide, Array.getElem?_mapIdx, h]
theorem cell_hide {p : Nat → Bool} {w : World} {a : Addr} {v : Value} (h : (hide p w).cell? a = some v) : p a.block = false ∧ w.cell? a = some v := by
  by_cases hp : p a.block = true
  · exfalso
    unfold World.cell? at h
    simp only [hide, Array.getElem?_mapIdx, hp, if_true] at h
    cases hb : w.heap[a.block]? with
    | none => simp [hb] at h
    | some o => simp [hb] at h
  · have hp : p a.block = false := by simpa using hp
    exact ⟨hp, (World.cell?_of_block (hide_heap w hp)).symm.trans h⟩
/-- What lies in the one lies in the other. -/
structure Sub (w w' : World) : Prop where
  size : w.heap.size ≤ w'.heap.size
  cell : ∀ a v, w.cell? a = some v → w'.cell? a = some v
theorem RowC.sub {w w' : World} {m : Nat} {p : Option Addr} {us : List (List Value)} (h : RowC w m p us) (hs : Sub w w') : RowC w' m p us :=
  ⟨fun i hi => by
    obtain ⟨b, o, e, hlt, hR⟩ := h.out i hi
    exact ⟨b, o, e, Nat.lt_of_lt_of_le hlt hs.size, fun j v hv => hs.cell _ _ (hR j v hv)⟩⟩
theorem CxAt.sub {w w' : World} (hb : Sub w w') : ∀ {n : Nat} {c : Cx}, CxAt w n c → CxAt w' n c
  | _ + 1, .mk .., h => ⟨⟨h.1.i, h.1.k1, h.1.k2, h.1.a1, h.1.a2, h.1.c, h.1.room, h.1.row.sub hb⟩, fun x hx => (h.2 x hx).sub hb⟩
theorem TxAt.sub {w w' : World} (hb : Sub w w') : ∀ {n : Nat} {c : Tx}, TxAt w n c → TxAt w' n c
  | _ + 1, .mk .., h => ⟨⟨h.1.1.sub hb, h.1.2.sub hb⟩, ⟨h.2.1.c, h.2.1.room, h.2.1.row.sub hb⟩, fun x hx => (h.2.2 x hx).sub hb⟩
theorem Sub.shown (p : Nat → Bool) (w : World) : Sub (hide p w) w := ⟨Nat.le_of_eq (hide_size p w), fun _ _ h => (cell_hide h).2⟩
theorem Sub.hide {p q : Nat → Bool} {w w' : World} (hs : w.heap.size ≤ w'.heap.size) (h : ∀ b, b < w.heap.size → p b = false → q b = false ∧ w'.heap[b]? = w.heap[b]?) : Sub (hide p w) (hide q w') := by
  refine ⟨by rw [hide_size, hide_size]; exact hs, fun a v hv => ?_⟩
  obtain ⟨h1, h2⟩ := cell_hide hv
  have hlt := World.block_lt_of_cell? w _ h2
  obtain ⟨h3, h4⟩ := h _ hlt h1
  rw [World.cell?_of_block (hide_heap w' h3), World.cell?_of_block h4]
  exact h2
/-- What elder blocks hold is hidden. -/
def elder (n : Nat) : Nat → Bool := fun b => decide (b < n)
/-- And what a row's own block holds. -/
def elderOr (n : Nat) (g : Option Nat) : Nat → Bool := fun b => decide (b < n) || decide (g = some b)
theorem elder_no {n b : Nat} : elder n b = false ↔ n ≤ b := by unfold elder; simp
theorem elderOr_no {n b : Nat} {g : Option Nat} : elderOr n g b = false ↔ n ≤ b ∧ g ≠ some b := by unfold elderOr; simp
/-- Structs appended to a row of one's own: where the row is then. -/
theorem app_at {w : World} {ops : Array Oper} {rest : List Oper} {o : Oper} {a : Act} {Q : Exit → Act → World → Prop} (hgd : o.guard = none) (s x : Operand) (t e : TypeId)
    (ho : o.op = .call { callee := .builtin .append, args := #[s, x], argTypes := #[t, t] }) (i : TypeInfo) (z : Value) (size bytes : Nat) (ht : Try.prog.underlying t = some (.slice e)) (hi : Try.prog.info? e = some i) (hz : i.zero = some z) (hsize : i.size = size) (hby : i.bytes = bytes) (hzs : z.cells.size = size) (hsz : 0 < size)
    {v : Value} (hs : a.eval s = v) (base n : Nat) (xs : List Value) (hown : w.ownsRow base e size v n xs)
    (ad : Addr) (m c : Nat) (news : List Value) (hx : a.eval x = .slice (some ad) m c) (hl : news.length = m * size) (hnews : ∀ j u, news[j]? = some u → w.cell? (ad.add j) = some u) (h1 : ∀ u ∈ news, u.oneCell' = true)
    (h63 : n + m ≤ maxLen) (hbytes : (n + m) * bytes ≤ 140737488355328) (hbase : base ≤ w.heap.size)
    (h : ∀ v' w', w'.ownsRow base e size v' (n + m) (xs ++ news) → w.grownBy w' v.ownBlock → (v'.ownBlock = v.ownBlock ∨ v'.ownBlock = some w.heap.size) → wpList Try.prog ops Q rest (a.put o.dst v') w') : wpList Try.prog ops Q (o :: rest) a w := by
  refine wpList_plain hgd fun K hK => ?_
  obtain ⟨v', w', hr, h2, h3, _, h5⟩ := run_append_own_at (P := Try.prog) w base t o.type e i z size bytes ht hi hz hsize hby hzs hsz v n xs hown ad m c news hl hnews h1 h63 hbytes hbase
  unfold Oper.wp execOp
  simp only [ho, resolve, invoke, builtin, Sem.run_bind, Sem.run_pure, Result.andThen_ok, List.map_toArray, List.map_cons, List.map_nil, hs, hx, hr]
  exact hK _ _ (h v' w' h2 h3 h5)
theorem flat_get {α : Type} {m : Nat} : ∀ {us : List (List α)}, (∀ u ∈ us, u.length = m) → ∀ (i : Nat) (hi : i < us.length) (j : Nat), j < m → (us.flatten)[i * m + j]? = (us[i])[j]?
  | u :: us, hl, 0, _, j, hj => by
    have := hl u (by simp)
    rw [List.flatten_cons, Nat.zero_mul, Nat.zero_add, List.getElem?_append_left (by omega)]
    rfl
  | u :: us, hl, i + 1, hi, j, hj => by
    have e := hl u (by simp)
    have h1 : (i + 1) * m + j = m + (i * m + j) := by rw [Nat.add_mul]; omega
    rw [List.flatten_cons, h1, List.getElem?_append_right (by omega), show m + (i * m + j) - u.length = i * m + j by omega]
    exact flat_get (fun u hu => hl u (by simp [hu])) i (by simpa using hi) j hj
/-- A row of structs of one's own, as it lies. -/
theorem rows_owned {B n m : Nat} {ty : TypeId} {w : World} {v : Value} {us : List (List Value)} (hl : ∀ u ∈ us, u.length = m) (h : w.ownsRow B ty m v n us.flatten) (hn : us.length = n) : ∃ a c, v = .slice a n c ∧ n ≤ c ∧ RowC (hide (elder B) w) m a us := by
  obtain ⟨a, c, hv, hc⟩ := own_shape11 h
  refine ⟨a, c, hv, hc, ⟨fun i hi => ?_⟩⟩
  have h0 := h
  rcases h.2 with ⟨rfl, e⟩ | ⟨g, cap, cur, rfl, hbg, hh, hrest⟩
  · omega
  · cases hv
    refine ⟨g, 0, rfl, by rw [hide_size]; exact (Array.getElem?_eq_some_iff.1 hh).1, fun j u hu => ?_⟩
    have hj : j < m := by
      have := (List.getElem?_eq_some_iff.1 hu).1
      rwa [hl _ (List.getElem_mem hi)] at this
    have hg : (us.flatten)[i * m + j]? = some u := by rw [flat_get hl i hi j hj]; exact hu
    have := h0.cells (g := g) rfl _ _ hg
    rw [WideShapes.add_plain] at this
    rw [World.cell?_of_block (hide_heap w (elder_no.2 hbg)), Nat.zero_add]
    simpa using this
end Go.Proofs.Ytolcebbpbihnoaa
