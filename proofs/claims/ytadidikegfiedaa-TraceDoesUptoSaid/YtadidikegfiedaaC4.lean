/- Several of my texts laid together, each as it was: T0, T1, T30, T2, T3, T4. Conditions: each names its own. -/
import Derived.Test.YtadidikegfiedaaB2
import Derived.Test.YtadidikegfiedaaC2
import Derived.Test.YtadidikegfiedaaC3
import Derived.Laws.OwnMore
import Derived.Maps.AppendAt
import Derived.Lib.SliceRun
/- Logs, plainly: entries with times, which may be a log, what changes make of one, what stays behind a time. Nothing of any program here. Conditions: each lemma names its own. -/
namespace Go.Proofs.Ytadidikegfiedaa
open Go.RowKit

/-- An entry of a log as it lies in memory: its time, whether it came or went, where its row is, its capacity, the row. -/
structure Ent where
  s : Int
  n : Int
  a : Option Addr
  c : Nat
  r : List Val
abbrev Dat := Int × Int × List Val
def dat (e : Ent) : Dat := (e.s, e.n, e.r)
def pairD (x : Dat) : Pair := (x.2.2, x.2.1)
def okD (f : Int) (x : Dat) : Bool := decide (x.2.1 = 1 ∨ x.2.1 = -1) && decide (f < x.1)
def okFrom (f : Int) : Int → List Dat → Bool
  | _, [] => true
  | last, x :: L => okD f x && decide (last ≤ x.1) && okFrom f x.1 L
/-- May it be a log? -/
def rightD (f : Int) (L : List Dat) : Bool := decide (0 ≤ f) && okFrom f f L
theorem okFrom_iff (f : Int) : ∀ (L : List Dat) (last : Int), okFrom f last L = true ↔ (∀ x ∈ L, okD f x = true) ∧ (∀ x ∈ L, last ≤ x.1) ∧ (L.map (·.1)).Pairwise (· ≤ ·)
  | [], last => by simp [okFrom]
  | x :: L, last => by
    rw [okFrom, Bool.and_eq_true, Bool.and_eq_true, okFrom_iff f L x.1, decide_eq_true_eq]
    constructor
    · rintro ⟨⟨h1, h2⟩, h3, h4, h5⟩
      refine ⟨fun y hy => ?_, fun y hy => ?_, ?_⟩
      · rcases List.mem_cons.1 hy with rfl | hy
        · exact h1
        · exact h3 y hy
      · rcases List.mem_cons.1 hy with rfl | hy
        · exact h2
        · exact Int.le_trans h2 (h4 y hy)
      · rw [List.map_cons, List.pairwise_cons]
        refine ⟨fun z hz => ?_, h5⟩
        obtain ⟨y, hy, rfl⟩ := List.mem_map.1 hz
        exact h4 y hy
    · rintro ⟨h1, h2, h3⟩
      rw [List.map_cons, List.pairwise_cons] at h3
      exact ⟨⟨h1 x (by simp), h2 x (by simp)⟩, fun y hy => h1 y (by simp [hy]), fun y hy => h3.1 _ (List.mem_map_of_mem hy), h3.2⟩
theorem okD_lt {f : Int} {x : Dat} (h : okD f x = true) : f < x.1 ∧ (x.2.1 = 1 ∨ x.2.1 = -1) := by
  unfold okD at h
  rw [Bool.and_eq_true, decide_eq_true_eq, decide_eq_true_eq] at h
  exact ⟨h.2, h.1⟩
theorem rightD_iff (f : Int) (L : List Dat) : rightD f L = true ↔ 0 ≤ f ∧ (∀ x ∈ L, okD f x = true) ∧ (L.map (·.1)).Pairwise (· ≤ ·) := by
  unfold rightD
  rw [Bool.and_eq_true, decide_eq_true_eq, okFrom_iff]
  constructor
  · rintro ⟨h0, h1, _, h3⟩; exact ⟨h0, h1, h3⟩
  · rintro ⟨h0, h1, h3⟩; exact ⟨h0, h1, fun x hx => Int.le_of_lt (okD_lt (h1 x hx)).1, h3⟩
/-- Numbers rise when each two neighbours do. -/
theorem rise_near : ∀ (S : List Int), (∀ i (h : i + 1 < S.length), S[i] ≤ S[i + 1]) → S.Pairwise (· ≤ ·)
  | [], _ => List.Pairwise.nil
  | [x], _ => by simp
  | x :: y :: S, h => by
    have ih := rise_near (y :: S) (fun i hi => by
      have := h (i + 1) (by simp at hi ⊢; omega)
      simpa using this)
    have h0 := h 0 (by simp)
    simp only [List.getElem_cons_zero, Nat.zero_add, List.getElem_cons_succ] at h0
    rw [List.pairwise_cons]
    refine ⟨fun z hz => ?_, ih⟩
    rcases List.mem_cons.1 hz with rfl | hz
    · exact h0
    · exact Int.le_trans h0 ((List.pairwise_cons.1 ih).1 z hz)
theorem near_rise {S : List Int} (h : S.Pairwise (· ≤ ·)) (i : Nat) (hi : i + 1 < S.length) : S[i] ≤ S[i + 1] := List.pairwise_iff_getElem.1 h i (i + 1) (by omega) hi (by omega)

/-- The time behind which a change must stand. -/
def lastD (f : Int) : List Dat → Int
  | [] => f
  | x :: L => lastD x.1 L
theorem lastD_snoc (f : Int) (x : Dat) : ∀ L, lastD f (L ++ [x]) = x.1
  | [] => rfl
  | y :: L => lastD_snoc y.1 x L
theorem lastD_at (f : Int) (L : List Dat) (h : L ≠ []) : lastD f L = (L[L.length - 1]'(by have := List.length_pos_iff.2 h; omega)).1 := by
  have h1 := List.dropLast_concat_getLast h
  have h2 := congrArg (lastD f) h1
  rw [lastD_snoc] at h2
  rw [← h2, List.getLast_eq_getElem]
theorem lastD_le {f : Int} : ∀ {L : List Dat}, (L.map (·.1)).Pairwise (· ≤ ·) → ∀ x ∈ L, x.1 ≤ lastD f L
  | [], _, x, hx => by simp at hx
  | y :: L, h, x, hx => by
    rw [List.map_cons, List.pairwise_cons] at h
    show x.1 ≤ lastD y.1 L
    rcases List.mem_cons.1 hx with rfl | hx
    · cases L with
      | nil => exact Int.le_refl _
      | cons z L => exact Int.le_trans (h.1 z.1 (by simp)) (lastD_le (f := x.1) h.2 z (by simp))
    · exact lastD_le (f := y.1) h.2 x hx
theorem lastD_from {f : Int} {L : List Dat} (h : ∀ x ∈ L, f < x.1) : f ≤ lastD f L := by
  by_cases hn : L = []
  · subst hn; exact Int.le_refl _
  · rw [lastD_at f L hn]; exact Int.le_of_lt (h _ (List.getElem_mem _))

/-- The entries that one row makes. -/
def entsOne (scn : Int) (x : Pair) : List Dat := List.replicate x.2.natAbs (scn, (if x.2 < 0 then -1 else 1), x.1)
/-- The entries that changes make. -/
def entsD (scn : Int) (ch : List Pair) : List Dat := ch.flatMap (entsOne scn)
theorem entsD_cons (scn : Int) (x : Pair) (ch : List Pair) : entsD scn (x :: ch) = entsOne scn x ++ entsD scn ch := by simp [entsD]
theorem entsD_append (scn : Int) (A B : List Pair) : entsD scn (A ++ B) = entsD scn A ++ entsD scn B := by simp [entsD]
theorem entsOne_len (scn : Int) (x : Pair) : ((entsOne scn x).length : Int) = if x.2 < 0 then -x.2 else x.2 := by
  unfold entsOne; rw [List.length_replicate]; split <;> omega
theorem entsD_len (scn : Int) : ∀ ch, ((entsD scn ch).length : Int) = absS ch
  | [] => rfl
  | x :: ch => by
    have := entsD_len scn ch
    have := entsOne_len scn x
    rw [entsD_cons, List.length_append, absS]; push_cast; omega
theorem entsD_mem {scn : Int} {ch : List Pair} {y : Dat} (h : y ∈ entsD scn ch) : y.1 = scn ∧ (y.2.1 = 1 ∨ y.2.1 = -1) := by
  unfold entsD at h
  obtain ⟨x, _, hx⟩ := List.mem_flatMap.1 h
  obtain ⟨_, rfl⟩ := List.mem_replicate.1 hx
  refine ⟨rfl, ?_⟩
  show (if x.2 < 0 then (-1 : Int) else 1) = 1 ∨ _ = (-1 : Int)
  split <;> simp
theorem sumOf_rep (r : List Val) (x : Pair) : ∀ n : Nat, sumOf r (List.replicate n x) = if rowsV x.1 r = 0 then n * x.2 else 0
  | 0 => by simp [sumOf]
  | n + 1 => by
    rw [List.replicate_succ, sumOf, sumOf_rep r x n]
    split
    · push_cast; rw [Int.add_mul]; omega
    · rfl
theorem sumOf_ents (r : List Val) (scn : Int) : ∀ ch, sumOf r ((entsD scn ch).map pairD) = sumOf r ch
  | [] => rfl
  | x :: ch => by
    rw [entsD_cons, List.map_append, sumOf_append, sumOf_ents r scn ch, sumOf]
    have : (entsOne scn x).map pairD = List.replicate x.2.natAbs (x.1, (if x.2 < 0 then (-1 : Int) else 1)) := by
      unfold entsOne; rw [List.map_replicate]; rfl
    rw [this, sumOf_rep]
    congr 1
    show (if rowsV x.1 r = 0 then (x.2.natAbs : Int) * (if x.2 < 0 then (-1 : Int) else 1) else 0) = _
    split
    · split <;> omega
    · rfl
/-- What changes at a later time make of a log may be a log. -/
theorem right_add {f scn : Int} {L : List Dat} (ch : List Pair) (h : rightD f L = true) (hs : lastD f L < scn) : rightD f (L ++ entsD scn ch) = true := by
  obtain ⟨h0, h1, h2⟩ := (rightD_iff f L).1 h
  have hf := lastD_from (f := f) (fun x hx => (okD_lt (h1 x hx)).1)
  refine (rightD_iff _ _).2 ⟨h0, fun x hx => ?_, ?_⟩
  · rcases List.mem_append.1 hx with hx | hx
    · exact h1 x hx
    · obtain ⟨e1, e2⟩ := entsD_mem hx
      unfold okD
      rw [Bool.and_eq_true, decide_eq_true_eq, decide_eq_true_eq]
      exact ⟨e2, by omega⟩
  · rw [List.map_append, List.pairwise_append]
    refine ⟨h2, ?_, ?_⟩
    · refine List.pairwise_iff_getElem.2 (fun i j hi hj hij => ?_)
      have e : ∀ z ∈ (entsD scn ch).map (·.1), z = scn := fun z hz => by
        obtain ⟨y, hy, rfl⟩ := List.mem_map.1 hz
        exact (entsD_mem hy).1
      rw [e _ (List.getElem_mem hi), e _ (List.getElem_mem hj)]
      exact Int.le_refl _
    · intro a ha b hb
      obtain ⟨x, hx, rfl⟩ := List.mem_map.1 ha
      obtain ⟨y, hy, rfl⟩ := List.mem_map.1 hb
      have := lastD_le (f := f) h2 x hx
      have := (entsD_mem hy).1
      omega
/-- The entries behind a time. -/
def keepD (k : Int) (L : List Dat) : List Dat := L.filter fun x => decide (k < x.1)
theorem keepD_append (k : Int) (A B : List Dat) : keepD k (A ++ B) = keepD k A ++ keepD k B := List.filter_append ..
theorem keepD_all {k : Int} {L : List Dat} (h : ∀ x ∈ L, k < x.1) : keepD k L = L := List.filter_eq_self.2 (fun x hx => by simpa using h x hx)
theorem keepD_none {k : Int} {L : List Dat} (h : ∀ x ∈ L, x.1 ≤ k) : keepD k L = [] := List.filter_eq_nil_iff.2 (fun x hx => by have := h x hx; simp; omega)
theorem keepD_keep (j k : Int) (L : List Dat) : keepD j (keepD k L) = keepD (if j < k then k else j) L := by
  unfold keepD
  rw [List.filter_filter]
  congr 1
  funext x
  rw [← Bool.decide_and]
  congr 1
  apply propext
  split <;> omega
theorem right_keep {f : Int} {L : List Dat} (k : Int) (h : rightD f L = true) : rightD f (keepD k L) = true := by
  obtain ⟨h0, h1, h2⟩ := (rightD_iff f L).1 h
  refine (rightD_iff _ _).2 ⟨h0, fun x hx => h1 x (List.mem_filter.1 hx).1, ?_⟩
  exact h2.sublist (List.Sublist.map _ (List.filter_sublist))
theorem absS_ents (L : List Dat) (h : ∀ x ∈ L, x.2.1 = 1 ∨ x.2.1 = -1) : absS (L.map pairD) = L.length := by
  induction L with
  | nil => rfl
  | cons x L ih =>
    have h0 := h x (by simp)
    have ih := ih (fun y hy => h y (by simp [hy]))
    rw [List.map_cons, absS, ih, List.length_cons]
    show (if x.2.1 < 0 then -x.2.1 else x.2.1) + _ = _
    split <;> omega
/-- A bag is the bag of itself. -/
theorem ofB_self {B : List Pair} (h : Rises B) : ofB B = B := (ofB_is h (fun _ => rfl)).symm
/-- What changes come to, entry by entry, is the changes. -/
theorem ofB_ents {ch : List Pair} (scn : Int) (h : Rises ch) : ofB ((entsD scn ch).map pairD) = ch :=
  (ofB_is h (fun r => (sumOf_ents r scn ch).symm)).symm
end Go.Proofs.Ytadidikegfiedaa

/- Lists of entries in memory: their cells are known; lists that a call builds, appends to, changes in place. Nothing of any program here but the types of a log's entries. Conditions: each lemma names its own. -/
namespace Go.Proofs.Ytadidikegfiedaa
open Go.RowKit

theorem infoN : (Try.prog.info? 49).map (fun i => (i.zero, i.size, i.bytes)) = some (some (.agg #[.int .i64 0, .int .i64 0, .slice none 0 0]), 3, 40) := by kernel_rfl
theorem sizeEnt : (Try.prog.info? 49).map (·.size) = some 3 := by kernel_rfl
theorem sizeLog : (Try.prog.info? 24).map (·.size) = some 2 := by kernel_rfl
def cellsOneN (e : Ent) : List Value := [.int .i64 e.s, .int .i64 e.n, .slice e.a e.r.length e.c]
def cellsN (E : List Ent) : List Value := E.flatMap cellsOneN
def RowsInN (w : World) (E : List Ent) : Prop := ∀ e ∈ E, RowAt w e.a e.r ∧ rowOK e.r
def CellsN (w : World) (a : Option Addr) (E : List Ent) : Prop :=
  E ≠ [] → ∃ b off, a = some ⟨b, off, none⟩ ∧ ∀ i (h : i < E.length), w.cell? ⟨b, off + i * 3, none⟩ = some (.int .i64 (E[i]).s) ∧ w.cell? ⟨b, off + i * 3 + 1, none⟩ = some (.int .i64 (E[i]).n) ∧ w.cell? ⟨b, off + i * 3 + 2, none⟩ = some (.slice (E[i]).a (E[i]).r.length (E[i]).c)
theorem CellsN.later {w w' : World} {a : Option Addr} {E : List Ent} (h : CellsN w a E) (hb : Below w.heap.size w w') : CellsN w' a E := fun hn => by
  obtain ⟨b, off, e, hc⟩ := h hn
  exact ⟨b, off, e, fun i hi => ⟨cell_later hb (hc i hi).1, cell_later hb (hc i hi).2.1, cell_later hb (hc i hi).2.2⟩⟩
theorem RowsInN.later {w w' : World} {E : List Ent} (h : RowsInN w E) (hb : Below w.heap.size w w') : RowsInN w' E := fun e he => ⟨(h e he).1.later hb, (h e he).2⟩
def EntsAt (w : World) (a : Option Addr) (E : List Ent) : Prop := CellsN w a E ∧ RowsInN w E
theorem EntsAt.later {w w' : World} {a : Option Addr} {E : List Ent} (h : EntsAt w a E) (hb : Below w.heap.size w w') : EntsAt w' a E := ⟨h.1.later hb, h.2.later hb⟩
theorem EntsAt.nil (w : World) (a : Option Addr) : EntsAt w a [] := ⟨fun h => absurd rfl h, fun e he => absurd he (by simp)⟩
theorem cellsN_cons (e : Ent) (E : List Ent) : cellsN (e :: E) = .int .i64 e.s :: .int .i64 e.n :: .slice e.a e.r.length e.c :: cellsN E := by simp [cellsN, cellsOneN]
theorem cellsN_append (A B : List Ent) : cellsN (A ++ B) = cellsN A ++ cellsN B := by simp [cellsN]
theorem cellsN_one (e : Ent) : cellsN [e] = cellsOneN e := by simp [cellsN]
theorem cellsN_len : ∀ E, (cellsN E).length = E.length * 3
  | [] => rfl
  | e :: E => by
    have := cellsN_len E
    rw [cellsN_cons, List.length_cons, List.length_cons, List.length_cons, List.length_cons]; omega
theorem cellsN_at : ∀ (E : List Ent) (i : Nat) (h : i < E.length), (cellsN E)[i * 3]? = some (.int .i64 (E[i]).s) ∧ (cellsN E)[i * 3 + 1]? = some (.int .i64 (E[i]).n) ∧ (cellsN E)[i * 3 + 2]? = some (.slice (E[i]).a (E[i]).r.length (E[i]).c)
  | e :: E, 0, _ => ⟨rfl, rfl, rfl⟩
  | e :: E, i + 1, h => by
    have := cellsN_at E i (by simpa using h)
    have g : ∀ d, (cellsN (e :: E))[(i + 1) * 3 + d]? = (cellsN E)[i * 3 + d]? := fun d => by
      rw [cellsN_cons, show (i + 1) * 3 + d = (i * 3 + d) + 1 + 1 + 1 by omega]; rfl
    exact ⟨(g 0).trans this.1, (g 1).trans this.2.1, (g 2).trans this.2.2⟩
theorem cellsN_cell (F : List Ent) : ∀ u ∈ cellsN F, u.oneCell' = true := by
  intro u hu
  obtain ⟨v, _, hu⟩ := List.mem_flatMap.1 hu
  simp [cellsOneN] at hu
  rcases hu with rfl | rfl | rfl <;> rfl
theorem cellsN_of {w : World} {ad : Addr} {F : List Ent} (h : CellsN w (some ad) F) : ∀ j u, (cellsN F)[j]? = some u → w.cell? (ad.add j) = some u := by
  intro j u hj
  have hlt : j < F.length * 3 := by
    have := (List.getElem?_eq_some_iff.1 hj).1
    rwa [cellsN_len] at this
  have hne : F ≠ [] := fun e => by subst e; simp at hlt
  obtain ⟨b, off, e, hc⟩ := h hne
  obtain rfl : ad = ⟨b, off, none⟩ := by simpa using e
  have hi : j / 3 < F.length := by omega
  obtain ⟨c0, c1, c2⟩ := hc (j / 3) hi
  obtain ⟨r0, r1, r2⟩ := cellsN_at F (j / 3) hi
  rw [WideShapes.add_plain]
  rcases (by omega : j % 3 = 0 ∨ j % 3 = 1 ∨ j % 3 = 2) with e | e | e
  · rw [show j = j / 3 * 3 by omega] at hj ⊢
    rw [r0] at hj; rw [← hj]; simpa using c0
  · rw [show j = j / 3 * 3 + 1 by omega] at hj ⊢
    have hd : (j / 3 * 3 + 1) / 3 = j / 3 := by omega
    rw [r1] at hj; rw [← hj, ← Nat.add_assoc]; exact c1
  · rw [show j = j / 3 * 3 + 2 by omega] at hj ⊢
    rw [r2] at hj; rw [← hj, ← Nat.add_assoc]; exact c2

/-! ### Rows that outlast what a list's own block goes through -/
structure RowG (w : World) (rb : Nat) (a : Option Addr) (r : List Val) : Prop where
  row : RowAt w a r
  ok : rowOK r
  blk : r ≠ [] → ∃ ad, a = some ad ∧ (ad.block < rb ∨ ∃ cs fz, w.heap[ad.block]? = some (Obj.cells cs 62 fz))
theorem RowG.of {w : World} {a : Option Addr} {r : List Val} (h : RowAt w a r) (hk : rowOK r) : RowG w w.heap.size a r := ⟨h, hk, fun hn => by
  obtain ⟨b, off, e, hc⟩ := h hn
  have h0 := (hc 0 (List.length_pos_iff.2 hn)).1
  exact ⟨_, e, .inl (World.block_lt_of_cell? _ _ h0)⟩⟩
theorem RowG.copied {w : World} {a : Option Addr} {r : List Val} (rb : Nat) (h : Copied w a r) (hk : rowOK r) : RowG w rb a r := ⟨h.row, hk, fun hn => by
  obtain ⟨b, cs, fz, e, hh⟩ := h.blk hn
  exact ⟨_, e, .inr ⟨cs, fz, hh⟩⟩⟩
theorem RowG.later {w w' : World} {rb : Nat} {a : Option Addr} {r : List Val} (h : RowG w rb a r) (hb : Below w.heap.size w w') : RowG w' rb a r := ⟨h.row.later hb, h.ok, fun hn => by
  obtain ⟨ad, e, hh⟩ := h.blk hn
  refine ⟨ad, e, hh.imp id ?_⟩
  rintro ⟨cs, fz, hh⟩
  exact ⟨cs, fz, (hb.block _ (Array.getElem?_eq_some_iff.1 hh).1).trans hh⟩⟩
theorem RowG.lift {w : World} {rb r2 : Nat} {a : Option Addr} {r : List Val} (h : RowG w rb a r) (hr : rb ≤ r2) : RowG w r2 a r := ⟨h.row, h.ok, fun hn => by
  obtain ⟨ad, e, hh⟩ := h.blk hn
  exact ⟨ad, e, hh.imp (fun h => Nat.lt_of_lt_of_le h hr) id⟩⟩
theorem RowG.keptT {w w' : World} {rb base : Nat} {t : TypeId} {a : Option Addr} {r : List Val} (h : RowG w rb a r) (hr : rb ≤ base) (ht : 62 ≠ t) (hK : KeptT t base w w') : RowG w' rb a r := by
  by_cases hn : r = []
  · subst hn; exact ⟨fun h => absurd rfl h, h.ok, fun h => absurd rfl h⟩
  obtain ⟨ad, e, hh⟩ := h.blk hn
  have heq : w'.heap[ad.block]? = w.heap[ad.block]? := by
    rcases hh with hh | ⟨cs, fz, hh⟩
    · exact hK.below.block _ (Nat.lt_of_lt_of_le hh hr)
    · rw [hh, hK.other _ cs fz 62 ht hh]
  refine ⟨fun _ => ?_, h.ok, fun _ => ⟨ad, e, hh.imp id (fun ⟨cs, fz, hh⟩ => ⟨cs, fz, heq.trans hh⟩)⟩⟩
  obtain ⟨b, off, e', hc⟩ := h.row hn
  obtain rfl : ad = ⟨b, off, none⟩ := by rw [e] at e'; simpa using e'
  have hcell : ∀ o, w'.cell? ⟨b, o, none⟩ = w.cell? ⟨b, o, none⟩ := fun o => World.cell?_of_block heq
  exact ⟨b, off, e, fun i hi => by rw [hcell, hcell, hcell]; exact hc i hi⟩

/-- The entries E, in a block of its own from base on, or nil. -/
structure OwnN (w : World) (base : Nat) (v : Value) (E : List Ent) : Prop where
  out : w.ownsRow base 49 3 v E.length (cellsN E)
theorem OwnN.nil (w : World) (base : Nat) : OwnN w base (.slice none 0 0) [] := ⟨World.ownsRow_nil _ _ _ _⟩
theorem ents_owned {base : Nat} {w : World} {v : Value} {E : List Ent} (h : OwnN w base v E) : ∃ a c, v = .slice a E.length c ∧ E.length ≤ c ∧ c ≤ maxLen ∧ CellsN w a E := by
  have h0 := h.out
  obtain ⟨_, hcase⟩ := h.out
  rcases hcase with ⟨rfl, hl⟩ | ⟨g, cap', cur, rfl, hg, hh, hn, hcap, hsz, htake⟩
  · exact ⟨none, 0, by rw [hl], by omega, by unfold maxLen; omega, fun hne => absurd (List.length_eq_zero_iff.1 hl) hne⟩
  · refine ⟨some ⟨g, 0, none⟩, cap', rfl, hn, hcap, fun _ => ⟨g, 0, rfl, fun i hi => ?_⟩⟩
    obtain ⟨h1, h2, h3⟩ := cellsN_at E i hi
    rw [Nat.zero_add]
    exact ⟨(h0.cellAt _ (by omega)).trans h1, (h0.cellAt _ (by omega)).trans h2, (h0.cellAt _ (by omega)).trans h3⟩
/-- Entries in a block of their own that a call has laid; their rows outlast what it goes through; what lay there before is as it was. -/
structure MkN (rb : Nat) (w0 w : World) (v : Value) (E : List Ent) : Prop where
  own : OwnN w w0.heap.size v E
  g : ∀ e ∈ E, RowG w rb e.a e.r
  b : Below w0.heap.size w0 w
  hr : rb ≤ w0.heap.size
theorem MkN.nil {rb : Nat} {w0 w : World} (hb : Below w0.heap.size w0 w) (hr : rb ≤ w0.heap.size) : MkN rb w0 w (.slice none 0 0) [] := ⟨OwnN.nil _ _, fun _ h => absurd h (by simp), hb, hr⟩
theorem MkN.alloc {rb : Nat} {w0 w : World} {v : Value} {E : List Ent} (h : MkN rb w0 w v E) (o : Obj) : MkN rb w0 (w.alloc o) v E := ⟨⟨World.ownsRow.alloc h.own.out o⟩, fun e he => (h.g e he).later ((Below.refl _ _).alloc (Nat.le_refl _) _), h.b.alloc h.b.size o, h.hr⟩
theorem MkN.drew {rb : Nat} {w0 w : World} {v : Value} {E : List Ent} (h : MkN rb w0 w v E) : MkN rb w0 w.drew v E := ⟨⟨h.own.out⟩, fun e he => (h.g e he).later (Below.drew (Below.refl _ _)), Below.drew h.b, h.hr⟩
theorem MkN.below {rb : Nat} {w0 w w' : World} {v : Value} {E : List Ent} (h : MkN rb w0 w v E) (hb : Below w.heap.size w w') : MkN rb w0 w' v E := ⟨⟨own_below h.own.out hb⟩, fun e he => (h.g e he).later hb, below_through hb h.b.size h.b, h.hr⟩
theorem MkN.hi {rb : Nat} {w0 w : World} {v : Value} {E : List Ent} (h : MkN rb w0 w v E) : ∀ k, v.ownBlock = some k → k < w.heap.size := fun k hk => (h.own.out.lt k hk).2
theorem MkN.lo {rb : Nat} {w0 w : World} {v : Value} {E : List Ent} (h : MkN rb w0 w v E) : ∀ k, v.ownBlock = some k → w0.heap.size ≤ k := fun k hk => (h.own.out.lt k hk).1
theorem MkN.ents {rb : Nat} {w0 w : World} {v : Value} {E : List Ent} (h : MkN rb w0 w v E) : ∃ a c, v = .slice a E.length c ∧ E.length ≤ c ∧ EntsAt w a E := by
  obtain ⟨a', c', hv, hcap, _, hcl⟩ := ents_owned h.own
  exact ⟨a', c', hv, hcap, hcl, fun e he => ⟨(h.g e he).row, (h.g e he).ok⟩⟩
theorem own_lowerN {w : World} {b0 b1 : Nat} {e : TypeId} {k n : Nat} {v : Value} {X : List Value} (h : w.ownsRow b1 e k v n X) (hb : b0 ≤ b1) : w.ownsRow b0 e k v n X := by
  refine ⟨h.1, ?_⟩
  rcases h.2 with h2 | ⟨g, cap, cur, e1, hg, rest⟩
  · exact .inl h2
  · exact .inr ⟨g, cap, cur, e1, Nat.le_trans hb hg, rest⟩
theorem MkN.weak {rb r2 : Nat} {w0 w1 w : World} {v : Value} {E : List Ent} (h : MkN rb w1 w v E) (hb : Below w0.heap.size w0 w1) (hr : rb ≤ r2) (h2 : r2 ≤ w0.heap.size) : MkN r2 w0 w v E :=
  ⟨⟨own_lowerN h.own.out hb.size⟩, fun e he => (h.g e he).lift hr, below_through h.b hb.size hb, h2⟩
/-- A list of entries appended: the run itself. -/
theorem run_appN {rb : Nat} {w0 w : World} {v : Value} {E : List Ent} (hm : MkN rb w0 w v E) (ty : TypeId) (ad : Addr) (F : List Ent) (m c2 : Nat) (hl : F.length = m) (hF : CellsN w (some ad) F) (hg : ∀ e ∈ F, RowG w rb e.a e.r) (hlen : (E.length + F.length) * 40 ≤ 140737488355328) :
    ∃ v' w', (Builtin.append_ #[22, 22] ty #[v, .slice (some ad) m c2]).run Try.prog w = .ok v' w' ∧ MkN rb w0 w' v' (E ++ F) ∧ KeptT 49 w0.heap.size w w' ∧ w.grownBy w' v.ownBlock := by
  obtain ⟨i0, hi, hz0, hz1, hz2⟩ := info_parts infoN
  obtain ⟨v', w', hr, h2, h3, _, h5⟩ := run_append_own_at (P := Try.prog) w w0.heap.size 22 ty 49 i0 (.agg #[.int .i64 0, .int .i64 0, .slice none 0 0]) 3 40 Try.underlying22 hi hz0 hz1 hz2 rfl (by decide) v E.length (cellsN E) hm.own.out ad m c2 (cellsN F) (by rw [cellsN_len, hl])
    (cellsN_of hF) (cellsN_cell F) (by unfold maxLen; omega) (by omega) hm.b.size
  have hK : KeptT 49 w0.heap.size w w' := keptT_grown hm.own.out hm.b.size h3
  refine ⟨v', w', hr, ⟨⟨by rw [cellsN_append, List.length_append, hl]; exact h2⟩, fun e he => ?_, hm.b.grown h3 hm.b.size hm.lo, hm.hr⟩, hK, h3⟩
  rcases List.mem_append.1 he with he | he
  · exact (hm.g e he).keptT hm.hr (by decide) hK
  · exact (hg e he).keptT hm.hr (by decide) hK
theorem one_ent {w : World} {B : Nat} {e : Ent} (h0 : w.cell? ⟨B, 0, none⟩ = some (.int .i64 e.s)) (h1 : w.cell? ⟨B, 1, none⟩ = some (.int .i64 e.n)) (h2 : w.cell? ⟨B, 2, none⟩ = some (.slice e.a e.r.length e.c)) : CellsN w (some ⟨B, 0, none⟩) [e] := fun _ => ⟨B, 0, rfl, fun i hi => by
  obtain rfl : i = 0 := by simp at hi; omega
  exact ⟨h0, h1, h2⟩⟩
/-- An append of entries. -/
theorem wp_appN {w : World} {ops : Array Oper} {rest : List Oper} {o : Oper} {a : Act} {Q : Exit → Act → World → Prop} (hgd : o.guard = none) (s x : Operand)
    (ho : o.op = .call { callee := .builtin .append, args := #[s, x], argTypes := #[22, 22] })
    {rb : Nat} {w0 : World} {v : Value} {E : List Ent} (hs : a.eval s = v) (hm : MkN rb w0 w v E)
    (F : List Ent) (m : Nat) (hl : F.length = m) (a2 : Option Addr) (c2 : Nat) (hx : a.eval x = .slice a2 m c2) (hF : CellsN w a2 F) (hg : ∀ e ∈ F, RowG w rb e.a e.r)
    (hlen : (E.length + F.length) * 40 ≤ 140737488355328)
    (h : ∀ v' w', MkN rb w0 w' v' (E ++ F) → KeptT 49 w0.heap.size w w' → w.grownBy w' v.ownBlock → wpList Try.prog ops Q rest (a.put o.dst v') w') : wpList Try.prog ops Q (o :: rest) a w := by
  refine wpList_plain hgd fun K hK => ?_
  cases a2 with
  | none =>
    obtain rfl : F = [] := by
      by_cases hn : F = []
      · exact hn
      · obtain ⟨b, off, e, _⟩ := hF hn; simp at e
    obtain ⟨i0, hi, hz0, hz1, hz2⟩ := info_parts infoN
    obtain ⟨av, cv, hv, hcv, _, _⟩ := ents_owned hm.own
    have hrun := run_append_none (P := Try.prog) w 22 o.type 49 i0 Try.underlying22 hi av E.length cv c2 hcv
    subst hv
    subst hl
    unfold Oper.wp
    simp only [List.length_nil] at hx
    simp [execOp, ho, resolve, invoke, builtin, hs, hx, hrun, Result.andThen]
    refine hK _ _ (h _ w (by rw [List.append_nil]; exact hm) ⟨Below.refl _ _, fun _ _ _ _ _ hB => hB⟩ ⟨rfl, rfl, rfl, Nat.le_refl _, fun _ _ _ => rfl⟩)
  | some ad =>
    obtain ⟨v', w', hr, h1, h2, h3⟩ := run_appN hm o.type ad F m c2 hl hF hg hlen
    unfold Oper.wp execOp
    simp only [ho, resolve, invoke, builtin, Sem.run_bind, Sem.run_pure, Result.andThen_ok, List.map_toArray, List.map_cons, List.map_nil, hs, hx, hr]
    exact hK _ _ (h v' w' h1 h2 h3)
/-- The same at a step of a region that draws its order, of entries that lie somewhere. -/
theorem step_appN {w : World} {ops : Array Oper} {o : Oper} {a : Act} {K : Act → World → Prop} {Q : Exit → Act → World → Prop} {X : Prop} (hgd : o.guard = none) (s x : Operand)
    (ho : o.op = .call { callee := .builtin .append, args := #[s, x], argTypes := #[22, 22] })
    {rb : Nat} {w0 : World} {v : Value} {E : List Ent} (hs : a.eval s = v) (hm : MkN rb w0 w v E)
    (F : List Ent) (m : Nat) (hl : F.length = m) (ad : Addr) (c2 : Nat) (hx : a.eval x = .slice (some ad) m c2) (hF : CellsN w (some ad) F) (hg : ∀ e ∈ F, RowG w rb e.a e.r)
    (hlen : (E.length + F.length) * 40 ≤ 140737488355328)
    (h : ∀ v' w', MkN rb w0 w' v' (E ++ F) → KeptT 49 w0.heap.size w w' → w.grownBy w' v.ownBlock → K (a.put o.dst v') w') :
    if Region.wanted o (yielded ops a.tmps) = true then Oper.wp Try.prog o a w K Q else X := by
  have hw : Region.wanted o (yielded ops a.tmps) = true := by simp [Region.wanted, hgd]
  rw [if_pos hw]
  obtain ⟨v', w', hr, h1, h2, h3⟩ := run_appN hm o.type ad F m c2 hl hF hg hlen
  unfold Oper.wp execOp
  simp only [ho, resolve, invoke, builtin, Sem.run_bind, Sem.run_pure, Result.andThen_ok, List.map_toArray, List.map_cons, List.map_nil, hs, hx, hr]
  exact h v' w' h1 h2 h3

/-! ### Changed in place -/
theorem varB_ownN {w : World} {base n k : Nat} {e : TypeId} {v : Value} {xs : List Value} (h : w.ownsRow base e k v n xs) {g : Nat} (hg : v.ownBlock = some g) : VarB w g xs := by
  have h0 := h
  obtain ⟨hl, hcase⟩ := h
  rcases hcase with ⟨rfl, _⟩ | ⟨g', cap, cur, rfl, _, hh, hn, _, hsz, ht⟩
  · cases hg
  · cases hg
    have hc := h0.cells (g := g') rfl
    refine ⟨fun j u hj => ?_, fun j hj => ⟨?_, by simp [World.frozen?, hh]⟩, (Array.getElem?_eq_some_iff.1 hh).1⟩
    · have := hc j u hj; rwa [WideShapes.add_plain] at this
    · have := hc j _ (List.getElem?_eq_getElem hj); rw [WideShapes.add_plain] at this; rw [this]; rfl
theorem cellsN_set : ∀ (F : List Ent) (i : Nat) (e : Ent), i < F.length → (((cellsN F).set (i * 3) (.int .i64 e.s)).set (i * 3 + 1) (.int .i64 e.n)).set (i * 3 + 2) (.slice e.a e.r.length e.c) = cellsN (F.set i e)
  | x :: F, 0, e, _ => by simp [cellsN_cons]
  | x :: F, i + 1, e, h => by
    have ih := cellsN_set F i e (by simpa using h)
    rw [List.set_cons_succ, cellsN_cons, cellsN_cons, ← ih, show (i + 1) * 3 = i * 3 + 1 + 1 + 1 by omega]
    simp only [List.set_cons_succ]
theorem cellsN_setRow : ∀ (F : List Ent) (i : Nat) (h : i < F.length) (a : Option Addr) (c : Nat), (cellsN F).set (i * 3 + 2) (.slice a F[i].r.length c) = cellsN (F.set i ⟨F[i].s, F[i].n, a, c, F[i].r⟩)
  | x :: F, 0, _, a, c => by simp [cellsN_cons]
  | x :: F, i + 1, h, a, c => by
    have ih := cellsN_setRow F i (by simpa using h) a c
    rw [cellsN_cons, show (i + 1) * 3 + 2 = (i * 3 + 2) + 1 + 1 + 1 by omega]
    simp only [List.set_cons_succ, List.getElem_cons_succ]
    rw [ih, cellsN_cons]
/-- An entry laid at another one's place. -/
theorem MkN.set {rb : Nat} {w0 w : World} {g cap n : Nat} {F : List Ent} (h : MkN rb w0 w (.slice (some ⟨g, 0, none⟩) n cap) F) (hn : F.length = n) {i : Nat} (hi : i < n) {e : Ent} (he : e ∈ F) :
    MkN rb w0 (w.setCells g (i * 3) [.int .i64 e.s, .int .i64 e.n, .slice e.a e.r.length e.c]) (.slice (some ⟨g, 0, none⟩) n cap) (F.set i e) := by
  subst hn
  have s1 := World.ownsRow.stored h.own.out (i * 3) (.int .i64 e.s)
  have s2 := World.ownsRow.stored s1.1 (i * 3 + 1) (.int .i64 e.n)
  have s3 := World.ownsRow.stored s2.1 (i * 3 + 2) (.slice e.a e.r.length e.c)
  have hg : w.grownBy (w.setCells g (i * 3) [.int .i64 e.s, .int .i64 e.n, .slice e.a e.r.length e.c]) (some g) := World.grownBy.trans (World.grownBy.trans s1.2 s2.2) s3.2
  have hown : OwnN (w.setCells g (i * 3) [.int .i64 e.s, .int .i64 e.n, .slice e.a e.r.length e.c]) w0.heap.size (.slice (some ⟨g, 0, none⟩) F.length cap) (F.set i e) := ⟨by
    have := s3.1
    rw [cellsN_set F i e hi] at this
    rw [List.length_set]
    exact this⟩
  have hlo := h.lo g rfl
  have hm : ∀ y ∈ F.set i e, y ∈ F := fun y hy => by
    rcases List.mem_or_eq_of_mem_set hy with h | rfl
    · exact h
    · exact he
  have hK : KeptT 49 w0.heap.size w (w.setCells g (i * 3) [.int .i64 e.s, .int .i64 e.n, .slice e.a e.r.length e.c]) := keptT_grown h.own.out h.b.size hg
  exact ⟨hown, fun y hy => (h.g y (hm y hy)).keptT h.hr (by decide) hK, h.b.grown hg h.b.size (fun k hk => by cases hk; exact hlo), h.hr⟩
/-- Another row laid for an entry's. -/
theorem MkN.setRow {rb : Nat} {w0 w : World} {g cap n : Nat} {F : List Ent} (h : MkN rb w0 w (.slice (some ⟨g, 0, none⟩) n cap) F) (hn : F.length = n) {i : Nat} (hi : i < F.length) (a : Option Addr) (c : Nat) (hR : RowG w rb a F[i].r) :
    MkN rb w0 (w.setCell ⟨g, i * 3 + 2, none⟩ (.slice a F[i].r.length c)) (.slice (some ⟨g, 0, none⟩) n cap) (F.set i ⟨F[i].s, F[i].n, a, c, F[i].r⟩) := by
  subst hn
  have s1 := World.ownsRow.stored h.own.out (i * 3 + 2) (.slice a F[i].r.length c)
  have hlo := h.lo g rfl
  have hK : KeptT 49 w0.heap.size w (w.setCell ⟨g, i * 3 + 2, none⟩ (.slice a F[i].r.length c)) := keptT_grown h.own.out h.b.size s1.2
  refine ⟨⟨by rw [List.length_set, ← cellsN_setRow F i hi]; exact s1.1⟩, fun y hy => ?_, h.b.grown s1.2 h.b.size (fun k hk => by cases hk; exact hlo), h.hr⟩
  rcases List.mem_or_eq_of_mem_set hy with hy | rfl
  · exact (h.g y hy).keptT h.hr (by decide) hK
  · exact hR.keptT h.hr (by decide) hK
theorem own_cutN {w : World} {base g n cap k size : Nat} {e : TypeId} {xs : List Value} (h : w.ownsRow base e size (.slice (some ⟨g, 0, none⟩) n cap) n xs) (hk : k ≤ n) : w.ownsRow base e size (.slice (some ⟨g, 0, none⟩) k cap) k (xs.take (k * size)) := by
  obtain ⟨hl, hcase⟩ := h
  have hks : k * size ≤ n * size := Nat.mul_le_mul_right _ hk
  rcases hcase with ⟨e1, _⟩ | ⟨g', cap', cur, e1, hb, hh, hnc, hcm, hcs, ht⟩
  · cases e1
  · cases e1
    refine ⟨by rw [List.length_take]; omega, .inr ⟨_, _, cur, rfl, hb, hh, by omega, hcm, hcs, ?_⟩⟩
    rw [← ht, List.take_take, Nat.min_eq_left hks]
theorem own_setsN {w0 : World} {base g n cap size : Nat} {e : TypeId} : ∀ (zs : List Value) (o : Nat) (w : World) (xs : List Value), w.ownsRow base e size (.slice (some ⟨g, 0, none⟩) n cap) n xs → w0.grownBy w (some g) →
    ∃ ys, (w.setCells g o zs).ownsRow base e size (.slice (some ⟨g, 0, none⟩) n cap) n ys ∧ ys.take o = xs.take o ∧ w0.grownBy (w.setCells g o zs) (some g)
  | [], o, w, xs, h, hg => ⟨xs, h, rfl, hg⟩
  | z :: zs, o, w, xs, h, hg => by
    have s1 := World.ownsRow.stored h o z
    obtain ⟨ys, h1, h2, h3⟩ := own_setsN zs (o + 1) (w.setCell ⟨g, o, none⟩ z) _ s1.1 (hg.trans s1.2)
    refine ⟨ys, h1, ?_, h3⟩
    have := congrArg (List.take o) h2
    rw [List.take_take, List.take_take, Nat.min_eq_left (by omega), List.take_set_of_le (by omega)] at this
    exact this
theorem cellsN_take (F : List Ent) : ∀ k, (cellsN F).take (k * 3) = cellsN (F.take k) := by
  induction F with
  | nil => intro k; simp [cellsN]
  | cons x F ih =>
    intro k
    cases k with
    | zero => simp [cellsN]
    | succ k => rw [cellsN_cons, show (k + 1) * 3 = k * 3 + 1 + 1 + 1 by omega, List.take_succ_cons, List.take_succ_cons, List.take_succ_cons, ih, List.take_succ_cons, cellsN_cons]
/-- The list cut to its first k, what is behind them laid anew. -/
theorem MkN.cut {rb : Nat} {w0 w : World} {g cap n k : Nat} {F : List Ent} (h : MkN rb w0 w (.slice (some ⟨g, 0, none⟩) n cap) F) (hn : F.length = n) (hk : k ≤ n) (zs : List Value) :
    MkN rb w0 (w.setCells g (k * 3) zs) (.slice (some ⟨g, 0, none⟩) k cap) (F.take k) := by
  subst hn
  obtain ⟨ys, h1, h2, h3⟩ := own_setsN (w0 := w) zs (k * 3) w _ h.own.out ⟨rfl, rfl, rfl, Nat.le_refl _, fun _ _ _ => rfl⟩
  have hlo := h.lo g rfl
  have hown : OwnN (w.setCells g (k * 3) zs) w0.heap.size (.slice (some ⟨g, 0, none⟩) k cap) (F.take k) := ⟨by
    have := own_cutN h1 hk
    rw [h2, cellsN_take] at this
    rw [List.length_take, Nat.min_eq_left hk]
    exact this⟩
  have hm : ∀ y ∈ F.take k, y ∈ F := fun y hy => List.mem_of_mem_take hy
  have hK : KeptT 49 w0.heap.size w (w.setCells g (k * 3) zs) := keptT_grown h.own.out h.b.size h3
  exact ⟨hown, fun y hy => (h.g y (hm y hy)).keptT h.hr (by decide) hK, h.b.grown h3 h.b.size (fun k hk => by cases hk; exact hlo), h.hr⟩
theorem zeroEnt (w : World) : (zeroValue 49).run Try.prog w = .ok (.agg #[.int .i64 0, .int .i64 0, .slice none 0 0]) w := by kernel_rfl
/-- clear of a list's end. -/
theorem clear_ents (w : World) (b o n c : Nat) (hn : 0 < n) (ht : w.there b o (n * 3)) :
    ∃ zs, ∀ ty, (Builtin.clear_ #[22] ty #[.slice (some ⟨b, o, none⟩) n c]).run Try.prog w = .ok (.tuple #[]) (w.setCells b o zs) := by
  refine ⟨(Builtin.zeroCells (Value.cells (.agg #[.int .i64 0, .int .i64 0, .slice none 0 0])) n).toList, fun ty => ?_⟩
  have hl : (Builtin.zeroCells (Value.cells (.agg #[.int .i64 0, .int .i64 0, .slice none 0 0])) n).toList.length = n * 3 := by simp [Builtin.zeroCells, Value.cells]
  have h1 : ∀ v ∈ (Builtin.zeroCells (Value.cells (.agg #[.int .i64 0, .int .i64 0, .slice none 0 0])) n).toList, v.oneCell' = true := by
    intro v hv
    simp only [Builtin.zeroCells, Value.cells, Array.toList_map, List.mem_map] at hv
    obtain ⟨i, _, rfl⟩ := hv
    rcases (show i % 3 = 0 ∨ i % 3 = 1 ∨ i % 3 = 2 by omega) with h | h | h
    all_goals (show (#[Value.int .i64 0, .int .i64 0, .slice none 0 0][i % 3]!).oneCell' = true; rw [h]; rfl)
  have hst := run_storeCells_cells (P := Try.prog) b o (Builtin.zeroCells (Value.cells (.agg #[.int .i64 0, .int .i64 0, .slice none 0 0])) n).toList 0 w (by intro j hj; rw [hl] at hj; simpa using (ht j hj).1) (by intro j hj; rw [hl] at hj; simpa using (ht j hj).2) h1
  simp only [Nat.add_zero] at hst
  obtain ⟨m, rfl⟩ : ∃ m, n = m + 1 := ⟨n - 1, by omega⟩
  simp [Builtin.clear_, run_underlying Try.underlying22, hst]
theorem wp_putN {P : Program} {ops : Array Oper} {rest : List Oper} {a : Act} {w : World} {Q : Exit → Act → World → Prop} {B o n : Nat} {vs : List Value} {ty tt : TypeId} {x y : Operand} {pos : String} {af : Array Edge} (ht : w.there B o n) (hl : vs.length = n) (h1 : ∀ v ∈ vs, v.oneCell' = true)
    (hi : (P.info? ty).map (·.size) = some n) (hx : a.eval x = .pointer (some ⟨B, o, none⟩)) (hy : a.eval y = .agg vs.toArray)
    (h : wpList P ops Q rest (a.put none undef) (w.setCells B o vs)) : wpList P ops Q (⟨none, .store ty x y, tt, pos, af, none⟩ :: rest) a w :=
  wpList_store_mid rfl ty x y rfl B o vs.toArray hx hy (by simpa [hl] using ht) (by simpa [hl] using hi) (all_oneCell_toArray h1) (by simpa using h)
end Go.Proofs.Ytadidikegfiedaa

/- A log, and changes, that came in, opened: where they lie. Nothing of any program here but the types. Conditions: they hold at most 1048576 values and letters. -/
namespace Go.Proofs.Ytadidikegfiedaa
open Go.ChangeShapes Go.WideShapes Go.ChangeAt Go.RowKit Go.Joins Go.Deep

set_option maxRecDepth 1000000 in
theorem cellsEn16 : Try.prog.cellsOf 49 = 3 := by kernel_rfl
set_option maxRecDepth 1000000 in
theorem cellsLe16 : Try.prog.cellsOf 22 = 1 := by kernel_rfl
set_option maxRecDepth 1000000 in
theorem cellsLg16 : Try.prog.cellsOf 24 = 2 := by kernel_rfl
theorem sum_leN {α : Type} {mu : α → Nat} : ∀ (l : List α) (f : Nat → Nat), (∀ i (h : i < l.length), mu l[i] ≤ f i) → (l.map mu).sum ≤ ((List.range l.length).map f).sum
  | [], _, _ => by simp
  | x :: l, f, h => by
    have h0 := h 0 (by simp)
    have ih := sum_leN l (fun i => f (i + 1)) (fun i hi => h (i + 1) (by simp; omega))
    rw [List.map_cons, List.sum_cons, List.length_cons, List.range_succ_eq_map, List.map_cons, List.sum_cons, List.map_map]
    have e : ((List.range l.length).map (f ∘ Nat.succ)).sum = ((List.range l.length).map (fun i => f (i + 1))).sum := rfl
    rw [e]
    have h0' : mu x ≤ f 0 := h0
    omega
theorem bulk_sum12N {H : Type} : ∀ l : List (DataW H), (l.map Rows.uptoBulk).sum ≤ Rows.uptoBulkAll l
  | [] => by simp
  | x :: l => by
    have := bulk_sum12N l
    simp only [Rows.uptoBulkAll, List.map_cons, List.sum_cons]; omega
theorem three_cells16 {α : Type} : ∀ {l : List α}, l.length = 3 → ∃ a b c, l = [a, b, c]
  | [a, b, c], _ => ⟨a, b, c, rfl⟩
section
variable {H : Type} {enc : TypeId × Value → H} {w : World} {base : Nat} {sp : Nat → Bool} {held : Bool}
theorem trod_s3N {P : Program} {t : TypeId} {f0 f1 f2 : Field} {fuel : Nat} {cs : List Value} {x : DataW H × List MemPlace} (ht : P.underlying t = some (.struct #[f0, f1, f2])) (h : DataW.trod enc P w base sp held fuel t cs = some x) :
    ∃ y0 y1 y2 n, x.1 = .agg [y0.1, y1.1, y2.1] ∧ cs.length = P.cellsOf t ∧ DataW.trod enc P w base sp held n f0.type ((cs.drop f0.offset).take (P.cellsOf f0.type)) = some y0 ∧
      DataW.trod enc P w base sp held n f1.type ((cs.drop f1.offset).take (P.cellsOf f1.type)) = some y1 ∧ DataW.trod enc P w base sp held n f2.type ((cs.drop f2.offset).take (P.cellsOf f2.type)) = some y2 := by
  obtain ⟨xs, n, _, rfl, hl, hlen, hf⟩ := DataW.trod_struct ht h
  match xs, hlen with
  | [y0, y1, y2], _ => exact ⟨y0, y1, y2, n, by simp, hl, by simpa using hf 0 f0 rfl, by simpa using hf 1 f1 rfl, by simpa using hf 2 f2 rfl⟩
theorem open_rowsBN {α : Type} {BB : Nat} {t e : TypeId} {m : Nat} (cl : α → List Value) (R : α → Prop) (mu : α → Nat) (ht : Try.prog.underlying t = some (.slice e)) (hm : 0 < m) (hc : Try.prog.cellsOf e = m) (hcl : ∀ y, (cl y).length = m)
    (each : ∀ {fuel : Nat} {cs : List Value} {x : DataW H × List MemPlace}, Rows.uptoBulk x.1 ≤ BB → DataW.trod enc Try.prog w base sp held fuel e cs = some x → (∀ n ∈ x.1.weights Try.prog e, n ≤ reachBytes) → ∃ y : α, cs = cl y ∧ R y ∧ mu y ≤ Rows.uptoBulk x.1)
    {fuel : Nat} {cs : List Value} {x : DataW H × List MemPlace} (hb : Rows.uptoBulk x.1 ≤ BB) (h : DataW.trod enc Try.prog w base sp held fuel t cs = some x) (hw : ∀ n ∈ x.1.weights Try.prog t, n ≤ reachBytes) :
    ∃ (a : Option Addr) (l : List α) (c : Nat), cs = [.slice a l.length c] ∧ l.length ≤ c ∧ RowC w m a (l.map cl) ∧ (∀ y ∈ l, R y) ∧ l.length ≤ BB ∧ (l.map mu).sum ≤ BB := by
  rcases open_slice ht h with ⟨hcs, _⟩ | ⟨a, len, cap, mm, n3, D, Pl, hcs, _, hl, hmx, hmm, hdx, hi⟩
  · exact ⟨none, [], 0, hcs, Nat.le_refl _, ⟨fun i hi => absurd hi (by simp)⟩, fun x hx => absurd hx (by simp), by simp, by simp⟩
  · have hlm : len ≤ mm := by rw [hmm]; split <;> omega
    have hd : x.1 = .slice ((List.range len).map D) ((List.range (mm - len)).map fun j => D (len + j)) := congrArg Prod.fst hdx
    rw [hd] at hw hb
    simp only [DataW.weights, ht] at hw
    simp only [Rows.uptoBulk] at hb
    have eachx : ∀ i, i < len → ∃ y : α, (∀ j v, (cl y)[j]? = some v → w.cell? ((a.add (i * m)).add j) = some v) ∧ R y ∧ mu y ≤ Rows.uptoBulk (D i) := by
      intro i hil
      obtain ⟨cs', hc', ht'⟩ := hi i (by omega)
      rw [hc] at hc'
      have hmem : D i ∈ (List.range len).map D := List.mem_map.2 ⟨i, List.mem_range.2 hil, rfl⟩
      have hbi := bulk_mem hmem
      obtain ⟨y, rfl, hy⟩ := each (x := (D i, Pl i)) (by show Rows.uptoBulk (D i) ≤ _; omega) ht' (fun n hn => hw n (List.mem_cons_of_mem _ (List.mem_append.2 (.inl (weights_mem_all11 hmem n hn)))))
      obtain ⟨_, hcl', hat⟩ := World.cells?_some hc'
      refine ⟨y, fun j v hv => ?_, hy⟩
      have hj : j < (cl y).length := (List.getElem?_eq_some_iff.1 hv).1
      rw [hat j (by rw [← hcl']; exact hj)]
      exact hv
    obtain ⟨l, hll, hp⟩ := list_of_each len eachx
    subst hll
    have hbl := bulk_len12 ((List.range l.length).map D)
    rw [List.length_map, List.length_range] at hbl
    refine ⟨some a, l, cap, hcs, hl, rowc_of hm (fun x hx => ?_) (fun i hi j v hv => ?_), fun y hy => ?_, by omega, ?_⟩
    · obtain ⟨c, _, rfl⟩ := List.mem_map.1 hx; exact hcl c
    · have hi' : i < l.length := by simpa using hi
      exact (hp i hi').1 j v (by simpa using hv)
    · obtain ⟨i, hi', rfl⟩ := List.mem_iff_getElem.1 hy
      exact (hp i hi').2.1
    · have hs := sum_leN l (fun i => Rows.uptoBulk (D i)) (fun i hi' => (hp i hi').2.2)
      have hb3 := bulk_sum12N ((List.range l.length).map D)
      rw [List.map_map] at hb3
      have hb4 : ((List.range l.length).map (Rows.uptoBulk ∘ D)).sum ≤ BB := by omega
      exact Nat.le_trans hs hb4
set_option maxRecDepth 1000000 in
theorem open_ent16 {fuel : Nat} {cs : List Value} {x : DataW H × List MemPlace} (hb : Rows.uptoBulk x.1 ≤ 1048576) (h : DataW.trod enc Try.prog w base sp held fuel 49 cs = some x) :
    ∃ e : Ent, cs = cellsOneN e ∧ ((RowAt w e.a e.r ∧ rowOK e.r) ∧ in64 e.s) ∧ 3 ≤ Rows.uptoBulk x.1 := by
  obtain ⟨y0, y1, y2, n, hx, hlen, g0, g1, g2⟩ := trod_s3N Try.underlying49 h
  obtain ⟨u0, u1, u2, rfl⟩ := three_cells16 (hlen.trans cellsEn16)
  have c3 : Try.prog.cellsOf 3 = 1 := cells3
  simp only [c3, cellsLv12] at g0 g1 g2
  have hbe := bulk_each hx hb
  obtain ⟨s, e0, _, ws⟩ := DataW.trod_int Try.underlying3 g0
  obtain ⟨m, e1, _, _⟩ := DataW.trod_int Try.underlying3 g1
  obtain ⟨a, l, c, e2, _, hc, hr, hi, hd⟩ := open_row_at12 g2
  simp at e0 e1 e2
  subst e0 e1 e2
  have hb3 : 3 ≤ Rows.uptoBulk x.1 := by
    rw [hx]
    simp only [Rows.uptoBulk, Rows.uptoBulkAll]
    have := bulk_one y0.1
    have := bulk_one y1.1
    have := bulk_one y2.1
    omega
  refine ⟨⟨s, m, a, c, l⟩, rfl, ⟨⟨hr, ?_⟩, bounds_i64 ws⟩, hb3⟩
  by_cases hne : l = []
  · show l.length * 32 ≤ _; rw [hne]; simp
  · obtain ⟨es, sp', e, hle⟩ := hd hne
    have h1 := hbe y2.1 (by simp)
    have h2 := bulk_len12 es
    rw [e] at h1; simp only [Rows.uptoBulk] at h1
    show l.length * 32 ≤ _; omega
theorem sum_three16 {α : Type} : ∀ l : List α, (l.map (fun _ => 3)).sum = l.length * 3
  | [] => rfl
  | x :: l => by rw [List.map_cons, List.sum_cons, sum_three16 l, List.length_cons]; omega
set_option maxRecDepth 1000000 in
/-- A log that came in. -/
theorem open_log {r : Reach} {b0 : Nat} {v : Value} {d : DataW H} {p : List MemPlace} (hv : Value.okWide Try.prog w r b0 24 v) (h : DataW.Trod enc Try.prog w base sp held 24 v d p) (hw : ∀ n ∈ d.weights Try.prog 24, n ≤ reachBytes) (hb : Rows.uptoBulk d ≤ 1048576) :
    ∃ (f : Int) (a : Option Addr) (L : List Ent) (c : Nat), v = .agg #[.int .i64 f, .slice a L.length c] ∧ EntsAt w a L ∧ L.length ≤ 350000 ∧ (∀ e ∈ L, in64 e.s) ∧ in64 f := by
  obtain ⟨cs, rfl, hsz⟩ := okWide_struct Try.underlying24 hv
  obtain ⟨fuel, hf⟩ := h
  obtain ⟨y0, y1, n, hx, hlen, g0, g1⟩ := trod_s2 (x := (d, p)) Try.underlying24 hf
  have hx : d = .agg [y0.1, y1.1] := hx
  have hbe := bulk_each hx hb
  have c3 : Try.prog.cellsOf 3 = 1 := cells3
  simp only [c3, cellsLe16] at g0 g1
  have hw1 : ∀ n ∈ y1.1.weights Try.prog 22, n ≤ reachBytes := fun n hn => hw n (by
    rw [hx]
    simp only [DataW.weights, Try.underlying24]
    exact DataW.weights_mem_each (j := 1) (t := 22) rfl rfl _ hn)
  obtain ⟨f, e0, _, wf⟩ := DataW.trod_int Try.underlying3 g0
  obtain ⟨a, l, c, e1, _, hR, hA, _, hsum⟩ := open_rowsBN cellsOneN (fun e => (RowAt w e.a e.r ∧ rowOK e.r) ∧ in64 e.s) (fun _ => 3) Try.underlying22 (by omega) cellsEn16 (fun _ => rfl) (fun hb h _ => open_ent16 hb h) (hbe y1.1 (by simp)) g1 hw1
  obtain ⟨u0, u1, hcs⟩ := two_cells (show cs.toList.length = 2 by simpa [Value.cells] using hlen.trans cellsLg16)
  simp only [Value.cells, hcs] at e0 e1
  simp at e0 e1
  subst e0 e1
  rw [sum_three16] at hsum
  refine ⟨f, a, l, c, ?_, ⟨fun hn => ?_, fun e he => (hA e he).1⟩, by omega, fun e he => (hA e he).2, bounds_i64 wf⟩
  · rw [← Array.toArray_toList (xs := cs), hcs]
  · obtain ⟨b, o, e, hx⟩ := rowc_all hR (by simpa using hn)
    refine ⟨b, o, e, fun i hi => ?_⟩
    have h0 := hx i (by simpa using hi) 0 (.int .i64 l[i].s) (by simp [cellsOneN])
    have h1 := hx i (by simpa using hi) 1 (.int .i64 l[i].n) (by simp [cellsOneN])
    have h2 := hx i (by simpa using hi) 2 (.slice l[i].a l[i].r.length l[i].c) (by simp [cellsOneN])
    exact ⟨by simpa using h0, h1, h2⟩
end
end Go.Proofs.Ytadidikegfiedaa

/- What slices.Clone makes of a list of entries: the same entries in new memory, their rows where they were: a contract of the call, in whatever memory. Conditions: the list's cells are known. -/
namespace Go.Proofs.Ytadidikegfiedaa
open Go.RowKit

theorem MkN.made (w : World) : MkN w.heap.size w (w.alloc (Obj.cells #[] 49)) (.slice (some ⟨w.heap.size, 0, none⟩) 0 0) [] :=
  ⟨⟨World.ownsRow_made w #[] 0 (Nat.le_refl _) (by unfold maxLen; omega) rfl⟩, fun _ h => absurd h (by simp), (Below.refl _ _).alloc (Nat.le_refl _) _, Nat.le_refl _⟩
set_option maxHeartbeats 1000000 in
theorem cloneN_any (a : Option Addr) (c : Nat) (E : List Ent) (w : World) (h : EntsAt w a E) (hl : E.length ≤ 1100000) :
    Calls Try.prog 37 #[.slice a E.length c] w fun e w' => ∃ v, e = .returned v ∧ MkN w.heap.size w w' v E := by
  have hM0 := MkN.made w
  have hB0 : Below w.heap.size w (w.alloc (Obj.cells #[] 49)) := (Below.refl _ _).alloc (Nat.le_refl _) _
  have HG := hid0 (fun e (he : e ∈ E) => (RowG.of (h.2 e he).1 (h.2 e he).2).later hB0)
  have HC := hid0 (h.1.later hB0)
  obtain ⟨n, hn⟩ : ∃ n, E.length = n := ⟨_, rfl⟩
  have HE := hid0 (fun h0 : a = none => (show E = [] from by
    by_cases hn : E = []
    · exact hn
    · obtain ⟨b, off, e, _⟩ := h.1 hn
      rw [h0] at e; simp at e))
  have HN := hid0 hn
  rw [hn] at hl ⊢
  clear h hn hB0
  cases a with
  | none =>
    have hE := HE.out rfl
    obtain rfl : n = 0 := by rw [← HN.out, hE]; rfl
    rw [hE]
    have hq : ∀ W : World, (binOp .eql 22 (.slice none 0 c) (.slice none 0 0)).run Try.prog W = .ok (.bool true) W := fun W => (Lib.run_eql_slice_nil W _ _ none 0 c 0 0 Try.underlying22)
    clear hE HE HN HG HC hM0
    go_enter Try.func37, Try.ntmps37
    go_wp2
    go_ret
    exact ⟨_, rfl, MkN.nil (Below.refl _ _) (Nat.le_refl _)⟩
  | some ad =>
    have hq : ∀ W : World, (binOp .eql 22 (.slice (some ad) n c) (.slice none 0 0)).run Try.prog W = .ok (.bool false) W := fun W => (Lib.run_eql_slice_nil W _ _ (some ad) n c 0 0 Try.underlying22)
    clear HE
    have HM := hid0 hM0
    clear hM0
    go_enter Try.func37, Try.ntmps37
    go_wp2_with (at_builtin; go_loud (refine wp_appN rfl _ _ rfl rfl HM.out E n HN.out (some ad) c rfl HC.out HG.out (by have := HN.out; simp only [List.length_nil]; omega) ?_))
    intro v' w1 hM1 _ _
    have HM1 := hid0 hM1
    clear hM1 HM HG HC
    go_wp2
    go_ret
    exact ⟨_, rfl, HM1.out⟩
end Go.Proofs.Ytadidikegfiedaa

/- Which entries are wrong, or go: the predicates, and slices.IndexFunc, ContainsFunc over them: contracts of the calls, in whatever memory. Conditions: the list's cells are known; what the predicate has caught lies there. -/
namespace Go.Proofs.Ytadidikegfiedaa
open Go.RowKit

theorem sl3 (e : Ent) : (.agg #[.int .i64 e.s, .int .i64 e.n, .slice e.a e.r.length e.c] : Value) = .agg (cellsOneN e).toArray := rfl
/-- May such an entry not be? -/
def wrongN (f : Int) (e : Ent) : Bool := !okD f (dat e)
/-- A log's box. -/
structure LogB (w : World) (B : Nat) (f : Int) (u : Value) : Prop where
  v : VarB w B [.int .i64 f, u]
theorem LogB.later {w w' : World} {B : Nat} {f : Int} {u : Value} (h : LogB w B f u) (hb : Below w.heap.size w w') : LogB w' B f u := ⟨h.v.below hb⟩
set_option maxHeartbeats 2000000 in
theorem wrong_any (f : Int) (u : Value) (B : Nat) (e : Ent) (w : World) (h : LogB w B f u) :
    Calls Try.prog 33 #[.agg #[.int .i64 e.s, .int .i64 e.n, .slice e.a e.r.length e.c], .pointer (some ⟨B, 0, none⟩)] w fun e' w' => e' = .returned (.bool (wrongN f e)) ∧ Below w.heap.size w w' := by
  obtain ⟨R, hR⟩ : ∃ R, wrongN f e = R := ⟨_, rfl⟩
  have HR : Hid (R = !(decide (e.n = 1 ∨ e.n = -1) && decide (f < e.s))) := hid0 (by rw [← hR]; rfl)
  rw [hR]
  clear hR
  obtain ⟨s, n, a, c, r⟩ := e
  dsimp only at HR ⊢
  by_cases h1 : n = 1
  · subst h1
    by_cases hf : s ≤ f
    · have hd : decide (s ≤ f) = true := by simpa using hf
      obtain rfl : R = true := by rw [HR.out]; simp; omega
      have V := VarB.new w [.int .i64 s, .int .i64 (1), .slice a r.length c] 49
      have v0 := V.cell 0 rfl
      have v1 := V.cell 1 rfl
      have hb1 : Below w.heap.size w (w.alloc (Obj.cells #[.int .i64 s, .int .i64 (1), .slice a r.length c] 49)) := (Below.refl _ _).alloc (Nat.le_refl _) _
      have l0 := cell_later hb1 (h.v.cell 0 rfl)
      clear h V
      go_enter Try.func33, Try.ntmps33
      go_wp2
      go_ret
      exact ⟨rfl, hb1⟩
    · have hd : decide (s ≤ f) = false := by simpa using hf
      obtain rfl : R = false := by rw [HR.out]; simp; omega
      have V := VarB.new w [.int .i64 s, .int .i64 (1), .slice a r.length c] 49
      have v0 := V.cell 0 rfl
      have v1 := V.cell 1 rfl
      have hb1 : Below w.heap.size w (w.alloc (Obj.cells #[.int .i64 s, .int .i64 (1), .slice a r.length c] 49)) := (Below.refl _ _).alloc (Nat.le_refl _) _
      have l0 := cell_later hb1 (h.v.cell 0 rfl)
      clear h V
      go_enter Try.func33, Try.ntmps33
      go_wp2
      go_ret
      exact ⟨rfl, hb1⟩
  by_cases h2 : n = -1
  · subst h2
    by_cases hf : s ≤ f
    · have hd : decide (s ≤ f) = true := by simpa using hf
      obtain rfl : R = true := by rw [HR.out]; simp; omega
      have V := VarB.new w [.int .i64 s, .int .i64 (-1), .slice a r.length c] 49
      have v0 := V.cell 0 rfl
      have v1 := V.cell 1 rfl
      have hb1 : Below w.heap.size w (w.alloc (Obj.cells #[.int .i64 s, .int .i64 (-1), .slice a r.length c] 49)) := (Below.refl _ _).alloc (Nat.le_refl _) _
      have l0 := cell_later hb1 (h.v.cell 0 rfl)
      clear h V
      go_enter Try.func33, Try.ntmps33
      go_wp2
      go_ret
      exact ⟨rfl, hb1⟩
    · have hd : decide (s ≤ f) = false := by simpa using hf
      obtain rfl : R = false := by rw [HR.out]; simp; omega
      have V := VarB.new w [.int .i64 s, .int .i64 (-1), .slice a r.length c] 49
      have v0 := V.cell 0 rfl
      have v1 := V.cell 1 rfl
      have hb1 : Below w.heap.size w (w.alloc (Obj.cells #[.int .i64 s, .int .i64 (-1), .slice a r.length c] 49)) := (Below.refl _ _).alloc (Nat.le_refl _) _
      have l0 := cell_later hb1 (h.v.cell 0 rfl)
      clear h V
      go_enter Try.func33, Try.ntmps33
      go_wp2
      go_ret
      exact ⟨rfl, hb1⟩
  have e1 : (n == 1) = false := by simpa using h1
  have e2 : (n == -1) = false := by simpa using h2
  obtain rfl : R = true := by rw [HR.out]; simp [h1, h2]
  have V := VarB.new w [.int .i64 s, .int .i64 n, .slice a r.length c] 49
  have v0 := V.cell 0 rfl
  have v1 := V.cell 1 rfl
  have hb1 : Below w.heap.size w (w.alloc (Obj.cells #[.int .i64 s, .int .i64 n, .slice a r.length c] 49)) := (Below.refl _ _).alloc (Nat.le_refl _) _
  have l0 := cell_later hb1 (h.v.cell 0 rfl)
  clear h V
  go_enter Try.func33, Try.ntmps33
  go_wp2
  go_ret
  exact ⟨rfl, hb1⟩
set_option maxHeartbeats 2000000 in
theorem goes_any (k : Int) (B : Nat) (e : Ent) (w : World) (h : w.cell? ⟨B, 0, none⟩ = some (.int .i64 k)) :
    Calls Try.prog 41 #[.agg #[.int .i64 e.s, .int .i64 e.n, .slice e.a e.r.length e.c], .pointer (some ⟨B, 0, none⟩)] w fun e' w' => e' = .returned (.bool (decide (e.s ≤ k))) ∧ Below w.heap.size w w' := by
  have V := VarB.new w [.int .i64 e.s, .int .i64 e.n, .slice e.a e.r.length e.c] 49
  have v0 := V.cell 0 rfl
  have hb1 : Below w.heap.size w (w.alloc (Obj.cells #[.int .i64 e.s, .int .i64 e.n, .slice e.a e.r.length e.c] 49)) := (Below.refl _ _).alloc (Nat.le_refl _) _
  have l0 := cell_later hb1 h
  clear h V
  obtain ⟨R, hR⟩ : ∃ R, decide (e.s ≤ k) = R := ⟨_, rfl⟩
  rw [hR]
  go_enter Try.func41, Try.ntmps41
  go_wp2
  go_ret
  exact ⟨rfl, hb1⟩
end Go.Proofs.Ytadidikegfiedaa

/- The first entry that a predicate tells of (slices.IndexFunc, ContainsFunc): contracts of the calls, in whatever memory. Conditions: the list's cells are known; the predicate answers whenever it is asked. -/
namespace Go.Proofs.Ytadidikegfiedaa
open Go.RowKit

theorem all_nextN {q : Ent → Bool} {E : List Ent} {i : Nat} (h : i < E.length) (h0 : (E.take i).all (fun x => !q x) = true) (h1 : q E[i] = false) : (E.take (i + 1)).all (fun x => !q x) = true := by
  rw [List.take_succ_eq_append_getElem h, List.all_append, h0]; simp [h1]
/-- The first one's place, or -1. -/
def FirstN (E : List Ent) (q : Ent → Bool) (r : Int) : Prop := (r = -1 ∧ E.all (fun x => !q x) = true) ∨ ∃ i : Nat, r = i ∧ ∃ h : i < E.length, q E[i] = true ∧ (E.take i).all (fun x => !q x) = true
/-- What tells of each entry, whenever it is asked. -/
structure AskW (w0 : World) (vb : Nat) (E : List Ent) (q : Ent → Bool) : Prop where
  out : ∀ e ∈ E, ∀ W, Below w0.heap.size w0 W → Calls Try.prog 33 #[.agg #[.int .i64 e.s, .int .i64 e.n, .slice e.a e.r.length e.c], .pointer (some ⟨vb, 0, none⟩)] W fun e' w' => e' = .returned (.bool (q e)) ∧ Below W.heap.size W w'
set_option maxHeartbeats 1000000 in
theorem indexW_any (vb : Nat) (a : Option Addr) (c : Nat) (E : List Ent) (q : Ent → Bool) (w0 w : World) (h : EntsAt w a E) (hfew : E.length ≤ 1100000) (hb0 : Below w0.heap.size w0 w) (CP : AskW w0 vb E q) :
    Calls Try.prog 47 #[.slice a E.length c, .func (.func 33) #[] #[.pointer (some ⟨vb, 0, none⟩)]] w fun e w' => (∃ r : Int, e = .returned (.int .i64 r) ∧ FirstN E q r) ∧ Below w.heap.size w w' := by
  have A := hid0 h
  have HC := hid0 CP
  have HB0 := hid0 hb0
  clear h CP hb0
  go_enter Try.func47, Try.ntmps47
  go_wp2
  go_loopw [8] (fun iv wr => ∃ i : Nat, i ≤ E.length ∧ iv = .int .i64 i ∧ Hid ((E.take i).all (fun x => !q x) = true) ∧ Below w.heap.size w wr) (fun iv _ => E.length - (intOf iv).toNat)
  case atStart => exact ⟨0, Nat.zero_le _, rfl, hid0 rfl, Below.refl _ _⟩
  case round =>
    obtain ⟨i, hi, rfl, hO, hB⟩ := hrel
    have hsz := hB.size
    by_cases hlt : i < E.length
    · obtain ⟨b1, o1, rfl, hc1⟩ := (A.out.1.later hB) (by intro e; rw [e] at hlt; exact absurd hlt (by simp))
      obtain ⟨q0, q1, q2⟩ := hc1 i hlt
      clear hc1
      have hmem := List.getElem_mem hlt
      have hnext := hid0 (fun hf => all_nextN hlt hO.out hf)
      have CX := HC.out.out _ hmem wr (below_through hB HB0.out.size HB0.out)
      have HF := hid0 (fun hx : q E[i] = true => (Or.inr ⟨i, rfl, hlt, hx, hO.out⟩ : FirstN E q (i : Int)))
      generalize E[i] = x at q0 q1 q2 hmem hnext CX HF
      have CX := hid0 CX
      have hBZ := hB
      clear hmem
      generalize q x = ra at CX hnext HF
      cases ra with
      | true =>
        go_wp2_with (go_at_call 33; go_must (refine CX.out.mono ?_; rintro e wn ⟨rfl, hbn⟩))
        go_ret
        exact ⟨⟨i, rfl, HF.out (by trivial)⟩, below_through hbn hsz hB⟩
      | false =>
        go_wp2_with (go_at_call 33; go_must (refine CX.out.mono ?_; rintro e wn ⟨rfl, hbn⟩))
        exact ⟨⟨i + 1, by omega, by go_num, hid0 (hnext.out (by trivial)), below_through hbn hsz hB⟩, by simp [intOf]; omega⟩
    · have hie : ¬ (i : Int) < E.length := by omega
      rw [List.take_of_length_le (by omega)] at hO
      go_wp2
      go_ret
      exact ⟨⟨-1, rfl, Or.inl ⟨rfl, hO.out⟩⟩, hB⟩
/-- What tells of each entry, whenever it is asked. -/
structure AskG (w0 : World) (vb : Nat) (E : List Ent) (q : Ent → Bool) : Prop where
  out : ∀ e ∈ E, ∀ W, Below w0.heap.size w0 W → Calls Try.prog 41 #[.agg #[.int .i64 e.s, .int .i64 e.n, .slice e.a e.r.length e.c], .pointer (some ⟨vb, 0, none⟩)] W fun e' w' => e' = .returned (.bool (q e)) ∧ Below W.heap.size W w'
set_option maxHeartbeats 1000000 in
theorem indexG_any (vb : Nat) (a : Option Addr) (c : Nat) (E : List Ent) (q : Ent → Bool) (w0 w : World) (h : EntsAt w a E) (hfew : E.length ≤ 1100000) (hb0 : Below w0.heap.size w0 w) (CP : AskG w0 vb E q) :
    Calls Try.prog 47 #[.slice a E.length c, .func (.func 41) #[] #[.pointer (some ⟨vb, 0, none⟩)]] w fun e w' => (∃ r : Int, e = .returned (.int .i64 r) ∧ FirstN E q r) ∧ Below w.heap.size w w' := by
  have A := hid0 h
  have HC := hid0 CP
  have HB0 := hid0 hb0
  clear h CP hb0
  go_enter Try.func47, Try.ntmps47
  go_wp2
  go_loopw [8] (fun iv wr => ∃ i : Nat, i ≤ E.length ∧ iv = .int .i64 i ∧ Hid ((E.take i).all (fun x => !q x) = true) ∧ Below w.heap.size w wr) (fun iv _ => E.length - (intOf iv).toNat)
  case atStart => exact ⟨0, Nat.zero_le _, rfl, hid0 rfl, Below.refl _ _⟩
  case round =>
    obtain ⟨i, hi, rfl, hO, hB⟩ := hrel
    have hsz := hB.size
    by_cases hlt : i < E.length
    · obtain ⟨b1, o1, rfl, hc1⟩ := (A.out.1.later hB) (by intro e; rw [e] at hlt; exact absurd hlt (by simp))
      obtain ⟨q0, q1, q2⟩ := hc1 i hlt
      clear hc1
      have hmem := List.getElem_mem hlt
      have hnext := hid0 (fun hf => all_nextN hlt hO.out hf)
      have CX := HC.out.out _ hmem wr (below_through hB HB0.out.size HB0.out)
      have HF := hid0 (fun hx : q E[i] = true => (Or.inr ⟨i, rfl, hlt, hx, hO.out⟩ : FirstN E q (i : Int)))
      generalize E[i] = x at q0 q1 q2 hmem hnext CX HF
      have CX := hid0 CX
      have hBZ := hB
      clear hmem
      generalize q x = ra at CX hnext HF
      cases ra with
      | true =>
        go_wp2_with (go_at_call 41; go_must (refine CX.out.mono ?_; rintro e wn ⟨rfl, hbn⟩))
        go_ret
        exact ⟨⟨i, rfl, HF.out (by trivial)⟩, below_through hbn hsz hB⟩
      | false =>
        go_wp2_with (go_at_call 41; go_must (refine CX.out.mono ?_; rintro e wn ⟨rfl, hbn⟩))
        exact ⟨⟨i + 1, by omega, by go_num, hid0 (hnext.out (by trivial)), below_through hbn hsz hB⟩, by simp [intOf]; omega⟩
    · have hie : ¬ (i : Int) < E.length := by omega
      rw [List.take_of_length_le (by omega)] at hO
      go_wp2
      go_ret
      exact ⟨⟨-1, rfl, Or.inl ⟨rfl, hO.out⟩⟩, hB⟩
set_option maxHeartbeats 1000000 in
theorem containsW_any (vb : Nat) (a : Option Addr) (c : Nat) (E : List Ent) (q : Ent → Bool) (w0 w : World) (h : EntsAt w a E) (hfew : E.length ≤ 1100000) (hb0 : Below w0.heap.size w0 w) (CP : AskW w0 vb E q) :
    Calls Try.prog 34 #[.slice a E.length c, .func (.func 33) #[] #[.pointer (some ⟨vb, 0, none⟩)]] w fun e w' => e = .returned (.bool (E.any q)) ∧ Below w.heap.size w w' := by
  have H := hid0 (indexW_any vb a c E q w0 w h hfew hb0 CP)
  obtain ⟨R, hR⟩ : ∃ R, E.any q = R := ⟨_, rfl⟩
  have HR := hid0 hR
  rw [hR]
  clear h CP hR hb0
  go_enter Try.func34, Try.ntmps34
  go_wp2_with fail
  go_at_call 47
  refine H.out.mono ?_
  rintro e w1 ⟨⟨r, rfl, hF⟩, hb⟩
  rcases hF with ⟨rfl, hall⟩ | ⟨i, rfl, hi, hq, _⟩
  · obtain rfl : R = false := by
      rw [← HR.out, ← Bool.not_eq_true]
      intro hx
      obtain ⟨x, hx, hqx⟩ := List.any_eq_true.1 hx
      have := List.all_eq_true.1 hall x hx
      rw [hqx] at this; cases this
    clear hall
    go_wp2
    go_ret
    exact ⟨rfl, hb⟩
  · obtain rfl : R = true := by
      rw [← HR.out]
      exact List.any_eq_true.2 ⟨_, List.getElem_mem hi, hq⟩
    have hge : (0 : Int) ≤ (i : Int) := by omega
    clear hq hi
    go_wp2
    go_ret
    exact ⟨rfl, hb⟩
end Go.Proofs.Ytadidikegfiedaa
