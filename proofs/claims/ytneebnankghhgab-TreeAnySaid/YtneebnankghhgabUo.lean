/- Several of my texts laid together, each as it was: Uo. Conditions: each names its own. -/
import Derived.Test.YtneebnankghhgabUn
import Derived.Test.YtneebnankghhgabSvP
import Derived.Test.YtneebnankghhgabSvL
import Derived.Test.YtneebnankghhgabYP
import Derived.Test.YtneebnankghhgabYL
import Derived.Laws.StructEq
/- Three trees side by side: one of numbers, one of pairs, one of lists: what they have is alike; what one tree's store leaves of another one. Nothing of any program here. Conditions: each lemma names its own. -/
namespace Go.Proofs.Ytneebnankghhgab
open Go.RowKit

/-! ### Pairs -/
def gP (y : Key × Int) : Key × (Int × Key) := (y.1, (y.2, y.1))
theorem gP_ins (k : Key) (n : Int) : ∀ L : List (Key × Int), (insA k n L).map gP = insA k (n, k) (L.map gP)
  | [] => rfl
  | x :: L => by
    have e : (gP x).1 = x.1 := rfl
    show (insA k n (x :: L)).map gP = insA k (n, k) (gP x :: L.map gP)
    simp only [insA, e]
    by_cases h : x.1 < k
    · rw [if_pos h, if_pos h, List.map_cons, gP_ins k n L]
    · rw [if_neg h, if_neg h]
      by_cases h2 : x.1 = k
      · rw [if_pos h2, if_pos h2]; rfl
      · rw [if_neg h2, if_neg h2]; rfl
theorem gP_del (k : Key) : ∀ L : List (Key × Int), (delA k L).map gP = delA k (L.map gP)
  | [] => rfl
  | x :: L => by
    have e : (gP x).1 = x.1 := rfl
    show (delA k (x :: L)).map gP = delA k (gP x :: L.map gP)
    simp only [delA, e]
    by_cases h : x.1 = k
    · rw [if_pos h, if_pos h]
    · rw [if_neg h, if_neg h, List.map_cons, gP_del k L]
theorem gP_get (k : Key) : ∀ L : List (Key × Int), getA k (L.map gP) = (getA k L).map (fun n => (n, k))
  | [] => rfl
  | x :: L => by
    have e : (gP x).1 = x.1 := rfl
    show getA k (gP x :: L.map gP) = _
    simp only [getA, e]
    by_cases h : x.1 = k
    · rw [if_pos h, if_pos h]; subst h; rfl
    · rw [if_neg h, if_neg h, gP_get k L]
theorem gP_keys (L : List (Key × Int)) : (L.map gP).map (·.1) = L.map (·.1) := by rw [List.map_map]; rfl
theorem getA_mem3 {L : List (Key × Int)} {x : Key × Int} (h : Asc L) (hx : x ∈ L) : getA x.1 L = some x.2 := by
  induction L with
  | nil => cases hx
  | cons y L ih =>
    simp only [getA]
    rcases List.mem_cons.1 hx with rfl | hx
    · rw [if_pos rfl]
    · have h1 : y.1 < x.1 := (List.pairwise_cons.1 h).1 x hx
      rw [if_neg (fun e => by rw [e] at h1; exact absurd h1 (List.lt_irrefl _))]
      exact ih (List.pairwise_cons.1 h).2 hx
theorem flt_none {β : Type} (L : List (Key × β)) : flt [] [] L = L := by
  unfold flt
  rw [List.filter_eq_self]
  intro x _
  unfold inR
  simp

/-! ### Lists of one number -/
/-- The tree's lists hold the numbers. -/
def Tw (w : World) (pb : Nat) : List (Key × Nat) → List (Key × Int) → Prop
  | [], [] => True
  | y :: B, x :: L => (y.1 = x.1 ∧ pb < y.2 ∧ w.cell? ⟨y.2, 0, none⟩ = some (.int .i64 x.2)) ∧ Tw w pb B L
  | _, _ => False
theorem tw_mono {w w' : World} {pb : Nat} (hw : ∀ b u, pb < b → w.cell? ⟨b, 0, none⟩ = some u → w'.cell? ⟨b, 0, none⟩ = some u) : ∀ {B : List (Key × Nat)} {L : List (Key × Int)}, Tw w pb B L → Tw w' pb B L
  | [], [], _ => trivial
  | _ :: _, _ :: _, h => ⟨⟨h.1.1, h.1.2.1, hw _ _ h.1.2.1 h.1.2.2⟩, tw_mono hw h.2⟩
  | [], _ :: _, h => h.elim
  | _ :: _, [], h => h.elim
theorem tw_ins {w : World} {pb b : Nat} {k : Key} {n : Int} (hb : pb < b) (hc : w.cell? ⟨b, 0, none⟩ = some (.int .i64 n)) : ∀ {B : List (Key × Nat)} {L : List (Key × Int)}, Tw w pb B L → Tw w pb (insA k b B) (insA k n L)
  | [], [], _ => ⟨⟨rfl, hb, hc⟩, trivial⟩
  | y :: B, x :: L, h => by
    simp only [insA, h.1.1]
    by_cases h1 : x.1 < k
    · rw [if_pos h1, if_pos h1]; exact ⟨h.1, tw_ins hb hc h.2⟩
    · rw [if_neg h1, if_neg h1]
      by_cases h2 : x.1 = k
      · rw [if_pos h2, if_pos h2]; exact ⟨⟨rfl, hb, hc⟩, h.2⟩
      · rw [if_neg h2, if_neg h2]; exact ⟨⟨rfl, hb, hc⟩, h⟩
  | [], _ :: _, h => h.elim
  | _ :: _, [], h => h.elim
theorem tw_del {w : World} {pb : Nat} {k : Key} : ∀ {B : List (Key × Nat)} {L : List (Key × Int)}, Tw w pb B L → Tw w pb (delA k B) (delA k L)
  | [], [], _ => trivial
  | y :: B, x :: L, h => by
    simp only [delA, h.1.1]
    by_cases h2 : x.1 = k
    · rw [if_pos h2, if_pos h2]; exact h.2
    · rw [if_neg h2, if_neg h2]; exact ⟨h.1, tw_del h.2⟩
  | [], _ :: _, h => h.elim
  | _ :: _, [], h => h.elim
theorem tw_get {w : World} {pb : Nat} {k : Key} {n : Int} : ∀ {B : List (Key × Nat)} {L : List (Key × Int)}, Tw w pb B L → getA k L = some n → ∃ b, getA k B = some b ∧ w.cell? ⟨b, 0, none⟩ = some (.int .i64 n)
  | [], [], _, h => by cases h
  | y :: B, x :: L, h, hg => by
    simp only [getA] at hg
    simp only [getA, h.1.1]
    by_cases h2 : x.1 = k
    · rw [if_pos h2] at hg ⊢
      cases hg
      exact ⟨_, rfl, h.1.2.2⟩
    · rw [if_neg h2] at hg ⊢
      exact tw_get h.2 hg
  | [], _ :: _, h, _ => h.elim
  | _ :: _, [], h, _ => h.elim
theorem tw_keys {w : World} {pb : Nat} : ∀ {B : List (Key × Nat)} {L : List (Key × Int)}, Tw w pb B L → B.map (·.1) = L.map (·.1)
  | [], [], _ => rfl
  | y :: B, x :: L, h => by rw [List.map_cons, List.map_cons, h.1.1, tw_keys h.2]
  | [], _ :: _, h => h.elim
  | _ :: _, [], h => h.elim

/-! ### Trees side by side -/
/-- All blocks but two trees' own cells. -/
def Two (pa pb : Nat) (q : Nat) : Prop := q ≠ pa ∧ q ≠ pb
theorem TreeAt.turnO {β : Type} {kv : Nat} {ec : β → List Value} {P : Nat → Prop} {w w' : World} {B V order : Nat} {L : List (Key × β)} (h : TreeAt kv ec P w B order L) (hT : Turn V w w') (hV : ¬ P V) (hne : B ≠ V) : TreeAt kv ec P w' B order L := by
  obtain ⟨n, b, t, h0, h1, h2, h3⟩ := h.root
  exact ⟨hT.cell hne h.c0, hT.cell hne h.c1, ⟨n, b, t, hT.cell hne h0, h1, h2.keep (fun b o u hb hc => hT.cell (fun e => hV (e ▸ hb)) hc), h3⟩, fun j => (hT.frozen hne h.lt).trans (h.f j), h.lo, h.hi, h.out⟩
/-- The tree of pairs and the tree of lists, behind the same steps as numbers L. -/
structure Trip (wg wr : World) (pa pb o : Nat) (L : List (Key × Int)) : Prop where
  ta : TAP (Two pa pb) wr pa o (L.map gP)
  tb : ∃ B, TAL (Two pa pb) wr pb o B ∧ Tw wr pb B L
  keep : Below wg.heap.size wg wr
  lo : wg.heap.size ≤ pa
  lt : pa < pb
theorem Trip.later {wg w w' : World} {pa pb o : Nat} {L : List (Key × Int)} (h : Trip wg w pa pb o L) (hb : Below w.heap.size w w') : Trip wg w' pa pb o L := by
  obtain ⟨B, h1, h2⟩ := h.tb
  exact ⟨h.ta.later hb, ⟨B, h1.later hb, tw_mono (fun b u _ hc => cell_later hb hc) h2⟩, below_through hb h.keep.size h.keep, h.lo, h.lt⟩
theorem Trip.new {w : World} {pa pb q : Nat} (h1 : pa < w.heap.size) (h2 : pb < w.heap.size) (hq : w.heap.size ≤ q) : Two pa pb q := ⟨by omega, by omega⟩
theorem two_a (pa pb : Nat) : ¬ Two pa pb pa := fun h => h.1 rfl
theorem two_b (pa pb : Nat) : ¬ Two pa pb pb := fun h => h.2 rfl
theorem tw_len {w : World} {pb : Nat} {B : List (Key × Nat)} {L : List (Key × Int)} (h : Tw w pb B L) : B.length = L.length := by
  have := congrArg List.length (tw_keys h); simpa using this
/-- Between the two stores: the tree of pairs has gone on, the other one not. -/
structure Half (wg wr : World) (pa pb o : Nat) (L' L : List (Key × Int)) : Prop where
  ta : TAP (Two pa pb) wr pa o (L'.map gP)
  tb : ∃ B, TAL (Two pa pb) wr pb o B ∧ Tw wr pb B L
  keep : Below wg.heap.size wg wr
  lo : wg.heap.size ≤ pa
  lt : pa < pb
theorem Half.later {wg w w' : World} {pa pb o : Nat} {L' L : List (Key × Int)} (h : Half wg w pa pb o L' L) (hb : Below w.heap.size w w') : Half wg w' pa pb o L' L := by
  obtain ⟨B, h1, h2⟩ := h.tb
  exact ⟨h.ta.later hb, ⟨B, h1.later hb, tw_mono (fun b u _ hc => cell_later hb hc) h2⟩, below_through hb h.keep.size h.keep, h.lo, h.lt⟩
theorem Trip.half {wg w w' : World} {pa pb o : Nat} {L L' : List (Key × Int)} (h : Trip wg w pa pb o L) (hA : TAP (Two pa pb) w' pa o (L'.map gP)) (hT : Turn pa w w') : Half wg w' pa pb o L' L := by
  obtain ⟨B, h1, h2⟩ := h.tb
  have hlt := h.lt
  exact ⟨hA, ⟨B, h1.turnO hT (two_a _ _) (by omega), tw_mono (fun b u hb hc => hT.cell (by omega) hc) h2⟩, below_turn h.keep hT h.lo, h.lo, h.lt⟩
theorem Half.put_any {wg w : World} {pa pb o b : Nat} {L' L : List (Key × Int)} {k : Key} {n : Int} (h : Half wg w pa pb o L' L) (hl : L.length ≤ 400) (hb : pb < b) (hc : w.cell? ⟨b, 0, none⟩ = some (.int .i64 n)) (hL : L' = insA k n L) :
    Calls Try.prog 9 #[.pointer (some ⟨pb, 0, none⟩), .string (txt k), vL b] w fun e w' => (∃ v, e = .returned v) ∧ Trip wg w' pa pb o L' ∧ Turn pb w w' := by
  obtain ⟨B, h1, h2⟩ := h.tb
  have hll := tw_len h2
  have hlt := h.lt
  have hpl := h.ta.lt
  have hbl := h1.lt
  refine (putLT_any (Two pa pb) pb o B k b w h1 (by omega) (fun q hq => Trip.new hpl hbl hq)).mono ?_
  rintro e w' ⟨rfl, hT, hTu⟩
  refine ⟨⟨_, rfl⟩, ⟨h.ta.turnO hTu (two_b _ _) (by omega), ⟨_, hT, ?_⟩, below_turn h.keep hTu (by have := h.lo; omega), h.lo, h.lt⟩, hTu⟩
  rw [hL]
  exact tw_mono (fun b u hb hc => hTu.cell (by omega) hc) (tw_ins hb hc h2)
theorem Half.cut_any {wg w : World} {pa pb o : Nat} {L' L : List (Key × Int)} {k : Key} (h : Half wg w pa pb o L' L) (hl : L.length ≤ 400) (hL : L' = delA k L) :
    Calls Try.prog 11 #[.pointer (some ⟨pb, 0, none⟩), .string (txt k)] w fun e w' => (∃ v, e = .returned v) ∧ Trip wg w' pa pb o L' ∧ Turn pb w w' := by
  obtain ⟨B, h1, h2⟩ := h.tb
  have hll := tw_len h2
  have hlt := h.lt
  have hpl := h.ta.lt
  have hbl := h1.lt
  refine (cutLT_any (Two pa pb) pb o B k w h1 (by omega) (fun q hq => Trip.new hpl hbl hq)).mono ?_
  rintro e w' ⟨rfl, hT, hTu⟩
  refine ⟨⟨_, rfl⟩, ⟨h.ta.turnO hTu (two_b _ _) (by omega), ⟨_, hT, ?_⟩, below_turn h.keep hTu (by have := h.lo; omega), h.lo, h.lt⟩, hTu⟩
  rw [hL]
  exact tw_mono (fun b u hb hc => hTu.cell (by omega) hc) (tw_del h2)
theorem Trip.putP_any {wg w : World} {pa pb o : Nat} {L : List (Key × Int)} (k : Key) (n : Int) (h : Trip wg w pa pb o L) (hl : L.length ≤ 400) :
    Calls Try.prog 8 #[.pointer (some ⟨pa, 0, none⟩), .string (txt k), .agg #[.int .i64 n, .string (txt k)]] w fun e w' => (∃ v, e = .returned v) ∧ Half wg w' pa pb o (insA k n L) L ∧ Turn pa w w' := by
  obtain ⟨B, h1, h2⟩ := h.tb
  have hpl := h.ta.lt
  have hbl := h1.lt
  refine (putPT_any (Two pa pb) pa o (L.map gP) k (n, k) w h.ta (by rw [List.length_map]; omega) (fun q hq => Trip.new hpl hbl hq)).mono ?_
  rintro e w' ⟨rfl, hT, hTu⟩
  rw [← gP_ins] at hT
  exact ⟨⟨_, rfl⟩, h.half hT hTu, hTu⟩
theorem Trip.cutP_any {wg w : World} {pa pb o : Nat} {L : List (Key × Int)} (k : Key) (h : Trip wg w pa pb o L) (hl : L.length ≤ 400) :
    Calls Try.prog 10 #[.pointer (some ⟨pa, 0, none⟩), .string (txt k)] w fun e w' => (∃ v, e = .returned v) ∧ Half wg w' pa pb o (delA k L) L ∧ Turn pa w w' := by
  obtain ⟨B, h1, h2⟩ := h.tb
  have hpl := h.ta.lt
  have hbl := h1.lt
  refine (cutPT_any (Two pa pb) pa o (L.map gP) k w h.ta (by rw [List.length_map]; omega) (fun q hq => Trip.new hpl hbl hq)).mono ?_
  rintro e w' ⟨rfl, hT, hTu⟩
  rw [← gP_del] at hT
  exact ⟨⟨_, rfl⟩, h.half hT hTu, hTu⟩
theorem Trip.getP {wg w : World} {pa pb o : Nat} {L : List (Key × Int)} {k : Key} {n : Int} (h : Trip wg w pa pb o L) (hg : getA k L = some n) :
    Calls Try.prog 14 #[.pointer (some ⟨pa, 0, none⟩), .string (txt k)] w fun e w' => e = .returned (.tuple #[.agg #[.int .i64 n, .string (txt k)], .bool true]) ∧ Below w.heap.size w w' := by
  have H := getP_any (Two pa pb) pa o (L.map gP) k w h.ta
  rw [gP_get, hg] at H
  exact H
theorem Trip.getL {wg w : World} {pa pb o : Nat} {L : List (Key × Int)} {k : Key} {n : Int} (h : Trip wg w pa pb o L) (hg : getA k L = some n) :
    ∃ b, w.cell? ⟨b, 0, none⟩ = some (.int .i64 n) ∧ Calls Try.prog 15 #[.pointer (some ⟨pb, 0, none⟩), .string (txt k)] w fun e w' => e = .returned (.tuple #[.slice (some ⟨b, 0, none⟩) 1 1, .bool true]) ∧ Below w.heap.size w w' := by
  obtain ⟨B, h1, h2⟩ := h.tb
  obtain ⟨b, hb, hc⟩ := tw_get h2 hg
  have H := getL_any (Two pa pb) pb o B k w h1
  rw [hb] at H
  exact ⟨b, hc, H⟩
theorem Trip.keysP {wg w : World} {pa pb o : Nat} {L : List (Key × Int)} (h : Trip wg w pa pb o L) (hl : L.length ≤ 400) :
    Calls Try.prog 17 #[.pointer (some ⟨pa, 0, none⟩), .string (txt []), .string (txt [])] w fun e w1 => (∃ a c, e = .returned (.slice a L.length c) ∧ Sl 1 sk (fun b => w.heap.size ≤ b) w1 (.slice a L.length c) (L.map (·.1))) ∧ Below w.heap.size w w1 := by
  refine (keysP_any _ pa o (L.map gP) [] [] w h.ta (by rw [List.length_map]; omega)).mono ?_
  rintro e w1 ⟨⟨v, rfl, hS⟩, hb⟩
  rw [flt_none, gP_keys] at hS
  obtain ⟨a, n, c, rfl⟩ := hS.shape
  obtain ⟨hn, _⟩ := hS.len
  rw [List.length_map] at hn
  subst hn
  exact ⟨⟨a, c, rfl, hS⟩, hb⟩
theorem Trip.keysL {wg w : World} {pa pb o : Nat} {L : List (Key × Int)} (h : Trip wg w pa pb o L) (hl : L.length ≤ 400) :
    Calls Try.prog 18 #[.pointer (some ⟨pb, 0, none⟩), .string (txt []), .string (txt [])] w fun e w1 => (∃ a c, e = .returned (.slice a L.length c) ∧ Sl 1 sk (fun b => w.heap.size ≤ b) w1 (.slice a L.length c) (L.map (·.1))) ∧ Below w.heap.size w w1 := by
  obtain ⟨B, h1, h2⟩ := h.tb
  have hll := tw_len h2
  refine (keysL_any _ pb o B [] [] w h1 (by omega)).mono ?_
  rintro e w1 ⟨⟨v, rfl, hS⟩, hb⟩
  rw [flt_none, tw_keys h2] at hS
  obtain ⟨a, n, c, rfl⟩ := hS.shape
  obtain ⟨hn, _⟩ := hS.len
  rw [List.length_map] at hn
  subst hn
  exact ⟨⟨a, c, rfl, hS⟩, hb⟩
/-- Two pairs that are one. -/
theorem neqP (n : Int) (s : ByteArray) (w : World) : (binOp .neq 33 (.agg #[.int .i64 n, .string s]) (.agg #[.int .i64 n, .string s])).run Try.prog w = .ok (.bool false) w := by
  rw [run_neq_struct, run_equalIn_agg _ _ _ _ _ (by kernel_rfl) (by kernel_rfl)]
  have hf : (Try.prog.fieldsOf 33).toList = [{ name := "N", type := 3, offset := 0, embedded := false, tag := "", pkgPath := "", byteOffset := 0 }, { name := "S", type := 9, offset := 1, embedded := false, tag := "", pkgPath := "", byteOffset := 8 }] := by kernel_rfl
  rw [hf]
  simp only [Op.eqFields]
  simp [go_sem]
end Go.Proofs.Ytneebnankghhgab
