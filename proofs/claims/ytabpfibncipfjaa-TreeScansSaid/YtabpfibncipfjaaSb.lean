/- Slices that lie in memory, each element so many cells: what is cut out of one, what a row that was appended to reads as; nodes of a tree that lie in memory. Nothing of any program here. Conditions: each lemma names its own. -/
import Derived.Test.YtabpfibncipfjaaSa
import Derived.Test.YtabpfibncipfjaaMb
import Derived.Test.YtabpfibncipfjaaWa
import Derived.Lib.SliceRun
namespace Go.Proofs.Ytabpfibncipfjaa
open Go.RowKit

section Cells
variable {β : Type} {k : Nat} {ec : β → List Value}
theorem flat_at (hk : ∀ x, (ec x).length = k) : ∀ {l : List β} {i j : Nat} {x : β} {u : Value}, l[i]? = some x → (ec x)[j]? = some u → (l.flatMap ec)[i * k + j]? = some u
  | [], _, _, _, _, h, _ => by simp at h
  | y :: l, 0, j, x, u, h, g => by
    obtain rfl : y = x := by simpa using h
    rw [Nat.zero_mul, Nat.zero_add, List.flatMap_cons, List.getElem?_append_left (List.getElem?_eq_some_iff.1 g).1]
    exact g
  | y :: l, i + 1, j, x, u, h, g => by
    have ih := flat_at hk (l := l) (i := i) (j := j) (by simpa using h) g
    rw [List.flatMap_cons, List.getElem?_append_right (by rw [hk, Nat.succ_mul]; omega), hk, show (i + 1) * k + j - k = i * k + j by rw [Nat.succ_mul]; omega]
    exact ih
theorem flat_of (hk : ∀ x, (ec x).length = k) : ∀ {l : List β} {q : Nat} {u : Value}, (l.flatMap ec)[q]? = some u → ∃ i x j, l[i]? = some x ∧ (ec x)[j]? = some u ∧ q = i * k + j
  | [], _, _, h => by simp at h
  | y :: l, q, u, h => by
    rw [List.flatMap_cons] at h
    by_cases hq : q < k
    · rw [List.getElem?_append_left (by rw [hk]; exact hq)] at h
      exact ⟨0, y, q, rfl, h, by omega⟩
    · rw [List.getElem?_append_right (by rw [hk]; omega), hk] at h
      obtain ⟨i, x, j, h1, h2, h3⟩ := flat_of hk h
      exact ⟨i + 1, x, j, by simpa using h1, h2, by rw [Nat.succ_mul]; omega⟩
theorem flat_len (hk : ∀ x, (ec x).length = k) : ∀ l : List β, (l.flatMap ec).length = l.length * k
  | [] => by simp
  | y :: l => by rw [List.flatMap_cons, List.length_append, hk, flat_len hk l, List.length_cons, Nat.succ_mul]; omega

/-- A slice reads so: each element k cells, in blocks that P lets by. -/
structure Sl (k : Nat) (ec : β → List Value) (P : Nat → Prop) (w : World) (v : Value) (l : List β) : Prop where
  out : ∃ a c, v = .slice a l.length c ∧ l.length ≤ c ∧ (l ≠ [] → ∃ b o, a = some ⟨b, o, none⟩ ∧ P b ∧ ∀ i x, l[i]? = some x → ∀ j u, (ec x)[j]? = some u → w.cell? ⟨b, o + i * k + j, none⟩ = some u)
variable {P Q : Nat → Prop} {w w' : World} {v : Value} {l : List β}
theorem Sl.nil : Sl k ec P w (.slice none 0 0) ([] : List β) := ⟨none, 0, rfl, Nat.le_refl _, fun h => absurd rfl h⟩
theorem Sl.later (h : Sl k ec P w v l) (hb : Below w.heap.size w w') : Sl k ec P w' v l := by
  obtain ⟨a, c, e, hc, h⟩ := h
  refine ⟨a, c, e, hc, fun hn => ?_⟩
  obtain ⟨b, o, e, hp, h⟩ := h hn
  exact ⟨b, o, e, hp, fun i x hx j u hu => cell_later hb (h i x hx j u hu)⟩
theorem Sl.weak (h : Sl k ec P w v l) (hPQ : ∀ b, P b → b < w.heap.size → Q b) (hk : ∀ x, ec x ≠ []) : Sl k ec Q w v l := by
  obtain ⟨a, c, e, hc, h⟩ := h
  refine ⟨a, c, e, hc, fun hn => ?_⟩
  obtain ⟨b, o, e, hp, h⟩ := h hn
  refine ⟨b, o, e, hPQ b hp ?_, h⟩
  obtain ⟨x, l, rfl⟩ := List.exists_cons_of_ne_nil hn
  obtain ⟨u, r, hu⟩ := List.exists_cons_of_ne_nil (hk x)
  exact World.block_lt_of_cell? _ _ (h 0 x rfl 0 u (by rw [hu]; rfl))
/-- What lies in P's blocks lies where these lie. -/
theorem Sl.keep (h : Sl k ec P w v l) (hk : ∀ b o u, P b → w.cell? ⟨b, o, none⟩ = some u → w'.cell? ⟨b, o, none⟩ = some u) : Sl k ec P w' v l := by
  obtain ⟨a, c, e, hc, h⟩ := h
  refine ⟨a, c, e, hc, fun hn => ?_⟩
  obtain ⟨b, o, e, hp, h⟩ := h hn
  exact ⟨b, o, e, hp, fun i x hx j u hu => hk _ _ _ hp (h i x hx j u hu)⟩
theorem Sl.one {e1 : β → Value} {a : Option Addr} {n c : Nat} (h : Sl 1 (fun x => [e1 x]) P w (.slice a n c) l) {i : Nat} {x : β} (hx : l[i]? = some x) : ∃ b o, a = some ⟨b, o, none⟩ ∧ P b ∧ w.cell? ⟨b, o + i, none⟩ = some (e1 x) := by
  obtain ⟨a', c', e, _, h⟩ := h
  cases e
  obtain ⟨b, o, e, hp, h⟩ := h (by rintro rfl; simp at hx)
  have := h i x hx 0 (e1 x) rfl
  rw [Nat.mul_one, Nat.add_zero] at this
  exact ⟨b, o, e, hp, this⟩
theorem Sl.len {a : Option Addr} {n c : Nat} (h : Sl k ec P w (.slice a n c) l) : n = l.length ∧ n ≤ c := by
  obtain ⟨a', c', e, hc, _⟩ := h.out
  cases e; exact ⟨rfl, hc⟩
theorem Sl.news (hk : ∀ x, (ec x).length = k) {ad : Addr} {n c : Nat} (h : Sl k ec P w (.slice (some ad) n c) l) : ∀ j u, (l.flatMap ec)[j]? = some u → w.cell? (ad.add j) = some u := by
  intro q u hq
  obtain ⟨i, x, j, h1, h2, rfl⟩ := flat_of hk hq
  obtain ⟨a', c', e, hc, h⟩ := h
  cases e
  obtain ⟨b, o, e, hp, hh⟩ := h (by rintro rfl; simp at h1)
  cases e
  rw [WideShapes.add_plain, ← Nat.add_assoc]
  exact hh i x h1 j u h2
/-- A row that was appended to reads so. -/
theorem Sl.of_own (hk : ∀ x, (ec x).length = k) {base n : Nat} {e : TypeId} (h : w.ownsRow base e k v n (l.flatMap ec)) (hn : n = l.length) : Sl k ec (fun b => base ≤ b) w v l := by
  subst hn
  rcases h.2 with ⟨rfl, h0⟩ | ⟨g, cap, cur, rfl, hb, hg, h1, h2, h3, h4⟩
  · obtain rfl : l = [] := List.length_eq_zero_iff.1 h0
    exact Sl.nil
  · refine ⟨_, _, rfl, h1, fun _ => ⟨g, 0, rfl, hb, fun i x hx j u hu => ?_⟩⟩
    have hq := flat_at hk hx hu
    rw [← h4] at hq
    have hi := (List.getElem?_eq_some_iff.1 hq).1
    rw [List.getElem?_take_of_lt (by have := hi; rw [List.length_take] at this; omega)] at hq
    simp only [World.cell?, hg, Nat.zero_add]
    simpa using hq

section Cutting
variable {Pg : Program} {T : TypeId}
theorem Sl.low (ht : Pg.underlying T = some (.slice (Pg.elem T))) (hs : ∀ W, (Go.sizeOf (Pg.elem T)).run Pg W = .ok k W) (h : Sl k ec P w v l) (i : Nat) (hi : i ≤ l.length) :
    ∃ a c, (∀ W, (Instr.slice T v none (some (.int .i64 (i : Int))) none).run Pg W = .ok (.slice a i c) W) ∧ Sl k ec P w (.slice a i c) (l.take i) := by
  obtain ⟨a, c, rfl, hc, h⟩ := h
  have hlen : (l.take i).length = i := by simp; omega
  refine ⟨if c = 0 then a else a.map (·.add 0), c, fun W => ?_, ⟨_, c, by rw [hlen], by rw [hlen]; omega, fun hn => ?_⟩⟩
  · rw [run_slice_h W T a l.length c ht .i64 i (by omega) (by omega), hs]
    simp [Result.andThen, sliced]
  · obtain ⟨b, o, rfl, hp, h⟩ := h (by rintro rfl; simp at hn)
    refine ⟨b, o, by split <;> simp [WideShapes.add_plain], hp, fun i' x hx j u hu => h i' x ?_ j u hu⟩
    have hlt := (List.getElem?_eq_some_iff.1 hx).1
    rwa [List.getElem?_take_of_lt (by rw [hlen] at hlt; exact hlt)] at hx
theorem Sl.high (ht : Pg.underlying T = some (.slice (Pg.elem T))) (hs : ∀ W, (Go.sizeOf (Pg.elem T)).run Pg W = .ok k W) (h : Sl k ec P w v l) (i : Nat) (hi : i ≤ l.length) :
    ∃ a c, (∀ W, (Instr.slice T v (some (.int .i64 (i : Int))) none none).run Pg W = .ok (.slice a (l.length - i) c) W) ∧ Sl k ec P w (.slice a (l.length - i) c) (l.drop i) := by
  obtain ⟨a, c, rfl, hc, h⟩ := h
  have hlen : (l.drop i).length = l.length - i := by simp
  refine ⟨if c = i then a else a.map (·.add (i * k)), c - i, fun W => ?_, ⟨_, c - i, by rw [hlen], by rw [hlen]; omega, fun hn => ?_⟩⟩
  · rw [run_slice_l W T a l.length c ht .i64 i (by omega) (by omega), hs]
    simp [Result.andThen, sliced]
  · have hlt : i < l.length := by
      rcases Nat.lt_or_ge i l.length with g | g
      · exact g
      · exact absurd (List.drop_eq_nil_of_le g) hn
    obtain ⟨b, o, rfl, hp, h⟩ := h (by rintro rfl; simp at hlt)
    refine ⟨b, o + i * k, by rw [if_neg (by omega)]; simp [WideShapes.add_plain], hp, fun i' x hx j u hu => ?_⟩
    rw [List.getElem?_drop] at hx
    have := h (i + i') x hx j u hu
    rwa [Nat.add_mul, ← Nat.add_assoc] at this
end Cutting
end Cells

/-! ### Slices in a block that was laid for a call -/
structure ArgsAt (w : World) (B : Nat) (vs : List Value) : Prop where
  out : ∀ j v, vs[j]? = some v → w.cell? ⟨B, j, none⟩ = some v
theorem ArgsAt.later {w w' : World} {B : Nat} {vs : List Value} (h : ArgsAt w B vs) (hb : Below w.heap.size w w') : ArgsAt w' B vs := ⟨fun j v hj => cell_later hb (h.out j v hj)⟩
theorem ArgsAt.new (w : World) (vs : List Value) (t : TypeId) : ArgsAt (w.alloc (.cells vs.toArray t)) w.heap.size vs := ⟨fun j v hj => by
  have hlt : j < vs.toArray.size := by simpa using (List.getElem?_eq_some_iff.1 hj).1
  rw [World.cell?_alloc_at _ _ _ _ rfl]
  simpa using hj⟩
theorem ArgsAt.alloc {w : World} {B : Nat} {vs : List Value} (h : ArgsAt w B vs) (o : Obj) : ArgsAt (w.alloc o) B vs := h.later ((Below.refl _ _).alloc (Nat.le_refl _) _)
theorem ArgsAt.drew {w : World} {B : Nat} {vs : List Value} (h : ArgsAt w B vs) : ArgsAt w.drew B vs := ⟨fun j v hj => by rw [World.cell?_drew]; exact h.out j v hj⟩
theorem ArgsAt.fresh (w : World) (B : Nat) (vs : List Value) (t : TypeId) (hB : w.heap.size = B) : ArgsAt (w.alloc (.cells vs.toArray t)) B vs := by subst hB; exact ArgsAt.new w vs t
/-! What a region keeps: some cells, and all below a height -/
theorem hold1_drew {w0 w : World} {p0 : Addr} {v0 : Value} (h : w.cell? p0 = some v0 ∧ Below w0.heap.size w0 w) : w.drew.cell? p0 = some v0 ∧ Below w0.heap.size w0 w.drew := ⟨h.1, Below.drew h.2⟩
theorem hold1_call {w0 w w' : World} {p0 : Addr} {v0 : Value} (hb : Below w.heap.size w w') (h : w.cell? p0 = some v0 ∧ Below w0.heap.size w0 w) : w'.cell? p0 = some v0 ∧ Below w0.heap.size w0 w' := ⟨cell_later hb h.1, below_through hb h.2.size h.2⟩
theorem hold2_drew {w0 w : World} {p0 p1 : Addr} {v0 v1 : Value} (h : w.cell? p0 = some v0 ∧ w.cell? p1 = some v1 ∧ Below w0.heap.size w0 w) : w.drew.cell? p0 = some v0 ∧ w.drew.cell? p1 = some v1 ∧ Below w0.heap.size w0 w.drew := ⟨h.1, h.2.1, Below.drew h.2.2⟩
theorem hold2_call {w0 w w' : World} {p0 p1 : Addr} {v0 v1 : Value} (hb : Below w.heap.size w w') (h : w.cell? p0 = some v0 ∧ w.cell? p1 = some v1 ∧ Below w0.heap.size w0 w) : w'.cell? p0 = some v0 ∧ w'.cell? p1 = some v1 ∧ Below w0.heap.size w0 w' := ⟨cell_later hb h.1, cell_later hb h.2.1, below_through hb h.2.2.size h.2.2⟩
theorem hold2_alloc {w0 w : World} {o : Obj} {p0 p1 : Addr} {v0 v1 : Value} (h : w.cell? p0 = some v0 ∧ w.cell? p1 = some v1 ∧ Below w0.heap.size w0 w) : (w.alloc o).cell? p0 = some v0 ∧ (w.alloc o).cell? p1 = some v1 ∧ Below w0.heap.size w0 (w.alloc o) := hold2_call ((Below.refl _ _).alloc (Nat.le_refl _) _) h
theorem hold4_drew7 {w0 w : World} {p0 p1 p2 p3 : Addr} {v0 v1 v2 v3 : Value} (h : w.cell? p0 = some v0 ∧ w.cell? p1 = some v1 ∧ w.cell? p2 = some v2 ∧ w.cell? p3 = some v3 ∧ Below w0.heap.size w0 w) : w.drew.cell? p0 = some v0 ∧ w.drew.cell? p1 = some v1 ∧ w.drew.cell? p2 = some v2 ∧ w.drew.cell? p3 = some v3 ∧ Below w0.heap.size w0 w.drew := ⟨h.1, h.2.1, h.2.2.1, h.2.2.2.1, Below.drew h.2.2.2.2⟩
theorem hold4_call7 {w0 w w' : World} {p0 p1 p2 p3 : Addr} {v0 v1 v2 v3 : Value} (hb : Below w.heap.size w w') (h : w.cell? p0 = some v0 ∧ w.cell? p1 = some v1 ∧ w.cell? p2 = some v2 ∧ w.cell? p3 = some v3 ∧ Below w0.heap.size w0 w) : w'.cell? p0 = some v0 ∧ w'.cell? p1 = some v1 ∧ w'.cell? p2 = some v2 ∧ w'.cell? p3 = some v3 ∧ Below w0.heap.size w0 w' := ⟨cell_later hb h.1, cell_later hb h.2.1, cell_later hb h.2.2.1, cell_later hb h.2.2.2.1, below_through hb h.2.2.2.2.size h.2.2.2.2⟩
theorem hold4_alloc7 {w0 w : World} {o : Obj} {p0 p1 p2 p3 : Addr} {v0 v1 v2 v3 : Value} (h : w.cell? p0 = some v0 ∧ w.cell? p1 = some v1 ∧ w.cell? p2 = some v2 ∧ w.cell? p3 = some v3 ∧ Below w0.heap.size w0 w) : (w.alloc o).cell? p0 = some v0 ∧ (w.alloc o).cell? p1 = some v1 ∧ (w.alloc o).cell? p2 = some v2 ∧ (w.alloc o).cell? p3 = some v3 ∧ Below w0.heap.size w0 (w.alloc o) := hold4_call7 ((Below.refl _ _).alloc (Nat.le_refl _) _) h
/-- Slices made of a block that was laid for them. -/
theorem Sl.fresh {β : Type} {e1 : β → Value} {P : Nat → Prop} {w : World} {B : Nat} {l : List β} (h : ArgsAt w B (l.map e1)) (hP : P B) (n c : Nat) (hn : n = l.length) (hc : n ≤ c) : Sl 1 (fun x => [e1 x]) P w (.slice (some ⟨B, 0, none⟩) n c) l := by
  subst hn
  refine ⟨_, c, rfl, hc, fun _ => ⟨B, 0, rfl, hP, fun i x hx j u hu => ?_⟩⟩
  cases j with
  | zero =>
    cases hu
    have := h.out i (e1 x) (by simp [hx])
    rwa [Nat.mul_one, Nat.zero_add, Nat.add_zero]
  | succ j => simp at hu

/-! ### Nodes -/
def sk (x : Key) : List Value := [.string (txt x)]
def pk (b : Nat) : List Value := [.pointer (some ⟨b, 0, none⟩)]
theorem sk_len (x : Key) : (sk x).length = 1 := rfl
theorem pk_len (x : Nat) : (pk x).length = 1 := rfl
def Kids {α : Type} (R : Nat → α → Prop) : List Nat → List α → Prop
  | [], [] => True
  | b :: bs, c :: cs => R b c ∧ Kids R bs cs
  | _, _ => False
section Kids
variable {α : Type} {R S : Nat → α → Prop}
theorem Kids.len : ∀ {bs : List Nat} {cs : List α}, Kids R bs cs → bs.length = cs.length
  | [], [], _ => rfl
  | _ :: _, _ :: _, h => by simp [Kids.len h.2]
  | [], _ :: _, h => h.elim
  | _ :: _, [], h => h.elim
theorem Kids.mono (f : ∀ b c, R b c → S b c) : ∀ {bs : List Nat} {cs : List α}, Kids R bs cs → Kids S bs cs
  | [], [], _ => trivial
  | _ :: _, _ :: _, h => ⟨f _ _ h.1, Kids.mono f h.2⟩
  | [], _ :: _, h => h.elim
  | _ :: _, [], h => h.elim
theorem Kids.append : ∀ {bs bs' : List Nat} {cs cs' : List α}, Kids R bs cs → Kids R bs' cs' → Kids R (bs ++ bs') (cs ++ cs')
  | [], _, [], _, _, g => g
  | _ :: _, _, _ :: _, _, h, g => ⟨h.1, Kids.append h.2 g⟩
  | [], _, _ :: _, _, h, _ => h.elim
  | _ :: _, _, [], _, h, _ => h.elim
theorem Kids.take : ∀ {bs : List Nat} {cs : List α} (i : Nat), Kids R bs cs → Kids R (bs.take i) (cs.take i)
  | _, _, 0, _ => by simp [Kids]
  | [], [], _ + 1, _ => trivial
  | _ :: _, _ :: _, i + 1, h => ⟨h.1, Kids.take i h.2⟩
  | [], _ :: _, _ + 1, h => h.elim
  | _ :: _, [], _ + 1, h => h.elim
theorem Kids.drop : ∀ {bs : List Nat} {cs : List α} (i : Nat), Kids R bs cs → Kids R (bs.drop i) (cs.drop i)
  | _, _, 0, h => h
  | [], [], _ + 1, _ => trivial
  | _ :: _, _ :: _, i + 1, h => Kids.drop i h.2
  | [], _ :: _, _ + 1, h => h.elim
  | _ :: _, [], _ + 1, h => h.elim
theorem Kids.get : ∀ {bs : List Nat} {cs : List α} {i : Nat} {c : α}, Kids R bs cs → cs[i]? = some c → ∃ b, bs[i]? = some b ∧ R b c
  | b :: _, c' :: _, 0, c, h, e => by obtain rfl : c' = c := by simpa using e
                                      exact ⟨b, rfl, h.1⟩
  | _ :: _, _ :: _, i + 1, _, h, e => by
    obtain ⟨b, h1, h2⟩ := Kids.get h.2 (by simpa using e)
    exact ⟨b, by simpa using h1, h2⟩
  | [], [], _, _, _, e => by simp at e
  | [], _ :: _, _, _, h, _ => h.elim
  | _ :: _, [], _, _, h, _ => h.elim
end Kids

section Nodes
variable {β : Type} (kv : Nat) (ec : β → List Value)
/-- A tree lies at a block: all its memory in blocks that P lets by. -/
def NodeAt (P : Nat → Prop) (w : World) : (n : Nat) → Nat → Tr β n → Prop
  | 0, b, l => P b ∧ ∃ vk vv, w.cell? ⟨b, 0, none⟩ = some vk ∧ w.cell? ⟨b, 1, none⟩ = some vv ∧ w.cell? ⟨b, 2, none⟩ = some (.slice none 0 0) ∧
      Sl 1 sk P w vk (List.map (·.1) (show List (Key × β) from l)) ∧ Sl kv ec P w vv (List.map (·.2) (show List (Key × β) from l))
  | n + 1, b, t => P b ∧ ∃ vk vc bs, w.cell? ⟨b, 0, none⟩ = some vk ∧ w.cell? ⟨b, 2, none⟩ = some vc ∧ Sl 1 sk P w vk t.1 ∧ Sl 1 pk P w vc bs ∧ Kids (fun b' c => NodeAt P w n b' c) bs t.2
variable {kv : Nat} {ec : β → List Value} {P Q : Nat → Prop} {w w' : World}
theorem NodeAt.later (hb : Below w.heap.size w w') : ∀ {n b : Nat} {t : Tr β n}, NodeAt kv ec P w n b t → NodeAt kv ec P w' n b t
  | 0, _, _, ⟨h, vk, vv, h0, h1, h2, h3, h4⟩ => ⟨h, vk, vv, cell_later hb h0, cell_later hb h1, cell_later hb h2, h3.later hb, h4.later hb⟩
  | _ + 1, _, _, ⟨h, vk, vc, bs, h0, h1, h2, h3, h4⟩ => ⟨h, vk, vc, bs, cell_later hb h0, cell_later hb h1, h2.later hb, h3.later hb, h4.mono fun _ _ g => NodeAt.later hb g⟩
theorem NodeAt.keep (hk : ∀ b o u, P b → w.cell? ⟨b, o, none⟩ = some u → w'.cell? ⟨b, o, none⟩ = some u) : ∀ {n b : Nat} {t : Tr β n}, NodeAt kv ec P w n b t → NodeAt kv ec P w' n b t
  | 0, _, _, ⟨h, vk, vv, h0, h1, h2, h3, h4⟩ => ⟨h, vk, vv, hk _ _ _ h h0, hk _ _ _ h h1, hk _ _ _ h h2, h3.keep hk, h4.keep hk⟩
  | _ + 1, _, _, ⟨h, vk, vc, bs, h0, h1, h2, h3, h4⟩ => ⟨h, vk, vc, bs, hk _ _ _ h h0, hk _ _ _ h h1, h2.keep hk, h3.keep hk, h4.mono fun _ _ g => NodeAt.keep hk g⟩
theorem NodeAt.weak (hPQ : ∀ b, P b → b < w.heap.size → Q b) (hk : ∀ x, ec x ≠ []) : ∀ {n b : Nat} {t : Tr β n}, NodeAt kv ec P w n b t → NodeAt kv ec Q w n b t
  | 0, b, _, ⟨h, vk, vv, h0, h1, h2, h3, h4⟩ => ⟨hPQ b h (World.block_lt_of_cell? _ _ h0), vk, vv, h0, h1, h2, h3.weak hPQ (fun _ => by simp [sk]), h4.weak hPQ hk⟩
  | _ + 1, b, _, ⟨h, vk, vc, bs, h0, h1, h2, h3, h4⟩ => ⟨hPQ b h (World.block_lt_of_cell? _ _ h0), vk, vc, bs, h0, h1, h2.weak hPQ (fun _ => by simp [sk]), h3.weak hPQ (fun _ => by simp [pk]), h4.mono fun _ _ g => NodeAt.weak hPQ hk g⟩
theorem NodeAt.lt : ∀ {n b : Nat} {t : Tr β n}, NodeAt kv ec P w n b t → b < w.heap.size
  | 0, _, _, ⟨_, _, _, h0, _⟩ => World.block_lt_of_cell? _ _ h0
  | _ + 1, _, _, ⟨_, _, _, _, h0, _⟩ => World.block_lt_of_cell? _ _ h0
theorem NodeAt.leaf {b : Nat} {l : List (Key × β)} : NodeAt kv ec P w 0 b l ↔ (P b ∧ ∃ vk vv, w.cell? ⟨b, 0, none⟩ = some vk ∧ w.cell? ⟨b, 1, none⟩ = some vv ∧ w.cell? ⟨b, 2, none⟩ = some (.slice none 0 0) ∧ Sl 1 sk P w vk (l.map (·.1)) ∧ Sl kv ec P w vv (l.map (·.2))) := Iff.rfl
theorem keys_leaf (l : List (Key × β)) : keysT 0 (show Tr β 0 from l) = l.map (·.1) := rfl
theorem nk_leaf (l : List (Key × β)) : nk 0 (show Tr β 0 from l) = l.length := by unfold nk; rw [keys_leaf, List.length_map]
/-- The keys of a node, and where they lie. -/
theorem NodeAt.keys : ∀ {n b : Nat} {t : Tr β n}, NodeAt kv ec P w n b t → ∃ a c, w.cell? ⟨b, 0, none⟩ = some (.slice a (nk n t) c) ∧ Sl 1 sk P w (.slice a (nk n t) c) (keysT n t)
  | 0, b, t, ⟨_, vk, _, h0, _, _, h3, _⟩ => by
    obtain ⟨a, c, e, _⟩ := h3.out
    subst e
    exact ⟨a, c, h0, h3⟩
  | n + 1, b, t, ⟨_, vk, _, _, h0, _, h3, _, _⟩ => by
    obtain ⟨a, c, e, _⟩ := h3.out
    subst e
    exact ⟨a, c, h0, h3⟩
theorem NodeAt.open_leaf {b : Nat} {l : List (Key × β)} (h : NodeAt kv ec P w 0 b l) : ∃ ak ck av cv, w.cell? ⟨b, 0, none⟩ = some (.slice ak l.length ck) ∧ w.cell? ⟨b, 1, none⟩ = some (.slice av l.length cv) ∧ w.cell? ⟨b, 2, none⟩ = some (.slice none 0 0) ∧
    Sl 1 sk P w (.slice ak l.length ck) (l.map (·.1)) ∧ Sl kv ec P w (.slice av l.length cv) (l.map (·.2)) := by
  obtain ⟨_, vk, vv, h0, h1, h2, h3, h4⟩ := NodeAt.leaf.1 h
  obtain ⟨ak, ck, rfl, _⟩ := id h3.out
  obtain ⟨av, cv, rfl, _⟩ := id h4.out
  rw [List.length_map] at h0 h1 h3 h4
  exact ⟨ak, ck, av, cv, h0, h1, h2, h3, h4⟩
theorem NodeAt.open_node {n b : Nat} {t : Tr β (n + 1)} (h : NodeAt kv ec P w (n + 1) b t) : ∃ ak ck ac cc bs, w.cell? ⟨b, 0, none⟩ = some (.slice ak t.1.length ck) ∧ w.cell? ⟨b, 2, none⟩ = some (.slice ac t.2.length cc) ∧
    Sl 1 sk P w (.slice ak t.1.length ck) t.1 ∧ Sl 1 pk P w (.slice ac t.2.length cc) bs ∧ bs.length = t.2.length ∧ Kids (fun b' c => NodeAt kv ec P w n b' c) bs t.2 := by
  obtain ⟨_, vk, vc, bs, h0, h1, h2, h3, h4⟩ := h
  obtain ⟨ak, ck, rfl, _⟩ := id h2.out
  obtain ⟨ac, cc, rfl, _⟩ := id h3.out
  have hl := h4.len
  rw [hl] at h1 h3
  exact ⟨ak, ck, ac, cc, bs, h0, h1, h2, h3, hl, h4⟩
/-- A new leaf. -/
theorem NodeAt.mk_leaf {b : Nat} {l : List (Key × β)} {vk vv : Value} {lk : List Key} {lv : List β} (hP : P b) (h0 : w.cell? ⟨b, 0, none⟩ = some vk) (h1 : w.cell? ⟨b, 1, none⟩ = some vv) (h2 : w.cell? ⟨b, 2, none⟩ = some (.slice none 0 0)) (h3 : Sl 1 sk P w vk lk) (h4 : Sl kv ec P w vv lv) (e1 : lk = l.map (·.1)) (e2 : lv = l.map (·.2)) : NodeAt kv ec P w 0 b l := by
  subst e1; subst e2
  exact NodeAt.leaf.2 ⟨hP, vk, vv, h0, h1, h2, h3, h4⟩
theorem NodeAt.mk_node {n b : Nat} {t : Tr β (n + 1)} {vk vc : Value} {lk : List Key} {lc : List Nat} (hP : P b) (h0 : w.cell? ⟨b, 0, none⟩ = some vk) (h1 : w.cell? ⟨b, 2, none⟩ = some vc) (h3 : Sl 1 sk P w vk lk) (h4 : Sl 1 pk P w vc lc) (e1 : lk = t.1) (e2 : Kids (fun b' c => NodeAt kv ec P w n b' c) lc t.2) : NodeAt kv ec P w (n + 1) b t := by
  subst e1
  exact ⟨hP, vk, vc, lc, h0, h1, h3, h4, e2⟩
end Nodes

theorem args2 {β : Type} {k : Nat} {ec : β → List Value} {P : Nat → Prop} {w : World} {v0 v1 : Value} {l0 l1 : List β} (h0 : Sl k ec P w v0 l0) (h1 : Sl k ec P w v1 l1) : ∀ (j : Nat) (v : Value) (l : List β), [v0, v1][j]? = some v → [l0, l1][j]? = some l → Sl k ec P w v l := by
  intro j v l hv hl
  match j, hv, hl with
  | 0, hv, hl => simp at hv hl; subst hv; subst hl; exact h0
  | 1, hv, hl => simp at hv hl; subst hv; subst hl; exact h1
  | _ + 2, hv, _ => simp at hv
theorem args3 {β : Type} {k : Nat} {ec : β → List Value} {P : Nat → Prop} {w : World} {v0 v1 v2 : Value} {l0 l1 l2 : List β} (h0 : Sl k ec P w v0 l0) (h1 : Sl k ec P w v1 l1) (h2 : Sl k ec P w v2 l2) : ∀ (j : Nat) (v : Value) (l : List β), [v0, v1, v2][j]? = some v → [l0, l1, l2][j]? = some l → Sl k ec P w v l := by
  intro j v l hv hl
  match j, hv, hl with
  | 0, hv, hl => simp at hv hl; subst hv; subst hl; exact h0
  | 1, hv, hl => simp at hv hl; subst hv; subst hl; exact h1
  | 2, hv, hl => simp at hv hl; subst hv; subst hl; exact h2
  | _ + 3, hv, _ => simp at hv
theorem Sl.alloc {β : Type} {k : Nat} {ec : β → List Value} {P : Nat → Prop} {w : World} {v : Value} {l : List β} (h : Sl k ec P w v l) (o : Obj) : Sl k ec P (w.alloc o) v l := h.later ((Below.refl _ _).alloc (Nat.le_refl _) _)
theorem Sl.drew {β : Type} {k : Nat} {ec : β → List Value} {P : Nat → Prop} {w : World} {v : Value} {l : List β} (h : Sl k ec P w v l) : Sl k ec P w.drew v l := h.keep fun b o u _ hc => by rw [World.cell?_drew]; exact hc
theorem Sl.shape {β : Type} {k : Nat} {ec : β → List Value} {P : Nat → Prop} {w : World} {v : Value} {l : List β} (h : Sl k ec P w v l) : ∃ a n c, v = .slice a n c := by obtain ⟨a, c, e, _⟩ := h.out; exact ⟨a, _, c, e⟩
theorem Sl.key {P : Nat → Prop} {w : World} {B : Nat} {x : Key} (h : ArgsAt w B [.string (txt x)]) (hP : P B) : Sl 1 sk P w (.slice (some ⟨B, 0, none⟩) 1 1) [x] := Sl.fresh (e1 := fun y => .string (txt y)) (l := [x]) h hP 1 1 rfl (Nat.le_refl _)
theorem Sl.ptr1 {P : Nat → Prop} {w : World} {B b : Nat} (h : ArgsAt w B [.pointer (some ⟨b, 0, none⟩)]) (hP : P B) : Sl 1 pk P w (.slice (some ⟨B, 0, none⟩) 1 1) [b] := Sl.fresh (e1 := fun y => .pointer (some ⟨y, 0, none⟩)) (l := [b]) h hP 1 1 rfl (Nat.le_refl _)
theorem Sl.ptr2 {P : Nat → Prop} {w : World} {B b c : Nat} (h : ArgsAt w B [.pointer (some ⟨b, 0, none⟩), .pointer (some ⟨c, 0, none⟩)]) (hP : P B) : Sl 1 pk P w (.slice (some ⟨B, 0, none⟩) 2 2) [b, c] := Sl.fresh (e1 := fun y => .pointer (some ⟨y, 0, none⟩)) (l := [b, c]) h hP 2 2 rfl (Nat.le_refl _)
end Go.Proofs.Ytabpfibncipfjaa
