/- The reference of layer 4: the bag of rows, each so often: a contract of the call, in whatever memory. Conditions: the rows' cells are known; the numbers are so small that no sum passes the ends. -/
import Derived.Test.YtipibbjcdkmjmaaBc
import Derived.Test.YtipibbjcdkmjmaaBd
namespace Go.Proofs.Ytipibbjcdkmjmaa
open Go.RowKit

/-- What Of must answer. -/
def OfAns (w : World) (L : List Pair) (e : Ending) (w' : World) : Prop :=
  (∃ a c E, e = .returned (.slice a E.length c) ∧ E.length ≤ c ∧ ElemsAt w' a E ∧ E.map pr = ofB L) ∧ Below w.heap.size w w'
/-- What a call of Of answers, whenever it is made behind w. (A structure: a contract at other arguments is refused at once.) -/
structure Half (w : World) (a : Option Addr) (k c : Nat) (L : List Pair) : Prop where
  out : ∀ W, Below w.heap.size w W → Calls Try.prog 18 #[.slice a k c] W (OfAns W L)
theorem absS_take (L : List Pair) (k : Nat) : absS (L.take k) + absS (L.drop k) = absS L := by rw [← absS_append, List.take_append_drop]
theorem sum_fits {A B : List Elem} {LA LB : List Pair} (hA : A.map pr = ofB LA) (hB : B.map pr = ofB LB) (h : absS LA + absS LB ≤ 4611686018427387904) : ∀ x ∈ A, ∀ y ∈ B, -4611686018427387904 ≤ x.n + y.n ∧ x.n + y.n ≤ 4611686018427387904 := by
  intro x hx y hy
  have h1 := absS_mem (L := A.map pr) (List.mem_map_of_mem (f := pr) hx)
  have h2 := absS_mem (L := B.map pr) (List.mem_map_of_mem (f := pr) hy)
  have h3 := absS_ofB LA
  have h4 := absS_ofB LB
  rw [hA] at h1
  rw [hB] at h2
  have e1 : (pr x).2 = x.n := rfl
  have e2 : (pr y).2 = y.n := rfl
  rw [e1] at h1
  rw [e2] at h2
  omega
theorem len_of {A : List Elem} {LA : List Pair} (hA : A.map pr = ofB LA) : A.length ≤ LA.length := by
  have h1 := congrArg List.length hA
  rw [List.length_map] at h1
  have := len_ofB LA
  omega

theorem elems_head (a : Option Addr) (E : List Elem) (c k : Nat) (hk : k ≤ E.length) (hc : E.length ≤ c) :
    (∀ W : World, (Instr.slice 24 (.slice a E.length c) none (some (.int .i64 k)) none).run Try.prog W = .ok (.slice a k c) W) := by
  intro W
  rw [run_slice_h W 24 a E.length c Try.underlying24 .i64 k (by omega) (by omega)]
  simp [go_sem, Result.andThen, sliced]
theorem elems_tail (a : Option Addr) (E : List Elem) (c k m : Nat) (hk : k ≤ E.length) (hc : E.length ≤ c) (hm : E.length - k = m) :
    ∃ a1 c1, m ≤ c1 ∧ (∀ W : World, (Instr.slice 24 (.slice a E.length c) (some (.int .i64 k)) none none).run Try.prog W = .ok (.slice a1 m c1) W) ∧ ∀ W, ElemsAt W a E → ElemsAt W a1 (E.drop k) := by
  refine ⟨if c = k then a else a.map (·.add (k * 2)), c - k, by omega, fun W => ?_, fun W h => ?_⟩
  · rw [run_slice_l W 24 a E.length c Try.underlying24 .i64 k (by omega) (by omega)]
    simp [go_sem, Result.andThen, sliced, hm]
  · split
    · rw [List.drop_eq_nil_of_le (by omega)]; exact ElemsAt.nil _ _
    · by_cases hE : E = []
      · subst hE; rw [List.drop_nil]; exact ElemsAt.nil _ _
      · obtain ⟨b, off, rfl, hcl⟩ := h.1 hE
        simp only [Option.map_some, WideShapes.add_plain]
        exact h.drop k

set_option maxHeartbeats 4000000 in
set_option maxRecDepth 1000000 in
theorem refOf_all : ∀ (n : Nat) (a : Option Addr) (c : Nat) (E : List Elem) (w : World), E.length ≤ n → ElemsAt w a E → E.length ≤ c → E.length ≤ 1000000 → absS (E.map pr) ≤ 4611686018427387904 →
    Calls Try.prog 18 #[.slice a E.length c] w (OfAns w (E.map pr)) := by
  intro n
  induction n with
  | zero =>
    intro a c E w hn h hc hl hs
    obtain rfl : E = [] := List.length_eq_zero_iff.1 (by omega)
    go_enter Try.func18, Try.ntmps18
    go_wp2
    go_ret
    exact ⟨⟨none, 0, [], rfl, Nat.le_refl _, ElemsAt.nil _ _, rfl⟩, Below.refl _ _⟩
  | succ n ih =>
    intro a c E w hn h hc hl hs
    match E, h, hn, hc, hl, hs with
    | [], h, hn, hc, hl, hs =>
      go_enter Try.func18, Try.ntmps18
      go_wp2
      go_ret
      exact ⟨⟨none, 0, [], rfl, Nat.le_refl _, ElemsAt.nil _ _, rfl⟩, Below.refl _ _⟩
    | [e], h, hn, hc, hl, hs =>
      obtain ⟨b, off, rfl, hcl⟩ := h.1 (by simp)
      obtain ⟨q0, q1⟩ := hcl 0 (by simp)
      have hr := hid0 (h.2 e (by simp))
      simp only [Nat.zero_mul, Nat.add_zero, List.getElem_cons_zero] at q0 q1
      clear hcl
      by_cases hz : e.n = 0
      · rw [hz] at q1
        go_enter Try.func18, Try.ntmps18
        go_wp2
        go_ret
        refine ⟨⟨none, 0, [], rfl, Nat.le_refl _, ElemsAt.nil _ _, ?_⟩, Below.refl _ _⟩
        show [] = if e.n = 0 then [] else [pr e]
        rw [if_pos hz]
      · go_enter Try.func18, Try.ntmps18
        go_wp2_with fail
        go_region_held3 (fun w' => w'.cell? ⟨b, off, none⟩ = some (.slice e.a e.r.length e.c) ∧ w'.cell? ⟨b, off + 1, none⟩ = some (.int .i64 e.n) ∧ Below w.heap.size w w')
          ((go_split_ands; (try dsimp only); (repeat' apply And.intro); all_goals (first
            | assumption
            | exact cell_later hbn ‹_›
            | exact below_through hbn (Below.size ‹Below w.heap.size w _›) ‹_›
            | exact Below.drew (Below.refl _ _)
            | exact Below.alloc ‹_› (Below.size ‹Below w.heap.size w _›) _
            | go_keep)))
          (first
            | (go_at_call 19; (try go_split_ands); refine (refCopied_any _ _ _ _ (hr.out.1.later ((‹Below w.heap.size w _›))) hr.out.2).mono ?_; rintro e1 wn ⟨⟨a', c', rfl, hrow, hblk⟩, hbn⟩))
        have HH := ‹_ ∧ _ ∧ Below w.heap.size w (World.alloc _ _)›
        go_wp2
        go_ret
        refine ⟨⟨some ⟨wn.heap.size, 0, none⟩, 1, [⟨a', c', e.r, e.n⟩], rfl, Nat.le_refl _, ⟨fun _ => ⟨wn.heap.size, 0, rfl, fun i hi => ?_⟩, fun x hx => ?_⟩, ?_⟩, HH.2.2⟩
        · obtain rfl : i = 0 := by simp at hi; omega
          exact elem_new _ _ _ _
        · obtain rfl := List.mem_singleton.1 hx
          exact ⟨hrow.later ((Below.refl _ _).alloc (Nat.le_refl _) _), hr.out.2⟩
        · show [(e.r, e.n)] = if e.n = 0 then [] else [pr e]
          rw [if_neg hz]; rfl
    | e1 :: e2 :: E, h, hn, hc, hl, hs =>
      have h2 : 2 ≤ (e1 :: e2 :: E).length := by simp
      generalize e1 :: e2 :: E = F at h hn hc hl hs h2 ⊢
      obtain ⟨b, off, rfl, hcl⟩ := h.1 (fun e => by rw [e] at h2; simp at h2)
      clear hcl
      obtain ⟨k, hk⟩ : ∃ k, F.length / 2 = k := ⟨_, rfl⟩
      obtain ⟨m, hm⟩ : ∃ m, F.length - k = m := ⟨_, rfl⟩
      have hl1 : (F.take k).length = k := by rw [List.length_take]; omega
      have hl2 : (F.drop k).length = m := by rw [List.length_drop]; omega
      have hsum := absS_take (F.map pr) k
      rw [← List.map_take, ← List.map_drop] at hsum
      have n1 := absS_nonneg ((F.take k).map pr)
      have n2 := absS_nonneg ((F.drop k).map pr)
      have HA : Half w (some ⟨b, off, none⟩) k c ((F.take k).map pr) := ⟨fun W hb => by
        have := ih (some ⟨b, off, none⟩) c (F.take k) W (by omega) ((h.later hb).take k) (by omega) (by omega) (by omega)
        rwa [hl1] at this⟩
      have hh1 := elems_head (some ⟨b, off, none⟩) F c k (by omega) hc
      obtain ⟨a1, cm, hcm, hh2, hat⟩ := elems_tail (some ⟨b, off, none⟩) F c k m (by omega) hc hm
      have HD : Half w a1 m cm ((F.drop k).map pr) := ⟨fun W hb => by
        have := ih a1 cm (F.drop k) W (by omega) (hat _ (h.later hb)) (by omega) (by omega) (by omega)
        rwa [hl2] at this⟩
      have HJ := hid0 (joinB_ofB ((F.take k).map pr) ((F.drop k).map pr))
      have HT : Hid (F.map pr = (F.take k).map pr ++ (F.drop k).map pr) := by
        show _ = _
        rw [← List.map_append, List.take_append_drop]
      have HL := hid0 (show absS ((F.take k).map pr) + absS ((F.drop k).map pr) ≤ 4611686018427387904 by omega)
      have HLL := hid0 (show ((F.take k).map pr).length + ((F.drop k).map pr).length ≤ 1000000 by rw [List.length_map, List.length_map]; omega)
      generalize (F.take k).map pr = LA at HA HJ HT HL HLL
      generalize (F.drop k).map pr = LB at HD HJ HT HL HLL
      clear hsum n1 n2 hl1 hl2
      have hq : IntKind.i64.wrap ((F.length : Int).tdiv 2) = (k : Int) := by
        rw [show (F.length : Int).tdiv 2 = ((F.length / 2 : Nat) : Int) from rfl, hk]; exact IntWalk.i64_in _ (by omega)
      have hq0 : (F.length : Int).tdiv 2 = (k : Int) := by rw [← hk]; rfl
      have hwk : IntKind.i64.wrap (k : Int) = (k : Int) := IntWalk.i64_in _ (by omega)
      have hwk2 : wrap64 (k : Int) = (k : Int) := by unfold wrap64; omega
      have i0 : ¬ (F.length : Int) = 0 := by omega
      have i1 : ¬ (F.length : Int) = 1 := by omega
      obtain ⟨len, hlen⟩ : ∃ len, F.length = len := ⟨_, rfl⟩
      rw [hlen] at hq hq0 i0 i1 hh1 hh2 ⊢
      have HLEN := hid0 hlen
      clear hlen hn hs h ih hat hk hm hc hl h2
      go_enter Try.func18, Try.ntmps18
      go_wp2_with fail
      go_region_held3 (fun w' => Below w.heap.size w w')
        ((go_split_ands; (try dsimp only); (repeat' apply And.intro); all_goals (first
          | assumption
          | exact below_through hbn (Below.size ‹Below w.heap.size w _›) ‹_›
          | exact Below.drew (Below.refl _ _)
          | go_keep)))
        (first
          | (go_at_call 18; refine ((by exact HA : Half w _ _ _ _).out _ (by assumption)).mono ?_; rintro ea wa ⟨⟨aa, ca, EA, rfl, hca, hEA, hmA⟩, hbn⟩)
          | (go_at_call 18; refine ((by exact HD : Half w _ _ _ _).out _ (by assumption)).mono ?_; rintro ed wd ⟨⟨ad, cd, ED, rfl, hcd, hED, hmD⟩, hbn⟩)
          | (go_at_call 26; refine (refJoined_any _ _ _ _ EA ED _ (by exact hEA.later hbn) (by exact hED) (by have := len_of hmA; have := len_of hmD; have := HLL.out; omega) (by exact sum_fits hmA hmD HL.out)).mono ?_; rintro ej wj ⟨⟨aj, cj, EJ, rfl, hcj, hEJ, hmJ⟩, hbn⟩))
      have HH := ‹Below w.heap.size w wj›
      clear HA HD hh1 hh2
      go_wp2
      go_ret
      exact ⟨⟨aj, cj, EJ, rfl, hcj, hEJ, by rw [hmJ, hmA, hmD, HJ.out, HT.out]⟩, HH⟩
theorem refOf_any (a : Option Addr) (c : Nat) (E : List Elem) (w : World) (h : ElemsAt w a E) (hc : E.length ≤ c) (hl : E.length ≤ 1000000) (hs : absS (E.map pr) ≤ 4611686018427387904) :
    Calls Try.prog 18 #[.slice a E.length c] w (OfAns w (E.map pr)) := refOf_all E.length a c E w (Nat.le_refl _) h hc hl hs
end Go.Proofs.Ytipibbjcdkmjmaa
