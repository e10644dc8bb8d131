/- Several of my texts laid together, each as it was: SrI. Conditions: each names its own. -/
import Derived.Test.YtneebnankghhgabKI
import Derived.Test.YtneebnankghhgabSq
import Derived.Deep.LoopGhost
/- The project's tree over int: whether there is one, how many keys, how deep, what a key has; a key is put, a key is cut: contracts of the calls, in whatever memory. Conditions: the tree's memory is known; what is new may lie where its nodes lie. -/
namespace Go.Proofs.Ytneebnankghhgab
open Go.RowKit

abbrev TAI (P : Nat → Prop) (w : World) (B order : Nat) (L : List (Key × (Int))) : Prop := TreeAt 1 eI P w B order L
def ovI : Option (Int) → Value
  | none => .int .i64 0
  | some x => vI x
def hasO {α : Type} : Option α → Bool
  | none => false
  | some _ => true

theorem missingI_no (B : Nat) (a : Addr) (w : World) (h : w.cell? ⟨B, 2, none⟩ = some (.pointer (some a))) : Calls Try.prog 38 #[.pointer (some ⟨B, 0, none⟩)] w fun e w' => e = .returned (.bool false) ∧ w = w' := by
  go_enter Try.func38, Try.ntmps38
  go_wp2
  go_ret
  exact ⟨rfl, rfl⟩
/-- Where Get is on its way down. -/
structure WayI (P : Nat → Prop) (w : World) (order : Nat) (k : Key) (g : Option (Int)) (n b : Nat) : Prop where
  out : ∃ a lo hi t, Wf (order / 2) order n a order lo hi t ∧ geO lo k ∧ ltO k hi ∧ NAI P w n b t ∧ getA k (flat n t) = g
set_option maxRecDepth 100000 in
set_option maxHeartbeats 4000000 in
theorem getI_any (P : Nat → Prop) (B order : Nat) (L : List (Key × (Int))) (k : Key) (w : World) (h : TAI P w B order L) :
    Calls Try.prog 13 #[.pointer (some ⟨B, 0, none⟩), .string (txt k)] w fun e w' => e = .returned (.tuple #[ovI (getA k L), .bool (hasO (getA k L))]) ∧ Below w.heap.size w w' := by
  obtain ⟨n0, b0, t0, q2, hw0, hN0, hf0⟩ := h.root
  have hi64 := h.hi
  have hW0 : WayI P w order k (getA k L) n0 b0 := ⟨_, none, none, t0, hw0, fun _ hx => by simp at hx, fun _ hx => by simp at hx, hN0, by rw [hf0]⟩
  obtain ⟨g, hg⟩ : ∃ g, getA k L = g := ⟨_, rfl⟩
  rw [hg] at hW0 ⊢
  clear h hw0 hN0 hf0 hg
  go_enter Try.func13, Try.ntmps13
  go_wp2_with fail
  refine (missingI_no B _ w q2).mono ?_
  rintro e w' ⟨rfl, rfl⟩
  go_wp2_with fail
  go_loopg [7] n0 (fun kx nv wr => ∃ n b, nv = .pointer (some ⟨b, 0, none⟩) ∧ n ≤ kx ∧ WayI P wr order k g n b ∧ Below w.heap.size w wr)
  case atStart => exact ⟨n0, b0, rfl, Nat.le_refl _, hW0, Below.refl _ _⟩
  case round =>
    obtain ⟨n, b, rfl, hnk, hW, hB⟩ := hrel
    clear hW0 q2
    cases n with
    | zero =>
      obtain ⟨a, lo, hi, t, hw, hlo, hhi, hN, hg⟩ := hW.out
      obtain ⟨l, rfl⟩ : ∃ l : List (Key × (Int)), l = t := ⟨t, rfl⟩
      obtain ⟨ak, ck, av, cv, q0, q1, q2, hk, hv⟩ := hN.open_leaf
      have hs : Asc l := hw.2.2.2.1
      have hl : l.length ≤ order := hw.2.2.1
      have hga : getA k l = g := hg
      rw [get_at hs] at hga
      have C := search_any P ak l.length ck (l.map (·.1)) k wr hk (asc_keys hs) (by omega)
      have hL := leafI_yes b wr q2
      unfold HasI at C
      cases hh : hasK k (l.map (·.1)) with
      | false =>
        rw [hh] at C hga
        have hgn : g = none := hga.symm
        subst hgn
        have HB := hid0 hB
        clear hh hga hg hW hw hlo hhi hN hk hv hs hB
        go_wp2_with fail
        refine hL.mono ?_
        rintro e w' ⟨rfl, rfl⟩
        go_wp2_with fail
        refine C.mono ?_
        rintro e w' ⟨rfl, rfl⟩
        go_wp2_with fail
        go_ret2
        exact ⟨rfl, HB.out⟩
      | true =>
        rw [hh] at C hga
        have hp : pl k (l.map (·.1)) < l.length := by
          unfold hasK at hh
          have := (List.getElem?_eq_some_iff.1 (of_decide_eq_true hh)).1
          simpa using this
        obtain ⟨p, hpp⟩ : ∃ p, pl k (l.map (·.1)) = p := ⟨_, rfl⟩
        rw [hpp] at C hga hp
        rw [if_pos rfl, List.getElem?_eq_getElem hp] at hga
        obtain ⟨x, hx⟩ : ∃ x, (l[p]).2 = x := ⟨_, rfl⟩
        have hgs : g = some x := by rw [← hga, ← hx]; rfl
        subst hgs
        have hvx : (l.map (·.2))[p]? = some x := by rw [List.getElem?_map, List.getElem?_eq_getElem hp, ← hx]; rfl
        obtain ⟨vb, vo, rfl, _, qv⟩ := Sl.one (e1 := vI) hv hvx
        have hpi : (p : Int) < (l.length : Int) := by omega
        obtain ⟨N, hN'⟩ : ∃ N, l.length = N := ⟨_, rfl⟩
        rw [hN'] at C q0 q1 hpi
        unfold vI at qv
        have HB := hid0 hB
        clear hh hga hg hW hw hlo hhi hN hk hv hs hB hpp hx hvx hN' hp hl
        go_wp2_with fail
        refine hL.mono ?_
        rintro e w' ⟨rfl, rfl⟩
        go_wp2_with fail
        refine C.mono ?_
        rintro e w' ⟨rfl, rfl⟩
        go_wp2_with fail
        go_ret2
        exact ⟨rfl, HB.out⟩
    | succ n =>
      obtain ⟨a, lo, hi, t, hw, hlo, hhi, hN, hg⟩ := hW.out
      obtain ⟨ak, ck, ac, cc, bs, q0, q1, hk, hc, hlb, hkd⟩ := hN.open_node
      have hlen := ch_len hw.2.2.2
      have hsz : t.1.length ≤ order := hw.2.2.1
      obtain ⟨c, m, m', hce, hLc, hcw, hRc, g1, g2⟩ := ch_toward hw.2.2.2 hlo hhi
      have hgk := get_kid hce hLc hRc g1 g2
      have htl := tw_le k t.1
      obtain ⟨bi, hbi, hNi⟩ := hkd.get hce
      obtain ⟨kb, ko, rfl, _, qi⟩ := hc.one hbi
      have hT := fun W (hb : Below wr.heap.size wr W) => towardI_any P (n + 1) b t k W (hN.later hb) (wf_keys hw) (by change t.1.length ≤ 1000; omega)
      change ∀ W, Below wr.heap.size wr W → Calls _ _ _ _ (fun e w' => e = .returned (.int .i64 (tw k t.1 : Nat)) ∧ W = w') at hT
      have hL := leafI_no b _ t.2.length cc wr q1 (by omega)
      have hnext := fun W (hb : Below wr.heap.size wr W) => (⟨_, m, m', c, hcw, g1, g2, hNi.later hb, by rw [← hgk]; exact hg⟩ : WayI P W order k g n bi)
      obtain ⟨i, hi'⟩ : ∃ i, tw k t.1 = i := ⟨_, rfl⟩
      rw [hi'] at htl qi hT
      have hiM : (i : Int) < (t.2.length : Int) := by omega
      obtain ⟨M, hM⟩ : ∃ M, t.2.length = M := ⟨_, rfl⟩
      rw [hM] at q1 hiM
      have hSS : wr.cell? ⟨b, 2, none⟩ = some (.slice (some ⟨kb, ko, none⟩) M cc) ∧ wr.cell? ⟨kb, ko + i, none⟩ = some (.pointer (some ⟨bi, 0, none⟩)) ∧ Below wr.heap.size wr wr := ⟨q1, qi, Below.refl _ _⟩
      have HSS := hid0 hSS
      have HB := hid0 hB
      have HX := hid0 hnext
      have HT := hid0 hT
      clear hSS hB hnext hT hg hgk hW hw hlo hhi hN hk hc hlb hkd hce hLc hRc hcw g1 g2 hbi hNi hM hi' hlen hsz htl
      go_wp2_with fail
      refine hL.mono ?_
      rintro e w' ⟨rfl, rfl⟩
      go_wp2_with fail
      go_region_held3 (fun w' => w'.cell? ⟨b, 2, none⟩ = some (.slice (some ⟨kb, ko, none⟩) M cc) ∧ w'.cell? ⟨kb, ko + i, none⟩ = some (.pointer (some ⟨bi, 0, none⟩)) ∧ Below wr.heap.size wr w')
        (first
          | with_reducible assumption
          | (repeat (first | with_reducible exact HSS.out | with_reducible assumption | with_reducible refine hold2_drew ?_ | with_reducible refine hold2_alloc ?_)))
        (first
          | (go_at_call 40; (try go_split_ands); refine (HT.out _ (by assumption)).mono ?_; rintro e w' ⟨rfl, rfl⟩))
      have hBD := Below.drew (Below.refl wr.heap.size wr)
      go_wp2_with fail
      go_roundg n
      case measure => omega
      case rel => exact ⟨n, bi, rfl, Nat.le_refl _, HX.out _ hBD, below_through hBD HB.out.size HB.out⟩

end Go.Proofs.Ytneebnankghhgab
