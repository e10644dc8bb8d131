/- The project's tree over int: a node as two. Conditions: the node's memory is known; what is new may lie where it lies. -/
import Derived.Test.YtabpfibncipfjaaSeI
namespace Go.Proofs.Ytabpfibncipfjaa
open Go.RowKit

/-- Two new nodes are told, and the key between. -/
def Res3I (P : Nat → Prop) (w : World) (n : Nat) (T : Tr (Int) n × Key × Tr (Int) n) (e : Ending) (w' : World) : Prop :=
  (∃ b1 b2, e = .returned (.tuple #[.pointer (some ⟨b1, 0, none⟩), .string (txt T.2.1), .pointer (some ⟨b2, 0, none⟩)]) ∧ NAI P w' n b1 T.1 ∧ NAI P w' n b2 T.2.2) ∧ Below w.heap.size w w'

theorem sl_same {β : Type} {k : Nat} {ec : β → List Value} {P : Nat → Prop} {w : World} {v : Value} {l l' : List β} (h : Sl k ec P w v l) (e : l = l') : Sl k ec P w v l' := e ▸ h
set_option maxRecDepth 100000 in
set_option maxHeartbeats 8000000 in
theorem partedI_leaf (P : Nat → Prop) (b : Nat) (l : List (Key × (Int))) (s : Nat) (sv : Int) (w : World) (h : NAI P w 0 b l) (hsv : sv = (s : Int)) (hs : s < l.length) (hP : ∀ q, w.heap.size ≤ q → P q) :
    Calls Try.prog 60 #[.pointer (some ⟨b, 0, none⟩), .int .i64 sv] w (Res3I P w 0 (part 0 s (show Tr (Int) 0 from l))) := by
  subst hsv
  obtain ⟨ak, ck, av, cv, q0, q1, q2, hk, hv⟩ := h.open_leaf
  have hlk : (l.map (·.1)).length = l.length := by simp
  have hlv : (l.map (·.2)).length = l.length := by simp
  have hkey : (part 0 s (show Tr (Int) 0 from l)).2.1 = (l[s]).1 := by
    show ((l[s]?).map (·.1)).getD [] = _
    rw [List.getElem?_eq_getElem hs]; rfl
  have hkl : (l.map (·.1))[s]? = some (l[s]).1 := by rw [List.getElem?_map, List.getElem?_eq_getElem hs]; rfl
  obtain ⟨bk, ok, rfl, _, r0⟩ := hk.one hkl
  have L1 : Calls Try.prog 42 #[.pointer (some ⟨b, 0, none⟩)] w fun e w' => e = .returned (.bool true) ∧ w = w' := leafI_yes b w q2
  obtain ⟨a1, c1, s1, k1⟩ := Sl.low Try.underlying29 (fun W => by simp [go_sem]) hk s (by omega)
  obtain ⟨a2, c2, s2, k2⟩ := Sl.high Try.underlying29 (fun W => by simp [go_sem]) hk s (by omega)
  obtain ⟨a3, c3, s3, k3⟩ := Sl.low Try.underlying50 (fun W => by simp [go_sem]) hv s (by omega)
  obtain ⟨a4, c4, s4, k4⟩ := Sl.high Try.underlying50 (fun W => by simp [go_sem]) hv s (by omega)
  rw [hlk] at s2 k2
  rw [hlv] at s4 k4
  obtain ⟨N, hN⟩ : ∃ N, l.length = N := ⟨_, rfl⟩
  obtain ⟨x, hx⟩ : ∃ x, (l[s]).1 = x := ⟨_, rfl⟩
  rw [hx] at r0 hkey
  rw [hN] at q0 q1 s1 s2 s3 s4 k2 k4
  have hsN : (s : Int) < (N : Int) := by omega
  obtain ⟨n2, hn2⟩ : ∃ n2, N - s = n2 := ⟨_, rfl⟩
  rw [hn2] at s2 s4 k2 k4
  have HQ := hid0 (And.intro hkey (And.intro k1 (And.intro k2 (And.intro k3 k4))))
  have hS : w.cell? ⟨b, 0, none⟩ = some (.slice (some ⟨bk, ok, none⟩) N ck) ∧ w.cell? ⟨b, 1, none⟩ = some (.slice av N cv) ∧ Below w.heap.size w w := ⟨q0, q1, Below.refl _ _⟩
  have HSS := hid0 hS
  clear hS hkey k1 k2 k3 k4 hk hv hlk hlv hkl hx hN hn2 q2 h hs
  go_enter Try.func60, Try.ntmps60
  go_wp2_with (go_at_call 42; refine L1.mono ?_; rintro e w' ⟨rfl, rfl⟩)
  go_region_held3 (fun w' => w'.cell? ⟨b, 0, none⟩ = some (.slice (some ⟨bk, ok, none⟩) N ck) ∧ w'.cell? ⟨b, 1, none⟩ = some (.slice av N cv) ∧ Below w.heap.size w w')
    (first
      | with_reducible assumption
      | (repeat (first | with_reducible exact HSS.out | with_reducible assumption | with_reducible refine hold2_drew ?_ | with_reducible refine hold2_alloc ?_)))
    (fail)
  go_wp2_with fail
  have HS2 := (by assumption : _ ∧ _ ∧ Below w.heap.size w _)
  go_region_held3 (fun w' => w'.cell? ⟨b, 0, none⟩ = some (.slice (some ⟨bk, ok, none⟩) N ck) ∧ w'.cell? ⟨b, 1, none⟩ = some (.slice av N cv) ∧ Below w.heap.size w w')
    (first
      | with_reducible assumption
      | (repeat (first | with_reducible exact HSS.out | with_reducible assumption | with_reducible refine hold2_drew ?_ | with_reducible refine hold2_alloc ?_)))
    (fail)
  go_wp2_with fail
  have HS3 := (by assumption : _ ∧ _ ∧ Below w.heap.size w _)
  refine bodyPost_ret (v := .tuple #[.pointer (some ⟨w.heap.size, 0, none⟩), .string (txt x), .pointer (some ⟨w.heap.size + 1, 0, none⟩)]) (by simp [results, Try.results60, go_sem]) rfl ⟨⟨w.heap.size, w.heap.size + 1, by rw [HQ.out.1], ?_, ?_⟩, HS3.2.2⟩
  · refine NodeAt.mk_leaf (hP _ (Nat.le_refl _)) (by go_cell) (by go_cell) (by go_cell) (HQ.out.2.1.later HS3.2.2) (HQ.out.2.2.2.1.later HS3.2.2) (List.map_take ..).symm (List.map_take ..).symm
  · refine NodeAt.mk_leaf (hP _ (by omega)) (by go_cell) (by go_cell) (by go_cell) (HQ.out.2.2.1.later HS3.2.2) (HQ.out.2.2.2.2.later HS3.2.2) (List.map_drop ..).symm (List.map_drop ..).symm

set_option maxRecDepth 100000 in
set_option maxHeartbeats 8000000 in
theorem partedI_node (P : Nat → Prop) (n b : Nat) (t : Tr (Int) (n + 1)) (s : Nat) (sv : Int) (w : World) (h : NAI P w (n + 1) b t) (hsv : sv = (s : Int)) (hs : s < t.1.length) (hl : t.2.length = t.1.length + 1) (hn : t.1.length ≤ 400) (hP : ∀ q, w.heap.size ≤ q → P q) :
    Calls Try.prog 60 #[.pointer (some ⟨b, 0, none⟩), .int .i64 sv] w (Res3I P w (n + 1) (part (n + 1) s t)) := by
  subst hsv
  obtain ⟨ak, ck, ac, cc, bs, q0, q1, hk, hc, hlb, hkd⟩ := h.open_node
  have hkey : (part (n + 1) s t).2.1 = t.1[s] := by show t.1.getD s [] = _; simp [List.getD, hs]
  obtain ⟨bk, ok, rfl, _, r0⟩ := hk.one (List.getElem?_eq_getElem hs)
  have L1 : Calls Try.prog 42 #[.pointer (some ⟨b, 0, none⟩)] w fun e w' => e = .returned (.bool false) ∧ w = w' := leafI_no b ac t.2.length cc w q1 (by omega)
  have hp1 : (part (n + 1) s t).1 = ((t.1.take s, t.2.take (s + 1)) : Tr (Int) (n + 1)) := rfl
  have hp2 : (part (n + 1) s t).2.2 = ((t.1.drop (s + 1), t.2.drop (s + 1)) : Tr (Int) (n + 1)) := rfl
  obtain ⟨x, hx⟩ : ∃ x, t.1[s] = x := ⟨_, rfl⟩
  obtain ⟨ks, hks⟩ : ∃ ks, t.1 = ks := ⟨_, rfl⟩
  obtain ⟨cs, hcs⟩ : ∃ cs, t.2 = cs := ⟨_, rfl⟩
  rw [hx] at r0 hkey
  rw [hks] at q0 hk hs hl hn hp1 hp2
  rw [hcs] at q1 hc hlb hkd hl hp1 hp2
  obtain ⟨a1, c1, s1, k1⟩ := Sl.low Try.underlying29 (fun W => by simp [go_sem]) hk s (by omega)
  obtain ⟨a2, c2, s2, k2⟩ := Sl.high Try.underlying29 (fun W => by simp [go_sem]) hk (s + 1) (by omega)
  obtain ⟨a3, c3, s3, k3⟩ := Sl.low Try.underlying78 (fun W => by simp [go_sem]) hc (s + 1) (by omega)
  obtain ⟨a4, c4, s4, k4⟩ := Sl.high Try.underlying78 (fun W => by simp [go_sem]) hc (s + 1) (by omega)
  obtain ⟨N, hN⟩ : ∃ N, ks.length = N := ⟨_, rfl⟩
  obtain ⟨M, hM⟩ : ∃ M, cs.length = M := ⟨_, rfl⟩
  rw [hN] at q0 s1 s2 k2 hn hs hl
  rw [hlb] at s4 k4
  rw [hM] at q1 s3 s4 k4 hl
  have hsN : (s : Int) < (N : Int) := by omega
  rw [show ((s + 1 : Nat) : Int) = (s : Int) + 1 by omega] at s2 s3 s4
  obtain ⟨n2, hn2⟩ : ∃ n2, N - (s + 1) = n2 := ⟨_, rfl⟩
  obtain ⟨n4, hn4⟩ : ∃ n4, M - (s + 1) = n4 := ⟨_, rfl⟩
  rw [hn2] at s2 k2
  rw [hn4] at s4 k4
  have HQ := hid0 (And.intro hkey (And.intro k1 (And.intro k2 (And.intro k3 (And.intro k4 (And.intro hkd (And.intro hp1 hp2)))))))
  have hS : w.cell? ⟨b, 0, none⟩ = some (.slice (some ⟨bk, ok, none⟩) N ck) ∧ w.cell? ⟨b, 2, none⟩ = some (.slice ac M cc) ∧ Below w.heap.size w w := ⟨q0, q1, Below.refl _ _⟩
  have HSS := hid0 hS
  have hs0 : (0 : Int) ≤ (s : Int) + 1 := by omega
  have hw : IntKind.i64.wrap ((s : Int) + 1) = (s : Int) + 1 := IntWalk.i64_in _ (by omega)
  have HW := hid0 hw
  clear hw hS hkey k1 k2 k3 k4 hk hc hlb hkd hl hx hN hM hks hcs hn2 hn4 hp1 hp2 h hs
  go_enter Try.func60, Try.ntmps60
  go_wp2_with (go_at_call 42; refine L1.mono ?_; rintro e w' ⟨rfl, rfl⟩)
  have hw := HW.out
  go_region_held3 (fun w' => w'.cell? ⟨b, 0, none⟩ = some (.slice (some ⟨bk, ok, none⟩) N ck) ∧ w'.cell? ⟨b, 2, none⟩ = some (.slice ac M cc) ∧ Below w.heap.size w w')
    (first
      | with_reducible assumption
      | (repeat (first | with_reducible exact HSS.out | with_reducible assumption | with_reducible refine hold2_drew ?_ | with_reducible refine hold2_alloc ?_)))
    (fail)
  clear hw
  go_wp2_with fail
  have HS2 := (by assumption : _ ∧ _ ∧ Below w.heap.size w _)
  have hw := HW.out
  go_region_held3 (fun w' => w'.cell? ⟨b, 0, none⟩ = some (.slice (some ⟨bk, ok, none⟩) N ck) ∧ w'.cell? ⟨b, 2, none⟩ = some (.slice ac M cc) ∧ Below w.heap.size w w')
    (first
      | with_reducible assumption
      | (repeat (first | with_reducible exact HSS.out | with_reducible assumption | with_reducible refine hold2_drew ?_ | with_reducible refine hold2_alloc ?_)))
    (fail)
  clear hw
  go_wp2_with fail
  have HS3 := (by assumption : _ ∧ _ ∧ Below w.heap.size w _)
  refine bodyPost_ret (v := .tuple #[.pointer (some ⟨w.heap.size, 0, none⟩), .string (txt x), .pointer (some ⟨w.heap.size + 1, 0, none⟩)]) (by simp [results, Try.results60, go_sem]) rfl ⟨⟨w.heap.size, w.heap.size + 1, by rw [HQ.out.1], ?_, ?_⟩, HS3.2.2⟩
  · rw [HQ.out.2.2.2.2.2.2.1]
    refine NodeAt.mk_node (hP _ (Nat.le_refl _)) (by go_cell) (by go_cell) (HQ.out.2.1.later HS3.2.2) (HQ.out.2.2.2.1.later HS3.2.2) rfl ?_
    exact Kids.mono (fun b' c g => NodeAt.later HS3.2.2 g) (HQ.out.2.2.2.2.2.1.take (s + 1))
  · rw [HQ.out.2.2.2.2.2.2.2]
    refine NodeAt.mk_node (hP _ (by omega)) (by go_cell) (by go_cell) (HQ.out.2.2.1.later HS3.2.2) (HQ.out.2.2.2.2.1.later HS3.2.2) rfl ?_
    exact Kids.mono (fun b' c g => NodeAt.later HS3.2.2 g) (HQ.out.2.2.2.2.2.1.drop (s + 1))
end Go.Proofs.Ytabpfibncipfjaa
