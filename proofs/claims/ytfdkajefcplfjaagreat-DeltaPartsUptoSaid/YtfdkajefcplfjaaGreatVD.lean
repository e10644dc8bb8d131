/- Several of my texts laid together, each as it was: D12, D28, D30, D31, D32. Conditions: each names its own. -/
import Derived.Test.YtfdkajefcplfjaaGreatVB
import Derived.Test.YtfdkajefcplfjaaGreatI3
import Derived.Test.YtfdkajefcplfjaaGreatVC
import Derived.Test.YtfdkajefcplfjaaGreatI6
import Derived.Lib.Walk
/- The project's layer 14 (delta): pairs: rows of two lists, side by side: the contract of the call, in whatever memory. Conditions: see XF's. -/
namespace Go.Proofs.YtfdkajefcplfjaaGreat
open Go.RowKit

set_option maxHeartbeats 8000000 in
set_option maxRecDepth 1000000 in
theorem dPairs_any (a1 a2 : Option Addr) (c1 c2 : Nat) (E1 E2 : List Elem) (w : World) (h1 : ElemsAt w a1 E1) (h2 : ElemsAt w a2 E2) (l1 : E1.length ≤ 1000000) (l2 : E2.length ≤ 1000000) (hS : SideOk E1 E2) :
    Calls Tryz.prog 198 #[.slice a1 E1.length c1, .slice a2 E2.length c2] w fun e w' => ∃ v E, e = .returned v ∧ MkE w w' v E ∧ E.map pr = pairsB (E1.map pr) (E2.map pr) := by
  have A1 := hid0 h1
  have A2 := hid0 h2
  have HS := hid0 hS
  have hfew := hS.few
  clear h1 h2 hS
  have hpl := pairsB_len
  have HPL := hid0 hpl
  clear hpl
  obtain ⟨N, hN⟩ : ∃ N, E1.length * E2.length = N := ⟨_, rfl⟩
  rw [hN] at hfew
  have HN := hid0 hN
  clear hN
  go_enter Tryz.func198, Tryz.ntmps198
  have hM1 : MkE w w (.slice none 0 0) [] := MkE.nil w
  go_wp2_with fail
  go_loopw [5, 12] (fun ov iv wr => ∃ (i : Nat) (Eo : List Elem), i ≤ E1.length ∧ iv = .int .i64 i ∧ MkE w wr ov Eo ∧ Hid (Eo.map pr = pairsB ((E1.map pr).take i) (E2.map pr))) (fun _ iv _ => E1.length - (intOf iv).toNat)
  case atStart => exact ⟨0, [], Nat.zero_le _, rfl, hM1, hid0 (by simp [pairsB])⟩
  case round =>
    obtain ⟨i, Eo, hi, rfl, hM, hT⟩ := hrel
    have hsz := hM.b.size
    clear hM1
    by_cases hlt : i < E1.length
    · obtain ⟨b1, o1, rfl, hc1⟩ := (A1.out.1.later hM.b) (by intro e; rw [e] at hlt; exact absurd hlt (by simp))
      obtain ⟨q0, q1⟩ := hc1 i hlt
      clear hc1
      have hmem := List.getElem_mem hlt
      have hx1 := hid0 (A1.out.2 _ hmem).1
      have hz1 := hid0 (HS.out.z1 _ hmem)
      have hlen := hid0 (HS.out.len _ hmem)
      have hnum := hid0 (HS.out.num _ hmem)
      have HPT := hid0 (pairs_take (E2 := E2) hlt)
      have HF := hid0 (show i * E2.length + E2.length ≤ N by rw [← HN.out, ← Nat.succ_mul]; exact Nat.mul_le_mul_right _ hlt)
      have HLO := hid0 (show Eo.length = i * E2.length by
        have := congrArg List.length hT.out
        rw [List.length_map, pairsB_len, List.length_take, List.length_map, List.length_map, Nat.min_eq_left (by omega)] at this
        exact this)
      generalize hx : E1[i] = x at q0 q1 hx1 hz1 hlen hnum HPT
      clear hx hmem
      have hMA := hM.alloc (Obj.cells #[.slice x.a x.r.length x.c, .int .i64 x.n] 80)
      have VA := VarB.new wr [.slice x.a x.r.length x.c, .int .i64 x.n] 80
      have hbx := hM.box
      have hBx := hid0 (Nat.lt_of_le_of_lt hsz (VA.lt))
      go_wp2_with fail
      clear q0 q1 hM
      generalize wr.alloc (Obj.cells #[.slice x.a x.r.length x.c, .int .i64 x.n] 80) = WA at hMA VA hBx ⊢
      generalize wr.heap.size = BX at hbx VA hsz ⊢
      go_loopw [5, 18] (fun ov kv wr => ∃ (k : Nat) (Eq : List Elem), k ≤ E2.length ∧ kv = .int .i64 k ∧ MkE w wr ov Eq ∧ VarB wr BX [.slice x.a x.r.length x.c, .int .i64 x.n] ∧ ov.ownBlock ≠ some BX ∧ Hid (Eq.map pr = Eo.map pr ++ ((E2.map pr).take k).map (fun y => (x.r ++ y.1, x.n * y.2)))) (fun _ kv _ => E2.length - (intOf kv).toNat)
      case atStart => exact ⟨0, Eo, Nat.zero_le _, rfl, hMA, VA, hbx, hid0 (by simp)⟩
      case round =>
        obtain ⟨k, Eq, hk, rfl, hM, V, hbX, hT2⟩ := hrel
        have hszi := hM.b.size
        clear hMA VA hbx
        by_cases hlt2 : k < E2.length
        · obtain ⟨b2, o2, rfl, hc2⟩ := (A2.out.1.later hM.b) (by intro e; rw [e] at hlt2; exact absurd hlt2 (by simp))
          obtain ⟨r0, r1⟩ := hc2 k hlt2
          clear hc2
          have hmem2 := List.getElem_mem hlt2
          have hy1 := hid0 (A2.out.2 _ hmem2).1
          have hz2 := hid0 (HS.out.z2 _ hmem2)
          have hlen2 := hlen.out _ hmem2
          have hnum2 := hid0 (hnum.out _ hmem2)
          have HTK := hid0 (map_take_pr hlt2 x.r x.n)
          have HLQ : Eq.length + 1 ≤ 1000000 := by
            have := congrArg List.length hT2.out
            rw [List.length_map, List.length_append, List.length_map, List.length_map, List.length_take, List.length_map, HLO.out] at this
            have := HF.out
            omega
          generalize hy : E2[k] = y at r0 r1 hy1 hz2 hlen2 hnum2 HTK
          clear hy hmem2
          have hw : IntKind.i64.wrap (x.n * y.n) = x.n * y.n := IntWalk.i64_in _ (by have := hnum2.out; unfold in64 at this; omega)
          have hMA := hM.alloc (Obj.cells #[.slice y.a y.r.length y.c, .int .i64 y.n] 80)
          have VY := VarB.new wr [.slice y.a y.r.length y.c, .int .i64 y.n] 80
          have VX := V.alloc (Obj.cells #[.slice y.a y.r.length y.c, .int .i64 y.n] 80)
          have hbY := hM.box
          have x0 := V.cell 0 rfl
          have x1 := V.cell 1 rfl
          go_wp2_with fail
          clear r0 r1 hM V x0 x1
          generalize wr.alloc (Obj.cells #[.slice y.a y.r.length y.c, .int .i64 y.n] 80) = WB at hMA VY VX ⊢
          generalize wr.heap.size = BY at hbY VY hszi ⊢
          obtain ⟨rr, hrr⟩ : ∃ rr, Hid (x.r ++ y.r = rr) := ⟨_, hid0 rfl⟩
          have hrl := hid0 (show rr.length ≤ 1000000 by rw [← hrr.out, List.length_append]; exact hlen2)
          have hMD := hMA.drew
          have VXD := VX.drew
          have VYD := VY.drew
          have x0 := VX.cell 0 rfl
          have x1 := VX.cell 1 rfl
          have y0 := VY.cell 0 rfl
          have y1 := VY.cell 1 rfl
          clear hMA VX VY
          go_region_held3 (fun w' => w'.cell? ⟨BX, 0, none⟩ = some (.slice x.a x.r.length x.c) ∧ w'.cell? ⟨BX, 1, none⟩ = some (.int .i64 x.n) ∧ w'.cell? ⟨BY, 0, none⟩ = some (.slice y.a y.r.length y.c) ∧ w'.cell? ⟨BY, 1, none⟩ = some (.int .i64 y.n))
            (first
              | (exact ⟨x0, x1, y0, y1⟩)
              | (go_split_ands; (try dsimp only); (repeat' apply And.intro); all_goals (first
                | assumption
                | exact cell_later hbn ‹_›
                | exact hX1.cell 0 rfl
                | exact hX1.cell 1 rfl
                | exact hY1.cell 0 rfl
                | exact hY1.cell 1 rfl
                | go_keep)))
            (first
              | (go_at_call 125; (try go_split_ands); refine (concat2_any _ _ _ _ _ _ rr _ _ (hx1.out.later hMD.b) (hy1.out.later hMD.b) hrr hlen2 hz1.out hz2.out).mono ?_; rintro e wn ⟨⟨a', c', rfl, hcc, hcp⟩, hbn⟩; have hM3 := fun o => (hMD.below hbn).alloc o; have hXn := VXD.below hbn; have hYn := VYD.below hbn; have HCP := hid0 hcp)
              | (refine step_mk (by rfl) _ _ (by rfl) (by rfl) (hM3 _) ⟨a', c', rr, x.n * y.n⟩ wn.heap.size (by rfl) (elem_new _ _ _ _).1 (elem_new _ _ _ _).2 (HCP.out.later ((Below.refl _ _).alloc (Nat.le_refl _) _)) (by have := hrl.out; show rr.length * 32 ≤ _; omega) hcc (by omega) ?_; intro v1 w1 hm1 hg1; have hX1 := hg1.var (hXn.alloc _) hbX; have hY1 := hg1.var (hYn.alloc _) hbY; have hbX1 := hg1.apart (hXn.alloc _) hbX))
          have R := hid0 (show (Eq ++ [⟨a', c', rr, x.n * y.n⟩] : List Elem).map pr = Eo.map pr ++ ((E2.map pr).take (k + 1)).map (fun y => (x.r ++ y.1, x.n * y.2)) by
            rw [List.map_append, hT2.out, HTK.out, List.append_assoc, hrr.out]; rfl)
          clear hXn hYn hM3 hMD VXD VYD hg1 hbn HCP hY1
          go_wp2
          exact ⟨⟨k + 1, _, by omega, by go_num, hm1, hX1, hbX1, R⟩, by simp [intOf]; omega⟩
        · have hie : ¬ (k : Int) < E2.length := by omega
          rw [List.take_of_length_le (by simp; omega)] at hT2
          have R := hid0 (show Eq.map pr = pairsB ((E1.map pr).take (i + 1)) (E2.map pr) by rw [hT2.out, hT.out, HPT.out])
          clear V hbX
          go_wp2
          exact ⟨⟨i + 1, Eq, by omega, by go_num, hM, R⟩, by simp [intOf]; omega⟩
    · have hie : ¬ (i : Int) < E1.length := by omega
      rw [List.take_of_length_le (by simp; omega)] at hT
      go_wp2
      go_ret
      exact ⟨_, rfl, Eo, hM, hT.out⟩
end Go.Proofs.YtfdkajefcplfjaaGreat

/- The project's layer 14 (delta): sideBySide: the contract of the call, in whatever memory. Conditions: the lists' cells are known, and what is put side by side is not too much. -/
namespace Go.Proofs.YtfdkajefcplfjaaGreat
open Go.RowKit

def prodL (L : List (List Pair)) : List Pair := L.foldl pairsB [([], 1)]
def emptyL (L : List (List Pair)) : Bool := L.any fun x => (x.length : Int) == 0
def sideL (L : List (List Pair)) : List Pair := if emptyL L = true then [] else prodL L
theorem prodL_take {L : List (List Pair)} {i : Nat} (h : i < L.length) : prodL (L.take (i + 1)) = pairsB (prodL (L.take i)) L[i] := by
  unfold prodL
  rw [List.take_succ_eq_append_getElem h, List.foldl_append]
  rfl
/-- What is put side by side isn't too much. -/
structure SideS (L : List (List Pair)) : Prop where
  few : ∀ i (h : i < L.length), (prodL (L.take i)).length ≤ 1000000 ∧ L[i].length ≤ 1000000 ∧ (prodL (L.take i)).length * L[i].length ≤ 1000000
  ok : ∀ i (h : i < L.length), ∀ x ∈ prodL (L.take i), ∀ y ∈ L[i], x.1.length + y.1.length ≤ 1000000 ∧ in64 (x.2 * y.2)
def BX.ps (x : BX) : List Pair := x.E.map pr
set_option maxRecDepth 100000 in
set_option maxHeartbeats 4000000 in
theorem dSideBy_any (a : Option Addr) (c : Nat) (l : List BX) (w : World) (h : BsAt w a l) (hfew : l.length ≤ 1000000) (hE : ∀ x ∈ l, ElemsAt w x.a x.E ∧ ∀ e ∈ x.E, e.a = none → e.c = 0) (hS : emptyL (l.map BX.ps) = false → SideS (l.map BX.ps)) :
    Calls Tryz.prog 140 #[.slice a l.length c] w fun e w' => ∃ v E, e = .returned v ∧ MkE w w' v E ∧ E.map pr = sideL (l.map BX.ps) := by
  have CE := hid0 (dEmpties_any a c l w h hfew)
  have hem : (l.any fun x => (x.E.length : Int) == 0) = emptyL (l.map BX.ps) := by
    unfold emptyL BX.ps
    rw [List.any_map]
    congr 1
    funext x
    simp
  rw [hem] at CE
  clear hem
  have A := hid0 h
  have HE := hid0 hE
  clear h hE
  cases he : emptyL (l.map BX.ps) with
  | true =>
    rw [he] at CE
    have hs : sideL (l.map BX.ps) = [] := by unfold sideL; rw [if_pos he]
    rw [hs]
    clear he hs hS
    go_enter Tryz.func140, Tryz.ntmps140
    go_wp2_with (first | (go_at_call 196; go_must (refine CE.out.mono ?_; rintro e w1 ⟨rfl, hb1⟩)) | fail)
    go_ret
    exact ⟨_, [], rfl, (MkE.nil w1).weak hb1, rfl⟩
  | false =>
    rw [he] at CE
    have HS := hid0 (hS he)
    have hs : sideL (l.map BX.ps) = prodL (l.map BX.ps) := by unfold sideL; rw [if_neg (by rw [he]; simp)]
    rw [hs]
    clear he hs hS
    go_enter Tryz.func140, Tryz.ntmps140
    go_wp2_with (first | (go_at_call 196; go_must (refine CE.out.mono ?_; rintro e w1 ⟨rfl, hb1⟩)) | fail)
    have hM0 := MkE.lit w w1 hb1 1
    go_loopw [3, 12] (fun rv iv wr => ∃ (i : Nat) (M : List Elem), i ≤ l.length ∧ iv = .int .i64 i ∧ MkE w wr rv M ∧ Hid (M.map pr = prodL ((l.map BX.ps).take i))) (fun _ iv _ => l.length - (intOf iv).toNat)
    case atStart => exact ⟨0, _, Nat.zero_le _, rfl, hM0, hid0 rfl⟩
    case round =>
      obtain ⟨i, M, hi, rfl, hM, hT⟩ := hrel
      clear hM0
      have hB := hM.b
      by_cases hlt : i < l.length
      · obtain ⟨b1, o1, rfl, hc1⟩ := (A.out.later hB).out (by intro e; rw [e] at hlt; exact absurd hlt (by simp))
        have q0 := hc1 i hlt
        clear hc1
        obtain ⟨hx1, hx2⟩ := HE.out _ (List.getElem_mem hlt)
        have hlm : i < (l.map BX.ps).length := by simpa using hlt
        obtain ⟨k1, k2, k3⟩ := HS.out.few i hlm
        have k4 := HS.out.ok i hlm
        have htk := prodL_take hlm
        have hge : (l.map BX.ps)[i] = l[i].ps := by simp
        rw [hge] at k2 k3 k4 htk
        obtain ⟨a1, c1, rfl, hc1, hME⟩ := hM.elems
        rw [← hT.out] at k1 k3 k4 htk
        rw [List.length_map] at k1 k3
        generalize l[i] = x at q0 hx1 hx2 k2 k3 k4 htk
        have hps : x.ps = x.E.map pr := rfl
        rw [hps] at k2 k3 k4 htk
        rw [List.length_map] at k2 k3
        have CP := hid0 (dPairs_any a1 x.a c1 x.c M x.E wr hME (hx1.later hB) k1 k2 ⟨hM.z, hx2, fun e he y hy => (k4 _ (List.mem_map_of_mem he) _ (List.mem_map_of_mem hy)).1, fun e he y hy => (k4 _ (List.mem_map_of_mem he) _ (List.mem_map_of_mem hy)).2, k3⟩)
        have HTK := hid0 htk
        clear hM hT hx1 hx2 k1 k2 k3 k4 htk hge hlm hc1 hME hps
        go_wp2_with (first | (go_at_call 198; go_must (refine CP.out.mono ?_; rintro e w2 ⟨v2, E2, rfl, hM2, hm2⟩)) | fail)
        exact ⟨⟨i + 1, E2, by omega, by go_num, hM2.weak hB, hid0 (by rw [HTK.out, hm2])⟩, by simp [intOf]; omega⟩
      · have hie : ¬ (i : Int) < (l.length : Int) := by omega
        rw [List.take_of_length_le (by simp; omega)] at hT
        go_wp2
        go_ret
        exact ⟨_, rfl, M, hM, hT.out⟩
end Go.Proofs.YtfdkajefcplfjaaGreat

/- The project's layer 14 (delta): lists of lists put behind each other: what net's sideBySide reads. Conditions: the lists' cells are known. -/
namespace Go.Proofs.YtfdkajefcplfjaaGreat
open Go.RowKit

/-- The cells of a list of one's own. -/
def ValsAt (w : World) (a : Option Addr) (xs : List Value) : Prop := xs ≠ [] → ∃ b off, a = some ⟨b, off, none⟩ ∧ ∀ j u, xs[j]? = some u → w.cell? ⟨b, off + j, none⟩ = some u
theorem ValsAt.later {w w' : World} {a : Option Addr} {xs : List Value} (h : ValsAt w a xs) (hb : Below w.heap.size w w') : ValsAt w' a xs := fun hn => by
  obtain ⟨b, off, e, hc⟩ := h hn
  exact ⟨b, off, e, fun j u hj => cell_later hb (hc j u hj)⟩
theorem vals_owned {B n : Nat} {ty : TypeId} {w : World} {v : Value} {xs : List Value} (h : w.ownsRow B ty 1 v n xs) : ∃ a c, v = .slice a n c ∧ n ≤ c ∧ ValsAt w a xs := by
  have hlen : xs.length = n := by have := h.1; omega
  rcases h.2 with ⟨rfl, e⟩ | ⟨g, cap, cur, rfl, _, _, h1, _⟩
  · subst e
    obtain rfl : xs = [] := List.length_eq_zero_iff.1 hlen
    exact ⟨none, 0, rfl, Nat.le_refl _, fun h => absurd rfl h⟩
  · refine ⟨some ⟨g, 0, none⟩, cap, rfl, h1, fun _ => ⟨g, 0, rfl, fun j u hj => ?_⟩⟩
    have hj' : j < xs.length := (List.getElem?_eq_some_iff.1 hj).1
    have := h.cellAt j (by omega)
    rw [Nat.zero_add, this, hj]
theorem bs_owned {B n : Nat} {ty : TypeId} {w : World} {v : Value} {l : List BX} (h : w.ownsRow B ty 1 v n (l.map BX.val)) : ∃ a c, v = .slice a l.length c ∧ l.length ≤ c ∧ BsAt w a l := by
  have hlen : l.length = n := by have := h.1; simp at this; omega
  obtain ⟨a, c, hv, hc, hV⟩ := vals_owned h
  subst hlen
  refine ⟨a, c, hv, hc, ⟨fun hn => ?_⟩⟩
  obtain ⟨b, off, e, hcl⟩ := hV (by simpa using hn)
  exact ⟨b, off, e, fun i hi => hcl i _ (by simp [hi, BX.val])⟩
theorem concat3L_any (a1 a2 a3 : Option Addr) (c1 c2 c3 n1 n2 n3 : Nat) (x1 x2 x3 : List Value) (w : World) (ty : TypeId) (h1 : ValsAt w a1 x1) (h2 : ValsAt w a2 x2) (h3 : ValsAt w a3 x3) (l1 : x1.length = n1) (l2 : x2.length = n2) (l3 : x3.length = n3)
    (o1 : ∀ u ∈ x1, u.oneCell' = true) (o2 : ∀ u ∈ x2, u.oneCell' = true) (o3 : ∀ u ∈ x3, u.oneCell' = true) (hl : n1 + n2 + n3 ≤ 1000000) :
    Calls Tryz.prog 138 #[.slice (some ⟨w.heap.size, 0, none⟩) 3 3] (w.alloc (Obj.cells #[.slice a1 n1 c1, .slice a2 n2 c2, .slice a3 n3 c3] ty)) fun e w' => (∃ v, e = .returned v ∧ w'.ownsRow w.heap.size 57 1 v (n1 + n2 + n3) (x1 ++ x2 ++ x3)) ∧ Below w.heap.size w w' := by
  have hb : Below w.heap.size w (w.alloc (Obj.cells #[.slice a1 n1 c1, .slice a2 n2 c2, .slice a3 n3 c3] ty)) := (Below.refl _ _).alloc (Nat.le_refl _) _
  have V := VarB.new w [.slice a1 n1 c1, .slice a2 n2 c2, .slice a3 n3 c3] ty
  have hC : CLAtL (w.alloc (Obj.cells #[.slice a1 n1 c1, .slice a2 n2 c2, .slice a3 n3 c3] ty)) (some ⟨w.heap.size, 0, none⟩) [⟨a1, c1, n1, x1⟩, ⟨a2, c2, n2, x2⟩, ⟨a3, c3, n3, x3⟩] := by
    refine ⟨fun _ => ⟨w.heap.size, 0, rfl, fun i hi => ?_⟩, fun e he => ?_⟩
    · match i, hi with
      | 0, _ => exact V.cell 0 rfl
      | 1, _ => exact V.cell 1 rfl
      | 2, _ => exact V.cell 2 rfl
    · simp at he
      rcases he with rfl | rfl | rfl
      · exact ⟨h1.later hb, by dsimp only; omega, o1⟩
      · exact ⟨h2.later hb, by dsimp only; omega, o2⟩
      · exact ⟨h3.later hb, by dsimp only; omega, o3⟩
  have hN : catNL [⟨a1, c1, n1, x1⟩, ⟨a2, c2, n2, x2⟩, ⟨a3, c3, n3, x3⟩] = n1 + n2 + n3 := by simp [catNL]; omega
  have hX : catCL [⟨a1, c1, n1, x1⟩, ⟨a2, c2, n2, x2⟩, ⟨a3, c3, n3, x3⟩] = x1 ++ x2 ++ x3 := by simp [catCL]
  have := concatCL_any (some ⟨w.heap.size, 0, none⟩) 3 _ _ hC (by simp) (by rw [hN]; exact hl)
  rw [hN, hX] at this
  refine this.mono ?_
  rintro e w' ⟨⟨v, rfl, hown⟩, hb'⟩
  exact ⟨⟨v, rfl, own_lower hown (by simp)⟩, below_through hb' hb.size hb⟩
end Go.Proofs.YtfdkajefcplfjaaGreat

/- The project's layer 14 (delta), plainly: what net puts side by side, place by place. Nothing of any program here. Conditions: none. -/
namespace Go.Proofs.YtfdkajefcplfjaaGreat
open Go.RowKit

/-- A name's rows, as a list's slice tells them. -/
def bxD (l : List Nx) (s : List UInt8) : BX := match findN l s with
  | some x => ⟨x.a, x.c, x.E⟩
  | none => ⟨none, 0, []⟩
theorem slc_bx (l : List Nx) (s : List UInt8) : slcOf l s = (bxD l s).val := by
  unfold slcOf bxD
  cases findN l s <;> rfl
theorem bx_ps (l : List Nx) (s : List UInt8) : (bxD l s).ps = bagN l s := by
  unfold bxD bagN BX.ps
  cases findN l s <;> rfl
theorem ofD_bx (l : List Nx) (fs : List ByteArray) : ofD l fs = (fs.map fun s => bxD l s.data.toList).map BX.val := by
  unfold ofD
  rw [List.map_map]
  exact List.map_congr_left fun s _ => slc_bx l _
theorem ofD_one (l : List Nx) (fs : List ByteArray) : ∀ u ∈ ofD l fs, u.oneCell' = true := fun u hu => by
  rw [ofD_bx] at hu
  obtain ⟨x, _, rfl⟩ := List.mem_map.1 hu
  rfl
theorem ofD_len (l : List Nx) (fs : List ByteArray) : (ofD l fs).length = fs.length := List.length_map _
/-- The lists that are put side by side at a place: those ahead as they were, the changes, those behind as they are. -/
def netX (old ch now : List Nx) (fs : List ByteArray) (i : Nat) (s : ByteArray) : List BX := ((fs.take i).map fun s => bxD old s.data.toList) ++ [bxD ch s.data.toList] ++ (fs.drop (i + 1)).map fun s => bxD now s.data.toList
theorem netX_vals (old ch now : List Nx) (fs : List ByteArray) (i : Nat) (s : ByteArray) : ofD old (fs.take i) ++ [slcOf ch s.data.toList] ++ ofD now (fs.drop (i + 1)) = (netX old ch now fs i s).map BX.val := by
  unfold netX
  rw [ofD_bx, ofD_bx, slc_bx, List.map_append, List.map_append]
  rfl
def netL (old ch now : List Nx) (fs : List ByteArray) (i : Nat) (s : ByteArray) : List (List Pair) := ((fs.take i).map fun s => bagN old s.data.toList) ++ [bagN ch s.data.toList] ++ (fs.drop (i + 1)).map fun s => bagN now s.data.toList
theorem netX_ps (old ch now : List Nx) (fs : List ByteArray) (i : Nat) (s : ByteArray) : (netX old ch now fs i s).map BX.ps = netL old ch now fs i s := by
  unfold netX netL
  rw [List.map_append, List.map_append, List.map_map, List.map_map]
  congr 1
  · congr 1
    · exact List.map_congr_left fun s _ => bx_ps old _
    · rw [List.map_singleton, bx_ps]
  · exact List.map_congr_left fun s _ => bx_ps now _
/-- All net rows, before they are one bag. -/
def netR (old ch now : List Nx) (fs : List ByteArray) (k : Nat) : List Pair := (List.range k).flatMap fun i => sideL (netL old ch now fs i (fs.getD i ⟨#[]⟩))
theorem netR_next (old ch now : List Nx) (fs : List ByteArray) {k : Nat} (h : k < fs.length) : netR old ch now fs (k + 1) = netR old ch now fs k ++ sideL (netL old ch now fs k fs[k]) := by
  unfold netR
  rw [List.range_succ, List.flatMap_append]
  simp [List.getD, h]
end Go.Proofs.YtfdkajefcplfjaaGreat

/- The project's layer 14 (delta): the beginning and the end of a list of names, as the slice expressions tell them. Conditions: each lemma names its own. -/
namespace Go.Proofs.YtfdkajefcplfjaaGreat
open Go.RowKit

theorem StrsA.head {w : World} {a : Option Addr} {l : List ByteArray} (k : Nat) (h : StrsA w a l) : StrsA w a (l.take k) := ⟨fun hne => by
  obtain ⟨b, off, e, hc⟩ := h.out (fun e => hne (by simp [e]))
  exact ⟨b, off, e, fun i hi => by
    have hi' : i < l.length := by rw [List.length_take] at hi; omega
    rw [hc i hi', List.getElem_take]⟩, fun s hs => h.small s (List.mem_of_mem_take hs)⟩
theorem StrsA.tail {w : World} {a : Option Addr} {l : List ByteArray} (k : Nat) (h : StrsA w a l) : StrsA w (a.map (·.add (k * 1))) (l.drop k) := ⟨fun hne => by
  obtain ⟨b, off, rfl, hc⟩ := h.out (fun e => hne (by simp [e]))
  refine ⟨b, off + k, by simp [WideShapes.add_plain], fun i hi => ?_⟩
  have hi' : k + i < l.length := by rw [List.length_drop] at hi; omega
  rw [Nat.add_assoc, hc (k + i) hi', List.getElem_drop], fun s hs => h.small s (List.mem_of_mem_drop hs)⟩
theorem StrsA.here {w : World} {a a' : Option Addr} {l : List ByteArray} (k : Nat) (hk : l.length ≤ k) (h : StrsA w a' l) : StrsA w a (l.drop k) := ⟨fun hne => absurd (List.drop_eq_nil_of_le hk) hne, fun s hs => h.small s (List.mem_of_mem_drop hs)⟩
set_option maxRecDepth 1000000 in
theorem strs_lo (a : Option Addr) (n c k : Nat) (hk : k ≤ n) (hc : n ≤ c) (_hn : n ≤ 16000000) (W : World) :
    (Instr.slice 38 (.slice a n c) none (some (.int .i64 k)) none).run Tryz.prog W = .ok (.slice a k c) W := by
  rw [run_slice_h W 38 a n c Tryz.underlying38 .i64 k (by omega) (by omega)]
  simp [go_sem, Result.andThen, sliced]
set_option maxRecDepth 1000000 in
theorem strs_hi (a : Option Addr) (l : List ByteArray) (n c k : Nat) (hl : l.length = n) (hk : k ≤ n) (hc : n ≤ c) (_hn : n ≤ 16000000) :
    ∃ a1 c1, (∀ W : World, (Instr.slice 38 (.slice a n c) (some (.int .i64 k)) none none).run Tryz.prog W = .ok (.slice a1 (n - k) c1) W) ∧ ∀ W, StrsA W a l → StrsA W a1 (l.drop k) := by
  refine ⟨if c = k then a else a.map (·.add (k * 1)), c - k, fun W => ?_, fun W h => ?_⟩
  · rw [run_slice_l W 38 a n c Tryz.underlying38 .i64 k (by omega) (by omega)]
    simp [go_sem, Result.andThen, sliced]
  · split
    · exact h.here k (by omega)
    · exact h.tail k
end Go.Proofs.YtfdkajefcplfjaaGreat
