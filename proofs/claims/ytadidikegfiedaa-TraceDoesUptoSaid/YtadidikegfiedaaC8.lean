/- Several of my texts laid together, each as it was: T15, T16, T17. Conditions: each names its own. -/
import Derived.Test.YtadidikegfiedaaC7
import Derived.Test.YtadidikegfiedaaC1
/- The same log? (the reference's Same), of logs that are; how many entries changes make (its Size): contracts of the calls, in whatever memory. Conditions: what they read is known. -/
namespace Go.Proofs.Ytadidikegfiedaa
open Go.RowKit

structure SSm (b2 b3 : Nat) (us vs : List Value) (g1 x1 g2 x2 : Nat) (s m : Int) (y1 : Option Addr) (k1 : Nat) (y2 : Option Addr) (k2 : Nat) (r : List Val) (w0 W : World) : Prop where
  v1 : VarB W b2 us
  v2 : VarB W b3 vs
  p0 : W.cell? ⟨g1, x1, none⟩ = some (.int .i64 s)
  p1 : W.cell? ⟨g1, x1 + 1, none⟩ = some (.int .i64 m)
  p2 : W.cell? ⟨g1, x1 + 2, none⟩ = some (.slice y1 r.length k1)
  q0 : W.cell? ⟨g2, x2, none⟩ = some (.int .i64 s)
  q1 : W.cell? ⟨g2, x2 + 1, none⟩ = some (.int .i64 m)
  q2 : W.cell? ⟨g2, x2 + 2, none⟩ = some (.slice y2 r.length k2)
  b : Below w0.heap.size w0 W
theorem SSm.below {b2 b3 : Nat} {us vs : List Value} {g1 x1 g2 x2 : Nat} {s m : Int} {p1 : Option Addr} {k1 : Nat} {p2 : Option Addr} {k2 : Nat} {r : List Val} {w0 W W' : World} (h : SSm b2 b3 us vs g1 x1 g2 x2 s m p1 k1 p2 k2 r w0 W) (hb : Below W.heap.size W W') : SSm b2 b3 us vs g1 x1 g2 x2 s m p1 k1 p2 k2 r w0 W' :=
  ⟨h.v1.below hb, h.v2.below hb, cell_later hb h.p0, cell_later hb h.p1, cell_later hb h.p2, cell_later hb h.q0, cell_later hb h.q1, cell_later hb h.q2, below_through hb h.b.size h.b⟩
set_option maxHeartbeats 8000000 in
set_option maxRecDepth 1000000 in
theorem refSameN_any (f : Int) (a1 a2 : Option Addr) (c1 c2 : Nat) (E1 E2 : List Ent) (w : World) (h1 : EntsAt w a1 E1) (h2 : EntsAt w a2 E2) (hl : E1.length ≤ 1100000) (he : E1.map dat = E2.map dat) :
    Calls Try.prog 11 #[.agg #[.int .i64 f, .slice a1 E1.length c1], .agg #[.int .i64 f, .slice a2 E2.length c2]] w fun e w' => e = .returned (.bool true) ∧ Below w.heap.size w w' := by
  have hlen : E2.length = E1.length := by have := congrArg List.length he; rw [List.length_map, List.length_map] at this; omega
  rw [hlen]
  have hV := VarB.two (w := w) [.int .i64 f, .slice a1 E1.length c1] [.int .i64 f, .slice a2 E1.length c2] 24 24
  have hb1 : Below w.heap.size w ((w.alloc (Obj.cells #[.int .i64 f, .slice a1 E1.length c1] 24)).alloc (Obj.cells #[.int .i64 f, .slice a2 E1.length c2] 24)) := ((Below.refl _ _).alloc (Nat.le_refl _) _).alloc (by simp) _
  have A1 := hid0 (h1.later hb1)
  have A2 := hid0 (h2.later hb1)
  have HE := hid0 he
  obtain ⟨n, hn⟩ : ∃ n, E1.length = n := ⟨_, rfl⟩
  have HN := hid0 hn
  have HN2 := hid0 hlen
  rw [hn] at hl hb1 hV A1 A2 ⊢
  clear h1 h2 he hn hlen
  go_enter Try.func11, Try.ntmps11
  have l0 := hV.1.cell 0 rfl
  have l1 := hV.1.cell 1 rfl
  have m0 := hV.2.cell 0 rfl
  have m1 := hV.2.cell 1 rfl
  go_wp2_with fail
  generalize ((w.alloc (Obj.cells #[.int .i64 f, .slice a1 n c1] 24)).alloc (Obj.cells #[.int .i64 f, .slice a2 n c2] 24)) = w1 at *
  obtain ⟨b2, hb2⟩ : ∃ b, w.heap.size = b := ⟨_, rfl⟩
  obtain ⟨b3, hb3⟩ : ∃ b, w.heap.size + 1 = b := ⟨_, rfl⟩
  have HB1 := hid0 hb1
  rw [hb3] at hV m0 m1
  rw [hb2] at hV l0 l1
  rw [hb3, hb2]
  clear hb1 hb2 hb3
  go_wp2_with fail
  have HV := hid0 hV
  clear l0 l1 m0 m1 hV
  go_loopw [5] (fun iv wr => ∃ i : Nat, i ≤ n ∧ iv = .int .i64 i ∧ Below w1.heap.size w1 wr) (fun iv _ => n - (intOf iv).toNat)
  case atStart => exact ⟨0, Nat.zero_le _, rfl, Below.refl _ _⟩
  case round =>
    obtain ⟨i, hi, rfl, hB⟩ := hrel
    have l1 := (HV.out.1.below hB).cell 1 rfl
    by_cases hlt : i < n
    · have hi1 : i < E1.length := by rw [HN.out]; exact hlt
      have hi2 : i < E2.length := by rw [HN2.out]; exact hi1
      obtain ⟨g1, o1, rfl, hc1⟩ := (A1.out.1.later hB) (by intro e; rw [e] at hi1; exact absurd hi1 (by simp))
      obtain ⟨g2, o2, rfl, hc2⟩ := (A2.out.1.later hB) (by intro e; rw [e] at hi2; exact absurd hi2 (by simp))
      obtain ⟨p0, p1, p2⟩ := hc1 i hi1
      obtain ⟨q0, q1, q2⟩ := hc2 i hi2
      have r1 := A1.out.2 _ (List.getElem_mem hi1)
      have r2 := A2.out.2 _ (List.getElem_mem hi2)
      have hd : dat E1[i] = dat E2[i] := by
        have e : (E1.map dat)[i]? = (E2.map dat)[i]? := by rw [HE.out]
        simpa [hi1, hi2] using e
      clear hc1 hc2
      generalize E1[i] = x at p0 p1 p2 r1 hd
      generalize E2[i] = y at q0 q1 q2 r2 hd
      obtain ⟨s, m, p1', k1, r⟩ := x
      obtain ⟨s2, m2, p2', k2, r'⟩ := y
      obtain ⟨rfl, rfl, rfl⟩ : s = s2 ∧ m = m2 ∧ r = r' := by simpa [dat] using hd
      clear hd
      dsimp only at p0 p1 p2 q0 q1 q2 r1 r2
      have CC := hid0 (fun W (hW : Below w1.heap.size w1 W) => (show Calls Try.prog 32 #[.slice p1' r.length k1, .slice p2' r.length k2] W (fun e w' => e = .returned (.int .i64 0) ∧ Below W.heap.size W w') from by
        have h := refRows_any p1' p2' k1 k2 r r W (r1.1.later hW) (r2.1.later hW) (by have := r1.2; unfold rowOK at this; unfold maxLen; omega)
        rwa [rowsV_self] at h))
      have hS : SSm b2 b3 [.int .i64 f, .slice (some ⟨g1, o1, none⟩) n c1] [.int .i64 f, .slice (some ⟨g2, o2, none⟩) n c2] g1 (o1 + i * 3) g2 (o2 + i * 3) s m p1' k1 p2' k2 r w1 wr := ⟨HV.out.1.below hB, HV.out.2.below hB, p0, p1, p2, q0, q1, q2, hB⟩
      clear p0 p1 p2 q0 q1 q2 r1 r2
      go_wp2_with fail
      have hS := hS.below (Below.drew (Below.refl _ _))
      clear l1 hB
      refine wp_region_held_drew (S := SSm b2 b3 [.int .i64 f, .slice (some ⟨g1, o1, none⟩) n c1] [.int .i64 f, .slice (some ⟨g2, o2, none⟩) n c2] g1 (o1 + i * 3) g2 (o2 + i * 3) s m p1' k1 p2' k2 r w1) (by kernel_rfl) hS (fun hHeld => ?_)
      generalize wr.drew = W0 at hS hHeld ⊢
      refine wpAnyH_take (i := 0) (v := ?_) rfl (by kernel_rfl) (by kernel_rfl) (by kernel_rfl) (fun _ _ _ h => h) (Or.inl ⟨by rfl, ?_⟩) (by assumption) ?_
      rotate_left
      · (intro wx hSw; have l1 := hSw.v1.cell 1 rfl; have l2 := hSw.v2.cell 1 rfl; have q0 := hSw.p0; have q1 := hSw.p1; have q2 := hSw.p2; have r0 := hSw.q0; have r1 := hSw.q1; have r2 := hSw.q2; go_simp; (try with_reducible rfl); (try omega))
      (try simp only [Act.put, List.setIfInBounds_toArray, List.set_cons_zero, List.set_cons_succ, List.getElem_toArray, List.getElem_cons_zero])
      refine wpAnyH_take (i := 1) (v := ?_) rfl (by kernel_rfl) (by kernel_rfl) (by kernel_rfl) (fun _ _ _ h => h) (Or.inl ⟨by rfl, ?_⟩) (by assumption) ?_
      rotate_left
      · (intro wx hSw; have l1 := hSw.v1.cell 1 rfl; have l2 := hSw.v2.cell 1 rfl; have q0 := hSw.p0; have q1 := hSw.p1; have q2 := hSw.p2; have r0 := hSw.q0; have r1 := hSw.q1; have r2 := hSw.q2; go_simp; (try with_reducible rfl); (try omega))
      (try simp only [Act.put, List.setIfInBounds_toArray, List.set_cons_zero, List.set_cons_succ, List.getElem_toArray, List.getElem_cons_zero, List.getElem_cons_succ])
      refine wpAnyH_take (i := 2) (v := ?_) rfl (by kernel_rfl) (by kernel_rfl) (by kernel_rfl) (fun _ _ _ h => h) (Or.inl ⟨by rfl, ?_⟩) (by assumption) ?_
      rotate_left
      · (intro wx hSw; have l1 := hSw.v1.cell 1 rfl; have l2 := hSw.v2.cell 1 rfl; have q0 := hSw.p0; have q1 := hSw.p1; have q2 := hSw.p2; have r0 := hSw.q0; have r1 := hSw.q1; have r2 := hSw.q2; go_simp; (try with_reducible rfl); (try omega))
      (try simp only [Act.put, List.setIfInBounds_toArray, List.set_cons_zero, List.set_cons_succ, List.getElem_toArray, List.getElem_cons_zero, List.getElem_cons_succ])
      refine wpAnyH_take (i := 3) (v := ?_) rfl (by kernel_rfl) (by kernel_rfl) (by kernel_rfl) (fun _ _ _ h => h) (Or.inl ⟨by rfl, ?_⟩) (by assumption) ?_
      rotate_left
      · (intro wx hSw; have l1 := hSw.v1.cell 1 rfl; have l2 := hSw.v2.cell 1 rfl; have q0 := hSw.p0; have q1 := hSw.p1; have q2 := hSw.p2; have r0 := hSw.q0; have r1 := hSw.q1; have r2 := hSw.q2; go_simp; (try with_reducible rfl); (try omega))
      (try simp only [Act.put, List.setIfInBounds_toArray, List.set_cons_zero, List.set_cons_succ, List.getElem_toArray, List.getElem_cons_zero, List.getElem_cons_succ])
      refine wpAnyH_take (i := 4) (v := ?_) rfl (by kernel_rfl) (by kernel_rfl) (by kernel_rfl) (fun _ _ _ h => h) (Or.inl ⟨by rfl, ?_⟩) (by assumption) ?_
      rotate_left
      · (intro wx hSw; have l1 := hSw.v1.cell 1 rfl; have l2 := hSw.v2.cell 1 rfl; have q0 := hSw.p0; have q1 := hSw.p1; have q2 := hSw.p2; have r0 := hSw.q0; have r1 := hSw.q1; have r2 := hSw.q2; go_simp; (try with_reducible rfl); (try omega))
      (try simp only [Act.put, List.setIfInBounds_toArray, List.set_cons_zero, List.set_cons_succ, List.getElem_toArray, List.getElem_cons_zero, List.getElem_cons_succ])
      refine wpAnyH_take (i := 5) (v := ?_) rfl (by kernel_rfl) (by kernel_rfl) (by kernel_rfl) (fun _ _ _ h => h) (Or.inl ⟨by rfl, ?_⟩) (by assumption) ?_
      rotate_left
      · (intro wx hSw; have l1 := hSw.v1.cell 1 rfl; have l2 := hSw.v2.cell 1 rfl; have q0 := hSw.p0; have q1 := hSw.p1; have q2 := hSw.p2; have r0 := hSw.q0; have r1 := hSw.q1; have r2 := hSw.q2; go_simp; (try with_reducible rfl); (try omega))
      (try simp only [Act.put, List.setIfInBounds_toArray, List.set_cons_zero, List.set_cons_succ, List.getElem_toArray, List.getElem_cons_zero, List.getElem_cons_succ])
      refine wpAnyH_take (i := 6) (v := ?_) rfl (by kernel_rfl) (by kernel_rfl) (by kernel_rfl) (fun _ _ _ h => h) (Or.inl ⟨by rfl, ?_⟩) (by assumption) ?_
      rotate_left
      · (intro wx hSw; have l1 := hSw.v1.cell 1 rfl; have l2 := hSw.v2.cell 1 rfl; have q0 := hSw.p0; have q1 := hSw.p1; have q2 := hSw.p2; have r0 := hSw.q0; have r1 := hSw.q1; have r2 := hSw.q2; go_simp; (try with_reducible rfl); (try omega))
      (try simp only [Act.put, List.setIfInBounds_toArray, List.set_cons_zero, List.set_cons_succ, List.getElem_toArray, List.getElem_cons_zero, List.getElem_cons_succ])
      refine wpAnyH_take (i := 7) (v := ?_) rfl (by kernel_rfl) (by kernel_rfl) (by kernel_rfl) (fun _ _ _ h => h) (Or.inl ⟨by rfl, ?_⟩) (by assumption) ?_
      rotate_left
      · (intro wx hSw; have l1 := hSw.v1.cell 1 rfl; have l2 := hSw.v2.cell 1 rfl; have q0 := hSw.p0; have q1 := hSw.p1; have q2 := hSw.p2; have r0 := hSw.q0; have r1 := hSw.q1; have r2 := hSw.q2; go_simp; (try with_reducible rfl); (try omega))
      (try simp only [Act.put, List.setIfInBounds_toArray, List.set_cons_zero, List.set_cons_succ, List.getElem_toArray, List.getElem_cons_zero, List.getElem_cons_succ])
      refine wpAnyH_take (i := 8) (v := ?_) rfl (by kernel_rfl) (by kernel_rfl) (by kernel_rfl) (fun _ _ _ h => h) (Or.inl ⟨by rfl, ?_⟩) (by assumption) ?_
      rotate_left
      · (intro wx hSw; have l1 := hSw.v1.cell 1 rfl; have l2 := hSw.v2.cell 1 rfl; have q0 := hSw.p0; have q1 := hSw.p1; have q2 := hSw.p2; have r0 := hSw.q0; have r1 := hSw.q1; have r2 := hSw.q2; go_simp; (try with_reducible rfl); (try omega))
      (try simp only [Act.put, List.setIfInBounds_toArray, List.set_cons_zero, List.set_cons_succ, List.getElem_toArray, List.getElem_cons_zero, List.getElem_cons_succ])
      refine wpAnyH_take (i := 9) (v := ?_) rfl (by kernel_rfl) (by kernel_rfl) (by kernel_rfl) (fun _ _ _ h => h) (Or.inl ⟨by rfl, ?_⟩) (by assumption) ?_
      rotate_left
      · (intro wx hSw; have l1 := hSw.v1.cell 1 rfl; have l2 := hSw.v2.cell 1 rfl; have q0 := hSw.p0; have q1 := hSw.p1; have q2 := hSw.p2; have r0 := hSw.q0; have r1 := hSw.q1; have r2 := hSw.q2; go_simp; (try with_reducible rfl); (try omega))
      (try simp only [Act.put, List.setIfInBounds_toArray, List.set_cons_zero, List.set_cons_succ, List.getElem_toArray, List.getElem_cons_zero, List.getElem_cons_succ])
      refine wpAnyH_take (i := 10) (v := ?_) rfl (by kernel_rfl) (by kernel_rfl) (by kernel_rfl) (fun _ _ _ h => h) (Or.inl ⟨by rfl, ?_⟩) (by assumption) ?_
      rotate_left
      · (intro wx hSw; have l1 := hSw.v1.cell 1 rfl; have l2 := hSw.v2.cell 1 rfl; have q0 := hSw.p0; have q1 := hSw.p1; have q2 := hSw.p2; have r0 := hSw.q0; have r1 := hSw.q1; have r2 := hSw.q2; go_simp; (try with_reducible rfl); (try omega))
      (try simp only [Act.put, List.setIfInBounds_toArray, List.set_cons_zero, List.set_cons_succ, List.getElem_toArray, List.getElem_cons_zero, List.getElem_cons_succ])
      refine wpAnyH_take (i := 11) (v := ?_) rfl (by kernel_rfl) (by kernel_rfl) (by kernel_rfl) (fun _ _ _ h => h) (Or.inl ⟨by rfl, ?_⟩) (by assumption) ?_
      rotate_left
      · (intro wx hSw; have l1 := hSw.v1.cell 1 rfl; have l2 := hSw.v2.cell 1 rfl; have q0 := hSw.p0; have q1 := hSw.p1; have q2 := hSw.p2; have r0 := hSw.q0; have r1 := hSw.q1; have r2 := hSw.q2; go_simp; (try with_reducible rfl); (try omega))
      (try simp only [Act.put, List.setIfInBounds_toArray, List.set_cons_zero, List.set_cons_succ, List.getElem_toArray, List.getElem_cons_zero, List.getElem_cons_succ])
      refine wpAnyH_take (i := 12) (v := .bool false) rfl (by kernel_rfl) (by kernel_rfl) (by kernel_rfl) (fun _ _ _ h => h) (Or.inl ⟨by rfl, ?_⟩) (by assumption) ?_
      · (intro wx hSw; go_simp; (try with_reducible rfl); (try simp))
      (try simp only [Act.put, List.setIfInBounds_toArray, List.set_cons_zero, List.set_cons_succ, List.getElem_toArray, List.getElem_cons_zero, List.getElem_cons_succ])
      refine wpAnyH_take (i := 13) (v := ?_) rfl (by kernel_rfl) (by kernel_rfl) (by kernel_rfl) (fun _ _ _ h => h) (Or.inl ⟨by rfl, ?_⟩) (by assumption) ?_
      rotate_left
      · (intro wx hSw; have l1 := hSw.v1.cell 1 rfl; have l2 := hSw.v2.cell 1 rfl; have q0 := hSw.p0; have q1 := hSw.p1; have q2 := hSw.p2; have r0 := hSw.q0; have r1 := hSw.q1; have r2 := hSw.q2; go_simp; (try with_reducible rfl); (try omega))
      (try simp only [Act.put, List.setIfInBounds_toArray, List.set_cons_zero, List.set_cons_succ, List.getElem_toArray, List.getElem_cons_zero, List.getElem_cons_succ])
      refine wpAnyH_take (i := 14) (v := ?_) rfl (by kernel_rfl) (by kernel_rfl) (by kernel_rfl) (fun _ _ _ h => h) (Or.inl ⟨by rfl, ?_⟩) (by assumption) ?_
      rotate_left
      · (intro wx hSw; have l1 := hSw.v1.cell 1 rfl; have l2 := hSw.v2.cell 1 rfl; have q0 := hSw.p0; have q1 := hSw.p1; have q2 := hSw.p2; have r0 := hSw.q0; have r1 := hSw.q1; have r2 := hSw.q2; go_simp; (try with_reducible rfl); (try omega))
      (try simp only [Act.put, List.setIfInBounds_toArray, List.set_cons_zero, List.set_cons_succ, List.getElem_toArray, List.getElem_cons_zero, List.getElem_cons_succ])
      refine wpAnyH_take (i := 15) (v := ?_) rfl (by kernel_rfl) (by kernel_rfl) (by kernel_rfl) (fun _ _ _ h => h) (Or.inl ⟨by rfl, ?_⟩) (by assumption) ?_
      rotate_left
      · (intro wx hSw; have l1 := hSw.v1.cell 1 rfl; have l2 := hSw.v2.cell 1 rfl; have q0 := hSw.p0; have q1 := hSw.p1; have q2 := hSw.p2; have r0 := hSw.q0; have r1 := hSw.q1; have r2 := hSw.q2; go_simp; (try with_reducible rfl); (try omega))
      (try simp only [Act.put, List.setIfInBounds_toArray, List.set_cons_zero, List.set_cons_succ, List.getElem_toArray, List.getElem_cons_zero, List.getElem_cons_succ])
      refine wpAnyH_take (i := 16) (v := ?_) rfl (by kernel_rfl) (by kernel_rfl) (by kernel_rfl) (fun _ _ _ h => h) (Or.inl ⟨by rfl, ?_⟩) (by assumption) ?_
      rotate_left
      · (intro wx hSw; have l1 := hSw.v1.cell 1 rfl; have l2 := hSw.v2.cell 1 rfl; have q0 := hSw.p0; have q1 := hSw.p1; have q2 := hSw.p2; have r0 := hSw.q0; have r1 := hSw.q1; have r2 := hSw.q2; go_simp; (try with_reducible rfl); (try omega))
      (try simp only [Act.put, List.setIfInBounds_toArray, List.set_cons_zero, List.set_cons_succ, List.getElem_toArray, List.getElem_cons_zero, List.getElem_cons_succ])
      refine wpAnyH_take (i := 17) (v := ?_) rfl (by kernel_rfl) (by kernel_rfl) (by kernel_rfl) (fun _ _ _ h => h) (Or.inl ⟨by rfl, ?_⟩) (by assumption) ?_
      rotate_left
      · (intro wx hSw; have l1 := hSw.v1.cell 1 rfl; have l2 := hSw.v2.cell 1 rfl; have q0 := hSw.p0; have q1 := hSw.p1; have q2 := hSw.p2; have r0 := hSw.q0; have r1 := hSw.q1; have r2 := hSw.q2; go_simp; (try with_reducible rfl); (try omega))
      (try simp only [Act.put, List.setIfInBounds_toArray, List.set_cons_zero, List.set_cons_succ, List.getElem_toArray, List.getElem_cons_zero, List.getElem_cons_succ])
      refine wpAnyH_take (i := 18) (v := ?_) rfl (by kernel_rfl) (by kernel_rfl) (by kernel_rfl) (fun _ _ _ h => h) (Or.inl ⟨by rfl, ?_⟩) (by assumption) ?_
      rotate_left
      · (intro wx hSw; have l1 := hSw.v1.cell 1 rfl; have l2 := hSw.v2.cell 1 rfl; have q0 := hSw.p0; have q1 := hSw.p1; have q2 := hSw.p2; have r0 := hSw.q0; have r1 := hSw.q1; have r2 := hSw.q2; go_simp; (try with_reducible rfl); (try omega))
      (try simp only [Act.put, List.setIfInBounds_toArray, List.set_cons_zero, List.set_cons_succ, List.getElem_toArray, List.getElem_cons_zero, List.getElem_cons_succ])
      refine wpAnyH_take (i := 19) (v := ?_) rfl (by kernel_rfl) (by kernel_rfl) (by kernel_rfl) (fun _ _ _ h => h) (Or.inl ⟨by rfl, ?_⟩) (by assumption) ?_
      rotate_left
      · (intro wx hSw; have l1 := hSw.v1.cell 1 rfl; have l2 := hSw.v2.cell 1 rfl; have q0 := hSw.p0; have q1 := hSw.p1; have q2 := hSw.p2; have r0 := hSw.q0; have r1 := hSw.q1; have r2 := hSw.q2; go_simp; (try with_reducible rfl); (try omega))
      (try simp only [Act.put, List.setIfInBounds_toArray, List.set_cons_zero, List.set_cons_succ, List.getElem_toArray, List.getElem_cons_zero, List.getElem_cons_succ])
      refine wpAnyH_take (i := 20) (v := ?_) rfl (by kernel_rfl) (by kernel_rfl) (by kernel_rfl) (fun _ _ _ h => h) (Or.inl ⟨by rfl, ?_⟩) (by assumption) ?_
      rotate_left
      · (intro wx hSw; have l1 := hSw.v1.cell 1 rfl; have l2 := hSw.v2.cell 1 rfl; have q0 := hSw.p0; have q1 := hSw.p1; have q2 := hSw.p2; have r0 := hSw.q0; have r1 := hSw.q1; have r2 := hSw.q2; go_simp; (try with_reducible rfl); (try omega))
      (try simp only [Act.put, List.setIfInBounds_toArray, List.set_cons_zero, List.set_cons_succ, List.getElem_toArray, List.getElem_cons_zero, List.getElem_cons_succ])
      refine wpAnyH_take (i := 21) (v := ?_) rfl (by kernel_rfl) (by kernel_rfl) (by kernel_rfl) (fun _ _ _ h => h) (Or.inl ⟨by rfl, ?_⟩) (by assumption) ?_
      rotate_left
      · (intro wx hSw; have l1 := hSw.v1.cell 1 rfl; have l2 := hSw.v2.cell 1 rfl; have q0 := hSw.p0; have q1 := hSw.p1; have q2 := hSw.p2; have r0 := hSw.q0; have r1 := hSw.q1; have r2 := hSw.q2; go_simp; (try with_reducible rfl); (try omega))
      (try simp only [Act.put, List.setIfInBounds_toArray, List.set_cons_zero, List.set_cons_succ, List.getElem_toArray, List.getElem_cons_zero, List.getElem_cons_succ])
      refine wpAnyH_take (i := 22) (v := ?_) rfl (by kernel_rfl) (by kernel_rfl) (by kernel_rfl) (fun _ _ _ h => h) (Or.inl ⟨by rfl, ?_⟩) (by assumption) ?_
      rotate_left
      · (intro wx hSw; have l1 := hSw.v1.cell 1 rfl; have l2 := hSw.v2.cell 1 rfl; have q0 := hSw.p0; have q1 := hSw.p1; have q2 := hSw.p2; have r0 := hSw.q0; have r1 := hSw.q1; have r2 := hSw.q2; go_simp; (try with_reducible rfl); (try omega))
      (try simp only [Act.put, List.setIfInBounds_toArray, List.set_cons_zero, List.set_cons_succ, List.getElem_toArray, List.getElem_cons_zero, List.getElem_cons_succ])
      refine wpAnyH_take (i := 23) (v := ?_) rfl (by kernel_rfl) (by kernel_rfl) (by kernel_rfl) (fun _ _ _ h => h) (Or.inl ⟨by rfl, ?_⟩) (by assumption) ?_
      rotate_left
      · (intro wx hSw; have l1 := hSw.v1.cell 1 rfl; have l2 := hSw.v2.cell 1 rfl; have q0 := hSw.p0; have q1 := hSw.p1; have q2 := hSw.p2; have r0 := hSw.q0; have r1 := hSw.q1; have r2 := hSw.q2; go_simp; (try with_reducible rfl); (try omega))
      (try simp only [Act.put, List.setIfInBounds_toArray, List.set_cons_zero, List.set_cons_succ, List.getElem_toArray, List.getElem_cons_zero, List.getElem_cons_succ])
      refine wpAnyH_take (i := 24) (v := ?_) rfl (by kernel_rfl) (by kernel_rfl) (by kernel_rfl) (fun _ _ _ h => h) (Or.inl ⟨by rfl, ?_⟩) (by assumption) ?_
      rotate_left
      · (intro wx hSw; have l1 := hSw.v1.cell 1 rfl; have l2 := hSw.v2.cell 1 rfl; have q0 := hSw.p0; have q1 := hSw.p1; have q2 := hSw.p2; have r0 := hSw.q0; have r1 := hSw.q1; have r2 := hSw.q2; go_simp; (try with_reducible rfl); (try omega))
      (try simp only [Act.put, List.setIfInBounds_toArray, List.set_cons_zero, List.set_cons_succ, List.getElem_toArray, List.getElem_cons_zero, List.getElem_cons_succ])
      refine wpAnyH_take (i := 25) (v := ?_) rfl (by kernel_rfl) (by kernel_rfl) (by kernel_rfl) (fun _ _ _ h => h) (Or.inl ⟨by rfl, ?_⟩) (by assumption) ?_
      rotate_left
      · (intro wx hSw; have l1 := hSw.v1.cell 1 rfl; have l2 := hSw.v2.cell 1 rfl; have q0 := hSw.p0; have q1 := hSw.p1; have q2 := hSw.p2; have r0 := hSw.q0; have r1 := hSw.q1; have r2 := hSw.q2; go_simp; (try with_reducible rfl); (try omega))
      (try simp only [Act.put, List.setIfInBounds_toArray, List.set_cons_zero, List.set_cons_succ, List.getElem_toArray, List.getElem_cons_zero, List.getElem_cons_succ])
      refine wpAnyH_take (i := 26) (v := .bool false) rfl (by kernel_rfl) (by kernel_rfl) (by kernel_rfl) (fun _ _ _ h => h) (Or.inl ⟨by rfl, ?_⟩) (by assumption) ?_
      · (intro wx hSw; go_simp; (try with_reducible rfl); (try simp))
      (try simp only [Act.put, List.setIfInBounds_toArray, List.set_cons_zero, List.set_cons_succ, List.getElem_toArray, List.getElem_cons_zero, List.getElem_cons_succ])
      refine wpAnyH_take (i := 27) (v := ?_) rfl (by kernel_rfl) (by kernel_rfl) (by kernel_rfl) (fun _ _ _ h => h) (Or.inl ⟨by rfl, ?_⟩) (by assumption) ?_
      rotate_left
      · (intro wx hSw; have l1 := hSw.v1.cell 1 rfl; have l2 := hSw.v2.cell 1 rfl; have q0 := hSw.p0; have q1 := hSw.p1; have q2 := hSw.p2; have r0 := hSw.q0; have r1 := hSw.q1; have r2 := hSw.q2; go_simp; (try with_reducible rfl); (try omega))
      (try simp only [Act.put, List.setIfInBounds_toArray, List.set_cons_zero, List.set_cons_succ, List.getElem_toArray, List.getElem_cons_zero, List.getElem_cons_succ])
      refine wpAnyH_take (i := 28) (v := ?_) rfl (by kernel_rfl) (by kernel_rfl) (by kernel_rfl) (fun _ _ _ h => h) (Or.inl ⟨by rfl, ?_⟩) (by assumption) ?_
      rotate_left
      · (intro wx hSw; have l1 := hSw.v1.cell 1 rfl; have l2 := hSw.v2.cell 1 rfl; have q0 := hSw.p0; have q1 := hSw.p1; have q2 := hSw.p2; have r0 := hSw.q0; have r1 := hSw.q1; have r2 := hSw.q2; go_simp; (try with_reducible rfl); (try omega))
      (try simp only [Act.put, List.setIfInBounds_toArray, List.set_cons_zero, List.set_cons_succ, List.getElem_toArray, List.getElem_cons_zero, List.getElem_cons_succ])
      refine wpAnyH_take (i := 29) (v := ?_) rfl (by kernel_rfl) (by kernel_rfl) (by kernel_rfl) (fun _ _ _ h => h) (Or.inl ⟨by rfl, ?_⟩) (by assumption) ?_
      rotate_left
      · (intro wx hSw; have l1 := hSw.v1.cell 1 rfl; have l2 := hSw.v2.cell 1 rfl; have q0 := hSw.p0; have q1 := hSw.p1; have q2 := hSw.p2; have r0 := hSw.q0; have r1 := hSw.q1; have r2 := hSw.q2; go_simp; (try with_reducible rfl); (try omega))
      (try simp only [Act.put, List.setIfInBounds_toArray, List.set_cons_zero, List.set_cons_succ, List.getElem_toArray, List.getElem_cons_zero, List.getElem_cons_succ])
      refine wpAnyH_take (i := 30) (v := ?_) rfl (by kernel_rfl) (by kernel_rfl) (by kernel_rfl) (fun _ _ _ h => h) (Or.inl ⟨by rfl, ?_⟩) (by assumption) ?_
      rotate_left
      · (intro wx hSw; have l1 := hSw.v1.cell 1 rfl; have l2 := hSw.v2.cell 1 rfl; have q0 := hSw.p0; have q1 := hSw.p1; have q2 := hSw.p2; have r0 := hSw.q0; have r1 := hSw.q1; have r2 := hSw.q2; go_simp; (try with_reducible rfl); (try omega))
      (try simp only [Act.put, List.setIfInBounds_toArray, List.set_cons_zero, List.set_cons_succ, List.getElem_toArray, List.getElem_cons_zero, List.getElem_cons_succ])
      refine wpAnyH_take (i := 31) (v := ?_) rfl (by kernel_rfl) (by kernel_rfl) (by kernel_rfl) (fun _ _ _ h => h) (Or.inl ⟨by rfl, ?_⟩) (by assumption) ?_
      rotate_left
      · (intro wx hSw; have l1 := hSw.v1.cell 1 rfl; have l2 := hSw.v2.cell 1 rfl; have q0 := hSw.p0; have q1 := hSw.p1; have q2 := hSw.p2; have r0 := hSw.q0; have r1 := hSw.q1; have r2 := hSw.q2; go_simp; (try with_reducible rfl); (try omega))
      (try simp only [Act.put, List.setIfInBounds_toArray, List.set_cons_zero, List.set_cons_succ, List.getElem_toArray, List.getElem_cons_zero, List.getElem_cons_succ])
      refine wpAnyH_take (i := 32) (v := ?_) rfl (by kernel_rfl) (by kernel_rfl) (by kernel_rfl) (fun _ _ _ h => h) (Or.inl ⟨by rfl, ?_⟩) (by assumption) ?_
      rotate_left
      · (intro wx hSw; have l1 := hSw.v1.cell 1 rfl; have l2 := hSw.v2.cell 1 rfl; have q0 := hSw.p0; have q1 := hSw.p1; have q2 := hSw.p2; have r0 := hSw.q0; have r1 := hSw.q1; have r2 := hSw.q2; go_simp; (try with_reducible rfl); (try omega))
      (try simp only [Act.put, List.setIfInBounds_toArray, List.set_cons_zero, List.set_cons_succ, List.getElem_toArray, List.getElem_cons_zero, List.getElem_cons_succ])
      refine wpAnyH_take (i := 33) (v := ?_) rfl (by kernel_rfl) (by kernel_rfl) (by kernel_rfl) (fun _ _ _ h => h) (Or.inl ⟨by rfl, ?_⟩) (by assumption) ?_
      rotate_left
      · (intro wx hSw; have l1 := hSw.v1.cell 1 rfl; have l2 := hSw.v2.cell 1 rfl; have q0 := hSw.p0; have q1 := hSw.p1; have q2 := hSw.p2; have r0 := hSw.q0; have r1 := hSw.q1; have r2 := hSw.q2; go_simp; (try with_reducible rfl); (try omega))
      (try simp only [Act.put, List.setIfInBounds_toArray, List.set_cons_zero, List.set_cons_succ, List.getElem_toArray, List.getElem_cons_zero, List.getElem_cons_succ])
      refine wpAnyH_take (i := 34) (v := ?_) rfl (by kernel_rfl) (by kernel_rfl) (by kernel_rfl) (fun _ _ _ h => h) (Or.inl ⟨by rfl, ?_⟩) (by assumption) ?_
      rotate_left
      · (intro wx hSw; have l1 := hSw.v1.cell 1 rfl; have l2 := hSw.v2.cell 1 rfl; have q0 := hSw.p0; have q1 := hSw.p1; have q2 := hSw.p2; have r0 := hSw.q0; have r1 := hSw.q1; have r2 := hSw.q2; go_simp; (try with_reducible rfl); (try omega))
      (try simp only [Act.put, List.setIfInBounds_toArray, List.set_cons_zero, List.set_cons_succ, List.getElem_toArray, List.getElem_cons_zero, List.getElem_cons_succ])
      refine wpAnyH_take (i := 35) (v := ?_) rfl (by kernel_rfl) (by kernel_rfl) (by kernel_rfl) (fun _ _ _ h => h) (Or.inl ⟨by rfl, ?_⟩) (by assumption) ?_
      rotate_left
      · (intro wx hSw; have l1 := hSw.v1.cell 1 rfl; have l2 := hSw.v2.cell 1 rfl; have q0 := hSw.p0; have q1 := hSw.p1; have q2 := hSw.p2; have r0 := hSw.q0; have r1 := hSw.q1; have r2 := hSw.q2; go_simp; (try with_reducible rfl); (try omega))
      (try simp only [Act.put, List.setIfInBounds_toArray, List.set_cons_zero, List.set_cons_succ, List.getElem_toArray, List.getElem_cons_zero, List.getElem_cons_succ])
      refine wpAnyH_take (i := 36) (v := ?_) rfl (by kernel_rfl) (by kernel_rfl) (by kernel_rfl) (fun _ _ _ h => h) (Or.inl ⟨by rfl, ?_⟩) (by assumption) ?_
      rotate_left
      · (intro wx hSw; have l1 := hSw.v1.cell 1 rfl; have l2 := hSw.v2.cell 1 rfl; have q0 := hSw.p0; have q1 := hSw.p1; have q2 := hSw.p2; have r0 := hSw.q0; have r1 := hSw.q1; have r2 := hSw.q2; go_simp; (try with_reducible rfl); (try omega))
      (try simp only [Act.put, List.setIfInBounds_toArray, List.set_cons_zero, List.set_cons_succ, List.getElem_toArray, List.getElem_cons_zero, List.getElem_cons_succ])
      refine wpAnyH_take (i := 37) (v := ?_) rfl (by kernel_rfl) (by kernel_rfl) (by kernel_rfl) (fun _ _ _ h => h) (Or.inl ⟨by rfl, ?_⟩) (by assumption) ?_
      rotate_left
      · (intro wx hSw; have l1 := hSw.v1.cell 1 rfl; have l2 := hSw.v2.cell 1 rfl; have q0 := hSw.p0; have q1 := hSw.p1; have q2 := hSw.p2; have r0 := hSw.q0; have r1 := hSw.q1; have r2 := hSw.q2; go_simp; (try with_reducible rfl); (try omega))
      (try simp only [Act.put, List.setIfInBounds_toArray, List.set_cons_zero, List.set_cons_succ, List.getElem_toArray, List.getElem_cons_zero, List.getElem_cons_succ])
      refine wpAnyH_take (i := 38) (v := ?_) rfl (by kernel_rfl) (by kernel_rfl) (by kernel_rfl) (fun _ _ _ h => h) (Or.inl ⟨by rfl, ?_⟩) (by assumption) ?_
      rotate_left
      · (intro wx hSw; have l1 := hSw.v1.cell 1 rfl; have l2 := hSw.v2.cell 1 rfl; have q0 := hSw.p0; have q1 := hSw.p1; have q2 := hSw.p2; have r0 := hSw.q0; have r1 := hSw.q1; have r2 := hSw.q2; go_simp; (try with_reducible rfl); (try omega))
      (try simp only [Act.put, List.setIfInBounds_toArray, List.set_cons_zero, List.set_cons_succ, List.getElem_toArray, List.getElem_cons_zero, List.getElem_cons_succ])
      refine wpAnyH_take (i := 39) (v := ?_) rfl (by kernel_rfl) (by kernel_rfl) (by kernel_rfl) (fun _ _ _ h => h) (Or.inl ⟨by rfl, ?_⟩) (by assumption) ?_
      rotate_left
      · (intro wx hSw; have l1 := hSw.v1.cell 1 rfl; have l2 := hSw.v2.cell 1 rfl; have q0 := hSw.p0; have q1 := hSw.p1; have q2 := hSw.p2; have r0 := hSw.q0; have r1 := hSw.q1; have r2 := hSw.q2; go_simp; (try with_reducible rfl); (try omega))
      (try simp only [Act.put, List.setIfInBounds_toArray, List.set_cons_zero, List.set_cons_succ, List.getElem_toArray, List.getElem_cons_zero, List.getElem_cons_succ])
      refine wpAnyH_take (i := 40) (v := ?_) rfl (by kernel_rfl) (by kernel_rfl) (by kernel_rfl) (fun _ _ _ h => h) (Or.inl ⟨by rfl, ?_⟩) (by assumption) ?_
      rotate_left
      · (intro wx hSw; have l1 := hSw.v1.cell 1 rfl; have l2 := hSw.v2.cell 1 rfl; have q0 := hSw.p0; have q1 := hSw.p1; have q2 := hSw.p2; have r0 := hSw.q0; have r1 := hSw.q1; have r2 := hSw.q2; go_simp; (try with_reducible rfl); (try omega))
      (try simp only [Act.put, List.setIfInBounds_toArray, List.set_cons_zero, List.set_cons_succ, List.getElem_toArray, List.getElem_cons_zero, List.getElem_cons_succ])
      refine wpAnyH_ready (rs := [41]) (by kernel_rfl) (by simp) ?_
      refine AllReadyH.cons rfl (fun K hK => ?_) AllReadyH.nil
      go_simp
      refine (CC.out _ hS.b).mono ?_
      rintro e w4 ⟨rfl, hb4⟩
      have hS := hS.below hb4
      clear hb4
      refine hK.out _ _ hS (fun hHeld => ?_)
      clear hK K
      (try simp only [Act.put, List.setIfInBounds_toArray, List.set_cons_zero, List.set_cons_succ, List.getElem_toArray, List.getElem_cons_zero, List.getElem_cons_succ])
      refine wpAnyH_take (i := 42) (v := .bool false) rfl (by kernel_rfl) (by kernel_rfl) (by kernel_rfl) (fun _ _ _ h => h) (Or.inl ⟨by rfl, ?_⟩) (by assumption) ?_
      · (intro wx hSw; go_simp; (try with_reducible rfl); (try simp))
      (try simp only [Act.put, List.setIfInBounds_toArray, List.set_cons_zero, List.set_cons_succ, List.getElem_toArray, List.getElem_cons_zero, List.getElem_cons_succ])
      refine wpAnyH_take (i := 43) (v := ?_) rfl (by kernel_rfl) (by kernel_rfl) (by kernel_rfl) (fun _ _ _ h => h) (Or.inl ⟨by rfl, ?_⟩) (by assumption) ?_
      rotate_left
      · (intro wx hSw; have l1 := hSw.v1.cell 1 rfl; have l2 := hSw.v2.cell 1 rfl; have q0 := hSw.p0; have q1 := hSw.p1; have q2 := hSw.p2; have r0 := hSw.q0; have r1 := hSw.q1; have r2 := hSw.q2; go_simp; (try with_reducible rfl); (try omega))
      (try simp only [Act.put, List.setIfInBounds_toArray, List.set_cons_zero, List.set_cons_succ, List.getElem_toArray, List.getElem_cons_zero, List.getElem_cons_succ])
      refine wpAnyH_done (by kernel_rfl) ?_ _
      have hB := hS.b
      clear hS hHeld CC
      go_wp2
      exact ⟨⟨i + 1, by omega, by go_num, hB⟩, by simp [intOf]; omega⟩
    · have hie : ¬ (i : Int) < n := by omega
      go_wp2
      go_ret
      exact ⟨rfl, below_through hB HB1.out.size HB1.out⟩
end Go.Proofs.Ytadidikegfiedaa

/- How many entries changes make (the reference's Size): a contract of the call, in whatever memory. Conditions: the changes' cells are known; their numbers are those of a bag. -/
namespace Go.Proofs.Ytadidikegfiedaa
open Go.RowKit

def sizeS (L : List Pair) : Int := if absS L ≤ 4000 then absS L else 4001
theorem sizeS_le {L : List Pair} : sizeS L > 4000 ↔ 4000 < absS L := by unfold sizeS; split <;> omega
set_option maxHeartbeats 1000000 in
theorem refSize16_any (a : Option Addr) (c : Nat) (E : List Elem) (w : World) (h : ElemsAt w a E) (hl : E.length ≤ 4398046511104) (hm : ∀ e ∈ E, -1099511627776 ≤ e.n ∧ e.n ≤ 1099511627776) :
    Calls Try.prog 27 #[.slice a E.length c] w fun e w' => e = .returned (.int .i64 (sizeS (E.map pr))) ∧ Below w.heap.size w w' := by
  have A := hid0 h
  have HM := hid0 hm
  obtain ⟨R, hR⟩ : ∃ R, sizeS (E.map pr) = R := ⟨_, rfl⟩
  have HR := hid0 hR
  rw [hR]
  clear h hm hR
  go_enter Try.func27, Try.ntmps27
  go_wp2
  go_loopw [3, 4] (fun nv iv wr => ∃ i : Nat, i ≤ E.length ∧ nv = .int .i64 (absS ((E.map pr).take i)) ∧ iv = .int .i64 i ∧ Hid (absS ((E.map pr).take i) ≤ 4000) ∧ Below w.heap.size w wr) (fun _ iv _ => E.length - (intOf iv).toNat)
  case atStart => exact ⟨0, Nat.zero_le _, rfl, rfl, hid0 (by simp [absS]), Below.refl _ _⟩
  case round =>
    obtain ⟨i, hi, rfl, rfl, hO, hB⟩ := hrel
    by_cases hlt : i < E.length
    · obtain ⟨b1, o1, rfl, hc1⟩ := (A.out.1.later hB) (by intro e; rw [e] at hlt; exact absurd hlt (by simp))
      obtain ⟨q0, q1⟩ := hc1 i hlt
      obtain ⟨m1, m2⟩ := HM.out _ (List.getElem_mem hlt)
      have HS := hid0 (show absS ((E.map pr).take (i + 1)) = absS ((E.map pr).take i) + (if E[i].n < 0 then -E[i].n else E[i].n) by rw [List.take_succ_eq_append_getElem (by simpa using hlt), abs_snoc]; simp [pr])
      have HT := hid0 (abs_take_le (E.map pr) (i + 1))
      have hP' := absS_nonneg ((E.map pr).take i)
      clear hc1
      generalize E[i] = x at q0 q1 m1 m2 HS
      have hO' := hO.out
      generalize absS ((E.map pr).take i) = s at HS hO hO' hP' ⊢
      have hw0 : IntKind.i64.wrap (4000 - s) = 4000 - s := IntWalk.i64_in _ (by omega)
      by_cases hneg : x.n < 0
      · have hw1 : IntKind.i64.wrap (-x.n) = -x.n := IntWalk.i64_in _ (by omega)
        by_cases hg : -x.n > 4000 - s
        · have HRT : Hid (4001 = R) := hid0 (by rw [← HR.out]; unfold sizeS; rw [if_neg (by have := HS.out; rw [if_pos hneg] at this; have := HT.out; omega)])
          clear HS HR
          go_wp2
          go_ret
          exact ⟨ret_i64 HRT.out, hB⟩
        · have HS2 := hid0 (show absS ((E.map pr).take (i + 1)) = s + -x.n by rw [HS.out, if_pos hneg])
          have hw2 : IntKind.i64.wrap (s + -x.n) = s + -x.n := IntWalk.i64_in _ (by omega)
          clear HS
          go_wp2
          exact ⟨⟨i + 1, by omega, by rw [HS2.out], by go_num, hid0 (by have := HS2.out; omega), hB⟩, by simp [intOf]; omega⟩
      · by_cases hg : x.n > 4000 - s
        · have HRT : Hid (4001 = R) := hid0 (by rw [← HR.out]; unfold sizeS; rw [if_neg (by have := HS.out; rw [if_neg hneg] at this; have := HT.out; omega)])
          clear HS HR
          go_wp2
          go_ret
          exact ⟨ret_i64 HRT.out, hB⟩
        · have HS2 := hid0 (show absS ((E.map pr).take (i + 1)) = s + x.n by rw [HS.out, if_neg hneg])
          have hw2 : IntKind.i64.wrap (s + x.n) = s + x.n := IntWalk.i64_in _ (by omega)
          clear HS
          go_wp2
          exact ⟨⟨i + 1, by omega, by rw [HS2.out], by go_num, hid0 (by have := HS2.out; omega), hB⟩, by simp [intOf]; omega⟩
    · have e : (E.map pr).take i = E.map pr := List.take_of_length_le (by simp; omega)
      rw [e] at hO ⊢
      have hie : ¬ (i : Int) < E.length := by omega
      have HRF : Hid (absS (E.map pr) = R) := hid0 (by rw [← HR.out]; unfold sizeS; rw [if_pos hO.out])
      go_wp2
      go_ret
      exact ⟨ret_i64 HRF.out, hB⟩
end Go.Proofs.Ytadidikegfiedaa

/- The document's example of stage 16, plainly, and its rows in memory. Conditions: none. -/
namespace Go.Proofs.Ytadidikegfiedaa
open Go.RowKit

def vT (n : Int) : Val := ⟨1, n, ⟨#[]⟩⟩
def d16 : List Dat := [(4, -1, [vT 1]), (4, 1, [vT 2]), (4, 1, [vT 2])]
def d16b : List Dat := [(4, -1, [vT 1]), (4, 1, [vT 2]), (4, 1, [vT 2]), (6, -1, [vT 2])]
theorem ex_add1 (a1 a2 : Option Addr) : addM 3 [] 4 [⟨a1, 1, [vT 1], -1⟩, ⟨a2, 1, [vT 2], 2⟩] = (d16, 0) := by rfl
theorem ex_add2 (a3 : Option Addr) : addM 3 d16 6 [⟨a3, 1, [vT 2], -1⟩] = (d16b, 0) := by rfl
theorem ex_since3 : sinceM 3 d16b 3 = ([([vT 1], -1), ([vT 2], 1)], true) := by rfl
theorem ex_since2 : sinceM 3 d16b 2 = ([], false) := by rfl
theorem ex_low : lowI [5, 4] 9 = 4 := by rfl
theorem ex_purge : keepD 4 d16b = [(6, -1, [vT 2])] := by rfl
theorem vT_in (n : Int) (h : in64 n) : ∀ x ∈ [vT n], inI x := fun x hx => by
  obtain rfl := List.mem_singleton.1 hx
  unfold in64 at h
  exact ⟨by show _ ≤ n; omega, by show n ≤ _; omega, by show (0 : Nat) ≤ _; exact Nat.zero_le _⟩
theorem row_at16 {w : World} {b : Nat} {n : Int} (h : VarB w b [.int .i64 1, .int .i64 n, .string ⟨#[]⟩]) : RowAt w (some ⟨b, 0, none⟩) [vT n] := fun _ => ⟨b, 0, rfl, fun i hi => by
  obtain rfl : i = 0 := by simp at hi; omega
  exact ⟨h.cell 0 rfl, h.cell 1 rfl, h.cell 2 rfl⟩⟩
theorem row16_any (n : Int) (w : World) : Calls Try.prog 31 #[.int .i64 n] w fun e w' => e = .returned (.slice (some ⟨w.heap.size, 0, none⟩) 1 1) ∧ VarB w' w.heap.size [.int .i64 1, .int .i64 n, .string ⟨#[]⟩] ∧ Below w.heap.size w w' := by
  go_enter Try.func31, Try.ntmps31
  go_wp2
  go_ret
  exact ⟨rfl, VarB.new w [.int .i64 1, .int .i64 n, .string ⟨#[]⟩] 62, (Below.refl _ _).alloc (Nat.le_refl _) _⟩
theorem elems_two {w : World} {b b1 b2 : Nat} {n1 n2 m1 m2 : Int} (hb : VarB w b [.slice (some ⟨b1, 0, none⟩) 1 1, .int .i64 m1, .slice (some ⟨b2, 0, none⟩) 1 1, .int .i64 m2]) (h1 : VarB w b1 [.int .i64 1, .int .i64 n1, .string ⟨#[]⟩]) (h2 : VarB w b2 [.int .i64 1, .int .i64 n2, .string ⟨#[]⟩]) (hn : in64 n1 ∧ in64 n2 ∧ in64 m1 ∧ in64 m2) :
    ElemsI w (some ⟨b, 0, none⟩) 2 [⟨some ⟨b1, 0, none⟩, 1, [vT n1], m1⟩, ⟨some ⟨b2, 0, none⟩, 1, [vT n2], m2⟩] := by
  refine ⟨⟨fun _ => ⟨b, 0, rfl, fun i hi => ?_⟩, fun e he => ?_⟩, fun e he => ?_, by simp, by simp⟩
  · match i, hi with
    | 0, _ => exact ⟨hb.cell 0 rfl, hb.cell 1 rfl⟩
    | 1, _ => exact ⟨hb.cell 2 rfl, hb.cell 3 rfl⟩
    | i + 2, hi => exact absurd hi (by simp)
  · simp only [List.mem_cons, List.not_mem_nil, or_false] at he
    rcases he with rfl | rfl
    · exact ⟨row_at16 h1, by show 1 * 32 ≤ _; omega⟩
    · exact ⟨row_at16 h2, by show 1 * 32 ≤ _; omega⟩
  · simp only [List.mem_cons, List.not_mem_nil, or_false] at he
    rcases he with rfl | rfl
    · exact ⟨vT_in _ hn.1, hn.2.2.1, Nat.le_refl _⟩
    · exact ⟨vT_in _ hn.2.1, hn.2.2.2, Nat.le_refl _⟩
theorem elems_one16 {w : World} {b b1 : Nat} {n1 m1 : Int} (hb : VarB w b [.slice (some ⟨b1, 0, none⟩) 1 1, .int .i64 m1]) (h1 : VarB w b1 [.int .i64 1, .int .i64 n1, .string ⟨#[]⟩]) (hn : in64 n1 ∧ in64 m1) :
    ElemsI w (some ⟨b, 0, none⟩) 1 [⟨some ⟨b1, 0, none⟩, 1, [vT n1], m1⟩] := by
  refine ⟨⟨fun _ => ⟨b, 0, rfl, fun i hi => ?_⟩, fun e he => ?_⟩, fun e he => ?_, by simp, by simp⟩
  · obtain rfl : i = 0 := by simp at hi; omega
    exact ⟨hb.cell 0 rfl, hb.cell 1 rfl⟩
  · obtain rfl := List.mem_singleton.1 he
    exact ⟨row_at16 h1, by show 1 * 32 ≤ _; omega⟩
  · obtain rfl := List.mem_singleton.1 he
    exact ⟨vT_in _ hn.1, hn.2, Nat.le_refl _⟩
end Go.Proofs.Ytadidikegfiedaa
