/- Several of my texts laid together, each as it was: X3, XY, XZ, X1. Conditions: each names its own. -/
import Derived.Test.YtjmoegcfgadjiaaGreatI8
import Derived.Test.YtjmoegcfgadjiaaGreatI6
import Derived.Test.YtjmoegcfgadjiaaGreatH1
/- The example of stage 12, plainly: what its plan tells of what is there. Nothing of any program here. Conditions: none. -/
namespace Go.Proofs.YtjmoegcfgadjiaaGreat
open Go.RowKit
def vI (n : Int) : Val := ⟨1, n, ⟨#[]⟩⟩
def exE (r1 r2 : Nat) : List Elem := [⟨some ⟨r1, 0, none⟩, 2, [vI 1, vI 5], 2⟩, ⟨some ⟨r2, 0, none⟩, 2, [vI 2, vI 7], 1⟩]
def exN (r1 r2 m : Nat) : Nx := ⟨⟨#[116]⟩, some ⟨m, 0, none⟩, 2, exE r1 r2⟩
def cxCol (n : Int) : Cx := .mk 1 n zV none 0 []
def exP (f q g o : Nat) : Px := ⟨false, some ⟨f, 0, none⟩, 1, [⟨#[116]⟩], some ⟨q, 0, none⟩, 1, [2], .mk 0 0 zCx zCx none 0 [], some ⟨g, 0, none⟩, 1, [0], some ⟨o, 0, none⟩, 2, [⟨0, cxCol 0, ⟨#[]⟩, 0⟩, ⟨3, cxCol 1, ⟨#[]⟩, 0⟩]⟩
theorem ex_cost (r1 r2 m f q g o : Nat) : costP [exN r1 r2 m] [exP f q g o] = 3 := by rfl
theorem inside_rise (F : List Int) (w : Int) : insideB (rise F) w = insideB F w := by
  unfold insideB
  rw [Bool.eq_iff_iff, List.all_eq_true, List.all_eq_true]
  exact ⟨fun h x hx => h x ((mem_rise _ _).2 hx), fun h x hx => h x ((mem_rise _ _).1 hx)⟩
theorem ex_planB (f q g o : Nat) : planB [exP f q g o] = true := by
  unfold planB partB listsB
  simp only [inside_rise]
  rfl
theorem ex_ready (r1 r2 m f q g o : Nat) : readyE [exN r1 r2 m] [exP f q g o] = 0 := by
  unfold readyE
  rw [ex_planB, if_pos rfl]
  rfl
theorem ex_kept (r1 r2 m f q g o : Nat) : keptB [exN r1 r2 m] (exP f q g o) = [([vI 1, vI 5], 2), ([vI 2, vI 7], 1)] := by rfl
theorem ex_runs : runsM [0] [([vI 1, vI 5], 2), ([vI 2, vI 7], 1)] = [[([vI 1, vI 5], 2)], [([vI 2, vI 7], 1)]] := by rfl
theorem ex_sort : sortG [0] [([vI 1, vI 5], 2), ([vI 2, vI 7], 1)] = [([vI 1, vI 5], 2), ([vI 2, vI 7], 1)] := by
  unfold sortG
  exact List.mergeSort_of_pairwise (by simp [leG, keyV, rowsV, cmpT, vI]; decide)
theorem ex_groups (f q g o : Nat) : groupsM (exP f q g o) [([vI 1, vI 5], 2), ([vI 2, vI 7], 1)] = [([([vI 1, vI 5], 2)], 1), ([([vI 2, vI 7], 1)], 1)] := by
  unfold groupsM
  rw [if_pos (by rfl), if_neg (by simp [exP])]
  show (runsM [0] (sortG [0] _)).map _ = _
  rw [ex_sort]
  rfl
theorem ex_rows (r1 r2 m f q g o : Nat) : rowsM [exN r1 r2 m] [exP f q g o] = ([([vI 1, vI 10], 1), ([vI 2, vI 7], 1)], 0) := by
  have e1 : allE [exN r1 r2 m] [exP f q g o] = 0 := by
    unfold allE
    simp only [List.map_cons, List.map_nil, ex_kept, ex_groups]
    rfl
  have e2 : allL [exN r1 r2 m] [exP f q g o] = [([vI 1, vI 10], 1), ([vI 2, vI 7], 1)] := by
    unfold allL
    simp only [List.flatMap_cons, List.flatMap_nil, List.append_nil, ex_kept]
    unfold toldM
    simp only [ex_groups]
    rfl
  unfold rowsM
  rw [ex_ready, ex_cost, e1, e2]
  rfl
end Go.Proofs.YtjmoegcfgadjiaaGreat

/- Two rows' order at some places (alike's function); a list that rises already is left as it is by slices.SortStableFunc: contracts of the calls, in whatever memory. Conditions: the rows' cells are known; the places are among theirs; the list is short. -/
namespace Go.Proofs.YtjmoegcfgadjiaaGreat
open Go.RowKit

def keyA (gs : List Int) (r s : List Val) : Int := rowsV (keyV gs r) (keyV gs s)
theorem keyA_cons (g : Int) (gs : List Int) (r s : List Val) : keyA (g :: gs) r s = if cmpT ((r[g.toNat]?).getD zV) ((s[g.toNat]?).getD zV) = 0 then keyA gs r s else cmpT ((r[g.toNat]?).getD zV) ((s[g.toNat]?).getD zV) := rfl
/-- The two rows' boxes. -/
structure SOrd (w : World) (us1 us2 : List Value) (_ : Nat) (W : World) : Prop where
  v1 : VarB W w.heap.size us1
  v2 : VarB W (w.heap.size + 1) us2
  b : Below w.heap.size w W
theorem SOrd.below {w : World} {us1 us2 : List Value} {x : Nat} {W W' : World} (h : SOrd w us1 us2 x W) (hb : Below W.heap.size W W') : SOrd w us1 us2 x W' := ⟨h.v1.below hb, h.v2.below hb, below_through hb h.b.size h.b⟩
set_option maxHeartbeats 4000000 in
set_option maxRecDepth 1000000 in
theorem order_any (a1 a2 : Option Addr) (cc1 cc2 : Nat) (r1 r2 : List Val) (n1 n2 : Int) (vb : Nat) (gp : Option Addr) (gc : Nat) (gs : List Int) (w : World) (hv : w.cell? ⟨vb, 0, none⟩ = some (.slice gp gs.length gc)) (hI : IntsAt w gp gs) (hgl : gs.length ≤ 1000) (h1 : RowAt w a1 r1) (h2 : RowAt w a2 r2) (hg1 : ∀ g ∈ gs, 0 ≤ g ∧ g < r1.length ∧ g < r2.length) :
    Calls Tryz.prog 187 #[.agg #[.slice a1 r1.length cc1, .int .i64 n1], .agg #[.slice a2 r2.length cc2, .int .i64 n2], .pointer (some ⟨vb, 0, none⟩)] w fun e w' => e = .returned (.int .i64 (keyA gs r1 r2)) ∧ Below w.heap.size w w' := by
  have V := VarB.two (w := w) [.slice a1 r1.length cc1, .int .i64 n1] [.slice a2 r2.length cc2, .int .i64 n2] 49 49
  have hB0 := below_two w (Obj.cells #[.slice a1 r1.length cc1, .int .i64 n1] 49) (Obj.cells #[.slice a2 r2.length cc2, .int .i64 n2] 49)
  have hlt : vb < w.heap.size := World.block_lt_of_cell? _ _ hv
  have HI := hid0 hI
  have H1 := hid0 h1
  have H2 := hid0 h2
  have HG := hid0 hg1
  clear hI h1 h2 hg1
  obtain ⟨R, hR⟩ : ∃ R, keyA gs r1 r2 = R := ⟨_, rfl⟩
  have HR := hid0 hR
  rw [hR]
  clear hR
  have hv' := cell_later hB0 hv
  go_enter Tryz.func187, Tryz.ntmps187
  go_wp2
  go_loopw [11] (fun iv wr => ∃ i : Nat, i ≤ gs.length ∧ iv = .int .i64 i ∧ Hid (R = keyA (gs.drop i) r1 r2) ∧ SOrd w [.slice a1 r1.length cc1, .int .i64 n1] [.slice a2 r2.length cc2, .int .i64 n2] 0 wr) (fun iv _ => gs.length - (intOf iv).toNat)
  case atStart => exact ⟨0, Nat.zero_le _, rfl, hid0 HR.out.symm, ⟨V.1, V.2, hB0⟩⟩
  case round =>
    obtain ⟨i, hi, rfl, hT, hS⟩ := hrel
    clear V hB0 hv'
    have hsz := hS.b.size
    by_cases hlt2 : i < gs.length
    · obtain ⟨b1, o1, rfl, hc1⟩ := (HI.out.later hS.b) (by intro e; rw [e] at hlt2; exact absurd hlt2 (by simp))
      have g0 := hc1 i hlt2
      clear hc1
      obtain ⟨p1, p2, p3⟩ := HG.out _ (List.getElem_mem hlt2)
      have hst := keyA_cons gs[i] (gs.drop (i + 1)) r1 r2
      rw [← List.drop_eq_getElem_cons hlt2] at hst
      generalize gs[i] = g at g0 p1 p2 p3 hst
      obtain ⟨k, rfl⟩ : ∃ k : Nat, g = k := ⟨g.toNat, by omega⟩
      have k1 : k < r1.length := by omega
      have k2 : k < r2.length := by omega
      rw [Int.toNat_natCast, List.getElem?_eq_getElem k1, List.getElem?_eq_getElem k2] at hst
      simp only [Option.getD_some] at hst
      have hne1 : r1 ≠ [] := by intro e; rw [e] at k1; simp at k1
      have hne2 : r2 ≠ [] := by intro e; rw [e] at k2; simp at k2
      obtain ⟨b2, o2, rfl, hc2⟩ := H1.out hne1
      obtain ⟨b3, o3, rfl, hc3⟩ := H2.out hne2
      obtain ⟨c0, c1, c2⟩ := hc2 k k1
      obtain ⟨d0, d1, d2⟩ := hc3 k k2
      have hx : cmpT r1[k] r2[k] = cmpV r1[k].k r1[k].n r1[k].s r2[k].k r2[k].n r2[k].s := rfl
      have CV := hid0 (fun W => cmp_any r1[k].k r1[k].n r2[k].k r2[k].n r1[k].s r2[k].s W)
      rw [← hx] at CV
      generalize r1[k] = v1 at *
      generalize r2[k] = v2 at *
      generalize cmpT v1 v2 = x at *
      have HST := hid0 hst
      have kk1 : (k : Int) < (r1.length : Int) := by omega
      have kk2 : (k : Int) < (r2.length : Int) := by omega
      clear hst hc2 hc3 hne1 hne2 hx p1 p2 p3
      have hS := hS.below (Below.drew (Below.refl _ _))
      by_cases hx0 : x = 0
      · have hxb : (x == 0) = true := by simpa using hx0
        go_wp2_with fail
        refine wp_region_held_drew (S := SOrd w [.slice (some ⟨b2, o2, none⟩) r1.length cc1, .int .i64 n1] [.slice (some ⟨b3, o3, none⟩) r2.length cc2, .int .i64 n2] 0) (by kernel_rfl) hS (fun hHeld => ?_)
        refine wpAnyH_take (i := 0) (v := ?_) rfl (by kernel_rfl) (by kernel_rfl) (by kernel_rfl) (fun _ _ _ h => h) (Or.inl ⟨by rfl, ?_⟩) (by assumption) ?_
        rotate_left
        · (intro wx hSw; have z0 := hSw.v1.cell 0 rfl; have z1 := hSw.v2.cell 0 rfl; have y0 := cell_later hSw.b c0; have y1 := cell_later hSw.b c1; have y2 := cell_later hSw.b c2; have y3 := cell_later hSw.b d0; have y4 := cell_later hSw.b d1; have y5 := cell_later hSw.b d2; go_simp; (try with_reducible rfl); (try omega))
        (try simp only [Act.put, List.setIfInBounds_toArray, List.set_cons_zero, List.set_cons_succ, List.getElem_toArray, List.getElem_cons_zero])
        refine wpAnyH_take (i := 1) (v := ?_) rfl (by kernel_rfl) (by kernel_rfl) (by kernel_rfl) (fun _ _ _ h => h) (Or.inl ⟨by rfl, ?_⟩) (by assumption) ?_
        rotate_left
        · (intro wx hSw; have z0 := hSw.v1.cell 0 rfl; have z1 := hSw.v2.cell 0 rfl; have y0 := cell_later hSw.b c0; have y1 := cell_later hSw.b c1; have y2 := cell_later hSw.b c2; have y3 := cell_later hSw.b d0; have y4 := cell_later hSw.b d1; have y5 := cell_later hSw.b d2; go_simp; (try with_reducible rfl); (try omega))
        (try simp only [Act.put, List.setIfInBounds_toArray, List.set_cons_zero, List.set_cons_succ, List.getElem_toArray, List.getElem_cons_zero, List.getElem_cons_succ])
        refine wpAnyH_take (i := 2) (v := ?_) rfl (by kernel_rfl) (by kernel_rfl) (by kernel_rfl) (fun _ _ _ h => h) (Or.inl ⟨by rfl, ?_⟩) (by assumption) ?_
        rotate_left
        · (intro wx hSw; have z0 := hSw.v1.cell 0 rfl; have z1 := hSw.v2.cell 0 rfl; have y0 := cell_later hSw.b c0; have y1 := cell_later hSw.b c1; have y2 := cell_later hSw.b c2; have y3 := cell_later hSw.b d0; have y4 := cell_later hSw.b d1; have y5 := cell_later hSw.b d2; go_simp; (try with_reducible rfl); (try omega))
        (try simp only [Act.put, List.setIfInBounds_toArray, List.set_cons_zero, List.set_cons_succ, List.getElem_toArray, List.getElem_cons_zero, List.getElem_cons_succ])
        refine wpAnyH_take (i := 3) (v := ?_) rfl (by kernel_rfl) (by kernel_rfl) (by kernel_rfl) (fun _ _ _ h => h) (Or.inl ⟨by rfl, ?_⟩) (by assumption) ?_
        rotate_left
        · (intro wx hSw; have z0 := hSw.v1.cell 0 rfl; have z1 := hSw.v2.cell 0 rfl; have y0 := cell_later hSw.b c0; have y1 := cell_later hSw.b c1; have y2 := cell_later hSw.b c2; have y3 := cell_later hSw.b d0; have y4 := cell_later hSw.b d1; have y5 := cell_later hSw.b d2; go_simp; (try with_reducible rfl); (try omega))
        (try simp only [Act.put, List.setIfInBounds_toArray, List.set_cons_zero, List.set_cons_succ, List.getElem_toArray, List.getElem_cons_zero, List.getElem_cons_succ])
        refine wpAnyH_take (i := 4) (v := ?_) rfl (by kernel_rfl) (by kernel_rfl) (by kernel_rfl) (fun _ _ _ h => h) (Or.inl ⟨by rfl, ?_⟩) (by assumption) ?_
        rotate_left
        · (intro wx hSw; have z0 := hSw.v1.cell 0 rfl; have z1 := hSw.v2.cell 0 rfl; have y0 := cell_later hSw.b c0; have y1 := cell_later hSw.b c1; have y2 := cell_later hSw.b c2; have y3 := cell_later hSw.b d0; have y4 := cell_later hSw.b d1; have y5 := cell_later hSw.b d2; go_simp; (try with_reducible rfl); (try omega))
        (try simp only [Act.put, List.setIfInBounds_toArray, List.set_cons_zero, List.set_cons_succ, List.getElem_toArray, List.getElem_cons_zero, List.getElem_cons_succ])
        refine wpAnyH_take (i := 5) (v := ?_) rfl (by kernel_rfl) (by kernel_rfl) (by kernel_rfl) (fun _ _ _ h => h) (Or.inl ⟨by rfl, ?_⟩) (by assumption) ?_
        rotate_left
        · (intro wx hSw; have z0 := hSw.v1.cell 0 rfl; have z1 := hSw.v2.cell 0 rfl; have y0 := cell_later hSw.b c0; have y1 := cell_later hSw.b c1; have y2 := cell_later hSw.b c2; have y3 := cell_later hSw.b d0; have y4 := cell_later hSw.b d1; have y5 := cell_later hSw.b d2; go_simp; (try with_reducible rfl); (try omega))
        (try simp only [Act.put, List.setIfInBounds_toArray, List.set_cons_zero, List.set_cons_succ, List.getElem_toArray, List.getElem_cons_zero, List.getElem_cons_succ])
        refine wpAnyH_take (i := 6) (v := ?_) rfl (by kernel_rfl) (by kernel_rfl) (by kernel_rfl) (fun _ _ _ h => h) (Or.inl ⟨by rfl, ?_⟩) (by assumption) ?_
        rotate_left
        · (intro wx hSw; have z0 := hSw.v1.cell 0 rfl; have z1 := hSw.v2.cell 0 rfl; have y0 := cell_later hSw.b c0; have y1 := cell_later hSw.b c1; have y2 := cell_later hSw.b c2; have y3 := cell_later hSw.b d0; have y4 := cell_later hSw.b d1; have y5 := cell_later hSw.b d2; go_simp; (try with_reducible rfl); (try omega))
        (try simp only [Act.put, List.setIfInBounds_toArray, List.set_cons_zero, List.set_cons_succ, List.getElem_toArray, List.getElem_cons_zero, List.getElem_cons_succ])
        refine wpAnyH_take (i := 7) (v := ?_) rfl (by kernel_rfl) (by kernel_rfl) (by kernel_rfl) (fun _ _ _ h => h) (Or.inl ⟨by rfl, ?_⟩) (by assumption) ?_
        rotate_left
        · (intro wx hSw; have z0 := hSw.v1.cell 0 rfl; have z1 := hSw.v2.cell 0 rfl; have y0 := cell_later hSw.b c0; have y1 := cell_later hSw.b c1; have y2 := cell_later hSw.b c2; have y3 := cell_later hSw.b d0; have y4 := cell_later hSw.b d1; have y5 := cell_later hSw.b d2; go_simp; (try with_reducible rfl); (try omega))
        (try simp only [Act.put, List.setIfInBounds_toArray, List.set_cons_zero, List.set_cons_succ, List.getElem_toArray, List.getElem_cons_zero, List.getElem_cons_succ])
        refine wpAnyH_take (i := 8) (v := ?_) rfl (by kernel_rfl) (by kernel_rfl) (by kernel_rfl) (fun _ _ _ h => h) (Or.inl ⟨by rfl, ?_⟩) (by assumption) ?_
        rotate_left
        · (intro wx hSw; have z0 := hSw.v1.cell 0 rfl; have z1 := hSw.v2.cell 0 rfl; have y0 := cell_later hSw.b c0; have y1 := cell_later hSw.b c1; have y2 := cell_later hSw.b c2; have y3 := cell_later hSw.b d0; have y4 := cell_later hSw.b d1; have y5 := cell_later hSw.b d2; go_simp; (try with_reducible rfl); (try omega))
        (try simp only [Act.put, List.setIfInBounds_toArray, List.set_cons_zero, List.set_cons_succ, List.getElem_toArray, List.getElem_cons_zero, List.getElem_cons_succ])
        refine wpAnyH_take (i := 9) (v := ?_) rfl (by kernel_rfl) (by kernel_rfl) (by kernel_rfl) (fun _ _ _ h => h) (Or.inl ⟨by rfl, ?_⟩) (by assumption) ?_
        rotate_left
        · (intro wx hSw; have z0 := hSw.v1.cell 0 rfl; have z1 := hSw.v2.cell 0 rfl; have y0 := cell_later hSw.b c0; have y1 := cell_later hSw.b c1; have y2 := cell_later hSw.b c2; have y3 := cell_later hSw.b d0; have y4 := cell_later hSw.b d1; have y5 := cell_later hSw.b d2; go_simp; (try with_reducible rfl); (try omega))
        (try simp only [Act.put, List.setIfInBounds_toArray, List.set_cons_zero, List.set_cons_succ, List.getElem_toArray, List.getElem_cons_zero, List.getElem_cons_succ])
        refine wpAnyH_ready (rs := [10]) (by kernel_rfl) (by simp) ?_
        refine AllReadyH.cons rfl (fun K hK => ?_) AllReadyH.nil
        go_simp
        refine (CV.out _).mono ?_
        rintro e w5 ⟨rfl, hb5⟩
        have hS := hS.below hb5
        refine hK.out _ _ hS (fun hHeld => ?_)
        clear hK K
        (try simp only [Act.put, List.setIfInBounds_toArray, List.set_cons_zero, List.set_cons_succ, List.getElem_toArray, List.getElem_cons_zero, List.getElem_cons_succ])
        refine wpAnyH_take (i := 11) (v := ?_) rfl (by kernel_rfl) (by kernel_rfl) (by kernel_rfl) (fun _ _ _ h => h) (Or.inl ⟨by rfl, ?_⟩) (by assumption) ?_
        rotate_left
        · (intro wx hSw; have z0 := hSw.v1.cell 0 rfl; have z1 := hSw.v2.cell 0 rfl; have y0 := cell_later hSw.b c0; have y1 := cell_later hSw.b c1; have y2 := cell_later hSw.b c2; have y3 := cell_later hSw.b d0; have y4 := cell_later hSw.b d1; have y5 := cell_later hSw.b d2; go_simp; (try with_reducible rfl); (try omega))
        (try simp only [Act.put, List.setIfInBounds_toArray, List.set_cons_zero, List.set_cons_succ, List.getElem_toArray, List.getElem_cons_zero, List.getElem_cons_succ])
        refine wpAnyH_done (by kernel_rfl) ?_ _
        have hS' := hS
        clear hS hHeld
        go_wp2_with fail
        exact ⟨⟨i + 1, by omega, by go_num, hid0 (by rw [hT.out, HST.out, if_pos hx0]), hS'⟩, by simp [intOf]; omega⟩
      · have hxb : (x == 0) = false := by simpa using hx0
        go_wp2_with fail
        refine wp_region_held_drew (S := SOrd w [.slice (some ⟨b2, o2, none⟩) r1.length cc1, .int .i64 n1] [.slice (some ⟨b3, o3, none⟩) r2.length cc2, .int .i64 n2] 0) (by kernel_rfl) hS (fun hHeld => ?_)
        refine wpAnyH_take (i := 0) (v := ?_) rfl (by kernel_rfl) (by kernel_rfl) (by kernel_rfl) (fun _ _ _ h => h) (Or.inl ⟨by rfl, ?_⟩) (by assumption) ?_
        rotate_left
        · (intro wx hSw; have z0 := hSw.v1.cell 0 rfl; have z1 := hSw.v2.cell 0 rfl; have y0 := cell_later hSw.b c0; have y1 := cell_later hSw.b c1; have y2 := cell_later hSw.b c2; have y3 := cell_later hSw.b d0; have y4 := cell_later hSw.b d1; have y5 := cell_later hSw.b d2; go_simp; (try with_reducible rfl); (try omega))
        (try simp only [Act.put, List.setIfInBounds_toArray, List.set_cons_zero, List.set_cons_succ, List.getElem_toArray, List.getElem_cons_zero])
        refine wpAnyH_take (i := 1) (v := ?_) rfl (by kernel_rfl) (by kernel_rfl) (by kernel_rfl) (fun _ _ _ h => h) (Or.inl ⟨by rfl, ?_⟩) (by assumption) ?_
        rotate_left
        · (intro wx hSw; have z0 := hSw.v1.cell 0 rfl; have z1 := hSw.v2.cell 0 rfl; have y0 := cell_later hSw.b c0; have y1 := cell_later hSw.b c1; have y2 := cell_later hSw.b c2; have y3 := cell_later hSw.b d0; have y4 := cell_later hSw.b d1; have y5 := cell_later hSw.b d2; go_simp; (try with_reducible rfl); (try omega))
        (try simp only [Act.put, List.setIfInBounds_toArray, List.set_cons_zero, List.set_cons_succ, List.getElem_toArray, List.getElem_cons_zero, List.getElem_cons_succ])
        refine wpAnyH_take (i := 2) (v := ?_) rfl (by kernel_rfl) (by kernel_rfl) (by kernel_rfl) (fun _ _ _ h => h) (Or.inl ⟨by rfl, ?_⟩) (by assumption) ?_
        rotate_left
        · (intro wx hSw; have z0 := hSw.v1.cell 0 rfl; have z1 := hSw.v2.cell 0 rfl; have y0 := cell_later hSw.b c0; have y1 := cell_later hSw.b c1; have y2 := cell_later hSw.b c2; have y3 := cell_later hSw.b d0; have y4 := cell_later hSw.b d1; have y5 := cell_later hSw.b d2; go_simp; (try with_reducible rfl); (try omega))
        (try simp only [Act.put, List.setIfInBounds_toArray, List.set_cons_zero, List.set_cons_succ, List.getElem_toArray, List.getElem_cons_zero, List.getElem_cons_succ])
        refine wpAnyH_take (i := 3) (v := ?_) rfl (by kernel_rfl) (by kernel_rfl) (by kernel_rfl) (fun _ _ _ h => h) (Or.inl ⟨by rfl, ?_⟩) (by assumption) ?_
        rotate_left
        · (intro wx hSw; have z0 := hSw.v1.cell 0 rfl; have z1 := hSw.v2.cell 0 rfl; have y0 := cell_later hSw.b c0; have y1 := cell_later hSw.b c1; have y2 := cell_later hSw.b c2; have y3 := cell_later hSw.b d0; have y4 := cell_later hSw.b d1; have y5 := cell_later hSw.b d2; go_simp; (try with_reducible rfl); (try omega))
        (try simp only [Act.put, List.setIfInBounds_toArray, List.set_cons_zero, List.set_cons_succ, List.getElem_toArray, List.getElem_cons_zero, List.getElem_cons_succ])
        refine wpAnyH_take (i := 4) (v := ?_) rfl (by kernel_rfl) (by kernel_rfl) (by kernel_rfl) (fun _ _ _ h => h) (Or.inl ⟨by rfl, ?_⟩) (by assumption) ?_
        rotate_left
        · (intro wx hSw; have z0 := hSw.v1.cell 0 rfl; have z1 := hSw.v2.cell 0 rfl; have y0 := cell_later hSw.b c0; have y1 := cell_later hSw.b c1; have y2 := cell_later hSw.b c2; have y3 := cell_later hSw.b d0; have y4 := cell_later hSw.b d1; have y5 := cell_later hSw.b d2; go_simp; (try with_reducible rfl); (try omega))
        (try simp only [Act.put, List.setIfInBounds_toArray, List.set_cons_zero, List.set_cons_succ, List.getElem_toArray, List.getElem_cons_zero, List.getElem_cons_succ])
        refine wpAnyH_take (i := 5) (v := ?_) rfl (by kernel_rfl) (by kernel_rfl) (by kernel_rfl) (fun _ _ _ h => h) (Or.inl ⟨by rfl, ?_⟩) (by assumption) ?_
        rotate_left
        · (intro wx hSw; have z0 := hSw.v1.cell 0 rfl; have z1 := hSw.v2.cell 0 rfl; have y0 := cell_later hSw.b c0; have y1 := cell_later hSw.b c1; have y2 := cell_later hSw.b c2; have y3 := cell_later hSw.b d0; have y4 := cell_later hSw.b d1; have y5 := cell_later hSw.b d2; go_simp; (try with_reducible rfl); (try omega))
        (try simp only [Act.put, List.setIfInBounds_toArray, List.set_cons_zero, List.set_cons_succ, List.getElem_toArray, List.getElem_cons_zero, List.getElem_cons_succ])
        refine wpAnyH_take (i := 6) (v := ?_) rfl (by kernel_rfl) (by kernel_rfl) (by kernel_rfl) (fun _ _ _ h => h) (Or.inl ⟨by rfl, ?_⟩) (by assumption) ?_
        rotate_left
        · (intro wx hSw; have z0 := hSw.v1.cell 0 rfl; have z1 := hSw.v2.cell 0 rfl; have y0 := cell_later hSw.b c0; have y1 := cell_later hSw.b c1; have y2 := cell_later hSw.b c2; have y3 := cell_later hSw.b d0; have y4 := cell_later hSw.b d1; have y5 := cell_later hSw.b d2; go_simp; (try with_reducible rfl); (try omega))
        (try simp only [Act.put, List.setIfInBounds_toArray, List.set_cons_zero, List.set_cons_succ, List.getElem_toArray, List.getElem_cons_zero, List.getElem_cons_succ])
        refine wpAnyH_take (i := 7) (v := ?_) rfl (by kernel_rfl) (by kernel_rfl) (by kernel_rfl) (fun _ _ _ h => h) (Or.inl ⟨by rfl, ?_⟩) (by assumption) ?_
        rotate_left
        · (intro wx hSw; have z0 := hSw.v1.cell 0 rfl; have z1 := hSw.v2.cell 0 rfl; have y0 := cell_later hSw.b c0; have y1 := cell_later hSw.b c1; have y2 := cell_later hSw.b c2; have y3 := cell_later hSw.b d0; have y4 := cell_later hSw.b d1; have y5 := cell_later hSw.b d2; go_simp; (try with_reducible rfl); (try omega))
        (try simp only [Act.put, List.setIfInBounds_toArray, List.set_cons_zero, List.set_cons_succ, List.getElem_toArray, List.getElem_cons_zero, List.getElem_cons_succ])
        refine wpAnyH_take (i := 8) (v := ?_) rfl (by kernel_rfl) (by kernel_rfl) (by kernel_rfl) (fun _ _ _ h => h) (Or.inl ⟨by rfl, ?_⟩) (by assumption) ?_
        rotate_left
        · (intro wx hSw; have z0 := hSw.v1.cell 0 rfl; have z1 := hSw.v2.cell 0 rfl; have y0 := cell_later hSw.b c0; have y1 := cell_later hSw.b c1; have y2 := cell_later hSw.b c2; have y3 := cell_later hSw.b d0; have y4 := cell_later hSw.b d1; have y5 := cell_later hSw.b d2; go_simp; (try with_reducible rfl); (try omega))
        (try simp only [Act.put, List.setIfInBounds_toArray, List.set_cons_zero, List.set_cons_succ, List.getElem_toArray, List.getElem_cons_zero, List.getElem_cons_succ])
        refine wpAnyH_take (i := 9) (v := ?_) rfl (by kernel_rfl) (by kernel_rfl) (by kernel_rfl) (fun _ _ _ h => h) (Or.inl ⟨by rfl, ?_⟩) (by assumption) ?_
        rotate_left
        · (intro wx hSw; have z0 := hSw.v1.cell 0 rfl; have z1 := hSw.v2.cell 0 rfl; have y0 := cell_later hSw.b c0; have y1 := cell_later hSw.b c1; have y2 := cell_later hSw.b c2; have y3 := cell_later hSw.b d0; have y4 := cell_later hSw.b d1; have y5 := cell_later hSw.b d2; go_simp; (try with_reducible rfl); (try omega))
        (try simp only [Act.put, List.setIfInBounds_toArray, List.set_cons_zero, List.set_cons_succ, List.getElem_toArray, List.getElem_cons_zero, List.getElem_cons_succ])
        refine wpAnyH_ready (rs := [10]) (by kernel_rfl) (by simp) ?_
        refine AllReadyH.cons rfl (fun K hK => ?_) AllReadyH.nil
        go_simp
        refine (CV.out _).mono ?_
        rintro e w5 ⟨rfl, hb5⟩
        have hS := hS.below hb5
        refine hK.out _ _ hS (fun hHeld => ?_)
        clear hK K
        (try simp only [Act.put, List.setIfInBounds_toArray, List.set_cons_zero, List.set_cons_succ, List.getElem_toArray, List.getElem_cons_zero, List.getElem_cons_succ])
        refine wpAnyH_take (i := 11) (v := ?_) rfl (by kernel_rfl) (by kernel_rfl) (by kernel_rfl) (fun _ _ _ h => h) (Or.inl ⟨by rfl, ?_⟩) (by assumption) ?_
        rotate_left
        · (intro wx hSw; have z0 := hSw.v1.cell 0 rfl; have z1 := hSw.v2.cell 0 rfl; have y0 := cell_later hSw.b c0; have y1 := cell_later hSw.b c1; have y2 := cell_later hSw.b c2; have y3 := cell_later hSw.b d0; have y4 := cell_later hSw.b d1; have y5 := cell_later hSw.b d2; go_simp; (try with_reducible rfl); (try omega))
        (try simp only [Act.put, List.setIfInBounds_toArray, List.set_cons_zero, List.set_cons_succ, List.getElem_toArray, List.getElem_cons_zero, List.getElem_cons_succ])
        refine wpAnyH_done (by kernel_rfl) ?_ _
        have hb := hS.b
        clear hS hHeld
        go_wp2_with fail
        go_ret
        exact ⟨ret_i64 (by rw [hT.out, HST.out, if_neg hx0]), hb⟩
    · have hie : ¬ (i : Int) < gs.length := by omega
      rw [List.drop_of_length_le (by omega)] at hT
      have hb := hS.b
      clear hS
      go_wp2
      go_ret
      exact ⟨ret_i64 (by rw [hT.out]; rfl), hb⟩
end Go.Proofs.YtjmoegcfgadjiaaGreat

/- A list that rises already is left as it is by slices.SortStableFunc: contracts of the calls, in whatever memory. Conditions: the rows' cells are known; the order answers whenever it is asked; the list is short. -/
namespace Go.Proofs.YtjmoegcfgadjiaaGreat
open Go.RowKit

structure SBel (w W : World) : Prop where
  b : Below w.heap.size w W
theorem SBel.below {w W W' : World} (h : SBel w W) (hb : Below W.heap.size W W') : SBel w W' := ⟨below_through hb h.b.size h.b⟩
/-- What the order answers of a list's rows. -/
structure OrdC (w : World) (vb : Nat) (gs : List Int) (E : List Elem) : Prop where
  out : ∀ e1 ∈ E, ∀ e2 ∈ E, ∀ W, Below w.heap.size w W → RowAt W e1.a e1.r → RowAt W e2.a e2.r → Calls Tryz.prog 187 #[.agg #[.slice e1.a e1.r.length e1.c, .int .i64 e1.n], .agg #[.slice e2.a e2.r.length e2.c, .int .i64 e2.n], .pointer (some ⟨vb, 0, none⟩)] W fun e w' => e = .returned (.int .i64 (keyA gs e1.r e2.r)) ∧ Below W.heap.size W w'
theorem OrdC.later {w w' : World} {vb : Nat} {gs : List Int} {E : List Elem} (h : OrdC w vb gs E) (hb : Below w.heap.size w w') : OrdC w' vb gs E := ⟨fun e1 h1 e2 h2 W hW => h.out e1 h1 e2 h2 W (below_through hW hb.size hb)⟩
/-- A list that rises. -/
def Risen (gs : List Int) (E : List Elem) : Prop := ∀ i (h : i + 1 < E.length), ¬ keyA gs E[i + 1].r E[i].r < 0
set_option maxHeartbeats 4000000 in
set_option maxRecDepth 1000000 in
theorem ins_risen (vb : Nat) (a : Option Addr) (c : Nat) (E : List Elem) (gs : List Int) (w : World) (hE : ElemsAt w a E) (hC : OrdC w vb gs E) (hR : Risen gs E) (hl : E.length ≤ 1000000) :
    Calls Tryz.prog 281 #[.slice a E.length c, .int .i64 0, .int .i64 E.length, .func (.func 187) #[] #[.pointer (some ⟨vb, 0, none⟩)]] w fun e w' => e = .returned (.tuple #[]) ∧ Below w.heap.size w w' := by
  have A := hid0 hE
  have CC := hid0 hC
  have HR := hid0 hR
  clear hE hC hR
  go_enter Tryz.func281, Tryz.ntmps281
  go_wp2
  go_loopw [8] (fun iv wr => ∃ i : Nat, 1 ≤ i ∧ i ≤ 1000001 ∧ iv = .int .i64 i ∧ Below w.heap.size w wr) (fun iv _ => E.length - (intOf iv).toNat)
  case atStart => exact ⟨1, Nat.le_refl _, by omega, rfl, Below.refl _ _⟩
  case round =>
    obtain ⟨i, hi, hi2, rfl, hB⟩ := hrel
    have hsz := hB.size
    by_cases hlt : i < E.length
    · obtain ⟨j, hj⟩ : ∃ j, j + 1 = i := ⟨i - 1, by omega⟩
      have hjl : j < E.length := by omega
      obtain ⟨b1, o1, rfl, hc1⟩ := A.out.1 (by intro e; rw [e] at hlt; exact absurd hlt (by simp))
      obtain ⟨q0, q1⟩ := hc1 i hlt
      obtain ⟨r0, r1⟩ := hc1 j hjl
      have hm1 := List.getElem_mem hlt
      have hm2 := List.getElem_mem hjl
      have hr1 := (A.out.2 _ hm1).1
      have hr2 := (A.out.2 _ hm2).1
      have hx : ¬ keyA gs E[i].r E[j].r < 0 := by
        have := HR.out j (by omega)
        simpa only [hj] using this
      generalize E[i] = e1 at *
      generalize E[j] = e2 at *
      have hin : (i : Int) < (E.length : Int) := by omega
      have hjn : (j : Int) < (E.length : Int) := by omega
      have hi0 : (0 : Int) < (i : Int) := by omega
      have hw : IntKind.i64.wrap ((i : Int) - 1) = (j : Int) := by rw [IntWalk.i64_in _ (by omega)]; omega
      have hdt : decide ((0 : Int) < (i : Int)) = true := by simp; omega
      have hdn : decide (0 < i) = true := by simp; omega
      have HHJ := hid0 hj
      clear hc1 hj
      go_wp2_with fail
      go_loopw [9] (fun jv wr => jv = .int .i64 i ∧ SBel w wr) (fun jv _ => (intOf jv).toNat)
      case atStart => exact ⟨rfl, ⟨hB⟩⟩
      case round =>
        obtain ⟨rfl, hS⟩ := hrel
        have hS := hS.below (Below.drew (Below.refl _ _))
        go_wp2_with fail
        refine wp_region_held_drew (S := SBel w) (by kernel_rfl) hS (fun hHeld => ?_)
        refine wpAnyH_take (i := 0) (v := ?_) rfl (by kernel_rfl) (by kernel_rfl) (by kernel_rfl) (fun _ _ _ h => h) (Or.inl ⟨by rfl, ?_⟩) (by assumption) ?_
        rotate_left
        · (intro wx hSw; have z0 := cell_later hSw.b q0; have z1 := cell_later hSw.b q1; have y0 := cell_later hSw.b r0; have y1 := cell_later hSw.b r1; go_simp; (try with_reducible rfl); (try omega))
        (try simp only [Act.put, List.setIfInBounds_toArray, List.set_cons_zero, List.set_cons_succ, List.getElem_toArray, List.getElem_cons_zero])
        refine wpAnyH_take (i := 1) (v := ?_) rfl (by kernel_rfl) (by kernel_rfl) (by kernel_rfl) (fun _ _ _ h => h) (Or.inl ⟨by rfl, ?_⟩) (by assumption) ?_
        rotate_left
        · (intro wx hSw; have z0 := cell_later hSw.b q0; have z1 := cell_later hSw.b q1; have y0 := cell_later hSw.b r0; have y1 := cell_later hSw.b r1; go_simp; (try with_reducible rfl); (try omega))
        (try simp only [Act.put, List.setIfInBounds_toArray, List.set_cons_zero, List.set_cons_succ, List.getElem_toArray, List.getElem_cons_zero, List.getElem_cons_succ])
        refine wpAnyH_take (i := 2) (v := ?_) rfl (by kernel_rfl) (by kernel_rfl) (by kernel_rfl) (fun _ _ _ h => h) (Or.inl ⟨by rfl, ?_⟩) (by assumption) ?_
        rotate_left
        · (intro wx hSw; have z0 := cell_later hSw.b q0; have z1 := cell_later hSw.b q1; have y0 := cell_later hSw.b r0; have y1 := cell_later hSw.b r1; go_simp; (try with_reducible rfl); (try omega))
        (try simp only [Act.put, List.setIfInBounds_toArray, List.set_cons_zero, List.set_cons_succ, List.getElem_toArray, List.getElem_cons_zero, List.getElem_cons_succ])
        refine wpAnyH_take (i := 3) (v := ?_) rfl (by kernel_rfl) (by kernel_rfl) (by kernel_rfl) (fun _ _ _ h => h) (Or.inl ⟨by rfl, ?_⟩) (by assumption) ?_
        rotate_left
        · (intro wx hSw; have z0 := cell_later hSw.b q0; have z1 := cell_later hSw.b q1; have y0 := cell_later hSw.b r0; have y1 := cell_later hSw.b r1; go_simp; (try with_reducible rfl); (try omega))
        (try simp only [Act.put, List.setIfInBounds_toArray, List.set_cons_zero, List.set_cons_succ, List.getElem_toArray, List.getElem_cons_zero, List.getElem_cons_succ])
        refine wpAnyH_take (i := 4) (v := ?_) rfl (by kernel_rfl) (by kernel_rfl) (by kernel_rfl) (fun _ _ _ h => h) (Or.inl ⟨by rfl, ?_⟩) (by assumption) ?_
        rotate_left
        · (intro wx hSw; have z0 := cell_later hSw.b q0; have z1 := cell_later hSw.b q1; have y0 := cell_later hSw.b r0; have y1 := cell_later hSw.b r1; go_simp; (try with_reducible rfl); (try omega))
        (try simp only [Act.put, List.setIfInBounds_toArray, List.set_cons_zero, List.set_cons_succ, List.getElem_toArray, List.getElem_cons_zero, List.getElem_cons_succ])
        refine wpAnyH_take (i := 5) (v := ?_) rfl (by kernel_rfl) (by kernel_rfl) (by kernel_rfl) (fun _ _ _ h => h) (Or.inl ⟨by rfl, ?_⟩) (by assumption) ?_
        rotate_left
        · (intro wx hSw; have z0 := cell_later hSw.b q0; have z1 := cell_later hSw.b q1; have y0 := cell_later hSw.b r0; have y1 := cell_later hSw.b r1; go_simp; (try with_reducible rfl); (try omega))
        (try simp only [Act.put, List.setIfInBounds_toArray, List.set_cons_zero, List.set_cons_succ, List.getElem_toArray, List.getElem_cons_zero, List.getElem_cons_succ])
        refine wpAnyH_take (i := 6) (v := ?_) rfl (by kernel_rfl) (by kernel_rfl) (by kernel_rfl) (fun _ _ _ h => h) (Or.inl ⟨by rfl, ?_⟩) (by assumption) ?_
        rotate_left
        · (intro wx hSw; have z0 := cell_later hSw.b q0; have z1 := cell_later hSw.b q1; have y0 := cell_later hSw.b r0; have y1 := cell_later hSw.b r1; go_simp; (try with_reducible rfl); (try omega))
        (try simp only [Act.put, List.setIfInBounds_toArray, List.set_cons_zero, List.set_cons_succ, List.getElem_toArray, List.getElem_cons_zero, List.getElem_cons_succ])
        refine wpAnyH_take (i := 7) (v := ?_) rfl (by kernel_rfl) (by kernel_rfl) (by kernel_rfl) (fun _ _ _ h => h) (Or.inl ⟨by rfl, ?_⟩) (by assumption) ?_
        rotate_left
        · (intro wx hSw; have z0 := cell_later hSw.b q0; have z1 := cell_later hSw.b q1; have y0 := cell_later hSw.b r0; have y1 := cell_later hSw.b r1; go_simp; (try with_reducible rfl); (try omega))
        (try simp only [Act.put, List.setIfInBounds_toArray, List.set_cons_zero, List.set_cons_succ, List.getElem_toArray, List.getElem_cons_zero, List.getElem_cons_succ])
        refine wpAnyH_take (i := 8) (v := ?_) rfl (by kernel_rfl) (by kernel_rfl) (by kernel_rfl) (fun _ _ _ h => h) (Or.inl ⟨by rfl, ?_⟩) (by assumption) ?_
        rotate_left
        · (intro wx hSw; have z0 := cell_later hSw.b q0; have z1 := cell_later hSw.b q1; have y0 := cell_later hSw.b r0; have y1 := cell_later hSw.b r1; go_simp; (try with_reducible rfl); (try omega))
        (try simp only [Act.put, List.setIfInBounds_toArray, List.set_cons_zero, List.set_cons_succ, List.getElem_toArray, List.getElem_cons_zero, List.getElem_cons_succ])
        refine wpAnyH_take (i := 9) (v := ?_) rfl (by kernel_rfl) (by kernel_rfl) (by kernel_rfl) (fun _ _ _ h => h) (Or.inl ⟨by rfl, ?_⟩) (by assumption) ?_
        rotate_left
        · (intro wx hSw; have z0 := cell_later hSw.b q0; have z1 := cell_later hSw.b q1; have y0 := cell_later hSw.b r0; have y1 := cell_later hSw.b r1; go_simp; (try with_reducible rfl); (try omega))
        (try simp only [Act.put, List.setIfInBounds_toArray, List.set_cons_zero, List.set_cons_succ, List.getElem_toArray, List.getElem_cons_zero, List.getElem_cons_succ])
        refine wpAnyH_take (i := 10) (v := ?_) rfl (by kernel_rfl) (by kernel_rfl) (by kernel_rfl) (fun _ _ _ h => h) (Or.inl ⟨by rfl, ?_⟩) (by assumption) ?_
        rotate_left
        · (intro wx hSw; have z0 := cell_later hSw.b q0; have z1 := cell_later hSw.b q1; have y0 := cell_later hSw.b r0; have y1 := cell_later hSw.b r1; go_simp; (try with_reducible rfl); (try omega))
        (try simp only [Act.put, List.setIfInBounds_toArray, List.set_cons_zero, List.set_cons_succ, List.getElem_toArray, List.getElem_cons_zero, List.getElem_cons_succ])
        refine wpAnyH_take (i := 11) (v := ?_) rfl (by kernel_rfl) (by kernel_rfl) (by kernel_rfl) (fun _ _ _ h => h) (Or.inl ⟨by rfl, ?_⟩) (by assumption) ?_
        rotate_left
        · (intro wx hSw; have z0 := cell_later hSw.b q0; have z1 := cell_later hSw.b q1; have y0 := cell_later hSw.b r0; have y1 := cell_later hSw.b r1; go_simp; (try with_reducible rfl); (try omega))
        (try simp only [Act.put, List.setIfInBounds_toArray, List.set_cons_zero, List.set_cons_succ, List.getElem_toArray, List.getElem_cons_zero, List.getElem_cons_succ])
        refine wpAnyH_take (i := 12) (v := ?_) rfl (by kernel_rfl) (by kernel_rfl) (by kernel_rfl) (fun _ _ _ h => h) (Or.inl ⟨by rfl, ?_⟩) (by assumption) ?_
        rotate_left
        · (intro wx hSw; have z0 := cell_later hSw.b q0; have z1 := cell_later hSw.b q1; have y0 := cell_later hSw.b r0; have y1 := cell_later hSw.b r1; go_simp; (try with_reducible rfl); (try omega))
        (try simp only [Act.put, List.setIfInBounds_toArray, List.set_cons_zero, List.set_cons_succ, List.getElem_toArray, List.getElem_cons_zero, List.getElem_cons_succ])
        refine wpAnyH_take (i := 13) (v := ?_) rfl (by kernel_rfl) (by kernel_rfl) (by kernel_rfl) (fun _ _ _ h => h) (Or.inl ⟨by rfl, ?_⟩) (by assumption) ?_
        rotate_left
        · (intro wx hSw; have z0 := cell_later hSw.b q0; have z1 := cell_later hSw.b q1; have y0 := cell_later hSw.b r0; have y1 := cell_later hSw.b r1; go_simp; (try with_reducible rfl); (try omega))
        (try simp only [Act.put, List.setIfInBounds_toArray, List.set_cons_zero, List.set_cons_succ, List.getElem_toArray, List.getElem_cons_zero, List.getElem_cons_succ])
        refine wpAnyH_ready (rs := [14]) (by kernel_rfl) (by simp) ?_
        refine AllReadyH.cons rfl (fun K hK => ?_) AllReadyH.nil
        go_simp
        refine (CC.out.out _ hm1 _ hm2 _ hS.b (hr1.later hS.b) (hr2.later hS.b)).mono ?_
        rintro e w5 ⟨rfl, hb5⟩
        have hS := hS.below hb5
        refine hK.out _ _ hS (fun hHeld => ?_)
        clear hK K
        (try simp only [Act.put, List.setIfInBounds_toArray, List.set_cons_zero, List.set_cons_succ, List.getElem_toArray, List.getElem_cons_zero, List.getElem_cons_succ])
        refine wpAnyH_take (i := 15) (v := ?_) rfl (by kernel_rfl) (by kernel_rfl) (by kernel_rfl) (fun _ _ _ h => h) (Or.inl ⟨by rfl, ?_⟩) (by assumption) ?_
        rotate_left
        · (intro wx hSw; have z0 := cell_later hSw.b q0; have z1 := cell_later hSw.b q1; have y0 := cell_later hSw.b r0; have y1 := cell_later hSw.b r1; go_simp; (try with_reducible rfl); (try omega))
        (try simp only [Act.put, List.setIfInBounds_toArray, List.set_cons_zero, List.set_cons_succ, List.getElem_toArray, List.getElem_cons_zero, List.getElem_cons_succ])
        refine wpAnyH_take (i := 16) (v := ?_) rfl (by kernel_rfl) (by kernel_rfl) (by kernel_rfl) (fun _ _ _ h => h) (Or.inl ⟨by rfl, ?_⟩) (by assumption) ?_
        rotate_left
        · (intro wx hSw; have z0 := cell_later hSw.b q0; have z1 := cell_later hSw.b q1; have y0 := cell_later hSw.b r0; have y1 := cell_later hSw.b r1; go_simp; (try with_reducible rfl); (try omega))
        (try simp only [Act.put, List.setIfInBounds_toArray, List.set_cons_zero, List.set_cons_succ, List.getElem_toArray, List.getElem_cons_zero, List.getElem_cons_succ])
        refine wpAnyH_done (by kernel_rfl) ?_ _
        have hb := hS.b
        clear hS hHeld
        go_wp2_with fail
        exact ⟨⟨i + 1, by omega, by omega, by go_num, hb⟩, by simp [intOf]; omega⟩
    · have hie : ¬ (i : Int) < E.length := by omega
      go_wp2
      go_returns
      exact ⟨rfl, hB⟩
end Go.Proofs.YtjmoegcfgadjiaaGreat

/- slices.SortStableFunc leaves a short list as it is that rises already; runs of rows that are alike, one after the other. Conditions: the rows' cells are known. -/
namespace Go.Proofs.YtjmoegcfgadjiaaGreat
open Go.RowKit

set_option maxHeartbeats 4000000 in
set_option maxRecDepth 1000000 in
theorem stable_risen (vb : Nat) (a : Option Addr) (c : Nat) (E : List Elem) (gs : List Int) (w : World) (hE : ElemsAt w a E) (hC : OrdC w vb gs E) (hR : Risen gs E) (hl : E.length < 20) :
    Calls Tryz.prog 252 #[.slice a E.length c, .int .i64 E.length, .func (.func 187) #[] #[.pointer (some ⟨vb, 0, none⟩)]] w fun e w' => e = .returned (.tuple #[]) ∧ Below w.heap.size w w' := by
  have CI := hid0 (ins_risen vb a c E gs w hE hC hR (by omega))
  clear hE hC hR
  have h1 : ¬ ((20 : Int) ≤ (E.length : Int)) := by omega
  have h2 : ¬ ((20 : Int) < (E.length : Int)) := by omega
  go_enter Tryz.func252, Tryz.ntmps252
  go_wp2
  go_loopw [7, 8] (fun av bv wr => av = .int .i64 0 ∧ bv = .int .i64 20 ∧ w = wr) (fun av _ _ => (intOf av).toNat)
  case atStart => exact ⟨rfl, rfl, rfl⟩
  case round =>
    obtain ⟨rfl, rfl, rfl⟩ := hrel
    go_wp2_with (first | (go_at_call 281; go_must (refine CI.out.mono ?_; rintro e w1 ⟨rfl, hb1⟩)) | fail)
    go_loopw [6] (fun bv wr => bv = .int .i64 20 ∧ Below w.heap.size w wr) (fun bv _ => (intOf bv).toNat)
    case atStart => exact ⟨rfl, hb1⟩
    case round =>
      obtain ⟨rfl, hB⟩ := hrel
      go_wp2
      go_returns
      exact ⟨rfl, hB⟩
theorem sort_risen (vb : Nat) (a : Option Addr) (c : Nat) (E : List Elem) (gs : List Int) (w : World) (hE : ElemsAt w a E) (hC : OrdC w vb gs E) (hR : Risen gs E) (hl : E.length < 20) :
    Calls Tryz.prog 189 #[.slice a E.length c, .func (.func 187) #[] #[.pointer (some ⟨vb, 0, none⟩)]] w fun e w' => e = .returned (.tuple #[]) ∧ Below w.heap.size w w' := by
  have CS := hid0 (stable_risen vb a c E gs w hE hC hR hl)
  clear hE hC hR
  go_enter Tryz.func189, Tryz.ntmps189
  go_wp2_with (first | (go_at_call 252; go_must (refine CS.out.mono ?_; rintro e w1 ⟨rfl, hb1⟩)) | fail)
  go_returns
  exact ⟨rfl, hb1⟩
/-! ### Runs, one after the other -/
def goR (gs : List Int) (x : Pair) (cur : List Pair) : List Pair → List (List Pair)
  | [] => [cur]
  | y :: L => if keyA gs x.1 y.1 = 0 then goR gs y (cur ++ [y]) L else cur :: goR gs y [y] L
theorem runs_head (gs : List Int) : ∀ (L : List Pair) (x : Pair), ∃ g R, runsM gs (x :: L) = (x :: g) :: R
  | [], x => ⟨[], [], by simp [runsM]⟩
  | y :: L, x => by
    obtain ⟨g, R, h⟩ := runs_head gs L y
    unfold runsM
    rw [h]
    dsimp only
    by_cases hk : rowsV (keyV gs x.1) (keyV gs y.1) = 0
    · rw [if_pos hk]; exact ⟨_, _, rfl⟩
    · rw [if_neg hk]; exact ⟨_, _, rfl⟩
theorem goR_runs (gs : List Int) : ∀ (L : List Pair) (x : Pair) (c g : List Pair) (R : List (List Pair)), runsM gs (x :: L) = (x :: g) :: R → goR gs x (c ++ [x]) L = (c ++ x :: g) :: R
  | [], x, c, g, R, h => by
    simp [runsM] at h
    obtain ⟨rfl, rfl⟩ := h
    rfl
  | y :: L, x, c, g, R, h => by
    obtain ⟨g', R', h'⟩ := runs_head gs L y
    unfold runsM at h
    rw [h'] at h
    dsimp only at h
    unfold goR keyA
    by_cases hk : rowsV (keyV gs x.1) (keyV gs y.1) = 0
    · rw [if_pos hk] at h ⊢
      have ih := goR_runs gs L y (c ++ [x]) g' R' h'
      rw [ih]
      simp only [List.cons.injEq, true_and] at h
      obtain ⟨rfl, rfl⟩ := h
      simp
    · rw [if_neg hk] at h ⊢
      have ih := goR_runs gs L y [] g' R' h'
      rw [List.nil_append] at ih
      rw [ih]
      simp only [List.cons.injEq, true_and] at h
      obtain ⟨rfl, rfl⟩ := h
      simp
/-- i of the rows have been looked at; done are the runs that are told; from b on the next one. -/
structure RunI (gs : List Int) (K : List Pair) (i b : Nat) (done : List (List Pair)) : Prop where
  bi : b ≤ i
  il : i ≤ K.length
  mid : ∀ h : i < K.length, runsM gs K = done ++ goR gs K[i] ((K.drop b).take (i + 1 - b)) (K.drop (i + 1))
  fin : i = K.length → runsM gs K = done
theorem RunI.start (gs : List Int) (K : List Pair) : RunI gs K 0 0 [] := by
  refine ⟨Nat.le_refl _, Nat.zero_le _, fun h => ?_, fun h => ?_⟩
  · match K, h with
    | x :: L, _ =>
      obtain ⟨g, R, e⟩ := runs_head gs L x
      have := goR_runs gs L x [] g R e
      simp only [List.nil_append] at this
      rw [e]
      simp only [List.nil_append, List.drop_zero, List.drop_succ_cons, List.getElem_cons_zero]
      exact this.symm
  · have : K = [] := List.length_eq_zero_iff.1 h.symm
    subst this; rfl
theorem cur_next {K : List Pair} {i b : Nat} (hb : b ≤ i) (h : i + 1 < K.length) : (K.drop b).take (i + 1 + 1 - b) = (K.drop b).take (i + 1 - b) ++ [K[i + 1]] := by
  rw [show i + 1 + 1 - b = (i + 1 - b) + 1 by omega, List.take_succ_eq_append_getElem (by rw [List.length_drop]; omega), List.getElem_drop]
  congr 3; omega
theorem RunI.same {gs : List Int} {K : List Pair} {i b : Nat} {done : List (List Pair)} (h : RunI gs K i b done) (hi : i + 1 < K.length) (hk : keyA gs (K[i]).1 (K[i + 1]).1 = 0) : RunI gs K (i + 1) b done := by
  refine ⟨by have := h.bi; omega, by omega, fun h' => ?_, fun e => by omega⟩
  rw [h.mid (by omega), List.drop_eq_getElem_cons hi, goR, if_pos hk, cur_next h.bi hi]
theorem RunI.next {gs : List Int} {K : List Pair} {i b : Nat} {done : List (List Pair)} (h : RunI gs K i b done) (hi : i + 1 < K.length) (hk : keyA gs (K[i]).1 (K[i + 1]).1 ≠ 0) : RunI gs K (i + 1) (i + 1) (done ++ [(K.drop b).take (i + 1 - b)]) := by
  refine ⟨Nat.le_refl _, by omega, fun h' => ?_, fun e => by omega⟩
  rw [h.mid (by omega), List.drop_eq_getElem_cons hi, goR, if_neg hk, show i + 1 + 1 - (i + 1) = 1 by omega, List.take_succ_cons, List.take_zero]
  simp
theorem RunI.last {gs : List Int} {K : List Pair} {i b : Nat} {done : List (List Pair)} (h : RunI gs K i b done) (hi : i + 1 = K.length) : RunI gs K (i + 1) (i + 1) (done ++ [(K.drop b).take (i + 1 - b)]) := by
  refine ⟨Nat.le_refl _, by omega, fun h' => by omega, fun _ => ?_⟩
  rw [h.mid (by omega), List.drop_of_length_le (show K.length ≤ i + 1 by omega), goR]
theorem GrpOk.sub {w : World} {b o c : Nat} {E : List Elem} (h : GrpOk w (some ⟨b, o, none⟩) c E) (k m : Nat) (hk : k ≤ E.length) (hm : k + m ≤ c) : GrpOk w (some ⟨b, o + k * 2, none⟩) (c - k) ((E.drop k).take m) := by
  have hd := (h.at_.drop k).take m
  have h1 := absS_take (E.map pr) k
  have h2 := absS_take ((E.map pr).drop k) m
  have h3 := absS_nonneg ((E.map pr).take k)
  have h4 := absS_nonneg (((E.map pr).drop k).drop m)
  have hall := h.all
  have hf := h.few
  refine ⟨hd, fun e he => h.i e (List.mem_of_mem_drop (List.mem_of_mem_take he)), by rw [List.length_take, List.length_drop]; omega, ?_, by rw [List.length_take]; omega⟩
  rw [List.map_take, List.map_drop]; omega
end Go.Proofs.YtjmoegcfgadjiaaGreat
