/- Several of my texts laid together, each as it was: Yl. Conditions: each names its own. -/
import Derived.Test.YtfdkajefcplfjaaB7
import Derived.Test.YtfdkajefcplfjaaShelf
import Derived.Sort.OwnSortedInts
/- The project's Reads and Asks: contracts of the calls, in whatever memory. Conditions: what comes in is not too great. -/
namespace Go.Proofs.Ytfdkajefcplfjaa
open Go.RowKit

open Go.Sort
/-- What a call answers that tells a list of numbers. -/
def ListAns (w0 : World) (L : List Int) (e : Ending) (w' : World) : Prop := (∃ a c, e = .returned (.slice a L.length c) ∧ IntsAt w' a L) ∧ Below w0.heap.size w0 w'
structure Calls' (f : Nat) (w : World) (args : Array Value) (Q : World → Ending → World → Prop) : Prop where
  out : ∀ W, Below w.heap.size w W → Calls Try.prog f args W (Q W)
set_option maxHeartbeats 8000000 in
set_option maxRecDepth 1000000 in
theorem rising_any {w0 w : World} {v : Value} {F : List Int} (hF : IRow w0 w v F) (hs : F.length ≤ 8000000) :
    Calls Try.prog 70 #[v] w (ListAns w0 (rise F)) := by
  rcases hF.own.2 with ⟨rfl, hn⟩ | ⟨g, cap, cur, rfl, hg, hh, hnc, hcm, hsz, htake⟩
  · have e : rise F = [] := List.length_eq_zero_iff.1 (by have := rise_len F; omega)
    have he := hid0 e
    have hb := hid0 hF.b
    clear hF e hn
    go_enter Try.func70, Try.ntmps70
    go_wp2_with fail
    go_at_call 74
    refine (Try.slices_Sort_int_none none 0 w).mono ?_
    rintro e w1 ⟨rfl, rfl⟩
    go_wp2_with fail
    go_at_call 75
    refine (Try.slices_Compact_int_empty none 0 _).mono ?_
    rintro e w1 ⟨rfl, rfl⟩
    go_wp2_with fail
    go_ret
    rw [he.out]
    exact ⟨⟨none, 0, rfl, fun h => absurd rfl h⟩, hb.out⟩
  · have hgs := (hF.own.lt g rfl).2
    have hfin : ∀ j u, (ints F)[j]? = some u → w.cell? ((⟨g, 0, none⟩ : Addr).add j) = some u := hF.own.cells rfl
    have htk : cur.toList.take F.length = F.map (Value.int .i64) := by simpa [ints] using htake
    have hH := holds_of_blockI hh htk
    obtain ⟨ts, hts⟩ : ∃ ts, F.mergeSort (fun x y => decide (x ≤ y)) = ts := ⟨_, rfl⟩
    have hlt : ts.length = F.length := by rw [← hts]; exact List.length_mergeSort F
    have C1 := Try.slices_Sort_int g 0 cap F w hH hgs (by omega)
    rw [hts] at C1
    have C1' : Calls Try.prog 74 #[.slice (some ⟨g, 0, none⟩) F.length cap] w fun e w' => e = .returned (.tuple #[]) ∧ w'.ownsRow w0.heap.size 3 1 (.slice (some ⟨g, 0, none⟩) F.length cap) F.length (ts.map (Value.int .i64)) ∧ w.grownBy w' (some g) := C1.mono fun e w' ⟨he, n, os, hw⟩ => by
      subst hw
      exact ⟨he, ownsRow_sortedI hlt hg hh hnc hcm (by simpa using hsz), grownBy_sortedI _⟩
    have C1' := hid0 C1'
    have hb := hid0 hF.b
    have hr : rise F = Lib.compact ts := by rw [← hts]; rfl
    have hr := hid0 hr
    clear hF hh htake hfin htk hH hts C1 hsz
    go_enter Try.func70, Try.ntmps70
    go_wp2_with fail
    go_at_call 74
    refine C1'.out.mono ?_
    rintro e w1 ⟨rfl, hown1, hgr1⟩
    rcases hown1.2 with ⟨h0, _⟩ | ⟨g', cap', cur', h0, _, hh', hnc', hcm', hsz', htake'⟩
    · cases h0
    cases h0
    have hb1 : Below w0.heap.size w0 w1 := hb.out.grown hgr1 hb.out.size (fun k hk => by cases hk; exact hg)
    have hlt' : ts.length = F.length := hlt
    have htk' : cur'.toList.take ts.length = ts.map (Value.int .i64) := by rw [hlt']; simpa using htake'
    have hH' := holds_of_blockI hh' htk'
    have C2 := Try.slices_Compact_int g 0 cap ts w1 hH' (by omega) (by omega)
    have hcl := compact_len ts
    have C2' : Calls Try.prog 75 #[.slice (some ⟨g, 0, none⟩) F.length cap] w1 (ListAns w0 (Lib.compact ts)) := by
      rw [← hlt']
      refine C2.mono fun e w' ⟨he, q, hw⟩ => ?_
      subst he
      have hgrow0 : ∀ W : World, grow W #[] = W := fun W => by simp [grow]
      have hw' : w' = grow (putRow (Value.int .i64) (Sort.ahead w1 q) g 0 (Lib.compact ts ++ List.replicate (ts.length - (Lib.compact ts).length) 0).toArray) #[] := by rw [hgrow0]; exact hw
      have hl2 : (Lib.compact ts ++ List.replicate (ts.length - (Lib.compact ts).length) (0 : Int)).length = ts.length := by simp; omega
      have O2 : w'.ownsRow w0.heap.size 3 1 (.slice (some ⟨g, 0, none⟩) ts.length cap) ts.length (ints (Lib.compact ts ++ List.replicate (ts.length - (Lib.compact ts).length) 0)) := by
        rw [hw']
        exact ownsRow_sortedI hl2 hg hh' (by omega) hcm (by simpa using hsz')
      obtain ⟨a, c, ev, _, hI⟩ := ints_owned O2 hl2
      obtain rfl : a = some ⟨g, 0, none⟩ := (Value.slice.inj ev).1.symm
      refine ⟨⟨some ⟨g, 0, none⟩, cap, rfl, ?_⟩, ?_⟩
      · intro hne
        obtain ⟨b, o, e, hc⟩ := hI (fun e => hne (List.append_eq_nil_iff.1 e).1)
        refine ⟨b, o, e, fun i hi => ?_⟩
        rw [hc i (by rw [List.length_append]; omega), List.getElem_append_left hi]
      · rw [hw']
        exact hb1.grown (grownBy_sortedI _) hb1.size (fun k hk => by cases hk; exact hg)
    have C2' := hid0 C2'
    clear C2 hH' htk' hsz' htake' hh' hown1 hgr1
    go_wp2_with fail
    go_at_call 75
    refine C2'.out.mono ?_
    rintro e w2 ⟨⟨a2, c2, rfl, hI2⟩, hb2⟩
    have HI2 := hid0 hI2
    clear hI2
    go_wp2_with fail
    go_ret
    rw [hr.out]
    exact ⟨⟨a2, c2, rfl, HI2.out⟩, hb2⟩
theorem reads_any {n : Nat} {x : Cx} {w : World} (hx : CxAt w n x) (hs : sizeC x ≤ 8000000) : Calls Try.prog 67 #[x.val] w (ListAns w (rise (rdC x))) := by
  have hl := rdC_len x
  have H : Calls' 72 w #[.slice none 0 0, x.val] (fun W e w' => RdAns w W (.slice none 0 0) (rdC x) e w') := ⟨fun W hb => read_any (F := []) hx ⟨World.ownsRow_nil _ _ _ _, hb⟩ (by simpa using hs)⟩
  generalize rdC x = F at H hl
  obtain ⟨k, q, v, p, c, ys⟩ := x
  have V := VarB.new w [.int .i64 k, .int .i64 q, .int .i64 v.k, .int .i64 v.n, .string v.s, .slice p ys.length c] 34
  have a0 := V.cell 0 rfl
  have a1 := V.cell 1 rfl
  have a2 := V.cell 2 rfl
  have a3 := V.cell 3 rfl
  have a4 := V.cell 4 rfl
  have a5 := V.cell 5 rfl
  clear V hx
  show Calls Try.prog 67 #[.agg #[.int .i64 k, .int .i64 q, .int .i64 v.k, .int .i64 v.n, .string v.s, .slice p ys.length c]] w (ListAns w (rise F))
  go_enter Try.func67, Try.ntmps67
  go_wp2_with fail
  go_at_call 72
  refine (H.out _ (by go_grown)).mono ?_
  rintro e w1 ⟨v1, rfl, hI1, hG1⟩
  have HI1 := hid0 hI1
  clear hI1 hG1 a0 a1 a2 a3 a4 a5
  go_wp2_with fail
  go_at_call 70
  refine (rising_any HI1.out (by omega)).mono ?_
  rintro e w2 ⟨⟨a2, c2, rfl, hI2⟩, hb2⟩
  have HI2 := hid0 hI2
  clear hI2
  go_wp2_with fail
  go_ret
  exact ⟨⟨a2, c2, rfl, HI2.out⟩, hb2⟩
theorem asks_any {n : Nat} {x : Tx} {w : World} (hx : TxAt w n x) (hs : sizeT x ≤ 8000000) : Calls Try.prog 66 #[x.val] w (ListAns w (rise (asT x))) := by
  have hl := asT_len x
  have H : Calls' 71 w #[.slice none 0 0, x.val] (fun W e w' => RdAns w W (.slice none 0 0) (asT x) e w') := ⟨fun W hb => asked_any (F := []) hx ⟨World.ownsRow_nil _ _ _ _, hb⟩ (by simpa using hs)⟩
  generalize asT x = F at H hl
  obtain ⟨k, op, ⟨kl, al, vl, pl, cl, yl⟩, ⟨kr, ar, vr, pr, cr, yr⟩, p, c, ys⟩ := x
  have V := VarB.new w [.int .i64 k, .int .i64 op, .int .i64 kl, .int .i64 al, .int .i64 vl.k, .int .i64 vl.n, .string vl.s, .slice pl yl.length cl, .int .i64 kr, .int .i64 ar, .int .i64 vr.k, .int .i64 vr.n, .string vr.s, .slice pr yr.length cr, .slice p ys.length c] 37
  have a0 := V.cell 0 rfl
  have a1 := V.cell 1 rfl
  have a2 := V.cell 2 rfl
  have a3 := V.cell 3 rfl
  have a4 := V.cell 4 rfl
  have a5 := V.cell 5 rfl
  have a6 := V.cell 6 rfl
  have a7 := V.cell 7 rfl
  have a8 := V.cell 8 rfl
  have a9 := V.cell 9 rfl
  have a10 := V.cell 10 rfl
  have a11 := V.cell 11 rfl
  have a12 := V.cell 12 rfl
  have a13 := V.cell 13 rfl
  have a14 := V.cell 14 rfl
  clear V hx
  show Calls Try.prog 66 #[.agg #[.int .i64 k, .int .i64 op, .int .i64 kl, .int .i64 al, .int .i64 vl.k, .int .i64 vl.n, .string vl.s, .slice pl yl.length cl, .int .i64 kr, .int .i64 ar, .int .i64 vr.k, .int .i64 vr.n, .string vr.s, .slice pr yr.length cr, .slice p ys.length c]] w (ListAns w (rise F))
  go_enter Try.func66, Try.ntmps66
  go_wp2_with fail
  go_at_call 71
  refine (H.out _ (by go_grown)).mono ?_
  rintro e w1 ⟨v1, rfl, hI1, hG1⟩
  have HI1 := hid0 hI1
  clear hI1 hG1 a0 a1 a2 a3 a4 a5 a6 a7 a8 a9 a10 a11 a12 a13 a14
  go_wp2_with fail
  go_at_call 70
  refine (rising_any HI1.out (by omega)).mono ?_
  rintro e w2 ⟨⟨a2, c2, rfl, hI2⟩, hb2⟩
  have HI2 := hid0 hI2
  clear hI2
  go_wp2_with fail
  go_ret
  exact ⟨⟨a2, c2, rfl, HI2.out⟩, hb2⟩
end Go.Proofs.Ytfdkajefcplfjaa
