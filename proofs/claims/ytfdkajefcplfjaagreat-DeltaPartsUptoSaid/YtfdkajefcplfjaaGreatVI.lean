/- Several of my texts laid together, each as it was: D23, D24, D29, D33, D34, D35. Conditions: each names its own. -/
import Derived.Test.YtfdkajefcplfjaaGreatVB
import Derived.Test.YtfdkajefcplfjaaGreatI3
import Derived.Test.YtfdkajefcplfjaaGreatH8
import Derived.Test.YtfdkajefcplfjaaGreatI5
import Derived.Test.YtfdkajefcplfjaaGreatI4
import Derived.Test.YtfdkajefcplfjaaGreatI7
import Derived.Test.YtfdkajefcplfjaaGreatI6
import Derived.Test.YtfdkajefcplfjaaGreatVH
import Derived.Test.YtfdkajefcplfjaaGreatVD
import Derived.Test.YtfdkajefcplfjaaGreatI8
import Derived.Test.YtfdkajefcplfjaaGreatL1
import Derived.Test.YtfdkajefcplfjaaGreatG8
/- The project's layer 14 (delta): the row that outs tell of a row: the contract of the call, in whatever memory. Conditions: the outs' and the row's cells are known; they are not too many. -/
namespace Go.Proofs.YtfdkajefcplfjaaGreat
open Go.RowKit

def rowE (os : List Ox) (row : List Val) : List Val := os.map fun o => (evC row o.e).1
def errD (os : List Ox) (row : List Val) : Int := foldG (os.map fun o => (evC row o.e).2)
theorem rowE_take {os : List Ox} {i : Nat} (row : List Val) (h : i < os.length) : rowE (os.take (i + 1)) row = rowE (os.take i) row ++ [(evC row os[i].e).1] := by
  unfold rowE; rw [List.take_succ_eq_append_getElem h, List.map_append]; rfl
theorem errD_take {os : List Ox} {i : Nat} (row : List Val) (h : i < os.length) : errD (os.take (i + 1)) row = graverM (errD (os.take i) row) (evC row os[i].e).2 := by
  unfold errD; rw [List.take_succ_eq_append_getElem h, List.map_append]; exact foldG_snoc _ _
theorem rowE_len (os : List Ox) (row : List Val) : (rowE os row).length = os.length := List.length_map _
theorem Ox.calc_atD (o : Ox) {w : World} {b : Nat} (h : w.rangeAt b 0 o.cells) : w.rangeAt b 1 o.e.cells :=
  range_mid (xs := [.int .i64 o.g]) (ys := o.e.cells) (zs := [.string o.nm, .int .i64 o.ty]) h
set_option maxHeartbeats 8000000 in
set_option maxRecDepth 1000000 in
theorem dToldOf_any {n : Nat} (op : Option Addr) (oc : Nat) (os : List Ox) (a : Option Addr) (c : Nat) (row : List Val) (w : World) (hO : OutsAt w op os) (hx : ∀ o ∈ os, CxAt w n o.e) (hfo : os.length ≤ 1000) (h : RowIn w a row) :
    Calls Tryz.prog 137 #[.slice op os.length oc, .slice a row.length c] w fun e w' => (∃ a' c', e = .returned (.tuple #[.slice a' (rowE os row).length c', .int .i64 (errD os row)]) ∧ ((rowE os row).length ≤ c' ∧ (a' = none → c' = 0)) ∧ Copied w' a' (rowE os row)) ∧ Below w.heap.size w w' := by
  obtain ⟨i0, hi, hz0, hz1, hz2⟩ := info_parts info41
  have HO := hid0 hO
  have CO := hid0 (fun (o : Ox) (ho : o ∈ os) (W : World) (hW : Below w.heap.size w W) => eval_any c ((hx o ho).later hW) (h.later hW))
  clear hO hx h
  obtain ⟨RE, hRE⟩ : ∃ RE, errD os row = RE := ⟨_, rfl⟩
  have HRE := hid0 hRE
  rw [hRE]
  clear hRE
  go_enter Tryz.func137, Tryz.ntmps137
  go_wp2
  go_loopw [6, 7, 14] (fun rv ev iv wr => ∃ i : Nat, i ≤ os.length ∧ iv = .int .i64 i ∧ ev = .int .i64 (errD (os.take i) row) ∧ Hid (wr.ownsRow w.heap.size 41 3 rv (rowE (os.take i) row).length (rowCells (rowE (os.take i) row))) ∧ Below w.heap.size w wr) (fun _ _ iv _ => os.length - (intOf iv).toNat)
  case atStart => exact ⟨0, Nat.zero_le _, rfl, rfl, hid0 (World.ownsRow_nil _ _ _ _), Below.refl _ _⟩
  case round =>
    obtain ⟨i, hi', rfl, rfl, hown, hB⟩ := hrel
    have hsz := hB.size
    by_cases hlt : i < os.length
    · obtain ⟨b1, o1, rfl, hb1, hR⟩ := (HO.out.later hB).at_ i hlt
      have hmem := List.getElem_mem hlt
      have hrt := rowE_take row hlt
      have het := errD_take row hlt
      have hl1 := rowE_len (os.take i) row
      rw [List.length_take] at hl1
      obtain ⟨⟨⟨k, m, s⟩, f⟩, hou⟩ : ∃ r, evC row os[i].e = r := ⟨_, rfl⟩
      have COx := CO.out _ hmem
      rw [hou] at COx hrt het
      have HRT := hid0 hrt
      have HET := hid0 het
      have hcl := (os[i]).cells_len
      have hone := (os[i]).one
      have hcalc := fun (W : World) (b : Nat) (h : W.rangeAt b 0 (os[i]).cells) => (os[i]).calc_atD h
      have hxl := (os[i]).e.cells_len
      change ∀ W, Below w.heap.size w W → Calls Tryz.prog 156 #[.agg (os[i]).e.cells.toArray, .slice a row.length c] W (EvAns (⟨k, m, s⟩, f) W) at COx
      clear hou hrt het hmem
      have hBA := hB.alloc hsz (Obj.cells #[.int .i64 0, .int .i64 0, .int .i64 0, .int .i64 0, .int .i64 0, .string ⟨#[]⟩, .slice none 0 0, .string ⟨#[]⟩, .int .i64 0] 55)
      have V0 := VarB.new wr [.int .i64 0, .int .i64 0, .int .i64 0, .int .i64 0, .int .i64 0, .string ⟨#[]⟩, .slice none 0 0, .string ⟨#[]⟩, .int .i64 0] 55
      have COx := hid0 COx
      generalize (os[i]).cells = us at hR hcl hone hcalc
      generalize (os[i]).e.cells = xs at hcalc COx hxl
      have HXC := hid0 hcalc
      clear hcalc
      obtain ⟨er, herr⟩ : ∃ er, errD (os.take i) row = er := ⟨_, rfl⟩
      rw [herr] at HET ⊢
      have CG := hid0 (fun W => dGraver_any er f W)
      clear herr
      generalize rowE (os.take i) row = r at HRT hl1 hown
      have HV := hid0 (fun (W : World) => (VarB.two (w := W) [.int .i64 k, .int .i64 m, .string s] [.int .i64 k, .int .i64 m, .string s] 41 41).2)
      go_wp2_with (first | ((with_reducible refine wp_getB hR Tryz.underlying55 ?_ ?_ ?_ ?_); (rfl); (rw [hcl]; exact sizeOut); (rfl); simp only [Act.put]) | ((with_reducible refine wp_putB V0 hone ?_ ?_ ?_ ?_ ?_); (exact hcl); (exact sizeOut); (rfl); (rfl); intro w5 hV5 hw5; (have hw5b : Below wr.heap.size wr w5 := by rw [hw5.out]; exact below_setCells _ 0 ((Below.refl _ _).alloc (Nat.le_refl _) _) (Nat.le_refl _)); clear hw5; simp only [Act.put]) | ((with_reducible refine wp_getB (HXC.out _ _ hV5.at_) Tryz.underlying44 ?_ ?_ ?_ ?_); (rfl); (rw [hxl]; exact sizeX); (rfl); simp only [Act.put]) | (go_at_call 156; refine (COx.out _ (below_through hw5b hsz hB)).mono ?_; rintro e w6 ⟨rfl, hb6⟩; (have hb7 := below_through hb6 hw5b.size hw5b)) | (go_at_call 99; refine (CG.out _).mono ?_; rintro e w2 ⟨rfl, hw2⟩; subst hw2) | (at_builtin; go_must (refine wpList_append_own _ rfl _ _ 35 rfl w.heap.size 41 i0 (.agg #[.int .i64 0, .int .i64 0, .string ⟨#[]⟩]) 3 32 Tryz.underlying35 hi hz0 hz1 hz2 rfl (by decide) _ _ _ rfl (own_belowY hown.out ((hb7.alloc hb7.size _).alloc (by have := hb7.size; simp; omega) _)) ⟨w6.heap.size + 1, 0, none⟩ 1 1 [.int .i64 k, .int .i64 m, .string s] rfl rfl ?c1 ?c2 ?c3 ?c4 ?c5 ?_)) | fail)
      case c1 => intro j u hj; rw [WideShapes.add_plain]; exact (HV.out w6).at_ j u hj
      case c2 => intro u hu; simp at hu; rcases hu with rfl | rfl | rfl <;> rfl
      case c3 => unfold maxLen; omega
      case c4 => omega
      case c5 => have := hb7.size; simp; omega
      intro v' w9 hown' hgrow _
      have hB9 : Below w.heap.size w w9 := ((((below_through hb7 hsz hB).alloc (by have := hb7.size; omega) _).alloc (by have := hb7.size; simp; omega) _)).grown hgrow (by have := hb7.size; simp; omega) (fun k hk => (hown.out.lt k hk).1)
      have HO' := hid0 hown'
      clear hown' hgrow hown
      go_wp2_with (first | (go_at_call 99; refine (CG.out _).mono ?_; rintro e w2 ⟨rfl, hw2⟩; subst hw2) | fail)
      exact ⟨⟨i + 1, by omega, by go_num, by rw [HET.out], hid0 (by rw [HRT.out, List.length_append, rowCells_app, show r.length = i by omega]; exact HO'.out), hB9⟩, by simp [intOf]; omega⟩
    · have hie : ¬ (i : Int) < os.length := by omega
      rw [List.take_of_length_le (by omega)] at hown ⊢
      rw [HRE.out]
      obtain ⟨a', c', rfl, hcc, hcp⟩ := copied_owned hown.out
      have HCP := hid0 hcp
      have HCC := hid0 hcc
      clear hown hcp hcc
      go_wp2
      go_returns
      exact ⟨⟨a', c', rfl, HCC.out, HCP.out⟩, hB⟩
end Go.Proofs.YtfdkajefcplfjaaGreat

/- The project's layer 14 (delta): told: what a part tells of its net rows: the contract of the call, in whatever memory. Conditions: the part's and the rows' cells are known; they are not too many. -/
namespace Go.Proofs.YtfdkajefcplfjaaGreat
open Go.RowKit

def toldR (p : Px) (L : List Pair) : List Pair := (L.filter (keepT p.wh)).map fun x => (rowE p.os x.1, x.2)
def toldG (p : Px) (L : List Pair) : Int := foldG ((L.filter (keepT p.wh)).map fun x => errD p.os x.1)
theorem told_take (p : Px) {L : List Pair} {i : Nat} (h : i < L.length) (hk : keepT p.wh L[i] = true) : toldR p (L.take (i + 1)) = toldR p (L.take i) ++ [(rowE p.os L[i].1, L[i].2)] ∧ toldG p (L.take (i + 1)) = graverM (toldG p (L.take i)) (errD p.os L[i].1) := by
  unfold toldR toldG
  rw [List.take_succ_eq_append_getElem h, List.filter_append, List.filter_cons, if_pos hk, List.filter_nil, List.map_append, List.map_append]
  exact ⟨rfl, foldG_snoc _ _⟩
theorem told_skip (p : Px) {L : List Pair} {i : Nat} (h : i < L.length) (hk : keepT p.wh L[i] = false) : toldR p (L.take (i + 1)) = toldR p (L.take i) ∧ toldG p (L.take (i + 1)) = toldG p (L.take i) := by
  unfold toldR toldG
  rw [List.take_succ_eq_append_getElem h, List.filter_append, List.filter_cons, if_neg (by rw [hk]; simp), List.filter_nil, List.append_nil]
  exact ⟨rfl, rfl⟩
theorem toldR_le (p : Px) (L : List Pair) : (toldR p L).length ≤ L.length := by
  unfold toldR
  rw [List.length_map]
  exact List.length_filter_le _ _
set_option maxRecDepth 1000000 in
set_option maxHeartbeats 8000000 in
theorem dTold_any {n : Nat} (p : Px) (a : Option Addr) (c : Nat) (E : List Elem) (w : World) (hp : PxOk w n p) (h : ElemsAt w a E) (hI : ∀ e ∈ E, ∀ x ∈ e.r, inI x) (hfo : p.os.length ≤ 1000) (hl : E.length ≤ 1000000) :
    Calls Tryz.prog 97 #[p.val, .slice a E.length c] w fun e w' => ∃ v M, e = .returned (.tuple #[v, .int .i64 (toldG p (E.map pr))]) ∧ MkE w w' v M ∧ M.map pr = toldR p (E.map pr) := by
  obtain ⟨V, hB0⟩ := part_box p w
  have A := hid0 h
  have HI := hid0 hI
  have CH := hid0 (fun (e : Elem) (he : e ∈ E) (W : World) (hW : Below w.heap.size w W) => holds_any (row := e.r) (a := e.a) e.c (hp.wh.later hW) ⟨(h.2 e he).1.later hW, hI e he, by have := (h.2 e he).2; unfold rowOK at this; unfold maxLen; omega⟩)
  have CT := hid0 (fun (e : Elem) (he : e ∈ E) (W : World) (hW : Below w.heap.size w W) => dToldOf_any (n := n) p.op p.oc p.os e.a e.c e.r W (hp.outs.later hW) (fun o ho => (hp.es o ho).1.later hW) hfo ⟨(h.2 e he).1.later hW, hI e he, by have := (h.2 e he).2; unfold rowOK at this; unfold maxLen; omega⟩)
  have hpl := p.cells_len
  have htl := p.wh.cells_len
  have h19 := hid0 p.c19
  have HW := hid0 (fun (W : World) (b : Nat) (h : W.rangeAt b 0 p.cells) => p.where_at h)
  have HLE := hid0 (fun i => toldR_le p ((E.map pr).take i))
  have HRN := hid0 (fun (e : Elem) => show (rowE p.os e.r).length ≤ 1000 from by rw [rowE_len]; exact hfo)
  clear h hI hp
  unfold Px.val
  generalize p.cells = us at *
  generalize hWB : w.alloc (Obj.cells us.toArray 50) = WB at *
  obtain ⟨RE, hRE⟩ : ∃ RE, toldG p (E.map pr) = RE := ⟨_, rfl⟩
  have HRE := hid0 hRE
  rw [hRE]
  clear hRE
  go_enter Tryz.func97, Tryz.ntmps97
  go_wp2
  go_loopw [6, 7, 14] (fun rv ev iv wr => ∃ (i : Nat) (M : List Elem), i ≤ E.length ∧ iv = .int .i64 i ∧ ev = .int .i64 (toldG p ((E.map pr).take i)) ∧ MkE WB wr rv M ∧ Hid (M.map pr = toldR p ((E.map pr).take i))) (fun _ _ iv _ => E.length - (intOf iv).toNat)
  case atStart => exact ⟨0, [], Nat.zero_le _, rfl, rfl, MkE.nil WB, hid0 rfl⟩
  case round =>
    obtain ⟨i, M, hi', rfl, rfl, hM, hT⟩ := hrel
    have hB := below_through hM.b hB0.size hB0
    have hsz := hM.b.size
    by_cases hlt : i < E.length
    · obtain ⟨b1, o1, rfl, hc1⟩ := (A.out.1.later hB) (by intro e; rw [e] at hlt; exact absurd hlt (by simp))
      obtain ⟨q0, q1⟩ := hc1 i hlt
      clear hc1
      have hmem := List.getElem_mem hlt
      have hML : M.length ≤ i := by
        have h1 := congrArg List.length hT.out
        have h2 := HLE.out i
        rw [List.length_map] at h1
        rw [List.length_take, List.length_map] at h2
        omega
      have HTK := hid0 (told_take p (L := E.map pr) (i := i) (by simpa using hlt))
      have HSK := hid0 (told_skip p (L := E.map pr) (i := i) (by simpa using hlt))
      have hge : (E.map pr)[i]'(by simpa using hlt) = pr E[i] := by simp
      rw [hge] at HTK HSK
      have CHx := CH.out _ hmem
      have CTx := CT.out _ hmem
      have HRNx := HRN.out E[i]
      clear hge hmem
      generalize E[i] = x at q0 q1 HTK HSK CHx CTx HRNx
      have HKT : keepT p.wh (pr x) = decide (hoT x.r p.wh = 2) := rfl
      unfold Tx.val at CHx
      have VPA := (V.below hM.b).alloc (Obj.cells #[.slice x.a x.r.length x.c, .int .i64 x.n] 80)
      have VM := VarB.new wr [.slice x.a x.r.length x.c, .int .i64 x.n] 80
      have hMA := hM.alloc (Obj.cells #[.slice x.a x.r.length x.c, .int .i64 x.n] 80)
      have hBA := hB.alloc hB.size (Obj.cells #[.slice x.a x.r.length x.c, .int .i64 x.n] 80)
      have m0 := VM.cell 0 rfl
      have RW := hid0 (HW.out _ _ VPA.at_)
      obtain ⟨er, herr⟩ : ∃ er, toldG p ((E.map pr).take i) = er := ⟨_, rfl⟩
      rw [herr] at HTK HSK ⊢
      clear herr
      have CG := hid0 (fun W => dGraver_any er (errD p.os x.r) W)
      have hin : (i : Int) < (E.length : Int) := by omega
      generalize hoT x.r p.wh = hh at HKT CHx
      generalize p.wh.cells = ts at RW htl CHx HW
      have CHx := hid0 CHx
      have CTx := hid0 CTx
      by_cases h2 : hh = 2
      · have HTK := hid0 (HTK.out (by rw [HKT, h2]; rfl))
        clear HSK HKT
        subst h2
        go_wp2_with (first | ((with_reducible refine wp_getB RW.out Tryz.underlying47 ?_ ?_ ?_ ?_); (rfl); (rw [htl]; exact sizeTT); (rfl); simp only [Act.put]) | (go_at_call 121; go_must (refine (CHx.out _ hBA).mono ?_; rintro e w6 ⟨rfl, hb6⟩; (have m0 := (VM.below hb6).cell 0 rfl); (have p19 := (VPA.below hb6).cell 19 h19.out); (have hM6 := hMA.below hb6))) | (go_at_call 137; go_must (refine (CTx.out _ (below_through hb6 hBA.size hBA)).mono ?_; rintro e w7 ⟨⟨a7, c7, rfl, hcc, hcp⟩, hb7⟩; (have m1 := ((VM.below hb6).below hb7).cell 1 rfl); (have hM7 := fun o => ((hMA.below hb6).below hb7).alloc o); (have HCP := hid0 hcp); (have HCC := hid0 hcc); clear hcp hcc)) | (at_builtin; go_must (refine wp_mk rfl _ _ rfl rfl (hM7 _) ⟨a7, c7, rowE p.os x.r, x.n⟩ w7.heap.size rfl (elem_new _ _ _ _).1 (elem_new _ _ _ _).2 (HCP.out.later ((Below.refl _ _).alloc (Nat.le_refl _) _)) (by show (rowE p.os x.r).length * 32 ≤ _; omega) HCC.out (by omega) ?_; intro v9 w9 hm9 hg9)) | (go_at_call 99; go_must (refine (CG.out _).mono ?_; rintro e w2 ⟨rfl, hw2⟩; subst hw2)) | fail)
        exact ⟨⟨i + 1, _, by omega, by go_num, by rw [HTK.out.2]; rfl, hm9, hid0 (by rw [List.map_append, hT.out, HTK.out.1]; rfl)⟩, by simp [intOf]; omega⟩
      · have HSK := hid0 (HSK.out (by rw [HKT]; simp [h2]))
        have h2' : (hh == 2) = false := by simpa using h2
        clear HTK HKT
        go_wp2_with (first | ((with_reducible refine wp_getB RW.out Tryz.underlying47 ?_ ?_ ?_ ?_); (rfl); (rw [htl]; exact sizeTT); (rfl); simp only [Act.put]) | (go_at_call 121; go_must (refine (CHx.out _ hBA).mono ?_; rintro e w6 ⟨rfl, hb6⟩; (have m0 := (VM.below hb6).cell 0 rfl); (have p19 := (VPA.below hb6).cell 19 h19.out); (have hM6 := hMA.below hb6))) | fail)
        exact ⟨⟨i + 1, M, by omega, by go_num, by rw [HSK.out.2], hM6, hid0 (by rw [hT.out, HSK.out.1])⟩, by simp [intOf]; omega⟩
    · have hie : ¬ (i : Int) < (E.length : Int) := by omega
      rw [List.take_of_length_le (by simp; omega)] at hT ⊢
      rw [HRE.out]
      have hM2 := hM.weak hB0
      go_wp2
      go_returns
      exact ⟨_, rfl, M, hM2, hT.out⟩
end Go.Proofs.YtfdkajefcplfjaaGreat

/- The project's layer 14 (delta), plainly: what one part costs is no more than what all cost. Nothing of any program here. Conditions: none. -/
namespace Go.Proofs.YtfdkajefcplfjaaGreat
open Go.RowKit

theorem addMany_le {n m : Int} (hn : 0 ≤ n ∧ n ≤ maxMany) (hm : 0 ≤ m ∧ m ≤ maxMany) : n ≤ addMany n m ∧ m ≤ addMany n m := by unfold addMany; omega
theorem cost_grows (old ch : List Nx) : ∀ (ps : List Px) (n : Int), 0 ≤ n ∧ n ≤ maxMany → n ≤ ps.foldl (fun n p => addMany n (pcD (szD old ch) (0, 1) p.fs).1) n
  | [], _, _ => Int.le_refl _
  | p :: ps, n, h => by
    have h1 := pc_in old ch p.fs
    exact Int.le_trans (addMany_le h h1).1 (cost_grows old ch ps _ (addMany_in h h1.1))
theorem cost_part (old ch : List Nx) : ∀ (ps : List Px) (n : Int) (p : Px), 0 ≤ n ∧ n ≤ maxMany → p ∈ ps → (pcD (szD old ch) (0, 1) p.fs).1 ≤ ps.foldl (fun n p => addMany n (pcD (szD old ch) (0, 1) p.fs).1) n
  | q :: ps, n, p, h, hp => by
    have h1 := pc_in old ch q.fs
    rcases List.mem_cons.1 hp with rfl | hp
    · exact Int.le_trans (addMany_le h h1).2 (cost_grows old ch ps _ (addMany_in h h1.1))
    · exact cost_part old ch ps _ p (addMany_in h h1.1) hp
theorem costD_one {old ch : List Nx} {ps : List Px} {p : Px} (hp : p ∈ ps) : costD old ch [p] ≤ costD old ch ps := by
  have h0 : 0 ≤ (0 : Int) ∧ (0 : Int) ≤ maxMany := by unfold maxMany; omega
  have h1 := cost_part old ch ps 0 p h0 hp
  have h2 : costD old ch [p] = (pcD (szD old ch) (0, 1) p.fs).1 := by
    have h := pc_in old ch p.fs
    show addMany 0 _ = _
    unfold addMany
    omega
  rw [h2]
  exact h1
/-- What plans read of the names of a part is there, whatever else is there. -/
theorem namesF_one {ps : List Px} {p : Px} (hp : p ∈ ps) {s : ByteArray} (hs : s ∈ p.fs) : s ∈ namesF ps := List.mem_flatMap.2 ⟨p, hp, hs⟩
end Go.Proofs.YtfdkajefcplfjaaGreat

/- The project's layer 14 (delta), plainly: what a plan's net rows are, where they cost little. Nothing of any program here. Conditions: each lemma names its own. -/
namespace Go.Proofs.YtfdkajefcplfjaaGreat
open Go.RowKit

/-! ### Side by side: how many -/
def abI (x : Int) : Int := if x < 0 then -x else x
theorem abI_is (x : Int) : abI x = x.natAbs := by unfold abI; split <;> omega
theorem abI_mul (x y : Int) : abI (x * y) = abI x * abI y := by rw [abI_is, abI_is, abI_is, Int.natAbs_mul]; push_cast; rfl
theorem absS_cons (x : Pair) (L : List Pair) : absS (x :: L) = abI x.2 + absS L := rfl
theorem absS_timesA (r : List Val) (n : Int) : ∀ B : List Pair, absS (B.map fun y => (r ++ y.1, n * y.2)) = abI n * absS B
  | [] => by simp [absS]
  | y :: B => by rw [List.map_cons, absS_cons, absS_cons, absS_timesA r n B, abI_mul, Int.mul_add]
theorem absS_pairsA : ∀ A B : List Pair, absS (pairsB A B) = absS A * absS B
  | [], B => by simp [pairsB, absS]
  | x :: A, B => by
    have e : pairsB (x :: A) B = (B.map fun y => (x.1 ++ y.1, x.2 * y.2)) ++ pairsB A B := by simp [pairsB]
    rw [e, absS_append, absS_pairsA A B, absS_timesA, absS_cons, Int.add_mul]
theorem len_absS : ∀ {L : List Pair}, (∀ x ∈ L, x.2 ≠ 0) → (L.length : Int) ≤ absS L
  | [], _ => by simp [absS]
  | x :: L, h => by
    have h1 := h x (by simp)
    have h2 := len_absS (L := L) (fun y hy => h y (by simp [hy]))
    rw [absS_cons, List.length_cons]
    unfold abI
    split <;> omega
def prodA (L : List (List Pair)) : Int := L.foldl (fun n x => n * absS x) 1
theorem absS_prodL' : ∀ (L : List (List Pair)) (R : List Pair), absS (L.foldl pairsB R) = L.foldl (fun n x => n * absS x) (absS R)
  | [], _ => rfl
  | x :: L, R => by rw [List.foldl_cons, absS_prodL' L, absS_pairsA, List.foldl_cons]
theorem absS_prodL (L : List (List Pair)) : absS (prodL L) = prodA L := by
  unfold prodL prodA
  rw [absS_prodL']
  rfl
theorem prodA_snoc (L : List (List Pair)) (x : List Pair) : prodA (L ++ [x]) = prodA L * absS x := by unfold prodA; rw [List.foldl_append]; rfl
theorem prodA_one : ∀ {L : List (List Pair)}, (∀ x ∈ L, 1 ≤ absS x) → ∀ k, k ≤ L.length → 1 ≤ prodA (L.take k)
  | _, _, 0, _ => by simp [prodA]
  | L, h, k + 1, hk => by
    have h1 := prodA_one h k (by omega)
    have h2 := h _ (List.getElem_mem (show k < L.length by omega))
    rw [List.take_succ_eq_append_getElem (show k < L.length by omega), prodA_snoc]
    have := Int.mul_le_mul h1 h2 (by omega) (by omega)
    omega
theorem prodA_le {L : List (List Pair)} (h : ∀ x ∈ L, 1 ≤ absS x) : ∀ d k, k + d = L.length → prodA (L.take k) ≤ prodA L
  | 0, k, hk => by rw [List.take_of_length_le (by omega)]; exact Int.le_refl _
  | d + 1, k, hk => by
    have h1 := prodA_le h d (k + 1) (by omega)
    have h2 := h _ (List.getElem_mem (show k < L.length by omega))
    have h3 := prodA_one h k (by omega)
    rw [List.take_succ_eq_append_getElem (show k < L.length by omega), prodA_snoc] at h1
    have := Int.mul_le_mul_of_nonneg_left h2 (show 0 ≤ prodA (L.take k) by omega)
    omega
theorem mem_prodL {L : List (List Pair)} {m : Nat} (h : ∀ x ∈ L, ∀ y ∈ x, y.1.length ≤ m ∧ y.2 ≠ 0) : ∀ k, k ≤ L.length → ∀ z ∈ prodL (L.take k), z.1.length ≤ m * k ∧ z.2 ≠ 0
  | 0, _, z, hz => by
    simp [prodL] at hz
    subst hz
    simp
  | k + 1, hk, z, hz => by
    rw [prodL_take (show k < L.length by omega)] at hz
    unfold pairsB at hz
    obtain ⟨x, hx, hz⟩ := List.mem_flatMap.1 hz
    obtain ⟨y, hy, rfl⟩ := List.mem_map.1 hz
    have h1 := mem_prodL h k (by omega) x hx
    have h2 := h _ (List.getElem_mem (show k < L.length by omega)) y hy
    refine ⟨by show (x.1 ++ y.1).length ≤ _; rw [List.length_append, Nat.mul_succ]; omega, ?_⟩
    exact fun e => (Int.mul_eq_zero.1 e).elim h1.2 h2.2
theorem mul_abs {a b c d : Int} (h1 : abI a ≤ c) (h2 : abI b ≤ d) : -(c * d) ≤ a * b ∧ a * b ≤ c * d := by
  have h0 : 0 ≤ abI a := by unfold abI; split <;> omega
  have h0' : 0 ≤ abI b := by unfold abI; split <;> omega
  have h3 : abI (a * b) ≤ c * d := by rw [abI_mul]; exact Int.mul_le_mul h1 h2 h0' (by omega)
  have h4 : -abI (a * b) ≤ a * b ∧ a * b ≤ abI (a * b) := by unfold abI; split <;> omega
  omega
theorem abI_mem {L : List Pair} {x : Pair} (h : x ∈ L) : abI x.2 ≤ absS L := by
  have := absS_mem h
  unfold abI
  split <;> omega
/-- Lists that may be put side by side. -/
structure SideN (L : List (List Pair)) : Prop where
  one : ∀ x ∈ L, 1 ≤ absS x
  row : ∀ x ∈ L, ∀ y ∈ x, y.1.length ≤ 1000 ∧ y.2 ≠ 0
  few : L.length ≤ 3
  all : prodA L ≤ 2000
theorem SideN.side {L : List (List Pair)} (h : SideN L) : SideS L := by
  have key : ∀ i (hi : i < L.length), absS (prodL (L.take i)) * absS L[i] ≤ 2000 ∧ 1 ≤ absS (prodL (L.take i)) ∧ 1 ≤ absS L[i] := fun i hi => by
    have h1 := prodA_le h.one (L.length - (i + 1)) (i + 1) (by omega)
    have h2 := prodA_one h.one i (by omega)
    rw [List.take_succ_eq_append_getElem hi, prodA_snoc, ← absS_prodL] at h1
    rw [← absS_prodL] at h2
    exact ⟨Int.le_trans h1 h.all, h2, h.one _ (List.getElem_mem hi)⟩
  refine ⟨fun i hi => ?_, fun i hi x hx y hy => ?_⟩
  · obtain ⟨k1, k2, k3⟩ := key i hi
    have l1 := len_absS (fun x hx => (mem_prodL h.row i (by omega) x hx).2)
    have l2 := len_absS (fun y hy => (h.row _ (List.getElem_mem hi) y hy).2)
    have m1 : absS (prodL (L.take i)) * 1 ≤ absS (prodL (L.take i)) * absS L[i] := Int.mul_le_mul_of_nonneg_left k3 (by omega)
    have m2 : 1 * absS L[i] ≤ absS (prodL (L.take i)) * absS L[i] := Int.mul_le_mul_of_nonneg_right k2 (by omega)
    have m3 : ((prodL (L.take i)).length : Int) * (L[i].length : Int) ≤ absS (prodL (L.take i)) * absS L[i] := Int.mul_le_mul l1 l2 (by omega) (by omega)
    have m4 : (((prodL (L.take i)).length * L[i].length : Nat) : Int) ≤ 2000 := by push_cast; omega
    refine ⟨by omega, by omega, by omega⟩
  · obtain ⟨k1, k2, k3⟩ := key i hi
    have h1 := mem_prodL h.row i (by omega) x hx
    have h2 := h.row _ (List.getElem_mem hi) y hy
    have h3 := h.few
    refine ⟨?_, ?_⟩
    · have : 1000 * i ≤ 1000 * 3 := Nat.mul_le_mul_left _ (by omega)
      omega
    · have := mul_abs (abI_mem hx) (abI_mem hy)
      unfold in64
      omega
theorem SideN.small {L : List (List Pair)} (h : SideN L) : absS (prodL L) ≤ 2000 ∧ (prodL L).length ≤ 2000 ∧ ∀ x ∈ prodL L, x.1.length ≤ 3000 := by
  have h1 := absS_prodL L
  have h2 := h.all
  have h3 := fun x hx => mem_prodL h.row L.length (Nat.le_refl _) x (by rwa [List.take_of_length_le (Nat.le_refl _)])
  have h4 := len_absS (fun x hx => (h3 x hx).2)
  refine ⟨by omega, by omega, fun x hx => ?_⟩
  have := (h3 x hx).1
  have h5 := h.few
  have : 1000 * L.length ≤ 1000 * 3 := Nat.mul_le_mul_left _ h5
  omega

/-! ### What the costs say -/
theorem times_at {a b B f : Int} (ha : 1 ≤ a) (hB : 1 ≤ B) (hb : b = min B maxMany) (h : timesM a b ≤ f) (hf : f < maxMany) : timesM a b = a * B ∧ b = B := by
  unfold timesM at *
  have h1 : b ≤ a * b := by
    have : 1 * b ≤ a * b := Int.mul_le_mul_of_nonneg_right ha (by unfold maxMany at hb; omega)
    omega
  have h2 : b = B := by omega
  subst h2
  exact ⟨by omega, rfl⟩
def prodI (L : List Int) : Int := L.foldl (· * ·) 1
theorem prodI_one : ∀ (L : List Int) (n : Int), 1 ≤ n → (∀ x ∈ L, 1 ≤ x) → n ≤ L.foldl (· * ·) n
  | [], _, _, _ => Int.le_refl _
  | x :: L, n, hn, h => by
    have h1 := h x (by simp)
    have h2 : n * 1 ≤ n * x := Int.mul_le_mul_of_nonneg_left h1 (by omega)
    have h3 := prodI_one L (n * x) (by omega) (fun y hy => h y (by simp [hy]))
    rw [List.foldl_cons]
    omega
theorem fold_mono : ∀ (L : List Int) (n m : Int), n ≤ m → (∀ x ∈ L, 1 ≤ x) → L.foldl (· * ·) n ≤ L.foldl (· * ·) m
  | [], _, _, h, _ => h
  | x :: L, n, m, h, hL => by
    have h1 := hL x (by simp)
    rw [List.foldl_cons, List.foldl_cons]
    exact fold_mono L _ _ (Int.mul_le_mul_of_nonneg_right h (by omega)) (fun y hy => hL y (by simp [hy]))
/-- Behind a place: what there is now. -/
theorem cost_behind {f : List UInt8 → Sz} (hf : ∀ s, (f s).Ok) {M : ByteArray → Int} : ∀ (fs : List ByteArray) (n ah : Int), 1 ≤ n ∧ n ≤ maxMany → 0 ≤ ah ∧ ah ≤ maxMany → (∀ s ∈ fs, 1 ≤ M s ∧ (f s.data.toList).m = min (M s) maxMany) → (pcD f (n, ah) fs).1 < maxMany → (fs.map M).foldl (· * ·) n ≤ (pcD f (n, ah) fs).1
  | [], n, ah, _, _, _, _ => Int.le_refl _
  | s :: fs, n, ah, hn, ha, hM, hlt => by
    have h1 := hM s (by simp)
    have hs := hf s.data.toList
    have e : pcD f (n, ah) (s :: fs) = pcD f (addMany (timesM n (f s.data.toList).m) (timesM ah (f s.data.toList).c), timesM ah (f s.data.toList).o) fs := rfl
    rw [e] at hlt ⊢
    have t1 := timesM_in (a := n) (b := (f s.data.toList).m) (by omega) hs.2.2.1
    have t2 := timesM_in (a := ah) (b := (f s.data.toList).c) (by omega) hs.2.1.1
    have t3 := timesM_in (a := ah) (b := (f s.data.toList).o) (by omega) hs.1.1
    have t0 : 1 ≤ timesM n (f s.data.toList).m := by
      have : 1 * 1 ≤ n * (f s.data.toList).m := Int.mul_le_mul (by omega) (by unfold maxMany at h1; omega) (by omega) (by omega)
      unfold timesM maxMany
      omega
    generalize hN : addMany (timesM n (f s.data.toList).m) (timesM ah (f s.data.toList).c) = N at *
    have hN1 : timesM n (f s.data.toList).m ≤ N ∧ 1 ≤ N ∧ N ≤ maxMany := by unfold addMany at hN; omega
    have ih := cost_behind hf fs N _ hN1.2 t3 (fun t ht => hM t (by simp [ht])) hlt
    have hL : ∀ x ∈ fs.map M, 1 ≤ x := fun x hx => by
      obtain ⟨t, ht, rfl⟩ := List.mem_map.1 hx
      exact (hM t (by simp [ht])).1
    have h3 := prodI_one (fs.map M) N hN1.2.1 hL
    obtain ⟨e1, _⟩ := times_at hn.1 h1.1 h1.2 (Int.le_trans hN1.1 (Int.le_trans h3 ih)) hlt
    rw [e1] at hN1
    rw [List.map_cons, List.foldl_cons]
    exact Int.le_trans (fold_mono _ _ _ hN1.1 hL) ih
/-- At a place: those ahead as they were, its changes, those behind as they are. -/
theorem cost_at {f : List UInt8 → Sz} (hf : ∀ s, (f s).Ok) {O C M : ByteArray → Int} (s : ByteArray) (F2 : List ByteArray) : ∀ (F1 : List ByteArray) (n ah : Int), 0 ≤ n ∧ n ≤ maxMany → 1 ≤ ah ∧ ah ≤ maxMany → (∀ s ∈ F1, 1 ≤ O s ∧ (f s.data.toList).o = min (O s) maxMany) → (1 ≤ C s ∧ (f s.data.toList).c = min (C s) maxMany) → (∀ s ∈ F2, 1 ≤ M s ∧ (f s.data.toList).m = min (M s) maxMany) →
    (pcD f (n, ah) (F1 ++ s :: F2)).1 < maxMany → (F1.map O ++ [C s] ++ F2.map M).foldl (· * ·) ah ≤ (pcD f (n, ah) (F1 ++ s :: F2)).1
  | [], n, ah, hn, ha, _, hC, hM, hlt => by
    have hs := hf s.data.toList
    have e : pcD f (n, ah) ([] ++ s :: F2) = pcD f (addMany (timesM n (f s.data.toList).m) (timesM ah (f s.data.toList).c), timesM ah (f s.data.toList).o) F2 := rfl
    rw [e] at hlt ⊢
    have t1 := timesM_in (a := n) (b := (f s.data.toList).m) (by omega) hs.2.2.1
    have t2 := timesM_in (a := ah) (b := (f s.data.toList).c) (by omega) hs.2.1.1
    have t3 := timesM_in (a := ah) (b := (f s.data.toList).o) (by omega) hs.1.1
    have t0 : 1 ≤ timesM ah (f s.data.toList).c := by
      have : 1 * 1 ≤ ah * (f s.data.toList).c := Int.mul_le_mul (by omega) (by unfold maxMany at hC; omega) (by omega) (by omega)
      unfold timesM maxMany
      omega
    generalize hN : addMany (timesM n (f s.data.toList).m) (timesM ah (f s.data.toList).c) = N at *
    have hN1 : timesM ah (f s.data.toList).c ≤ N ∧ 1 ≤ N ∧ N ≤ maxMany := by unfold addMany at hN; omega
    have ih := cost_behind hf F2 N _ hN1.2 t3 hM hlt
    have hL : ∀ x ∈ F2.map M, 1 ≤ x := fun x hx => by
      obtain ⟨t, ht, rfl⟩ := List.mem_map.1 hx
      exact (hM t ht).1
    have h3 := prodI_one (F2.map M) N hN1.2.1 hL
    obtain ⟨e1, _⟩ := times_at ha.1 hC.1 hC.2 (Int.le_trans hN1.1 (Int.le_trans h3 ih)) hlt
    rw [e1] at hN1
    rw [List.map_nil, List.nil_append, List.singleton_append, List.foldl_cons]
    exact Int.le_trans (fold_mono _ _ _ hN1.1 hL) ih
  | t :: F1, n, ah, hn, ha, hO, hC, hM, hlt => by
    have h1 := hO t (by simp)
    have hs := hf t.data.toList
    have e : pcD f (n, ah) (t :: F1 ++ s :: F2) = pcD f (addMany (timesM n (f t.data.toList).m) (timesM ah (f t.data.toList).c), timesM ah (f t.data.toList).o) (F1 ++ s :: F2) := rfl
    rw [e] at hlt ⊢
    have t1 := timesM_in (a := n) (b := (f t.data.toList).m) (by omega) hs.2.2.1
    have t2 := timesM_in (a := ah) (b := (f t.data.toList).c) (by omega) hs.2.1.1
    have t3 := timesM_in (a := ah) (b := (f t.data.toList).o) (by omega) hs.1.1
    have t0 : 1 ≤ timesM ah (f t.data.toList).o := by
      have : 1 * 1 ≤ ah * (f t.data.toList).o := Int.mul_le_mul (by omega) (by unfold maxMany at h1; omega) (by omega) (by omega)
      unfold timesM maxMany
      omega
    have hN := addMany_in ⟨t1.1, t1.2⟩ t2.1
    have ih := cost_at hf s F2 F1 _ _ hN ⟨t0, t3.2⟩ (fun u hu => hO u (by simp [hu])) hC hM hlt
    have hL : ∀ x ∈ F1.map O ++ [C s] ++ F2.map M, 1 ≤ x := fun x hx => by
      rcases List.mem_append.1 hx with hx | hx
      · rcases List.mem_append.1 hx with hx | hx
        · obtain ⟨u, hu, rfl⟩ := List.mem_map.1 hx
          exact (hO u (by simp [hu])).1
        · obtain rfl := List.mem_singleton.1 hx
          exact hC.1
      · obtain ⟨u, hu, rfl⟩ := List.mem_map.1 hx
        exact (hM u hu).1
    have h3 := prodI_one _ _ t0 hL
    obtain ⟨e1, _⟩ := times_at ha.1 h1.1 h1.2 (Int.le_trans h3 ih) hlt
    rw [List.map_cons, List.cons_append, List.cons_append, List.foldl_cons, ← e1]
    exact ih
/-! ### Counts -/
theorem sizeA_is' : ∀ (L : List Pair) (n : Int), 0 ≤ n → n ≤ maxMany → L.foldl (fun n x => addMany n (cabs x.2)) n = min (n + absS L) maxMany
  | [], n, h0, h1 => by simp only [List.foldl_nil, absS]; omega
  | x :: L, n, h0, h1 => by
    have hn := addMany_in (m := cabs x.2) ⟨h0, h1⟩ (cabs_in _)
    have ha := absS_nonneg L
    rw [List.foldl_cons, sizeA_is' L _ hn.1 hn.2, absS_cons]
    unfold addMany cabs abI maxMany
    split <;> omega
theorem sizeA_is (L : List Pair) : sizeA L = min (absS L) maxMany := by
  have := sizeA_is' L 0 (by omega) (by unfold maxMany; omega)
  unfold sizeA
  rw [this]
  omega
theorem sizeK_is' : ∀ (L : List Pair) (n : Int), (∀ x ∈ L, 1 ≤ x.2) → 0 ≤ n → n ≤ maxMany → sizeK n L = min (n + absS L) maxMany
  | [], n, _, h0, h1 => by unfold sizeK; simp only [List.foldl_nil, absS]; omega
  | x :: L, n, h, h0, h1 => by
    have hx := h x (by simp)
    have hn := addMany_clamp (n := n) x.2 ⟨h0, h1⟩
    have ha := absS_nonneg L
    have e : sizeK n (x :: L) = sizeK (addMany n (clampM x.2)) L := rfl
    rw [e, sizeK_is' L _ (fun y hy => h y (by simp [hy])) hn.1 hn.2, absS_cons]
    unfold addMany clampM abI maxMany
    split <;> omega
theorem sizeK_is {L : List Pair} (h : ∀ x ∈ L, 1 ≤ x.2) : sizeK 0 L = min (absS L) maxMany := by
  rw [sizeK_is' L 0 h (by omega) (by unfold maxMany; omega)]
  omega
end Go.Proofs.YtfdkajefcplfjaaGreat

/- The project's layer 14 (delta), plainly: what Rows tells; it hangs on names and bags alone. Nothing of any program here. Conditions: each lemma names its own. -/
namespace Go.Proofs.YtfdkajefcplfjaaGreat
open Go.RowKit

/-! ### Bags that may be -/
theorem rises_adj : ∀ {L : List Pair}, (∀ x ∈ L, x.2 ≠ 0) → (∀ i (h : i + 1 < L.length), rowsV (L[i]).1 (L[i + 1]).1 < 0) → Rises L
  | [], _, _ => trivial
  | [x], h0, _ => ⟨h0 x (by simp), fun y hy => absurd hy (by simp), trivial⟩
  | x :: y :: L, h0, h => by
    have hR : Rises (y :: L) := rises_adj (fun z hz => h0 z (List.mem_cons_of_mem _ hz)) (fun i hi => h (i + 1) (by simp at hi ⊢; omega))
    have hxy : rowsV x.1 y.1 < 0 := h 0 (by simp)
    refine ⟨h0 x (by simp), fun z hz => ?_, hR⟩
    rcases List.mem_cons.1 hz with rfl | hz
    · exact hxy
    · exact rowsV_lt_trans hxy (hR.2.1 z hz)
theorem right_at {E : List Elem} (h : rightE E = true) {i : Nat} (hi : i < E.length) : E[i].n ≠ 0 ∧ -maxMany ≤ E[i].n ∧ E[i].n ≤ maxMany := by
  have h4 := List.all_eq_true.1 h i (List.mem_range.2 hi)
  rw [rightAt_get hi, Bool.and_eq_true] at h4
  have h5 := h4.1
  unfold okR at h5
  simp at h5
  unfold maxMany
  omega
theorem right_n {E : List Elem} (h : rightE E = true) : ∀ x ∈ E.map pr, x.2 ≠ 0 ∧ abI x.2 ≤ maxMany := fun x hx => by
  obtain ⟨e, he, rfl⟩ := List.mem_map.1 hx
  obtain ⟨i, hi, rfl⟩ := List.getElem_of_mem he
  have h1 := right_at h hi
  have e2 : (pr E[i]).2 = E[i].n := rfl
  rw [e2]
  unfold abI
  exact ⟨h1.1, by split <;> omega⟩
theorem right_rises {E : List Elem} (h : rightE E = true) : Rises (E.map pr) := by
  refine rises_adj (fun x hx => (right_n h x hx).1) (fun i hi => ?_)
  have hi' : i + 1 < E.length := by simpa using hi
  have h4 := List.all_eq_true.1 h (i + 1) (List.mem_range.2 hi')
  rw [rightAt_get hi', Bool.and_eq_true] at h4
  have h5 := h4.2
  rw [upAt_get (by omega)] at h5
  simpa [pr] using h5
theorem absS_bound {k : Int} : ∀ {L : List Pair}, (∀ x ∈ L, abI x.2 ≤ k) → absS L ≤ k * L.length
  | [], _ => by simp [absS]
  | x :: L, h => by
    have h1 := h x (by simp)
    have h2 := absS_bound (L := L) (fun y hy => h y (by simp [hy]))
    rw [absS_cons, List.length_cons]
    push_cast
    rw [Int.mul_add]
    omega
theorem sum_has {r : List Val} : ∀ {A : List Pair}, sumOf r A ≠ 0 → ∃ z ∈ A, z.1 = r
  | [], h => absurd rfl h
  | x :: A, h => by
    by_cases hx : rowsV x.1 r = 0
    · exact ⟨x, by simp, (rowsV_is _ _).1 hx⟩
    · have e : sumOf r (x :: A) = (if rowsV x.1 r = 0 then x.2 else 0) + sumOf r A := rfl
      rw [e, if_neg hx, Int.zero_add] at h
      obtain ⟨z, hz, e⟩ := sum_has h
      exact ⟨z, List.mem_cons_of_mem _ hz, e⟩
/-- A row that came or went was there, or is there now. -/
theorem ch_row {A B : List Pair} (hB : Rises B) {y : Pair} (hy : y ∈ B) : (∃ z ∈ A, z.1 = y.1) ∨ ∃ z ∈ ofB (A ++ B), z.1 = y.1 := by
  have h1 : sumOf y.1 B = y.2 := sum_mem hB y hy
  have h2 : y.2 ≠ 0 := rises_not0 hB y hy
  have h3 := sumOf_ofB y.1 (A ++ B)
  rw [sumOf_append, h1] at h3
  by_cases h : sumOf y.1 A = 0
  · exact .inr (sum_has (by rw [h3, h]; omega))
  · exact .inl (sum_has h)

/-! ### It hangs on names and bags alone -/
def elP (x : Pair) : Elem := ⟨none, 0, x.1, x.2⟩
def mkN (q : ByteArray × List Pair) : Nx := ⟨q.1, none, 0, q.2.map elP⟩
theorem elP_map (L : List Pair) : (L.map elP).map pr = L := by
  rw [List.map_map]
  exact List.map_id' L
theorem nd_mkN (q : ByteArray × List Pair) : nd (mkN q) = q := by
  show (q.1, (q.2.map elP).map pr) = q
  rw [elP_map]
theorem findN_nd : ∀ {l l' : List Nx}, l.map nd = l'.map nd → ∀ s, (findN l s).map nd = (findN l' s).map nd
  | [], [], _, _ => rfl
  | [], y :: l', h, _ => by simp at h
  | x :: l, [], h, _ => by simp at h
  | x :: l, y :: l', h, s => by
    rw [List.map_cons, List.map_cons] at h
    injection h with h1 h2
    have e : x.s = y.s := congrArg Prod.fst h1
    have ih := findN_nd h2 s
    unfold findN at ih ⊢
    rw [List.find?_cons, List.find?_cons, e]
    cases (y.s.data.toList == s) with
    | true => simp [h1]
    | false => exact ih
theorem bagN_nd (l : List Nx) (s : List UInt8) : bagN l s = match (findN l s).map nd with | some q => q.2 | none => [] := by
  unfold bagN
  cases findN l s <;> rfl
theorem bagN_same {l l' : List Nx} (h : l.map nd = l'.map nd) (s : List UInt8) : bagN l s = bagN l' s := by rw [bagN_nd, bagN_nd, findN_nd h s]
theorem upAt_pr {E E' : List Elem} (h : E.map pr = E'.map pr) : ∀ (i : Nat) {e e' : Elem}, pr e = pr e' → upAt E i e = upAt E' i e'
  | 0, _, _, _ => rfl
  | j + 1, e, e', he => by
    have h1 := congrArg (fun L => L[j]?) h
    simp only [List.getElem?_map] at h1
    have h2 : e.r = e'.r := congrArg Prod.fst he
    show (match E[j]? with | some d => decide (rowsV d.r e.r < 0) | none => true) = (match E'[j]? with | some d => decide (rowsV d.r e'.r < 0) | none => true)
    cases hE : E[j]? with
    | none =>
      cases hE' : E'[j]? with
      | none => rfl
      | some d' => rw [hE, hE'] at h1; simp at h1
    | some d =>
      cases hE' : E'[j]? with
      | none => rw [hE, hE'] at h1; simp at h1
      | some d' =>
        rw [hE, hE'] at h1
        have h3 : pr d = pr d' := by simpa using h1
        have h4 : d.r = d'.r := congrArg Prod.fst h3
        dsimp only
        rw [h4, h2]
theorem rightE_pr {E E' : List Elem} (h : E.map pr = E'.map pr) : rightE E = rightE E' := by
  have hl : E.length = E'.length := by have := congrArg List.length h; simpa using this
  unfold rightE
  rw [hl]
  congr 1
  funext i
  have h1 := congrArg (fun L => L[i]?) h
  simp only [List.getElem?_map] at h1
  unfold rightAt
  cases hE : E[i]? with
  | none =>
    cases hE' : E'[i]? with
    | none => rfl
    | some d' => rw [hE, hE'] at h1; simp at h1
  | some d =>
    cases hE' : E'[i]? with
    | none => rw [hE, hE'] at h1; simp at h1
    | some d' =>
      rw [hE, hE'] at h1
      have h3 : pr d = pr d' := by simpa using h1
      have h4 : d.n = d'.n := congrArg Prod.snd h3
      dsimp only
      rw [h4, upAt_pr h i h3]
theorem any_pr {E E' : List Elem} (h : E.map pr = E'.map pr) (q : Pair → Bool) : E.any (fun e => q (pr e)) = E'.any (fun e => q (pr e)) := by
  have h1 : (E.map pr).any q = (E'.map pr).any q := by rw [h]
  rwa [List.any_map, List.any_map] at h1
theorem plainE_pr {E E' : List Elem} (h : E.map pr = E'.map pr) : plainE E = plainE E' := by
  unfold plainE
  rw [rightE_pr h]
  have := any_pr h (fun x => decide (x.2 < 0))
  have e : ∀ E : List Elem, E.any (fun e => decide (e.n < 0)) = E.any (fun e => decide ((pr e).2 < 0)) := fun _ => rfl
  rw [e, e, this]
theorem fits_nd {l l' : List Nx} {s : List UInt8} (h : (findN l s).map nd = (findN l' s).map nd) (wd : Int) : fitsE l s wd = fitsE l' s wd := by
  unfold fitsE
  cases hl : findN l s with
  | none =>
    cases hl' : findN l' s with
    | none => rfl
    | some x' => rw [hl, hl'] at h; simp at h
  | some x =>
    cases hl' : findN l' s with
    | none => rw [hl, hl'] at h; simp at h
    | some x' =>
      rw [hl, hl'] at h
      have h1 : nd x = nd x' := by simpa using h
      have h2 : x.E.map pr = x'.E.map pr := congrArg Prod.snd h1
      have h3 := any_pr h2 (fun y => decide ((y.1.length : Int) ≠ wd))
      have e : ∀ E : List Elem, E.any (fun e => decide ((e.r.length : Int) ≠ wd)) = E.any (fun e => decide (((pr e).1.length : Int) ≠ wd)) := fun _ => rfl
      dsimp only
      rw [plainE_pr h2, e, e, h3]
theorem readyFE_same {l l' : List Nx} : ∀ {fs : List ByteArray} {ws : List Int}, (∀ s ∈ fs, (findN l s.data.toList).map nd = (findN l' s.data.toList).map nd) → readyFE l fs ws = readyFE l' fs ws
  | [], ws, _ => by unfold readyFE; rfl
  | s :: fs, [], _ => by unfold readyFE; rfl
  | s :: fs, w :: ws, h => by
    rw [readyFE, readyFE, fits_nd (h s (by simp)), readyFE_same (fun t ht => h t (by simp [ht]))]
theorem readyLE_same {l l' : List Nx} : ∀ {ps : List Px}, (∀ p ∈ ps, ∀ s ∈ p.fs, (findN l s.data.toList).map nd = (findN l' s.data.toList).map nd) → readyLE l ps = readyLE l' ps
  | [], _ => rfl
  | p :: ps, h => by
    rw [readyLE, readyLE, readyFE_same (h p (by simp)), readyLE_same (fun q hq => h q (by simp [hq]))]
theorem readyE_same {l l' : List Nx} {ps : List Px} (h : ∀ p ∈ ps, ∀ s ∈ p.fs, (findN l s.data.toList).map nd = (findN l' s.data.toList).map nd) : readyE l ps = readyE l' ps := by
  unfold readyE
  rw [readyLE_same h]
/-! ### What there is now -/
def nowL (old ch : List Nx) (L : List ByteArray) : List Nx := L.map fun s => mkN (nowD old ch s)
theorem nowL_nd (old ch : List Nx) (L : List ByteArray) : (nowL old ch L).map nd = L.map (nowD old ch) := by
  unfold nowL
  rw [List.map_map]
  exact List.map_congr_left fun s _ => nd_mkN _
theorem bytes_inj {s t : ByteArray} (h : s.data.toList = t.data.toList) : s = t := by
  have := congrArg bs h
  exact this
theorem find_now (old ch : List Nx) {s : ByteArray} : ∀ {L : List ByteArray}, s ∈ L → (findN (nowL old ch L) s.data.toList).map nd = some (nowD old ch s)
  | t :: L, h => by
    unfold findN nowL
    rw [List.map_cons, List.find?_cons]
    have e : (mkN (nowD old ch t)).s = t := rfl
    rw [e]
    cases hb : (t.data.toList == s.data.toList) with
    | true =>
      have : t = s := bytes_inj (by simpa using hb)
      subst this
      simp [nd_mkN]
    | false =>
      have hne : s ≠ t := fun e => by rw [e] at hb; simp at hb
      have := find_now old ch (s := s) (L := L) ((List.mem_cons.1 h).resolve_left hne)
      exact this
theorem bag_now {old ch : List Nx} {L : List ByteArray} {s : ByteArray} (h : s ∈ L) : bagN (nowL old ch L) s.data.toList = ofB (bagN old s.data.toList ++ bagN ch s.data.toList) := by
  rw [bagN_nd, find_now old ch h]
  rfl
theorem netL_same {old ch now now' : List Nx} {fs : List ByteArray} (h : ∀ s ∈ fs, bagN now s.data.toList = bagN now' s.data.toList) (i : Nat) (s : ByteArray) : netL old ch now fs i s = netL old ch now' fs i s := by
  unfold netL
  congr 1
  exact List.map_congr_left fun t ht => h t (List.mem_of_mem_drop ht)
theorem netR_same {old ch now now' : List Nx} {fs : List ByteArray} (h : ∀ s ∈ fs, bagN now s.data.toList = bagN now' s.data.toList) (k : Nat) : netR old ch now fs k = netR old ch now' fs k := by
  unfold netR
  congr 1
  funext i
  rw [netL_same h]
/-- The net rows of a part. -/
def netB (old ch : List Nx) (p : Px) : List Pair := ofB (netR old ch (nowL old ch p.fs) p.fs p.fs.length)
def dAllL (old ch : List Nx) (ps : List Px) : List Pair := ps.flatMap fun p => toldR p (netB old ch p)
def dAllE (old ch : List Nx) (ps : List Px) : Int := foldG (ps.map fun p => toldG p (netB old ch p))
theorem dAllL_snoc (old ch : List Nx) (ps : List Px) (p : Px) : dAllL old ch (ps ++ [p]) = dAllL old ch ps ++ toldR p (netB old ch p) := by simp [dAllL]
theorem dAllE_snoc (old ch : List Nx) (ps : List Px) (p : Px) : dAllE old ch (ps ++ [p]) = graverM (dAllE old ch ps) (toldG p (netB old ch p)) := by
  unfold dAllE; rw [List.map_append]; exact foldG_snoc _ _
/-- The names that a plan reads, rising, with what is there of them now. -/
def nowP (old ch : List Nx) (ps : List Px) : List Nx := nowL old ch (riseB (namesF ps))
def wrongB (ch : List Nx) : Bool := ch.any fun x => !rightE x.E
/-- What Rows tells, and its error. -/
def dRowsM (old ch : List Nx) (ps : List Px) : List Pair × Int :=
  if readyE old ps ≠ 0 then ([], readyE old ps) else if wrongB ch = true then ([], 1)
  else if readyE (nowP old ch ps) ps ≠ 0 then ([], readyE (nowP old ch ps) ps) else if ps.any sumyB = true then ([], 15)
  else if 2000 < costD old ch ps then ([], 19) else if dAllE old ch ps ≠ 0 then ([], dAllE old ch ps) else (ofB (dAllL old ch ps), 0)
end Go.Proofs.YtfdkajefcplfjaaGreat

/- The project's layer 14 (delta), plainly: where a plan's rows are told, each part's are, and they are not many. Nothing of any program here. Conditions: each lemma names its own. -/
namespace Go.Proofs.YtfdkajefcplfjaaGreat
open Go.RowKit

/-- What is known of the names of a plan that is ready. -/
structure NamesOk (l : List Nx) (p : Px) : Prop where
  ok : ∀ s ∈ p.fs, ∃ x, findN l s.data.toList = some x ∧ plainE x.E = true ∧ ∀ e ∈ x.E, 1 ≤ e.n ∧ e.r.length ≤ 8
  few : p.fs.length ≤ 3
  outs : p.os.length ≤ 8
  row1 : ∀ s ∈ p.fs, ∀ y ∈ bagN l s.data.toList, 1 ≤ y.1.length
theorem ready_names {l : List Nx} {ps : List Px} (hr : readyE l ps = 0) : ∀ p ∈ ps, NamesOk l p := fun p hp => by
  unfold readyE at hr
  split at hr
  · rename_i hb
    unfold planB at hb
    simp only [Bool.and_eq_true] at hb
    have h1 := List.all_eq_true.1 hb.2 p hp
    simp only [Bool.and_eq_true] at h1
    obtain ⟨h1, _⟩ := h1
    unfold partB at h1
    simp only [Bool.and_eq_true] at h1
    obtain ⟨⟨ha, hls⟩, hse⟩ := h1
    unfold acrossB at ha
    simp only [Bool.and_eq_true] at ha
    obtain ⟨⟨ha1, ha2⟩, ha3⟩ := ha
    unfold inN at ha1
    simp only [Bool.and_eq_true, decide_eq_true_eq] at ha1 ha2
    unfold listsB at hls
    simp only [Bool.and_eq_true] at hls
    have hl0 := hls.1.1.1.1
    unfold inN at hl0
    simp only [Bool.and_eq_true, decide_eq_true_eq] at hl0
    have hfe := readyLE_all hr p hp
    refine ⟨fun s hs => ?_, by omega, by omega, fun s hs y hy => ?_⟩
    · obtain ⟨wd, hw, hf⟩ := readyFE_all ha2 hfe s hs
      have hwd := List.all_eq_true.1 ha3 wd hw
      unfold inN at hwd
      simp only [Bool.and_eq_true, decide_eq_true_eq] at hwd
      unfold fitsE at hf
      split at hf
      · omega
      · rename_i x hx
        split at hf
        · rename_i hpl
          refine ⟨x, hx, hpl.1, fun e he => ?_⟩
          have h2 := List.any_eq_false.1 hpl.2 e he
          have h3 : (e.r.length : Int) = wd := by simpa using h2
          exact ⟨plainE_pos hpl.1 e he, by omega⟩
        · omega
    · obtain ⟨wd, hw, hf⟩ := readyFE_all ha2 hfe s hs
      have hwd := List.all_eq_true.1 ha3 wd hw
      unfold inN at hwd
      simp only [Bool.and_eq_true, decide_eq_true_eq] at hwd
      unfold fitsE at hf
      split at hf
      · omega
      · rename_i x hx
        split at hf
        · rename_i hpl
          unfold bagN at hy
          rw [hx] at hy
          obtain ⟨e, he, rfl⟩ := List.mem_map.1 hy
          have h2 := List.any_eq_false.1 hpl.2 e he
          have h3 : (e.r.length : Int) = wd := by simpa using h2
          show 1 ≤ e.r.length
          omega
        · omega
  · omega
theorem bag_ready {l : List Nx} {p : Px} (h : NamesOk l p) {s : ByteArray} (hs : s ∈ p.fs) : ∀ y ∈ bagN l s.data.toList, 1 ≤ y.2 ∧ y.1.length ≤ 8 := fun y hy => by
  obtain ⟨x, hx, _, hE⟩ := h.ok s hs
  unfold bagN at hy
  rw [hx] at hy
  obtain ⟨e, he, rfl⟩ := List.mem_map.1 hy
  exact hE e he
theorem wrong_at {ch : List Nx} (h : wrongB ch = false) (s : List UInt8) : Rises (bagN ch s) ∧ ∀ y ∈ bagN ch s, y.2 ≠ 0 ∧ abI y.2 ≤ maxMany := by
  unfold bagN
  cases hf : findN ch s with
  | none => exact ⟨trivial, fun y hy => absurd hy (by simp)⟩
  | some x =>
    have h1 := List.any_eq_false.1 h x (findN_mem hf)
    have h2 : rightE x.E = true := by simpa using h1
    exact ⟨right_rises h2, right_n h2⟩
theorem absS_none : ∀ {L : List Pair}, (∀ x ∈ L, x.2 ≠ 0) → L ≠ [] → 1 ≤ absS L
  | [], _, h => absurd rfl h
  | x :: L, h, _ => by
    have h1 := len_absS h
    rw [List.length_cons] at h1
    omega
theorem mem_names {ps : List Px} {p : Px} (hp : p ∈ ps) {s : ByteArray} (hs : s ∈ p.fs) : s ∈ riseB (namesF ps) := (mem_riseB _ _).2 (namesF_one hp hs)
/-- What must hold for the rows to be told. -/
structure GoD (old ch : List Nx) (ps : List Px) : Prop where
  ro : readyE old ps = 0
  rc : wrongB ch = false
  rn : readyE (nowP old ch ps) ps = 0
  rs : ps.any sumyB = false
  rk : costD old ch ps ≤ 2000
theorem GoD.o {old ch : List Nx} {ps : List Px} (h : GoD old ch ps) {p : Px} (hp : p ∈ ps) : NamesOk old p := ready_names h.ro p hp
theorem GoD.n {old ch : List Nx} {ps : List Px} (h : GoD old ch ps) {p : Px} (hp : p ∈ ps) : NamesOk (nowP old ch ps) p := ready_names h.rn p hp
theorem GoD.rows {old ch : List Nx} {ps : List Px} (h : GoD old ch ps) {p : Px} (hp : p ∈ ps) {s : ByteArray} (hs : s ∈ p.fs) :
    (∀ y ∈ bagN old s.data.toList, 1 ≤ y.2 ∧ y.1.length ≤ 8) ∧ (∀ y ∈ bagN ch s.data.toList, y.2 ≠ 0 ∧ y.1.length ≤ 8) ∧ ∀ y ∈ ofB (bagN old s.data.toList ++ bagN ch s.data.toList), 1 ≤ y.2 ∧ y.1.length ≤ 8 := by
  have h1 := bag_ready (h.o hp) hs
  have h2 := bag_ready (h.n hp) hs
  rw [nowP, bag_now (mem_names hp hs)] at h2
  obtain ⟨h3, h4⟩ := wrong_at h.rc s.data.toList
  refine ⟨h1, fun y hy => ⟨(h4 y hy).1, ?_⟩, h2⟩
  rcases ch_row (A := bagN old s.data.toList) h3 hy with ⟨z, hz, e⟩ | ⟨z, hz, e⟩
  · rw [← e]; exact (h1 z hz).2
  · rw [← e]; exact (h2 z hz).2
/-- No row that is read is empty. -/
theorem GoD.row1 {old ch : List Nx} {ps : List Px} (h : GoD old ch ps) {p : Px} (hp : p ∈ ps) {s : ByteArray} (hs : s ∈ p.fs) :
    (∀ y ∈ bagN old s.data.toList, 1 ≤ y.1.length) ∧ (∀ y ∈ bagN ch s.data.toList, 1 ≤ y.1.length) := by
  have h1 := (h.o hp).row1 s hs
  have h2 := (h.n hp).row1 s hs
  rw [nowP, bag_now (mem_names hp hs)] at h2
  obtain ⟨h3, h4⟩ := wrong_at h.rc s.data.toList
  refine ⟨h1, fun y hy => ?_⟩
  rcases ch_row (A := bagN old s.data.toList) h3 hy with ⟨z, hz, e⟩ | ⟨z, hz, e⟩
  · rw [← e]; exact h1 z hz
  · rw [← e]; exact h2 z hz
/-- What is put side by side at a place isn't too much. -/
theorem GoD.side {old ch : List Nx} {ps : List Px} (h : GoD old ch ps) {p : Px} (hp : p ∈ ps) {i : Nat} (hi : i < p.fs.length) (he : emptyL (netL old ch (nowL old ch p.fs) p.fs i p.fs[i]) = false) : SideN (netL old ch (nowL old ch p.fs) p.fs i p.fs[i]) := by
  have hne : ∀ x ∈ netL old ch (nowL old ch p.fs) p.fs i p.fs[i], x ≠ [] := fun x hx e => by
    subst e
    unfold emptyL at he
    have := List.any_eq_false.1 he [] hx
    simp at this
  have hmt : ∀ s ∈ p.fs.take i, s ∈ p.fs := fun s hs => List.mem_of_mem_take hs
  have hmd : ∀ s ∈ p.fs.drop (i + 1), s ∈ p.fs := fun s hs => List.mem_of_mem_drop hs
  have hmi : p.fs[i] ∈ p.fs := List.getElem_mem hi
  have hbn : ∀ s ∈ p.fs, bagN (nowL old ch p.fs) s.data.toList = ofB (bagN old s.data.toList ++ bagN ch s.data.toList) := fun s hs => bag_now hs
  have hrow : ∀ x ∈ netL old ch (nowL old ch p.fs) p.fs i p.fs[i], ∀ y ∈ x, y.1.length ≤ 8 ∧ y.2 ≠ 0 := fun x hx y hy => by
    unfold netL at hx
    rcases List.mem_append.1 hx with hx | hx
    · rcases List.mem_append.1 hx with hx | hx
      · obtain ⟨s, hs, rfl⟩ := List.mem_map.1 hx
        have := (h.rows hp (hmt s hs)).1 y hy
        exact ⟨this.2, by omega⟩
      · obtain rfl := List.mem_singleton.1 hx
        have := (h.rows hp hmi).2.1 y hy
        exact ⟨this.2, this.1⟩
    · obtain ⟨s, hs, rfl⟩ := List.mem_map.1 hx
      (try dsimp only at hy)
      rw [hbn s (hmd s hs)] at hy
      have := (h.rows hp (hmd s hs)).2.2 y hy
      exact ⟨this.2, by omega⟩
  have hone : ∀ x ∈ netL old ch (nowL old ch p.fs) p.fs i p.fs[i], 1 ≤ absS x := fun x hx => absS_none (fun y hy => (hrow x hx y hy).2) (hne x hx)
  have hmem1 : ∀ s ∈ p.fs.take i, bagN old s.data.toList ∈ netL old ch (nowL old ch p.fs) p.fs i p.fs[i] := fun s hs => List.mem_append_left _ (List.mem_append_left _ (List.mem_map_of_mem (f := fun s : ByteArray => bagN old s.data.toList) hs))
  have hmem2 : bagN ch p.fs[i].data.toList ∈ netL old ch (nowL old ch p.fs) p.fs i p.fs[i] := List.mem_append_left _ (List.mem_append_right _ (by simp))
  have hmem3 : ∀ s ∈ p.fs.drop (i + 1), bagN (nowL old ch p.fs) s.data.toList ∈ netL old ch (nowL old ch p.fs) p.fs i p.fs[i] := fun s hs => List.mem_append_right _ (List.mem_map_of_mem (f := fun s : ByteArray => bagN (nowL old ch p.fs) s.data.toList) hs)
  refine ⟨hone, fun x hx y hy => ⟨by have := (hrow x hx y hy).1; omega, (hrow x hx y hy).2⟩, ?_, ?_⟩
  · have h3 := (h.o hp).few
    unfold netL
    rw [List.length_append, List.length_append, List.length_map, List.length_map, List.length_take, List.length_drop, List.length_singleton]
    omega
  · have hc1 := costD_one (old := old) (ch := ch) hp
    have hc2 : costD old ch [p] = (pcD (szD old ch) (0, 1) p.fs).1 := by
      have h := pc_in old ch p.fs
      show addMany 0 _ = _
      unfold addMany
      omega
    have hc3 := h.rk
    have hsp : p.fs = p.fs.take i ++ p.fs[i] :: p.fs.drop (i + 1) := by rw [← List.drop_eq_getElem_cons hi, List.take_append_drop]
    have hlt : (pcD (szD old ch) (0, 1) (p.fs.take i ++ p.fs[i] :: p.fs.drop (i + 1))).1 < maxMany := by rw [← hsp]; unfold maxMany; omega
    have key := cost_at (f := szD old ch) (szD_ok old ch) (O := fun s => absS (bagN old s.data.toList)) (C := fun s => absS (bagN ch s.data.toList)) (M := fun s => absS (bagN (nowL old ch p.fs) s.data.toList)) p.fs[i] (p.fs.drop (i + 1)) (p.fs.take i) 0 1 (by unfold maxMany; omega) (by unfold maxMany; omega)
      (fun s hs => ⟨hone _ (hmem1 s hs), by
        obtain ⟨x, hx, _⟩ := (h.o hp).ok s (hmt s hs)
        have h1 := (h.rows hp (hmt s hs)).1
        show sizeN old s.data.toList = _
        unfold sizeN bagN at *
        rw [hx] at h1 ⊢
        exact size_is (fun y hy => (h1 y hy).1)⟩)
      ⟨hone _ hmem2, sizeA_is _⟩
      (fun s hs => ⟨hone _ (hmem3 s hs), by
        obtain ⟨x, hx, _⟩ := (h.o hp).ok s (hmd s hs)
        have h1 := (h.rows hp (hmd s hs)).2.2
        have e : x.E.map pr = bagN old s.data.toList := by unfold bagN; rw [hx]
        show nowN old ch s.data.toList = _
        rw [hbn s (hmd s hs)]
        unfold nowN nowC
        rw [hx]
        dsimp only
        rw [e]
        exact sizeK_is (fun y hy => (h1 y hy).1)⟩) hlt
    rw [← hsp] at key
    have e : prodA (netL old ch (nowL old ch p.fs) p.fs i p.fs[i]) = ((p.fs.take i).map (fun s => absS (bagN old s.data.toList)) ++ [absS (bagN ch p.fs[i].data.toList)] ++ (p.fs.drop (i + 1)).map (fun s => absS (bagN (nowL old ch p.fs) s.data.toList))).foldl (· * ·) 1 := by
      have e1 : ∀ L : List (List Pair), prodA L = (L.map absS).foldl (· * ·) 1 := fun L => by unfold prodA; rw [List.foldl_map]
      rw [e1]
      unfold netL
      rw [List.map_append, List.map_append, List.map_map, List.map_map]
      rfl
    rw [e]
    omega
theorem side_small {L : List (List Pair)} (h : emptyL L = false → SideN L) : absS (sideL L) ≤ 2000 ∧ (sideL L).length ≤ 2000 ∧ ∀ x ∈ sideL L, x.1.length ≤ 3000 := by
  unfold sideL
  cases he : emptyL L with
  | true => rw [if_pos rfl]; exact ⟨by simp [absS], by simp, fun x hx => absurd hx (by simp)⟩
  | false => rw [if_neg (by simp)]; exact (h he).small
theorem GoD.net {old ch : List Nx} {ps : List Px} (h : GoD old ch ps) {p : Px} (hp : p ∈ ps) : ∀ k, k ≤ p.fs.length → absS (netR old ch (nowL old ch p.fs) p.fs k) ≤ 2000 * k ∧ (netR old ch (nowL old ch p.fs) p.fs k).length ≤ 2000 * k ∧ ∀ x ∈ netR old ch (nowL old ch p.fs) p.fs k, x.1.length ≤ 3000
  | 0, _ => by simp [netR, absS]
  | k + 1, hk => by
    obtain ⟨h1, h2, h3⟩ := h.net hp k (by omega)
    obtain ⟨h4, h5, h6⟩ := side_small (h.side hp (show k < p.fs.length by omega))
    rw [netR_next _ _ _ _ (show k < p.fs.length by omega), absS_append, List.length_append]
    refine ⟨by push_cast; omega, by omega, fun x hx => ?_⟩
    rcases List.mem_append.1 hx with hx | hx
    · exact h3 x hx
    · exact h6 x hx
theorem GoD.netS {old ch : List Nx} {ps : List Px} (h : GoD old ch ps) {p : Px} (hp : p ∈ ps) : absS (netB old ch p) ≤ 6000 ∧ (netB old ch p).length ≤ 6000 ∧ ∀ x ∈ netB old ch p, x.1.length ≤ 3000 := by
  obtain ⟨h1, h2, h3⟩ := h.net hp p.fs.length (Nat.le_refl _)
  have h4 := (h.o hp).few
  have h5 := absS_ofB (netR old ch (nowL old ch p.fs) p.fs p.fs.length)
  have h6 := len_ofB (netR old ch (nowL old ch p.fs) p.fs p.fs.length)
  unfold netB
  refine ⟨by omega, by omega, fun x hx => ?_⟩
  obtain ⟨y, hy, e⟩ := ofB_memD hx
  rw [e]; exact h3 y hy
theorem absS_filt (q : Pair → Bool) : ∀ M : List Pair, absS (M.filter q) ≤ absS M
  | [] => Int.le_refl _
  | x :: M => by
    have h1 := absS_filt q M
    have h2 : 0 ≤ abI x.2 := by unfold abI; split <;> omega
    rw [List.filter_cons]
    split
    · rw [absS_cons, absS_cons]; omega
    · rw [absS_cons]; omega
theorem absS_mapR (f : List Val → List Val) : ∀ M : List Pair, absS (M.map fun x => (f x.1, x.2)) = absS M
  | [] => rfl
  | x :: M => by rw [List.map_cons, absS_cons, absS_cons, absS_mapR f M]
theorem toldR_small (p : Px) (L : List Pair) : absS (toldR p L) ≤ absS L ∧ (toldR p L).length ≤ L.length := by
  refine ⟨?_, toldR_le p L⟩
  unfold toldR
  rw [absS_mapR (fun r => rowE p.os r)]
  exact absS_filt _ _
theorem dRowsM_ok {old ch : List Nx} {ps : List Px} (h : (dRowsM old ch ps).2 = 0) : GoD old ch ps ∧ dAllE old ch ps = 0 ∧ (dRowsM old ch ps).1 = ofB (dAllL old ch ps) := by
  unfold dRowsM at h ⊢
  by_cases h1 : readyE old ps ≠ 0
  · rw [if_pos h1] at h; exact absurd h h1
  rw [if_neg h1] at h ⊢
  by_cases h2 : wrongB ch = true
  · rw [if_pos h2] at h; exact absurd h (by decide)
  rw [if_neg h2] at h ⊢
  by_cases h3 : readyE (nowP old ch ps) ps ≠ 0
  · rw [if_pos h3] at h; exact absurd h h3
  rw [if_neg h3] at h ⊢
  by_cases h4 : ps.any sumyB = true
  · rw [if_pos h4] at h; exact absurd h (by decide)
  rw [if_neg h4] at h ⊢
  by_cases h5 : 2000 < costD old ch ps
  · rw [if_pos h5] at h; exact absurd h (by decide)
  rw [if_neg h5] at h ⊢
  by_cases h6 : dAllE old ch ps ≠ 0
  · rw [if_pos h6] at h; exact absurd h h6
  rw [if_neg h6]
  exact ⟨⟨by omega, by simpa using h2, by omega, by simpa using h4, by omega⟩, by omega, rfl⟩
theorem dRowsM_is {old ch : List Nx} {ps : List Px} (h : GoD old ch ps) (h6 : dAllE old ch ps = 0) : dRowsM old ch ps = (ofB (dAllL old ch ps), 0) := by
  unfold dRowsM
  rw [if_neg (by have := h.ro; omega), if_neg (by rw [h.rc]; simp), if_neg (by have := h.rn; omega), if_neg (by rw [h.rs]; simp), if_neg (by have := h.rk; omega), if_neg (by omega)]
theorem dRowsM_none {old ch : List Nx} {ps : List Px} (h : (dRowsM old ch ps).2 ≠ 0) : (dRowsM old ch ps).1 = [] := by
  unfold dRowsM at h ⊢
  by_cases h1 : readyE old ps ≠ 0
  · rw [if_pos h1]
  rw [if_neg h1] at h ⊢
  by_cases h2 : wrongB ch = true
  · rw [if_pos h2]
  rw [if_neg h2] at h ⊢
  by_cases h3 : readyE (nowP old ch ps) ps ≠ 0
  · rw [if_pos h3]
  rw [if_neg h3] at h ⊢
  by_cases h4 : ps.any sumyB = true
  · rw [if_pos h4]
  rw [if_neg h4] at h ⊢
  by_cases h5 : 2000 < costD old ch ps
  · rw [if_pos h5]
  rw [if_neg h5] at h ⊢
  by_cases h6 : dAllE old ch ps ≠ 0
  · rw [if_pos h6]
  · rw [if_neg h6] at h; exact absurd rfl h
theorem GoD.one {old ch : List Nx} {ps : List Px} (h : GoD old ch ps) {p : Px} (hp : p ∈ ps) : GoD old ch [p] := by
  refine ⟨ready_one h.ro hp, h.rc, ?_, ?_, Int.le_trans (costD_one hp) h.rk⟩
  · have h1 := ready_one h.rn hp
    rw [← h1]
    refine readyE_same (fun q hq s hs => ?_)
    obtain rfl := List.mem_singleton.1 hq
    unfold nowP
    rw [find_now old ch (mem_names (List.mem_singleton.2 rfl) hs), find_now old ch (mem_names hp hs)]
  · have := List.any_eq_false.1 h.rs p hp
    simpa using this
theorem dAllL_one (old ch : List Nx) (p : Px) : dAllL old ch [p] = toldR p (netB old ch p) := by simp [dAllL]
theorem dAllE_one (old ch : List Nx) (p : Px) : dAllE old ch [p] = toldG p (netB old ch p) := by
  show graverM 0 (toldG p (netB old ch p)) = _
  unfold graverM; rw [if_pos (Or.inl rfl)]
/-- Each part alone is told, too. -/
theorem dUnion_one {old ch : List Nx} {ps : List Px} (h : (dRowsM old ch ps).2 = 0) {p : Px} (hp : p ∈ ps) : dRowsM old ch [p] = (ofB (toldR p (netB old ch p)), 0) := by
  obtain ⟨h1, h3, _⟩ := dRowsM_ok h
  have h4 : toldG p (netB old ch p) = 0 := foldG_zero h3 _ (List.mem_map_of_mem (f := fun p => toldG p (netB old ch p)) hp)
  rw [dRowsM_is (h1.one hp) (by rw [dAllE_one]; exact h4), dAllL_one]
theorem dAll_small {old ch : List Nx} {ps : List Px} (h : GoD old ch ps) : ps.length ≤ 4 ∧ ∀ k, absS (dAllL old ch (ps.take k)) ≤ 6000 * k ∧ (dAllL old ch (ps.take k)).length ≤ 6000 * k := by
  refine ⟨plan_few h.ro, fun k => ?_⟩
  induction k with
  | zero => simp [dAllL, absS]
  | succ k ih =>
    by_cases hk : k < ps.length
    · rw [List.take_succ_eq_append_getElem hk, dAllL_snoc, absS_append, List.length_append]
      obtain ⟨h1, h2, _⟩ := h.netS (List.getElem_mem hk)
      have h6 := toldR_small ps[k] (netB old ch ps[k])
      push_cast
      omega
    · rw [List.take_of_length_le (by omega)]
      rw [List.take_of_length_le (by omega)] at ih
      push_cast
      omega
end Go.Proofs.YtfdkajefcplfjaaGreat
