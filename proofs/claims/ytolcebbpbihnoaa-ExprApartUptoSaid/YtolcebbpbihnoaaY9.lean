/- An expression copied into memory of its own: contracts of the calls, in whatever memory. Conditions: an expression's cells are known. -/
import Derived.Test.YtolcebbpbihnoaaY8
import Derived.Test.YtolcebbpbihnoaaYe
namespace Go.Proofs.Ytolcebbpbihnoaa
open Go.RowKit

/-- A copy is answered: it lies where memory is new. -/
def OwnAns (w : World) (n : Nat) (x : Cx) (e : Ending) (w' : World) : Prop := (∃ y : Cx, e = .returned y.val ∧ CxAt (hide (elder w.heap.size) w') n y ∧ datC y = datC x) ∧ Below w.heap.size w w'
structure OwnOk (n : Nat) : Prop where
  out : ∀ (x : Cx) (w : World), CxAt w n x → Calls Try.prog 70 #[x.val] w (OwnAns w n x)
structure OwnHalf (w : World) (n : Nat) (x : Cx) : Prop where
  out : ∀ W, Below w.heap.size w W → Calls Try.prog 70 #[x.val] W (OwnAns W n x)
/-- Some of a row's expressions are copied. -/
structure CopyI (w : World) (n : Nat) (L : List Nx) (k : Nat) (v : Value) (wr : World) (zs : List Cx) : Prop where
  len : zs.length = k
  own : wr.ownsRow w.heap.size 26 6 v k (zs.map Cx.cells).flatten
  at_ : ∀ z ∈ zs, CxAt (hide (elderOr w.heap.size v.ownBlock) wr) n z
  dat : datL zs = L
  b : Below w.heap.size w wr
theorem CopyI.next {w wr w3 w4 : World} {o : Obj} {n k : Nat} {L : List Nx} {v v' : Value} {zs : List Cx} {y : Cx} (I : CopyI w n L k v wr zs) (h3 : Below wr.heap.size wr w3) {N : Nat} (hN : wr.heap.size ≤ N) (hy : CxAt (hide (elder N) w3) n y)
    (hown : w4.ownsRow w.heap.size 26 6 v' (k + 1) ((zs.map Cx.cells).flatten ++ y.cells)) (hg : (w3.alloc o).grownBy w4 v.ownBlock) (hv : v'.ownBlock = v.ownBlock ∨ v'.ownBlock = some (w3.heap.size + 1)) :
    CopyI w n (L ++ [datC y]) (k + 1) v' w4 (zs ++ [y]) := by
  have hs1 := I.b.size
  have hs3 := h3.size
  have hs4 := hg.size
  rw [World.size_alloc] at hs4
  have hlt := I.own.lt
  have hsame : ∀ b, b < w3.heap.size → v.ownBlock ≠ some b → w4.heap[b]? = w3.heap[b]? := fun b hb hne => (hg.block b (by rw [World.size_alloc]; omega) (fun e => hne e.symm)).trans (heap_alloc_old w3 o hb)
  have hfar : ∀ b, b < w3.heap.size → v.ownBlock ≠ some b → v'.ownBlock ≠ some b := fun b hb hne e => by
    rcases hv with e2 | e2
    · rw [e2] at e; exact hne e
    · rw [e2] at e; cases e; omega
  refine ⟨by rw [List.length_append, I.len]; rfl, by simpa using hown, fun z hz => ?_, ?_, ?_⟩
  · rcases List.mem_append.1 hz with hz | hz
    · refine (I.at_ z hz).sub (Sub.hide (by omega) fun b hb hp => ?_)
      obtain ⟨p1, p2⟩ := elderOr_no.1 hp
      exact ⟨elderOr_no.2 ⟨p1, hfar b (by omega) p2⟩, (hsame b (by omega) p2).trans (h3.block b hb)⟩
    · obtain rfl : z = y := by simpa using hz
      refine hy.sub (Sub.hide (by omega) fun b hb hp => ?_)
      have p1 := elder_no.1 hp
      have p2 : v.ownBlock ≠ some b := fun e => by have := (hlt b e).2; omega
      exact ⟨elderOr_no.2 ⟨by omega, hfar b hb p2⟩, hsame b hb p2⟩
  · rw [datL_map, List.map_append, ← datL_map, I.dat]; rfl
  · exact ((below_through h3 (by omega) I.b).alloc (by omega) o).grown hg (by rw [World.size_alloc]; omega) (fun j hj => (hlt j hj).1)
theorem CopyI.done {w wr : World} {n k : Nat} {L : List Nx} {v : Value} {zs : List Cx} (I : CopyI w n L k v wr zs) : ∃ a c, v = .slice a zs.length c ∧ zs.length ≤ c ∧ RowC (hide (elder w.heap.size) wr) 6 a (zs.map Cx.cells) ∧ (∀ z ∈ zs, CxAt (hide (elder w.heap.size) wr) n z) := by
  obtain ⟨a, c, hv, hc, hR⟩ := rows_owned (fun u hu => by obtain ⟨z, _, rfl⟩ := List.mem_map.1 hu; exact z.cells_len) I.own (by rw [List.length_map, I.len])
  rw [← I.len] at hv hc
  exact ⟨a, c, hv, hc, hR, fun z hz => (I.at_ z hz).sub (Sub.hide (Nat.le_refl _) fun b _ hp => ⟨elder_no.2 (elderOr_no.1 hp).1, rfl⟩)⟩
set_option maxHeartbeats 8000000 in
set_option maxRecDepth 1000000 in
theorem eachX_step {n : Nat} (IH : OwnOk n) (p : Option Addr) (c : Nat) (ys : List Cx) (w : World) (hroom : ys.length * 72 ≤ 140737488351232) (hrow : RowC w 6 p (ys.map Cx.cells)) (hA : ∀ x ∈ ys, CxAt w n x) :
    Calls Try.prog 89 #[.slice p ys.length c, .func (.func 70) #[] #[]] w fun e w' => (∃ p' c' zs, e = .returned (.slice p' (zs : List Cx).length c') ∧ zs.length ≤ c' ∧ RowC (hide (elder w.heap.size) w') 6 p' (zs.map Cx.cells) ∧ (∀ z ∈ zs, CxAt (hide (elder w.heap.size) w') n z) ∧ datL zs = datL ys) ∧ Below w.heap.size w w' := by
  obtain ⟨i0, hi, hz0, hz1, hz2⟩ := info_parts infoX
  have H : ∀ j (hj : j < ys.length), OwnHalf w n ys[j] := fun j hj => ⟨fun W hb => IH.out _ W ((hA _ (List.getElem_mem hj)).later hb)⟩
  have HH := hid0 H
  have HK : Hid (∀ i (hi : i < ys.length), ∃ b o, p = some ⟨b, o, none⟩ ∧ b < w.heap.size ∧ w.rangeAt b (o + i * 6) (ys[i]).cells) := hid0 fun i hi => by
    obtain ⟨b, o, e, hlt, hR⟩ := hrow.out i (by simpa using hi)
    exact ⟨b, o, e, hlt, by simpa using hR⟩
  clear IH hA H hrow
  go_enter Try.func89, Try.ntmps89
  go_wp2_with fail
  go_at_call 100
  refine (growX_any ys.length _ (by omega)).mono ?_
  rintro e w0 ⟨⟨v0, rfl, O0⟩, hb0⟩
  have O0 := hid0 (show CopyI w n (datL (ys.take 0)) 0 v0 w0 [] from ⟨rfl, O0, by simp, rfl, hb0⟩)
  go_wp2_with fail
  go_loopw [5, 13] (fun v i wr => ∃ (k : Nat) (zs : List Cx), k ≤ ys.length ∧ i = .int .i64 k ∧ CopyI w n (datL (ys.take k)) k v wr zs) (fun _ i _ => ys.length - (intOf i).toNat)
  case atStart => exact ⟨0, [], Nat.zero_le _, rfl, O0.out⟩
  case round =>
    obtain ⟨k, zs, hk, rfl, hI⟩ := hrel
    have hsz := hI.b.size
    by_cases hlt : k < ys.length
    · have H := (HH.out k hlt)
      have HT : Hid (datL (ys.take (k + 1)) = datL (ys.take k) ++ [datC ys[k]]) := hid0 (by rw [datL_map, datL_map, List.take_succ_eq_append_getElem hlt, List.map_append]; rfl)
      obtain ⟨b, o, rfl, hb, hX⟩ := HK.out k hlt
      generalize hy : ys[k] = t at H hX HT
      clear hy
      obtain ⟨kt, at', ⟨vk, vn, vs⟩, pt, ct, yt⟩ := t
      have hb' : b < wr.heap.size := by omega
      have q0 := cell_later hI.b (rng hX 0 rfl)
      have q1 := cell_later hI.b (rng hX 1 rfl)
      have q2 := cell_later hI.b (rng hX 2 rfl)
      have q3 := cell_later hI.b (rng hX 3 rfl)
      have q4 := cell_later hI.b (rng hX 4 rfl)
      have q5 := cell_later hI.b (rng hX 5 rfl)
      simp only [Nat.add_zero] at q0
      have HI := hid0 hI
      clear hX hI
      go_wp2_with fail
      go_at_call 70
      refine (H.out _ (HI.out.b.alloc hsz _)).mono ?_
      rintro e w3 ⟨⟨y, rfl, hy, hd⟩, hb3⟩
      obtain ⟨ky, ay, vy, py, cy, yy⟩ := y
      have hb3' := hb3
      rw [World.size_alloc] at hb3' hy
      have hw3 : Below wr.heap.size wr w3 := below_through hb3 (by simp) ((Below.refl _ _).alloc (Nat.le_refl _) _)
      have hown := own_below (HI.out.own.alloc _) hb3
      have hs3 := hw3.size
      have hsw : w.heap.size ≤ w3.heap.size := by omega
      rw [← hd] at HT
      have HY := hid0 hy
      have HW := hid0 hw3
      clear hb3 hb3' q0 q1 q2 q3 q4 q5 hy hd hw3
      have HV := hid0 (VarB.new w3 [.int .i64 ky, .int .i64 ay, .int .i64 vy.k, .int .i64 vy.n, .string vy.s, .slice py yy.length cy] 26).at_
      dsimp only [Cx.val, Cx.cells]
      go_wp2_with (at_builtin; refine app_at rfl _ _ 24 26 rfl i0 _ 6 72 Try.underlying24 hi hz0 hz1 hz2 rfl (by decide) rfl w.heap.size k (zs.map Cx.cells).flatten (hown.alloc _) ⟨w3.heap.size, 0, none⟩ 1 1 [.int .i64 ky, .int .i64 ay, .int .i64 vy.k, .int .i64 vy.n, .string vy.s, .slice py yy.length cy] rfl rfl ?c1 ?c2 ?c3 ?c4 ?c5 ?_)
      case c1 => intro j u hj; rw [WideShapes.add_plain]; exact HV.out j u hj
      case c2 => intro u hu; simp at hu; rcases hu with rfl | rfl | rfl | rfl | rfl | rfl <;> rfl
      case c3 => unfold maxLen; omega
      case c4 => omega
      case c5 => rw [World.size_alloc]; omega
      intro v' w4 hown' hgrow hwh
      have R := HI.out.next HW.out (Nat.le_succ _) HY.out hown' hgrow hwh
      rw [← HT.out] at R
      have R := hid0 R
      clear hown' hgrow hwh hown HV HW HY HI HT
      go_wp2_with fail
      exact ⟨⟨k + 1, _, by omega, by go_num, R.out⟩, by simp [intOf]; omega⟩
    · obtain rfl : k = ys.length := by omega
      have hd := hI.dat
      rw [List.take_length] at hd
      have hb := hI.b
      obtain ⟨a', c', rfl, hc', hR, hA⟩ := hI.done
      have hl := hI.len
      have hR := hid0 hR
      have hA := hid0 hA
      have hd := hid0 hd
      have hb := hid0 hb
      have hc' := hid0 hc'
      have hl := hid0 hl
      clear hI
      go_wp2_with fail
      go_ret
      exact ⟨⟨a', c', zs, rfl, hc'.out, hR.out, hA.out, hd.out⟩, hb.out⟩
theorem own_cx {w w2 w' : World} {n : Nat} {k a : Int} {v : Val} {p p' : Option Addr} {c c' : Nat} {ys zs : List Cx} (hk : CxOk w k a v p c ys) (hc : zs.length ≤ c') {N M : Nat} (hN : M ≤ N) (hR : RowC (hide (elder N) w2) 6 p' (zs.map Cx.cells)) (hA : ∀ z ∈ zs, CxAt (hide (elder N) w2) n z) (hd : datL zs = datL ys)
    (hs : w2.heap.size ≤ w'.heap.size) (hb : ∀ b, N ≤ b → w'.heap[b]? = w2.heap[b]?) : CxAt (hide (elder M) w') (n + 1) (.mk k a v p' c' zs) := by
  have S : Sub (hide (elder N) w2) (hide (elder M) w') := Sub.hide hs fun b _ hp => ⟨elder_no.2 (Nat.le_trans hN (elder_no.1 hp)), hb b (elder_no.1 hp)⟩
  exact ⟨⟨hk.i, hk.k1, hk.k2, hk.a1, hk.a2, hc, by have := hk.room; rw [datL_len hd]; exact this, hR.sub S⟩, fun z hz => (hA z hz).sub S⟩
set_option maxHeartbeats 8000000 in
set_option maxRecDepth 1000000 in
theorem ownCalc_step {n : Nat} (IH : OwnOk n) (k a : Int) (v : Val) (p : Option Addr) (c : Nat) (ys : List Cx) (w : World) (hk : CxOk w k a v p c ys) (hA : ∀ x ∈ ys, CxAt w n x) :
    Calls Try.prog 70 #[(Cx.mk k a v p c ys).val] w (OwnAns w (n + 1) (.mk k a v p c ys)) := by
  obtain ⟨VA, VB⟩ := VarB.two (w := w) [.int .i64 k, .int .i64 a, .int .i64 v.k, .int .i64 v.n, .string v.s, .slice p ys.length c] [.int .i64 0, .int .i64 0, .int .i64 0, .int .i64 0, .string ⟨#[]⟩, .slice none 0 0] 26 26
  have hB0 : Below w.heap.size w ((w.alloc (.cells #[.int .i64 k, .int .i64 a, .int .i64 v.k, .int .i64 v.n, .string v.s, .slice p ys.length c] 26)).alloc (.cells #[.int .i64 0, .int .i64 0, .int .i64 0, .int .i64 0, .string ⟨#[]⟩, .slice none 0 0] 26)) := ((Below.refl _ _).alloc (Nat.le_refl _) _).alloc (by simp) _
  have H := eachX_step IH p c ys _ hk.room (hk.row.later hB0) (fun x hx => (hA x hx).later hB0)
  rw [World.size_alloc, World.size_alloc] at H
  have H := hid0 H
  have HK := hid0 hk
  have a5 := VA.cell 5 rfl
  have VA := hid0 VA
  have VB := hid0 VB
  have hB0 := hid0 hB0
  clear IH hA hk
  show Calls Try.prog 70 #[.agg #[.int .i64 k, .int .i64 a, .int .i64 v.k, .int .i64 v.n, .string v.s, .slice p ys.length c]] w _
  go_enter Try.func70, Try.ntmps70
  go_wp2_with fail
  go_at_call 89
  refine H.out.mono ?_
  rintro e w2 ⟨⟨p', c', zs, rfl, hc', hR, hZ, hd⟩, hb⟩
  have hbl : Below ((w.alloc (.cells #[.int .i64 k, .int .i64 a, .int .i64 v.k, .int .i64 v.n, .string v.s, .slice p ys.length c] 26)).alloc (.cells #[.int .i64 0, .int .i64 0, .int .i64 0, .int .i64 0, .string ⟨#[]⟩, .slice none 0 0] 26)).heap.size ((w.alloc (.cells #[.int .i64 k, .int .i64 a, .int .i64 v.k, .int .i64 v.n, .string v.s, .slice p ys.length c] 26)).alloc (.cells #[.int .i64 0, .int .i64 0, .int .i64 0, .int .i64 0, .string ⟨#[]⟩, .slice none 0 0] 26)) w2 := by rw [World.size_alloc, World.size_alloc]; exact hb
  have hz2 := hbl.size
  rw [World.size_alloc, World.size_alloc] at hz2
  have VA := VA.out.below hbl
  have VB := hid0 (VB.out.below hbl)
  have hB2 := hid0 (below_through hbl hB0.out.size hB0.out)
  have a0 := VA.cell 0 rfl
  have a1 := VA.cell 1 rfl
  have a2 := VA.cell 2 rfl
  have a3 := VA.cell 3 rfl
  have a4 := VA.cell 4 rfl
  have a5 := VA.cell 5 rfl
  have g5 := VA.frz 5 (by simp)
  have r0 := VB.out.cell 0 rfl
  have g0 := VB.out.frz 0 (by simp)
  have r1 := VB.out.cell 1 rfl
  have g1 := VB.out.frz 1 (by simp)
  have r2 := VB.out.cell 2 rfl
  have g2 := VB.out.frz 2 (by simp)
  have r3 := VB.out.cell 3 rfl
  have g3 := VB.out.frz 3 (by simp)
  have r4 := VB.out.cell 4 rfl
  have g4 := VB.out.frz 4 (by simp)
  have r5 := VB.out.cell 5 rfl
  have f5 := VB.out.frz 5 (by simp)
  have HF := hid0 (And.intro hc' (And.intro hR (And.intro hZ hd)))
  clear hb hbl VA hc' hR hZ hd
  go_wp2_with fail
  obtain ⟨hc', hR, hZ, hd⟩ := HF.out
  refine end_blk ((VB.out.other (b := w.heap.size) (o := 5) [.slice p' zs.length c'] (by omega)).puts [.int .i64 k, .int .i64 a, .int .i64 v.k, .int .i64 v.n, .string v.s, .slice p' zs.length c'] rfl) rfl rfl _ Try.underlying26 rfl sizeX rfl ?_
  show OwnAns w (n + 1) (Cx.mk k a v p c ys) (.returned (.agg #[.int .i64 k, .int .i64 a, .int .i64 v.k, .int .i64 v.n, .string v.s, .slice p' zs.length c'])) ((w2.setCells w.heap.size 5 [.slice p' zs.length c']).setCells (w.heap.size + 1) 0 [.int .i64 k, .int .i64 a, .int .i64 v.k, .int .i64 v.n, .string v.s, .slice p' zs.length c'])
  generalize hw3 : w2.setCells w.heap.size 5 [.slice p' zs.length c'] = w3
  have b3 : Below w.heap.size w w3 := by rw [← hw3]; exact below_setCells [.slice p' zs.length c'] 5 hB2.out (Nat.le_refl _)
  have s3 : w3.heap.size = w2.heap.size := by rw [← hw3]; exact size_setCells _ _ _ _
  have t3 : ∀ b, w.heap.size + 2 ≤ b → w3.heap[b]? = w2.heap[b]? := fun b hb => by rw [← hw3]; exact heap_setCells _ _ _ _ b (by omega)
  clear hw3
  generalize hw4 : w3.setCells (w.heap.size + 1) 0 [.int .i64 k, .int .i64 a, .int .i64 v.k, .int .i64 v.n, .string v.s, .slice p' zs.length c'] = w4
  have b4 : Below w.heap.size w w4 := by rw [← hw4]; exact below_setCells _ 0 b3 (by omega)
  have s4 : w4.heap.size = w2.heap.size := by rw [← hw4, size_setCells]; exact s3
  have t4 : ∀ b, w.heap.size + 2 ≤ b → w4.heap[b]? = w2.heap[b]? := fun b hb => by rw [← hw4]; exact (heap_setCells _ _ _ _ b (by omega)).trans (t3 b hb)
  clear hw4
  refine ⟨⟨.mk k a v p' c' zs, rfl, own_cx HK.out hc' (Nat.le_add_right _ 2) hR hZ hd (Nat.le_of_eq s4.symm) t4, by rw [datC, datC, hd]⟩, b4⟩
theorem ownCalc_ok : ∀ n, OwnOk n
  | 0 => ⟨fun x w h => by cases h⟩
  | n + 1 => ⟨fun x w h => by
    obtain ⟨k, a, v, p, c, ys⟩ := x
    exact ownCalc_step (ownCalc_ok n) k a v p c ys w h.1 h.2⟩
end Go.Proofs.Ytolcebbpbihnoaa
