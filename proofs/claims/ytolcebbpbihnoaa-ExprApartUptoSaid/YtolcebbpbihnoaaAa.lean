/- Conditions copied, each in a row, into memory of their own: contracts of the calls, in whatever memory. Conditions: a condition's cells are known. -/
import Derived.Test.YtolcebbpbihnoaaY9
namespace Go.Proofs.Ytolcebbpbihnoaa
open Go.RowKit

/-- A copy is answered: it lies where memory is new. -/
def OwnAnsT (w : World) (n : Nat) (x : Tx) (e : Ending) (w' : World) : Prop := (∃ y : Tx, e = .returned y.val ∧ TxAt (hide (elder w.heap.size) w') n y ∧ datT y = datT x) ∧ Below w.heap.size w w'
structure OwnOkT (n : Nat) : Prop where
  out : ∀ (x : Tx) (w : World), TxAt w n x → Calls Try.prog 60 #[x.val] w (OwnAnsT w n x)
structure OwnHalfT (w : World) (n : Nat) (x : Tx) : Prop where
  out : ∀ W, Below w.heap.size w W → Calls Try.prog 60 #[x.val] W (OwnAnsT W n x)
/-- Some of a row's expressions are copied. -/
structure CopyT (w : World) (n : Nat) (L : List Nt) (k : Nat) (v : Value) (wr : World) (zs : List Tx) : Prop where
  len : zs.length = k
  own : wr.ownsRow w.heap.size 38 15 v k (zs.map Tx.cells).flatten
  at_ : ∀ z ∈ zs, TxAt (hide (elderOr w.heap.size v.ownBlock) wr) n z
  dat : datTL zs = L
  b : Below w.heap.size w wr
theorem CopyT.next {w wr w3 w4 : World} {o : Obj} {n k : Nat} {L : List Nt} {v v' : Value} {zs : List Tx} {y : Tx} (I : CopyT w n L k v wr zs) (h3 : Below wr.heap.size wr w3) {N : Nat} (hN : wr.heap.size ≤ N) (hy : TxAt (hide (elder N) w3) n y)
    (hown : w4.ownsRow w.heap.size 38 15 v' (k + 1) ((zs.map Tx.cells).flatten ++ y.cells)) (hg : (w3.alloc o).grownBy w4 v.ownBlock) (hv : v'.ownBlock = v.ownBlock ∨ v'.ownBlock = some (w3.heap.size + 1)) :
    CopyT w n (L ++ [datT y]) (k + 1) v' w4 (zs ++ [y]) := by
  have hs1 := I.b.size
  have hs3 := h3.size
  have hs4 := hg.size
  rw [World.size_alloc] at hs4
  have hlt := I.own.lt
  have hsame : ∀ b, b < w3.heap.size → v.ownBlock ≠ some b → w4.heap[b]? = w3.heap[b]? := fun b hb hne => (hg.block b (by rw [World.size_alloc]; omega) (fun e => hne e.symm)).trans (heap_alloc_old w3 o hb)
  have hfar : ∀ b, b < w3.heap.size → v.ownBlock ≠ some b → v'.ownBlock ≠ some b := fun b hb hne e => by
    rcases hv with e2 | e2
    · rw [e2] at e; exact hne e
    · rw [e2] at e; cases e; omega
  refine ⟨by rw [List.length_append, I.len]; rfl, by simpa using hown, fun z hz => ?_, ?_, ?_⟩
  · rcases List.mem_append.1 hz with hz | hz
    · refine (I.at_ z hz).sub (Sub.hide (by omega) fun b hb hp => ?_)
      obtain ⟨p1, p2⟩ := elderOr_no.1 hp
      exact ⟨elderOr_no.2 ⟨p1, hfar b (by omega) p2⟩, (hsame b (by omega) p2).trans (h3.block b hb)⟩
    · obtain rfl : z = y := by simpa using hz
      refine hy.sub (Sub.hide (by omega) fun b hb hp => ?_)
      have p1 := elder_no.1 hp
      have p2 : v.ownBlock ≠ some b := fun e => by have := (hlt b e).2; omega
      exact ⟨elderOr_no.2 ⟨by omega, hfar b hb p2⟩, hsame b hb p2⟩
  · rw [datTL_map, List.map_append, ← datTL_map, I.dat]; rfl
  · exact ((below_through h3 (by omega) I.b).alloc (by omega) o).grown hg (by rw [World.size_alloc]; omega) (fun j hj => (hlt j hj).1)
theorem CopyT.done {w wr : World} {n k : Nat} {L : List Nt} {v : Value} {zs : List Tx} (I : CopyT w n L k v wr zs) : ∃ a c, v = .slice a zs.length c ∧ zs.length ≤ c ∧ RowC (hide (elder w.heap.size) wr) 15 a (zs.map Tx.cells) ∧ (∀ z ∈ zs, TxAt (hide (elder w.heap.size) wr) n z) := by
  obtain ⟨a, c, hv, hc, hR⟩ := rows_owned (fun u hu => by obtain ⟨z, _, rfl⟩ := List.mem_map.1 hu; exact z.cells_len) I.own (by rw [List.length_map, I.len])
  rw [← I.len] at hv hc
  exact ⟨a, c, hv, hc, hR, fun z hz => (I.at_ z hz).sub (Sub.hide (Nat.le_refl _) fun b _ hp => ⟨elder_no.2 (elderOr_no.1 hp).1, rfl⟩)⟩
set_option maxHeartbeats 8000000 in
set_option maxRecDepth 1000000 in
theorem eachT_step {n : Nat} (IH : OwnOkT n) (p : Option Addr) (c : Nat) (ys : List Tx) (w : World) (hroom : ys.length * 184 ≤ 140737488351232) (hrow : RowC w 15 p (ys.map Tx.cells)) (hA : ∀ x ∈ ys, TxAt w n x) :
    Calls Try.prog 71 #[.slice p ys.length c, .func (.func 60) #[] #[]] w fun e w' => (∃ p' c' zs, e = .returned (.slice p' (zs : List Tx).length c') ∧ zs.length ≤ c' ∧ RowC (hide (elder w.heap.size) w') 15 p' (zs.map Tx.cells) ∧ (∀ z ∈ zs, TxAt (hide (elder w.heap.size) w') n z) ∧ datTL zs = datTL ys) ∧ Below w.heap.size w w' := by
  obtain ⟨i0, hi, hz0, hz1, hz2⟩ := info_parts infoT
  have H : ∀ j (hj : j < ys.length), OwnHalfT w n ys[j] := fun j hj => ⟨fun W hb => IH.out _ W ((hA _ (List.getElem_mem hj)).later hb)⟩
  have HH := hid0 H
  have HK : Hid (∀ i (hi : i < ys.length), ∃ b o, p = some ⟨b, o, none⟩ ∧ b < w.heap.size ∧ w.rangeAt b (o + i * 15) (ys[i]).cells) := hid0 fun i hi => by
    obtain ⟨b, o, e, hlt, hR⟩ := hrow.out i (by simpa using hi)
    exact ⟨b, o, e, hlt, by simpa using hR⟩
  clear IH hA H hrow
  go_enter Try.func71, Try.ntmps71
  go_wp2_with fail
  go_at_call 90
  refine (growT_any ys.length _ (by omega)).mono ?_
  rintro e w0 ⟨⟨v0, rfl, O0⟩, hb0⟩
  have O0 := hid0 (show CopyT w n (datTL (ys.take 0)) 0 v0 w0 [] from ⟨rfl, O0, by simp, rfl, hb0⟩)
  go_wp2_with fail
  go_loopw [5, 13] (fun v i wr => ∃ (k : Nat) (zs : List Tx), k ≤ ys.length ∧ i = .int .i64 k ∧ CopyT w n (datTL (ys.take k)) k v wr zs) (fun _ i _ => ys.length - (intOf i).toNat)
  case atStart => exact ⟨0, [], Nat.zero_le _, rfl, O0.out⟩
  case round =>
    obtain ⟨k, zs, hk, rfl, hI⟩ := hrel
    have hsz := hI.b.size
    by_cases hlt : k < ys.length
    · have H := (HH.out k hlt)
      have HT : Hid (datTL (ys.take (k + 1)) = datTL (ys.take k) ++ [datT ys[k]]) := hid0 (by rw [datTL_map, datTL_map, List.take_succ_eq_append_getElem hlt, List.map_append]; rfl)
      obtain ⟨b, o, rfl, hb, hX⟩ := HK.out k hlt
      generalize hy : ys[k] = t at H hX HT
      clear hy
      obtain ⟨kt, ot, ⟨kf, af, ⟨vfk, vfn, vfs⟩, pf, cf, yf⟩, ⟨kg, ag, ⟨vgk, vgn, vgs⟩, pg, cg, yg⟩, pt, ct, yt⟩ := t
      have hb' : b < wr.heap.size := by omega
      have q0 := cell_later hI.b (rng hX 0 rfl)
      have q1 := cell_later hI.b (rng hX 1 rfl)
      have q2 := cell_later hI.b (rng hX 2 rfl)
      have q3 := cell_later hI.b (rng hX 3 rfl)
      have q4 := cell_later hI.b (rng hX 4 rfl)
      have q5 := cell_later hI.b (rng hX 5 rfl)
      have q6 := cell_later hI.b (rng hX 6 rfl)
      have q7 := cell_later hI.b (rng hX 7 rfl)
      have q8 := cell_later hI.b (rng hX 8 rfl)
      have q9 := cell_later hI.b (rng hX 9 rfl)
      have q10 := cell_later hI.b (rng hX 10 rfl)
      have q11 := cell_later hI.b (rng hX 11 rfl)
      have q12 := cell_later hI.b (rng hX 12 rfl)
      have q13 := cell_later hI.b (rng hX 13 rfl)
      have q14 := cell_later hI.b (rng hX 14 rfl)
      simp only [Nat.add_zero] at q0
      have HI := hid0 hI
      clear hX hI
      go_wp2_with fail
      go_at_call 60
      refine (H.out _ (HI.out.b.alloc hsz _)).mono ?_
      rintro e w3 ⟨⟨y, rfl, hy, hd⟩, hb3⟩
      obtain ⟨ky, oy, ⟨kL, aL, vL, pL, cL, yL⟩, ⟨kR, aR, vR, pR, cR, yR⟩, py, cy, yy⟩ := y
      have hb3' := hb3
      rw [World.size_alloc] at hb3' hy
      have hw3 : Below wr.heap.size wr w3 := below_through hb3 (by simp) ((Below.refl _ _).alloc (Nat.le_refl _) _)
      have hown := own_below (HI.out.own.alloc _) hb3
      have hs3 := hw3.size
      have hsw : w.heap.size ≤ w3.heap.size := by omega
      rw [← hd] at HT
      have HY := hid0 hy
      have HW := hid0 hw3
      clear hb3 hb3' q0 q1 q2 q3 q4 q5 q6 q7 q8 q9 q10 q11 q12 q13 q14 hy hd hw3
      have HV := hid0 (VarB.new w3 [.int .i64 ky, .int .i64 oy, .int .i64 kL, .int .i64 aL, .int .i64 vL.k, .int .i64 vL.n, .string vL.s, .slice pL yL.length cL, .int .i64 kR, .int .i64 aR, .int .i64 vR.k, .int .i64 vR.n, .string vR.s, .slice pR yR.length cR, .slice py yy.length cy] 38).at_
      dsimp only [Tx.val, Tx.cells, Cx.cells, List.cons_append, List.nil_append]
      go_wp2_with (at_builtin; refine app_at rfl _ _ 36 38 rfl i0 _ 15 184 Try.underlying36 hi hz0 hz1 hz2 rfl (by decide) rfl w.heap.size k (zs.map Tx.cells).flatten (hown.alloc _) ⟨w3.heap.size, 0, none⟩ 1 1 [.int .i64 ky, .int .i64 oy, .int .i64 kL, .int .i64 aL, .int .i64 vL.k, .int .i64 vL.n, .string vL.s, .slice pL yL.length cL, .int .i64 kR, .int .i64 aR, .int .i64 vR.k, .int .i64 vR.n, .string vR.s, .slice pR yR.length cR, .slice py yy.length cy] rfl rfl ?c1 ?c2 ?c3 ?c4 ?c5 ?_)
      case c1 => intro j u hj; rw [WideShapes.add_plain]; exact HV.out j u hj
      case c2 => intro u hu; simp at hu; rcases hu with rfl | rfl | rfl | rfl | rfl | rfl | rfl | rfl | rfl | rfl | rfl | rfl | rfl | rfl | rfl <;> rfl
      case c3 => unfold maxLen; omega
      case c4 => omega
      case c5 => rw [World.size_alloc]; omega
      intro v' w4 hown' hgrow hwh
      have R := HI.out.next HW.out (Nat.le_succ _) HY.out hown' hgrow hwh
      rw [← HT.out] at R
      have R := hid0 R
      clear hown' hgrow hwh hown HV HW HY HI HT
      go_wp2_with fail
      exact ⟨⟨k + 1, _, by omega, by go_num, R.out⟩, by simp [intOf]; omega⟩
    · obtain rfl : k = ys.length := by omega
      have hd := hI.dat
      rw [List.take_length] at hd
      have hb := hI.b
      obtain ⟨a', c', rfl, hc', hR, hA⟩ := hI.done
      have hl := hI.len
      have hR := hid0 hR
      have hA := hid0 hA
      have hd := hid0 hd
      have hb := hid0 hb
      have hc' := hid0 hc'
      have hl := hid0 hl
      clear hI
      go_wp2_with fail
      go_ret
      exact ⟨⟨a', c', zs, rfl, hc'.out, hR.out, hA.out, hd.out⟩, hb.out⟩
end Go.Proofs.Ytolcebbpbihnoaa
