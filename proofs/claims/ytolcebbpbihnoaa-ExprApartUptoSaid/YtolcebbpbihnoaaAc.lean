/- The conditions of which a condition says that all stand, each copied, put behind those that are found: a contract of the call. Conditions: the condition's cells are known, what is found lies in a row of its own, and is not too long. -/
import Derived.Test.YtolcebbpbihnoaaAb
import Derived.Test.YtolcebbpbihnoaaYk
namespace Go.Proofs.Ytolcebbpbihnoaa
open Go.RowKit

theorem Grw.below3 {w w1 w2 : World} {v v1 : Value} (h : Grw w v w1 v1) (hb : Below w1.heap.size w1 w2) : Grw w v w2 v1 :=
  h.trans ⟨⟨hb.os, hb.tape, hb.output, hb.size, fun k hk _ => hb.block k hk⟩, .inl rfl⟩
theorem Grw.app2 {w w1 w2 : World} {v v1 v2 : Value} {o : Obj} (h : Grw w v w1 v1) (g : (w1.alloc o).grownBy w2 v1.ownBlock) (h2 : v2.ownBlock = v1.ownBlock ∨ v2.ownBlock = some (w1.heap.size + 1)) : Grw w v w2 v2 :=
  (h.alloc o).trans ⟨g, h2.imp_right fun e k hk => by rw [e] at hk; cases hk; rw [World.size_alloc]; exact Nat.le_refl _⟩
theorem CopyT.below {w wr w' : World} {n k : Nat} {L : List Nt} {v : Value} {zs : List Tx} (I : CopyT w n L k v wr zs) (hb : Below wr.heap.size wr w') : CopyT w n L k v w' zs :=
  ⟨I.len, own_below I.own hb, fun z hz => (I.at_ z hz).sub (Sub.hide hb.size fun b hlt hp => ⟨hp, hb.block b hlt⟩), I.dat, below_through hb I.b.size I.b⟩
/-- A row of conditions of one's own, each in memory of its own. -/
structure TRow (w0 w : World) (N : Nat) (v : Value) (F : List Nt) : Prop where
  out : ∃ zs, CopyT w0 N F F.length v w zs
theorem TRow.b {w0 w : World} {N : Nat} {v : Value} {F : List Nt} (h : TRow w0 w N v F) : Below w0.heap.size w0 w := h.out.elim fun _ h => h.b
theorem TRow.below {w0 w w' : World} {N : Nat} {v : Value} {F : List Nt} (h : TRow w0 w N v F) (hb : Below w.heap.size w w') : TRow w0 w' N v F := ⟨h.out.elim fun zs h => ⟨zs, h.below hb⟩⟩
theorem TRow.alloc {w0 w : World} {N : Nat} {v : Value} {F : List Nt} (h : TRow w0 w N v F) (o : Obj) : TRow w0 (w.alloc o) N v F := h.below ((Below.refl _ _).alloc (Nat.le_refl _) o)
theorem TRow.lt {w0 w : World} {N : Nat} {v : Value} {F : List Nt} (h : TRow w0 w N v F) : ∀ k, v.ownBlock = some k → w0.heap.size ≤ k ∧ k < w.heap.size := h.out.elim fun _ h => h.own.lt
theorem TRow.box {w0 w : World} {N : Nat} {v : Value} {F : List Nt} (h : TRow w0 w N v F) : v.ownBlock ≠ some w.heap.size := fun e => by have := h.lt _ e; omega
theorem TRow.nil (w : World) (N : Nat) : TRow w w N (.slice none 0 0) [] := ⟨⟨[], rfl, World.ownsRow_nil _ _ _ _, by simp, rfl, Below.refl _ _⟩⟩
def ApAns (w0 : World) (N : Nat) (w : World) (v : Value) (L : List Nt) (e : Ending) (w' : World) : Prop := ∃ v', e = .returned v' ∧ TRow w0 w' N v' L ∧ Grw w v w' v'
structure ApOk (N n : Nat) : Prop where
  out : ∀ (x : Tx) (w0 w : World) (v : Value) (F : List Nt), TxAt w0 n x → TRow w0 w N v F → F.length + sizeT x ≤ 2000000 → Calls Try.prog 43 #[v, x.val] w (ApAns w0 N w v (F ++ (boT x).map datT))
structure ApHalf (w0 : World) (N : Nat) (x : Tx) (s : Nat) : Prop where
  out : ∀ (w : World) (v : Value) (F : List Nt), TRow w0 w N v F → F.length + s ≤ 2000000 → Calls Try.prog 43 #[v, x.val] w (ApAns w0 N w v (F ++ (boT x).map datT))
theorem ApOk.half {N n : Nat} (H : ApOk N n) {w0 : World} {x : Tx} (hx : TxAt w0 n x) : ApHalf w0 N x (sizeT x) := ⟨fun w v F h1 h2 => H.out x w0 w v F hx h1 h2⟩
set_option maxHeartbeats 16000000 in
set_option maxRecDepth 1000000 in
theorem apart_step {N n : Nat} (hN : n + 1 ≤ N) (IH : ApOk N n) (k op : Int) (kl al : Int) (vl : Val) (pl : Option Addr) (cl : Nat) (yl : List Cx) (kr ar : Int) (vr : Val) (pr : Option Addr) (cr : Nat) (yr : List Cx) (p : Option Addr) (c : Nat) (ys : List Tx) (w0 w : World) (v : Value) (F : List Nt) (hx : TxAt w0 (n + 1) (.mk k op (.mk kl al vl pl cl yl) (.mk kr ar vr pr cr yr) p c ys)) (hF : TRow w0 w N v F) (hs : F.length + sizeT (.mk k op (.mk kl al vl pl cl yl) (.mk kr ar vr pr cr yr) p c ys) ≤ 2000000) :
    Calls Try.prog 43 #[v, .agg #[.int .i64 k, .int .i64 op, .int .i64 kl, .int .i64 al, .int .i64 vl.k, .int .i64 vl.n, .string vl.s, .slice pl yl.length cl, .int .i64 kr, .int .i64 ar, .int .i64 vr.k, .int .i64 vr.n, .string vr.s, .slice pr yr.length cr, .slice p ys.length c]] w (ApAns w0 N w v (F ++ (boT (.mk k op (.mk kl al vl pl cl yl) (.mk kr ar vr pr cr yr) p c ys)).map datT)) := by
  obtain ⟨i0, hi, hz0, hz1, hz2⟩ := info_parts infoT
  have V := VarB.new w [.int .i64 k, .int .i64 op, .int .i64 kl, .int .i64 al, .int .i64 vl.k, .int .i64 vl.n, .string vl.s, .slice pl yl.length cl, .int .i64 kr, .int .i64 ar, .int .i64 vr.k, .int .i64 vr.n, .string vr.s, .slice pr yr.length cr, .slice p ys.length c] 38
  have HV := hid0 V
  have a0 := V.cell 0 rfl
  have HF := hid0 hF
  have hF0 := hF.b.size
  clear V
  by_cases h0 : k = 0
  · subst h0
    have HR := hid0 (show F ++ (boT (.mk 0 op (.mk kl al vl pl cl yl) (.mk kr ar vr pr cr yr) p c ys)).map datT = F by rw [boT, if_pos rfl]; simp)
    clear IH hx hs hF
    go_enter Try.func43, Try.ntmps43
    go_wp2_with fail
    go_ret
    exact ⟨_, rfl, by rw [HR.out]; exact HF.out.alloc _, (Grw.refl _ _).alloc _⟩
  by_cases h4 : k = 4
  · subst h4
    obtain ⟨_, hk, hA⟩ := hx
    have H : ∀ j (hj : j < ys.length), ApHalf w0 N ys[j] (sizeT ys[j]) := fun j hj => IH.half (hA _ (List.getElem_mem hj))
    have HH := hid0 H
    have HK := hid0 hk
    have hroom := hk.room
    have hsz0 : F.length + sizeTL ys ≤ 2000000 := by rw [sizeT] at hs; omega
    have HR := hid0 (show F ++ (boT (.mk 4 op (.mk kl al vl pl cl yl) (.mk kr ar vr pr cr yr) p c ys)).map datT = F ++ (boL ys).map datT by rw [boT, if_neg (by decide), if_pos rfl])
    have a14 := HV.out.cell 14 rfl
    clear IH hA H hk hs hF h0
    go_enter Try.func43, Try.ntmps43
    go_wp2_with fail
    go_loopw [0, 17] (fun u i wr => ∃ k : Nat, k ≤ ys.length ∧ i = .int .i64 k ∧ TRow w0 wr N u (F ++ (boL (ys.take k)).map datT) ∧ Grw w v wr u) (fun _ i _ => ys.length - (intOf i).toNat)
    case atStart => exact ⟨0, Nat.zero_le _, rfl, by simpa [boL] using HF.out.alloc _, (Grw.refl _ _).alloc _⟩
    case round =>
      obtain ⟨j, hk, rfl, hI, hG⟩ := hrel
      have hsz := hI.b.size
      by_cases hlt : j < ys.length
      · have H := HH.out j hlt
        have HT := hid0 (boL_take ys j hlt)
        have hs1 := sizeTL_take ys j hlt
        have hs2 := boL_len (ys.take j)
        obtain ⟨b, o, rfl, hb, hX⟩ := HK.out.arg j hlt
        generalize hy : ys[j] = t at H hX HT hs1
        clear hy
        obtain ⟨kt, ot, ⟨kf, af, vf, pf, cf, yf⟩, ⟨kg, ag, vg, pg, cg, yg⟩, pt, ct, yt⟩ := t
        have hb' : b < wr.heap.size := by omega
        have q0 := cell_later hI.b (rng hX 0 rfl)
        have q1 := cell_later hI.b (rng hX 1 rfl)
        have q2 := cell_later hI.b (rng hX 2 rfl)
        have q3 := cell_later hI.b (rng hX 3 rfl)
        have q4 := cell_later hI.b (rng hX 4 rfl)
        have q5 := cell_later hI.b (rng hX 5 rfl)
        have q6 := cell_later hI.b (rng hX 6 rfl)
        have q7 := cell_later hI.b (rng hX 7 rfl)
        have q8 := cell_later hI.b (rng hX 8 rfl)
        have q9 := cell_later hI.b (rng hX 9 rfl)
        have q10 := cell_later hI.b (rng hX 10 rfl)
        have q11 := cell_later hI.b (rng hX 11 rfl)
        have q12 := cell_later hI.b (rng hX 12 rfl)
        have q13 := cell_later hI.b (rng hX 13 rfl)
        have q14 := cell_later hI.b (rng hX 14 rfl)
        simp only [Nat.add_zero] at q0
        have HI := hid0 hI
        have HG := hid0 hG
        clear hX hI hG
        go_wp2_with fail
        go_at_call 43
        refine (H.out _ _ _ (HI.out.alloc _) (by simp only [List.length_append, List.length_map]; omega)).mono ?_
        rintro e w5 ⟨v5, rfl, hI5, hG5⟩
        rw [List.append_assoc, ← List.map_append, ← HT.out] at hI5
        have hG6 := (HG.out.alloc _).trans hG5
        have HI5 := hid0 hI5
        have HG6 := hid0 hG6
        clear hI5 hG5 hG6 HI HG q0 q1 q2 q3 q4 q5 q6 q7 q8 q9 q10 q11 q12 q13 q14
        go_wp2_with fail
        exact ⟨⟨j + 1, by omega, by go_num, HI5.out, HG6.out⟩, by simp [intOf]; omega⟩
      · obtain rfl : j = ys.length := by omega
        rw [List.take_length] at hI
        have HI := hid0 hI
        have HG := hid0 hG
        clear hI hG
        go_wp2_with fail
        go_ret
        exact ⟨_, rfl, by rw [HR.out]; exact HI.out, HG.out⟩
  · have HR := hid0 (show F ++ (boT (.mk k op (.mk kl al vl pl cl yl) (.mk kr ar vr pr cr yr) p c ys)).map datT = F ++ [datT (.mk k op (.mk kl al vl pl cl yl) (.mk kr ar vr pr cr yr) p c ys)] by rw [boT, if_neg h0, if_neg h4]; rfl)
    have HO : OwnHalfT w0 (n + 1) (.mk k op (.mk kl al vl pl cl yl) (.mk kr ar vr pr cr yr) p c ys) := ⟨fun W hb => (ownTest_ok _).out _ _ (hx.later hb)⟩
    have hl : F.length + 1 ≤ 2000000 := by have := sizeT_pos (.mk k op (.mk kl al vl pl cl yl) (.mk kr ar vr pr cr yr) p c ys); omega
    have g0 : (k == 0) = false := by simpa using h0
    have g4 : (k == 4) = false := by simpa using h4
    have HX := HV.out
    have a1 := HX.cell 1 rfl
    have a2 := HX.cell 2 rfl
    have a3 := HX.cell 3 rfl
    have a4 := HX.cell 4 rfl
    have a5 := HX.cell 5 rfl
    have a6 := HX.cell 6 rfl
    have a7 := HX.cell 7 rfl
    have a8 := HX.cell 8 rfl
    have a9 := HX.cell 9 rfl
    have a10 := HX.cell 10 rfl
    have a11 := HX.cell 11 rfl
    have a12 := HX.cell 12 rfl
    have a13 := HX.cell 13 rfl
    have a14 := HX.cell 14 rfl
    clear IH hx hs h0 h4 HX hF
    go_enter Try.func43, Try.ntmps43
    go_wp2_with fail
    go_at_call 60
    refine (HO.out _ (HF.out.alloc _).b).mono ?_
    rintro e w3 ⟨⟨y, rfl, hy, hd⟩, hb3⟩
    have hw3 : Below w.heap.size w w3 := below_through hb3 (by simp) ((Below.refl _ _).alloc (Nat.le_refl _) _)
    have hs3 := hw3.size
    obtain ⟨zs, I⟩ := HF.out.out
    have hown := own_below I.own hw3
    rw [World.size_alloc] at hy
    rw [← hd] at HR
    obtain ⟨ky, oy, ⟨kL, aL, vL, pL, cL, yL⟩, ⟨kR, aR, vR, pR, cR, yR⟩, py, cy, yy⟩ := y
    have HI := hid0 I
    have HY := hid0 (hy.mono hN)
    have HW := hid0 hw3
    have HV3 := hid0 (VarB.new w3 [.int .i64 ky, .int .i64 oy, .int .i64 kL, .int .i64 aL, .int .i64 vL.k, .int .i64 vL.n, .string vL.s, .slice pL yL.length cL, .int .i64 kR, .int .i64 aR, .int .i64 vR.k, .int .i64 vR.n, .string vR.s, .slice pR yR.length cR, .slice py yy.length cy] 38).at_
    clear hb3 hy hd hw3 I HO a0 a1 a2 a3 a4 a5 a6 a7 a8 a9 a10 a11 a12 a13 a14
    dsimp only [Tx.val, Tx.cells, Cx.cells, List.cons_append, List.nil_append]
    go_wp2_with (at_builtin; refine app_at rfl _ _ 36 38 rfl i0 _ 15 184 Try.underlying36 hi hz0 hz1 hz2 rfl (by decide) rfl w0.heap.size F.length (zs.map Tx.cells).flatten (hown.alloc _) ⟨w3.heap.size, 0, none⟩ 1 1 [.int .i64 ky, .int .i64 oy, .int .i64 kL, .int .i64 aL, .int .i64 vL.k, .int .i64 vL.n, .string vL.s, .slice pL yL.length cL, .int .i64 kR, .int .i64 aR, .int .i64 vR.k, .int .i64 vR.n, .string vR.s, .slice pR yR.length cR, .slice py yy.length cy] rfl rfl ?c1 ?c2 ?c3 ?c4 ?c5 ?_)
    case c1 => intro j u hj; rw [WideShapes.add_plain]; exact HV3.out j u hj
    case c2 => intro u hu; simp at hu; rcases hu with rfl | rfl | rfl | rfl | rfl | rfl | rfl | rfl | rfl | rfl | rfl | rfl | rfl | rfl | rfl <;> rfl
    case c3 => unfold maxLen; omega
    case c4 => omega
    case c5 => rw [World.size_alloc]; omega
    intro v' w4 hown' hgrow hwh
    have R := HI.out.next HW.out (Nat.le_succ _) HY.out hown' hgrow hwh
    have G : Grw w v w4 v' := ((Grw.refl w v).below3 HW.out).app2 hgrow hwh
    have R := hid0 R
    have G := hid0 G
    clear hown' hgrow hwh hown HV3 HW HY HI
    go_wp2_with fail
    go_ret
    exact ⟨_, rfl, by rw [HR.out]; exact ⟨⟨_, by rw [List.length_append]; exact R.out⟩⟩, G.out⟩
theorem apart_all {N : Nat} : ∀ n, n ≤ N → ApOk N n
  | 0, _ => ⟨fun _ _ _ _ _ h _ _ => h.elim⟩
  | n + 1, hN => ⟨fun x w0 w v F hx hF hs => by
    obtain ⟨k, op, ⟨kl, al, vl, pl, cl, yl⟩, ⟨kr, ar, vr, pr, cr, yr⟩, p, c, ys⟩ := x
    exact apart_step hN (apart_all n (Nat.le_of_succ_le hN)) k op kl al vl pl cl yl kr ar vr pr cr yr p c ys w0 w v F hx hF hs⟩
end Go.Proofs.Ytolcebbpbihnoaa
