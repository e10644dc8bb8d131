/- Several of my texts laid together, each as it was: T25. Conditions: each names its own. -/
import Derived.Test.YtadidikegfiedaaF1
import Derived.Test.YtadidikegfiedaaB6
import Derived.Test.YtadidikegfiedaaD3
/- What changes make of a log (the reference's Add): a contract of the call, in whatever memory. Conditions: the log's and the changes' cells are known. -/
namespace Go.Proofs.Ytadidikegfiedaa
open Go.RowKit

def RAddAns (w : World) (f : Int) (R : List Dat × Int) (e : Ending) (w' : World) : Prop := (∃ a c F, e = .returned (.tuple #[.agg #[.int .i64 f, .slice a F.length c], .int .i64 R.2]) ∧ EntsAt w' a F ∧ F.map dat = R.1) ∧ Below w.heap.size w w'
theorem radd_of {w w' : World} {f : Int} {R : List Dat × Int} {a : Option Addr} {n c : Nat} {F : List Ent} {k : Int} {rb : Nat} (hn : F.length = n) (hM : MkN rb w w' (.slice a n c) F) (hk : k = R.2) (hd : F.map dat = R.1) : RAddAns w f R (.returned (.tuple #[.agg #[.int .i64 f, .slice a n c], .int .i64 k])) w' := by
  subst hn hk
  obtain ⟨a', c', e, _, hE⟩ := hM.ents
  obtain ⟨rfl, -, rfl⟩ := Value.slice.inj e
  exact ⟨⟨_, _, F, rfl, hE, hd⟩, hM.b⟩
theorem radd_old {w w' : World} {f : Int} {R : List Dat × Int} {D : List Dat} {a : Option Addr} {n c B : Nat} {L : List Ent} {us : List Value} {k : Int} {t : TypeId} (hn : L.length = n) (hb : Below w.heap.size w w') (hB : w.heap.size ≤ B) (_ : VarT w' B us t) (vs : List Value) (hL : EntsAt w a L) (hD : L.map dat = D) (hk : k = R.2) (hd : D = R.1) : RAddAns w f R (.returned (.tuple #[.agg #[.int .i64 f, .slice a n c], .int .i64 k])) (w'.setCells B 0 vs) := by
  subst hn hk
  have hb2 := below_setCells vs 0 hb hB
  exact ⟨⟨_, _, L, rfl, hL.later hb2, hD.trans hd⟩, hb2⟩
structure SR0 (w : World) (b3 b6 : Nat) (us : List Value) (W : World) : Prop where
  v3 : VarT W b3 us 24
  v6 : VarT W b6 [.int .i64 0, .slice none 0 0] 24
  b : Below w.heap.size w W
theorem SR0.below {w : World} {b3 b6 : Nat} {us : List Value} {W W' : World} (h : SR0 w b3 b6 us W) (hb : Below W.heap.size W W') : SR0 w b3 b6 us W' := ⟨h.v3.below hb, h.v6.below hb, below_through hb h.b.size h.b⟩
structure SPq (b3 : Nat) (us : List Value) (g p : Nat) (u : Value) (W : World) : Prop where
  v : VarB W b3 us
  c : W.cell? ⟨g, p, none⟩ = some u
/-- While entries are appended: the box, the result's, and the list. -/
structure SAq (w : World) (b3 b6 : Nat) (f : Int) (v u : Value) (F : List Ent) (W : World) : Prop where
  v3 : VarT W b3 [.int .i64 f, v] 24
  v6 : VarT W b6 [.int .i64 0, .slice none 0 0] 24
  m : MkN w.heap.size w W u F
theorem SAq.below {w : World} {b3 b6 : Nat} {f : Int} {v u : Value} {F : List Ent} {W W' : World} (h : SAq w b3 b6 f v u F W) (hb : Below W.heap.size W W') : SAq w b3 b6 f v u F W' := ⟨h.v3.below hb, h.v6.below hb, h.m.below hb⟩
theorem SAq.drew {w : World} {b3 b6 : Nat} {f : Int} {v u : Value} {F : List Ent} {W : World} (h : SAq w b3 b6 f v u F W) : SAq w b3 b6 f v u F W.drew := h.below (Below.drew (Below.refl _ _))
theorem SAq.app {w : World} {b3 b6 : Nat} {f : Int} {v u u' : Value} {F F' : List Ent} {W W' : World} (h : SAq w b3 b6 f v u F W) (hM : MkN w.heap.size w W' u' F') (hK : KeptT 49 w.heap.size W W') : SAq w b3 b6 f v u' F' W' := ⟨h.v3.keptT (by decide) hK, h.v6.keptT (by decide) hK, hM⟩
theorem SAq.stored {w : World} {b3 b6 : Nat} {f : Int} {v u : Value} {F : List Ent} {W : World} (h : SAq w b3 b6 f v u F W) (h8 : w.heap.size ≤ b3 ∧ b6 ≠ b3) : SAq w b3 b6 f u u F (W.setCell ⟨b3, 1, none⟩ u) := ⟨h.v3.set u (by simp), h.v6.other (b := b3) (o := 1) [u] h8.2, h.m.puts h.v3 h8.1 (by decide) (h.m.apart h.v3 (by decide)) [u] 1⟩
/-- A row appended to an empty one that was just made, at a step of a region that draws its order. -/
theorem step_copyrow {w : World} {ops : Array Oper} {o : Oper} {a : Act} {K : Act → World → Prop} {Q : Exit → Act → World → Prop} {X : Prop} (hgd : o.guard = none) (s x : Operand)
    (ho : o.op = .call { callee := .builtin .append, args := #[s, x], argTypes := #[44, 44] })
    (B : Nat) (hB : B ≤ w.heap.size) (hs : a.eval s = .slice (some ⟨B, 0, none⟩) 0 0) (hown : w.ownsRow B 62 3 (.slice (some ⟨B, 0, none⟩) 0 0) 0 [])
    (ra : Option Addr) (rc : Nat) (r : List Val) (hx : a.eval x = .slice ra r.length rc) (h : RowAt w ra r) (hr : rowOK r)
    (hK : ∀ a' c' w', RowG w' 0 a' r → Below B w w' → K (a.put o.dst (.slice a' r.length c')) w') :
    if Region.wanted o (yielded ops a.tmps) = true then Oper.wp Try.prog o a w K Q else X := by
  have hw : Region.wanted o (yielded ops a.tmps) = true := by simp [Region.wanted, hgd]
  rw [if_pos hw]
  obtain ⟨i0, hi, hz0, hz1, hz2⟩ := info_parts info41
  have hr' := hr
  unfold rowOK at hr'
  cases ra with
  | none =>
    obtain rfl : r = [] := by
      by_cases hn : r = []
      · exact hn
      · obtain ⟨b, off, e, _⟩ := h hn; simp at e
    have hrun := run_append_none (P := Try.prog) w 44 o.type 62 i0 Try.underlying44 hi (some ⟨B, 0, none⟩) 0 0 rc (Nat.le_refl _)
    unfold Oper.wp execOp
    simp only [List.length_nil] at hx
    simp only [ho, resolve, invoke, builtin, Sem.run_bind, Sem.run_pure, Result.andThen_ok, List.map_toArray, List.map_cons, List.map_nil, hs, hx, hrun]
    exact hK (some ⟨B, 0, none⟩) 0 w ⟨fun h => absurd rfl h, hr, fun h => absurd rfl h⟩ (Below.refl _ _)
  | some ad =>
    obtain ⟨v', w', hrun, h2, h3, _, h5⟩ := run_append_own_at (P := Try.prog) w B 44 o.type 62 i0 (.agg #[.int .i64 0, .int .i64 0, .string ⟨#[]⟩]) 3 32 Try.underlying44 hi hz0 hz1 hz2 rfl (by decide) (.slice (some ⟨B, 0, none⟩) 0 0) 0 [] hown ad r.length rc (rowCells r) (rowCells_len r)
      (by
        by_cases hn : r = []
        · subst hn; intro j u hj; simp [rowCells] at hj
        · obtain ⟨b, off, e, hc⟩ := h hn
          obtain rfl : ad = ⟨b, off, none⟩ := by simpa using e
          exact rowCells_of (fun _ => ⟨b, off, rfl, hc⟩))
      (rowCells_one r) (by unfold maxLen; omega) (by omega) hB
    rw [Nat.zero_add, List.nil_append] at h2
    obtain ⟨a', c', rfl, _, _, hrow⟩ := row_owned h2
    have hb : Below B w w' := (Below.refl _ _).grown h3 hB (fun k hk => by
      have : k = B := (Option.some.inj hk).symm
      omega)
    unfold Oper.wp execOp
    simp only [ho, resolve, invoke, builtin, Sem.run_bind, Sem.run_pure, Result.andThen_ok, List.map_toArray, List.map_cons, List.map_nil, hs, hx, hrun]
    refine hK a' c' w' ⟨hrow, hr, fun hn => ?_⟩ hb
    rcases h2.2 with ⟨e, hl⟩ | ⟨g, cap', cur, e, hg, hh, _⟩
    · exact absurd (List.length_eq_zero_iff.1 hl) hn
    · obtain ⟨rfl, -, -⟩ := Value.slice.inj e
      exact ⟨_, rfl, .inr ⟨cur, (0, 0), hh⟩⟩
set_option maxHeartbeats 8000000 in
set_option maxRecDepth 1000000 in
theorem refAdd16_any (f : Int) (a : Option Addr) (c : Nat) (L : List Ent) (scn : Int) (a2 : Option Addr) (c2 : Nat) (E : List Elem) (w : World) (hL : EntsAt w a L) (hE : ElemsI w a2 c2 E) (hfew : L.length ≤ 1000000) :
    Calls Try.prog 7 #[.agg #[.int .i64 f, .slice a L.length c], .int .i64 scn, .slice a2 E.length c2] w (RAddAns w f (addM f (L.map dat) scn E)) := by
  have hS : SR0 w w.heap.size (w.heap.size + 1) [.int .i64 f, .slice a L.length c] ((w.alloc (Obj.cells #[.int .i64 f, .slice a L.length c] 24)).alloc (Obj.cells #[.int .i64 0, .slice none 0 0] 24)) :=
    ⟨(VarT.new w [.int .i64 f, .slice a L.length c] 24).alloc _, VarT.newAt (w.alloc (Obj.cells #[.int .i64 f, .slice a L.length c] 24)) [.int .i64 0, .slice none 0 0] 24 (by simp), ((Below.refl _ _).alloc (Nat.le_refl _) _).alloc (by simp) _⟩
  have CR := hid0 (fun W (hW : Below w.heap.size w W) => refRight16_any f a c L W (hL.later hW) (by omega))
  have CB := hid0 (fun W (hW : Below w.heap.size w W) => refBagRight_all a2 c2 E W (hE.later hW))
  have CZ := hid0 (fun W (hW : Below w.heap.size w W) (hr : rightE E = true) => refSize16_any a2 c2 E W (hE.at_.later hW) hE.few (rightE_small hr))
  have HL := hid0 hL
  have HE := hid0 hE
  obtain ⟨D, hD⟩ : ∃ D, L.map dat = D := ⟨_, rfl⟩
  have HD := hid0 hD
  have HLD := hid0 (show D.length ≤ 1000000 by rw [← hD, List.length_map]; exact hfew)
  have HDL := hid0 (show L.length = D.length by rw [← hD, List.length_map])
  rw [hD] at CR ⊢
  obtain ⟨n, hn⟩ : ∃ n, L.length = n := ⟨_, rfl⟩
  obtain ⟨m, hm⟩ : ∃ m, E.length = m := ⟨_, rfl⟩
  have HN := hid0 hn
  have HM := hid0 hm
  have hmf : m ≤ 4398046511104 := by rw [← hm]; exact hE.few
  rw [hn] at CR hS hfew ⊢
  rw [hm] at CB CZ ⊢
  clear hL hE hD hn hm
  have a0 := hS.v3.v.cell 0 rfl
  have a1 := hS.v3.v.cell 1 rfl
  go_enter Try.func7, Try.ntmps7
  go_wp2_with fail
  generalize ((w.alloc (Obj.cells #[.int .i64 f, .slice a n c] 24)).alloc (Obj.cells #[.int .i64 0, .slice none 0 0] 24)) = w1 at *
  clear a0 a1
  refine Calls.mono (CR.out _ hS.b) ?_
  rintro e w3 ⟨rfl, hb3⟩
  have hS := hS.below hb3
  clear hb3
  obtain ⟨rd, hrd⟩ : ∃ rd, rightD f D = rd := ⟨_, rfl⟩
  rw [hrd]
  cases rd with
  | false =>
    have hmod : addM f D scn E = (D, 1) := by unfold addM; rw [if_neg (by rw [hrd]; simp)]
    have a0 := hS.v3.v.cell 0 rfl
    have a1 := hS.v3.v.cell 1 rfl
    have z0 := hS.v6.v.cell 0 rfl
    have z1 := hS.v6.v.cell 1 rfl
    have y0 := hS.v6.v.frz 0 (by simp)
    have y1 := hS.v6.v.frz 1 (by simp)
    have HS := hid0 hS
    clear hS
    go_wp2_with fail
    have hS := HS.out
    exact end_vt (hS.v6.v.puts [.int .i64 f, .slice a n c] rfl) rfl rfl rfl _ Try.underlying24 rfl sizeLog rfl (radd_old HN.out hS.b (by omega) hS.v6 [.int .i64 f, .slice a n c] HL.out HD.out (by rw [hmod]) (by rw [hmod]))
  | true =>
    have HRD := hid0 hrd
    clear hrd
    have a0 := hS.v3.v.cell 0 rfl
    have a1 := hS.v3.v.cell 1 rfl
    have z0 := hS.v6.v.cell 0 rfl
    have z1 := hS.v6.v.cell 1 rfl
    have y0 := hS.v6.v.frz 0 (by simp)
    have y1 := hS.v6.v.frz 1 (by simp)
    have HS := hid0 hS
    clear hS
    go_wp2_with fail
    have hS := HS.out
    clear HS a0 a1 z0 z1 y0 y1
    refine Calls.mono (CB.out _ hS.b) ?_
    rintro e w4 ⟨rfl, hb4⟩
    have hS := hS.below hb4
    clear hb4
    obtain ⟨rb, hrb⟩ : ∃ rb, rightE E = rb := ⟨_, rfl⟩
    rw [hrb]
    cases rb with
    | false =>
      have hmod : addM f D scn E = (D, 1) := by unfold addM; rw [if_neg (by rw [hrb]; simp)]
      have a0 := hS.v3.v.cell 0 rfl
      have a1 := hS.v3.v.cell 1 rfl
      have z0 := hS.v6.v.cell 0 rfl
      have z1 := hS.v6.v.cell 1 rfl
      have y0 := hS.v6.v.frz 0 (by simp)
      have y1 := hS.v6.v.frz 1 (by simp)
      have HS := hid0 hS
      clear hS
      go_wp2_with fail
      have hS := HS.out
      exact end_vt (hS.v6.v.puts [.int .i64 f, .slice a n c] rfl) rfl rfl rfl _ Try.underlying24 rfl sizeLog rfl (radd_old HN.out hS.b (by omega) hS.v6 [.int .i64 f, .slice a n c] HL.out HD.out (by rw [hmod]) (by rw [hmod]))
    | true =>
      have HRB := hid0 hrb
      clear hrb
      obtain ⟨la, hla⟩ : ∃ la, lastD f D = la := ⟨_, rfl⟩
      have HLA := hid0 hla
      have hfl : f ≤ la := by
        rw [← hla]
        exact lastD_from (f := f) (fun x hx => (okD_lt (((rightD_iff f D).1 HRD.out).2.1 x hx)).1)
      by_cases hsf : scn ≤ f
      · have hmod : addM f D scn E = (D, 1) := by unfold addM; rw [if_neg (by rw [hla]; intro h; omega)]
        have hd : decide (scn ≤ f) = true := by simpa using hsf
        clear hla
        have a0 := hS.v3.v.cell 0 rfl
        have a1 := hS.v3.v.cell 1 rfl
        have z0 := hS.v6.v.cell 0 rfl
        have z1 := hS.v6.v.cell 1 rfl
        have y0 := hS.v6.v.frz 0 (by simp)
        have y1 := hS.v6.v.frz 1 (by simp)
        have HS := hid0 hS
        clear hS
        go_wp2_with fail
        have hS := HS.out
        exact end_vt (hS.v6.v.puts [.int .i64 f, .slice a n c] rfl) rfl rfl rfl _ Try.underlying24 rfl sizeLog rfl (radd_old HN.out hS.b (by omega) hS.v6 [.int .i64 f, .slice a n c] HL.out HD.out (by rw [hmod]) (by rw [hmod]))
      · have hd : decide (scn ≤ f) = false := by simpa using hsf
        by_cases hne : L = []
        · have hz0 : ¬ (0 : Int) < (n : Int) := by rw [← HN.out, hne]; simp
          have hlf : la = f := by rw [← hla, ← HD.out, hne]; rfl
          have HMOD := hid0 (show addM f D scn E = (if 4000 < absS (E.map pr) then (D, 3) else (D ++ entsD scn (E.map pr), 0)) by unfold addM; rw [if_pos ⟨HRD.out, HRB.out, by rw [hla]; omega⟩])
          clear hla hlf hne
          have a0 := hS.v3.v.cell 0 rfl
          have a1 := hS.v3.v.cell 1 rfl
          have z0 := hS.v6.v.cell 0 rfl
          have z1 := hS.v6.v.cell 1 rfl
          have y0 := hS.v6.v.frz 0 (by simp)
          have y1 := hS.v6.v.frz 1 (by simp)
          have HS := hid0 hS
          clear hS
          go_wp2_with fail
          have hS := HS.out
          clear HS a0 a1 z0 z1 y0 y1
          refine Calls.mono (CZ.out _ hS.b HRB.out) ?_
          rintro e w6 ⟨rfl, hb6⟩
          have hS := hS.below hb6
          clear hb6
          by_cases hbig : 4000 < absS (E.map pr)
          · have hmod : addM f D scn E = (D, 3) := by rw [HMOD.out, if_pos hbig]
            have hz : 4000 < sizeS (E.map pr) := sizeS_le.2 hbig
            generalize sizeS (E.map pr) = z at hz ⊢
            have hd : decide (4000 < z) = true := by simpa using hz
            clear hbig
            have a0 := hS.v3.v.cell 0 rfl
            have a1 := hS.v3.v.cell 1 rfl
            have z0 := hS.v6.v.cell 0 rfl
            have z1 := hS.v6.v.cell 1 rfl
            have y0 := hS.v6.v.frz 0 (by simp)
            have y1 := hS.v6.v.frz 1 (by simp)
            have HS := hid0 hS
            clear hS
            go_wp2_with fail
            have hS := HS.out
            exact end_vt (hS.v6.v.puts [.int .i64 f, .slice a n c] rfl) rfl rfl rfl _ Try.underlying24 rfl sizeLog rfl (radd_old HN.out hS.b (by omega) hS.v6 [.int .i64 f, .slice a n c] HL.out HD.out (by rw [hmod]) (by rw [hmod]))
          · have hmod : addM f D scn E = (D ++ entsD scn (E.map pr), 0) := by rw [HMOD.out, if_neg hbig]
            have hz : ¬ 4000 < sizeS (E.map pr) := fun h => hbig (sizeS_le.1 h)
            generalize sizeS (E.map pr) = z at hz ⊢
            have hd : decide (4000 < z) = false := by simpa using hz
            have HSM := hid0 (show absS (E.map pr) ≤ 4000 by omega)
            have HMD := hid0 hmod
            clear hbig hmod HMOD
            have a0 := hS.v3.v.cell 0 rfl
            have a1 := hS.v3.v.cell 1 rfl
            have z0 := hS.v6.v.cell 0 rfl
            have z1 := hS.v6.v.cell 1 rfl
            have y0 := hS.v6.v.frz 0 (by simp)
            have y1 := hS.v6.v.frz 1 (by simp)
            have f1 := hS.v3.v.frz 1 (by simp)
            have hM0 : MkN w.heap.size w (w6.alloc (Obj.cells #[] 49)) (.slice (some ⟨w6.heap.size, 0, none⟩) 0 0) [] := ⟨⟨World.ownsRow_made w6 #[] 0 hS.b.size (by unfold maxLen; omega) rfl⟩, fun _ h => absurd h (by simp), hS.b.alloc hS.b.size _, Nat.le_refl _⟩
            have HS := hid0 hS
            have hlt6 := hS.v3.v.lt
            clear hS
            go_wp2_with (first | (at_builtin; go_must (refine wp_appN rfl _ _ rfl rfl hM0 L n HN.out a c rfl (HL.out.1.later hM0.b) (fun e he => (RowG.of (HL.out.2 e he).1 (HL.out.2 e he).2).later hM0.b) ?ln ?_)) | fail)
            case ln => have := HLD.out; have := HDL.out; simp; omega
            intro vM W7 hM7 hK7 _
            obtain ⟨a7, c7, rfl, _, _⟩ := hM7.ents
            have HB36 := hid0 (show w.heap.size ≤ w.heap.size ∧ w.heap.size + 1 ≠ w.heap.size from ⟨Nat.le_refl _, by omega⟩)
            have hA : SAq w w.heap.size (w.heap.size + 1) f (.slice a n c) (.slice a7 L.length c7) L W7 := ⟨(HS.out.v3.alloc _).keptT (by decide) hK7, (HS.out.v6.alloc _).keptT (by decide) hK7, hM7⟩
            have HL0 := hid0 (hA.stored HB36.out)
            have u1 := hA.v3.v.cell 1 rfl
            have f1 := hA.v3.v.frz 1 (by simp)
            have HD0 := hid0 (show L.map dat = D ++ entsD scn ((E.map pr).take 0) by rw [HD.out]; simp [entsD])
            clear hA hM7 hK7 HS hM0 a0 a1 z0 z1 y0 y1 hlt6
            go_wp2_with fail
            clear u1 f1
            go_loopw [8, 9, 10] (fun iv nv kv wr => ∃ (i : Nat) (v : Value) (F : List Ent), i ≤ m ∧ iv = .int .i64 i ∧ SAq w w.heap.size (w.heap.size + 1) f v v F wr ∧ Hid (F.map dat = D ++ entsD scn ((E.map pr).take i))) (fun iv _ _ _ => m - (intOf iv).toNat)
            case atStart => exact ⟨0, _, _, Nat.zero_le _, rfl, HL0.out, HD0⟩
            case round =>
              obtain ⟨i, v, F, hi, rfl, hR, HT⟩ := hrel
              by_cases hlt : i < m
              rotate_left
              · obtain rfl : i = m := by omega
                have e : (E.map pr).take i = E.map pr := List.take_of_length_le (by rw [List.length_map, HM.out]; exact Nat.le_refl _)
                rw [e] at HT
                obtain ⟨a9, c9, hv9, _, _⟩ := hR.m.ents
                obtain ⟨n9, hn9⟩ : ∃ n9, F.length = n9 := ⟨_, rfl⟩
                rw [hn9] at hv9
                subst hv9
                have u0 := hR.v3.v.cell 0 rfl
                have u1 := hR.v3.v.cell 1 rfl
                have z0 := hR.v6.v.cell 0 rfl
                have z1 := hR.v6.v.cell 1 rfl
                have y0 := hR.v6.v.frz 0 (by simp)
                have y1 := hR.v6.v.frz 1 (by simp)
                have HR := hid0 hR
                have HN9 := hid0 hn9
                clear hR hn9
                go_wp2_with fail
                have hR := HR.out
                have hP := hR.m.puts hR.v6 (by have := HB36.out; omega) (by decide) (hR.m.apart hR.v6 (by decide)) [.int .i64 f, .slice a9 n9 c9]
                exact end_vt (hR.v6.v.puts [.int .i64 f, .slice a9 n9 c9] rfl) rfl rfl rfl _ Try.underlying24 rfl sizeLog rfl (radd_of HN9.out hP (by rw [HMD.out]) (by rw [HMD.out]; exact HT.out))
              · have hiE : i < E.length := by rw [HM.out]; exact hlt
                obtain ⟨g9, o9, rfl, hc1⟩ := HE.out.at_.1 (by intro e; rw [e] at hiE; exact absurd hiE (by simp))
                obtain ⟨q0w, q1w⟩ := hc1 i hiE
                have HCX := hid0 (fun (W : World) (hW : Below w.heap.size w W) => cell_later hW q0w)
                have HRX := hid0 (HE.out.at_.2 _ (List.getElem_mem hiE))
                have hab := abs_each HSM.out (pr E[i]) (List.mem_map_of_mem (List.getElem_mem hiE))
                have q0 := cell_later hR.m.b q0w
                have q1 := cell_later hR.m.b q1w
                have HNE0 := hid0 (fun (G : Int) (K : Nat) (hE1 : entsOne scn (pr E[i]) = List.replicate K (scn, G, E[i].r)) (Fi : List Ent) (hT2 : Fi.map dat = D ++ entsD scn ((E.map pr).take i) ++ List.replicate (K - 0) (scn, G, E[i].r)) => (show Fi.map dat = D ++ entsD scn ((E.map pr).take (i + 1)) by
                  rw [hT2, List.take_succ_eq_append_getElem (by simpa using hiE), entsD_append, List.append_assoc, Nat.sub_zero, ← hE1]
                  congr 2
                  simp [entsD]))
                have hen : entsOne scn (pr E[i]) = List.replicate E[i].n.natAbs (scn, (if E[i].n < 0 then -1 else 1), E[i].r) := rfl
                clear hc1 q0w q1w
                have hab : -4000 ≤ E[i].n ∧ E[i].n ≤ 4000 := hab
                generalize E[i] = x at q0 q1 HCX HRX hab HNE0 hen
                generalize hp9 : o9 + i * 2 = p9 at q0 q1 HCX
                have HP9 := hid0 hp9
                obtain ⟨r, hr⟩ : ∃ r, x.r = r := ⟨_, rfl⟩
                obtain ⟨nn, hnn⟩ : ∃ nn, x.n = nn := ⟨_, rfl⟩
                obtain ⟨K, hK⟩ : ∃ K, nn.natAbs = K := ⟨_, rfl⟩
                rw [hr] at q0 HCX HRX HNE0 hen
                rw [hnn] at q1 hab hen
                rw [hK] at hen
                clear hr hnn
                have HR0 := hid0 hR
                clear hR
                go_wp2_with fail
                have hR := HR0.out
                clear HR0
                refine wp_region_held_drew (S := (fun W => Below wr.drew.heap.size wr.drew W)) (by kernel_rfl) (Below.refl _ _) (fun hHeld => ?_)
                have hR := hR.drew
                have q1 : wr.drew.cell? _ = _ := q1
                have q0 : wr.drew.cell? _ = _ := q0
                have hB0 : Below wr.drew.heap.size wr.drew wr.drew := Below.refl _ _
                generalize wr.drew = W0 at hR q0 q1 hB0 hHeld ⊢
                refine wpAnyH_take (i := 0) (v := ?_) rfl (by kernel_rfl) (by kernel_rfl) (by kernel_rfl) (fun _ _ _ h => h) (Or.inl ⟨by rfl, ?_⟩) (by assumption) ?_
                rotate_left
                · (intro wx hSw; have qq := cell_later hSw q1; go_simp; (try with_reducible rfl); (try omega))
                (try simp only [Act.put, List.setIfInBounds_toArray, List.set_cons_zero, List.set_cons_succ, List.getElem_toArray, List.getElem_cons_zero])
                refine wpAnyH_take (i := 1) (v := ?_) rfl (by kernel_rfl) (by kernel_rfl) (by kernel_rfl) (fun _ _ _ h => h) (Or.inl ⟨by rfl, ?_⟩) (by assumption) ?_
                rotate_left
                · (intro wx hSw; have qq := cell_later hSw q1; go_simp; (try with_reducible rfl); (try omega))
                (try simp only [Act.put, List.setIfInBounds_toArray, List.set_cons_zero, List.set_cons_succ, List.getElem_toArray, List.getElem_cons_zero, List.getElem_cons_succ])
                refine wpAnyH_take (i := 2) (v := ?_) rfl (by kernel_rfl) (by kernel_rfl) (by kernel_rfl) (fun _ _ _ h => h) (Or.inl ⟨by rfl, ?_⟩) (by assumption) ?_
                rotate_left
                · (intro wx hSw; have qq := cell_later hSw q1; go_simp; (try with_reducible rfl); (try omega))
                (try simp only [Act.put, List.setIfInBounds_toArray, List.set_cons_zero, List.set_cons_succ, List.getElem_toArray, List.getElem_cons_zero, List.getElem_cons_succ])
                refine wpAnyH_take (i := 3) (v := ?_) rfl (by kernel_rfl) (by kernel_rfl) (by kernel_rfl) (fun _ _ _ h => h) (Or.inl ⟨by rfl, ?_⟩) (by assumption) ?_
                rotate_left
                · (intro wx hSw; have qq := cell_later hSw q1; go_simp; (try with_reducible rfl); (try omega))
                (try simp only [Act.put, List.setIfInBounds_toArray, List.set_cons_zero, List.set_cons_succ, List.getElem_toArray, List.getElem_cons_zero, List.getElem_cons_succ])
                refine wpAnyH_take (i := 4) (v := ?_) rfl (by kernel_rfl) (by kernel_rfl) (by kernel_rfl) (fun _ _ _ h => h) (Or.inl ⟨by rfl, ?_⟩) (by assumption) ?_
                rotate_left
                · (intro wx hSw; have qq := cell_later hSw q1; go_simp; (try with_reducible rfl); (try omega))
                (try simp only [Act.put, List.setIfInBounds_toArray, List.set_cons_zero, List.set_cons_succ, List.getElem_toArray, List.getElem_cons_zero, List.getElem_cons_succ])
                refine wpAnyH_take (i := 5) (v := ?_) rfl (by kernel_rfl) (by kernel_rfl) (by kernel_rfl) (fun _ _ _ h => h) (Or.inl ⟨by rfl, ?_⟩) (by assumption) ?_
                rotate_left
                · (intro wx hSw; have qq := cell_later hSw q1; go_simp; (try with_reducible rfl); (try omega))
                (try simp only [Act.put, List.setIfInBounds_toArray, List.set_cons_zero, List.set_cons_succ, List.getElem_toArray, List.getElem_cons_zero, List.getElem_cons_succ])
                refine wpAnyH_take (i := 6) (v := ?_) rfl (by kernel_rfl) (by kernel_rfl) (by kernel_rfl) (fun _ _ _ h => h) (Or.inl ⟨by rfl, ?_⟩) (by assumption) ?_
                rotate_left
                · (intro wx hSw; have qq := cell_later hSw q1; go_simp; (try with_reducible rfl); (try omega))
                (try simp only [Act.put, List.setIfInBounds_toArray, List.set_cons_zero, List.set_cons_succ, List.getElem_toArray, List.getElem_cons_zero, List.getElem_cons_succ])
                refine wpAnyH_done (by kernel_rfl) ?_ _
                have HR0 := hid0 hR
                clear hR hB0 q0 q1
                by_cases hneg : nn < 0
                · rw [if_pos hneg] at hen
                  have HNE := hid0 (HNE0.out (-1) K hen)
                  have hwn : IntKind.i64.wrap (-nn) = (K : Int) := by rw [IntWalk.i64_in _ (by omega)]; omega
                  have hd : decide (nn < 0) = true := by simpa using hneg
                  clear hen HNE0
                  go_wp2_with fail
                  try rw [hwn]
                  have hK4 : K ≤ 4000 := by omega
                  clear hwn hd hneg hab hK
                  go_loopw [10] (fun kv wr => ∃ (k : Nat) (v : Value) (Fi : List Ent), k ≤ K ∧ kv = .int .i64 k ∧ SAq w w.heap.size (w.heap.size + 1) f v v Fi wr ∧ Hid (Fi.map dat = D ++ entsD scn ((E.map pr).take i) ++ List.replicate (K - k) (scn, ((-1) : Int), r))) (fun kv _ => (intOf kv).toNat)
                  case atStart => exact ⟨K, v, F, Nat.le_refl _, by go_num, HR0.out, hid0 (by rw [Nat.sub_self, List.replicate_zero, List.append_nil]; exact HT.out)⟩
                  case round =>
                    obtain ⟨k, v, Fi, hk, rfl, hR, hT2⟩ := hrel
                    by_cases hk0 : 0 < k
                    rotate_left
                    · obtain rfl : k = 0 := by omega
                      have hTT := hid0 (HNE.out Fi hT2.out)
                      have HR := hid0 hR
                      clear hR
                      go_wp2_with fail
                      exact ⟨⟨i + 1, v, Fi, by omega, by go_num, HR.out, hTT⟩, by simp [intOf]; omega⟩
                    · have hk1 : (0 : Int) < (k : Int) := by omega
                      obtain ⟨k', hk'⟩ : ∃ k', k = k' + 1 := ⟨k - 1, by omega⟩
                      have hkw : IntKind.i64.wrap ((k : Int) - 1) = (k' : Int) := by rw [IntWalk.i64_in _ (by omega)]; omega
                      have HNX := hid0 (fun (j : Nat) (a7 : Option Addr) (c7 : Nat) (hj : j = k') => (show (Fi ++ [(⟨scn, (-1), a7, c7, r⟩ : Ent)]).map dat = D ++ entsD scn ((E.map pr).take i) ++ List.replicate (K - j) (scn, ((-1) : Int), r) by
                        have e : K - j = (K - k) + 1 := by omega
                        rw [List.map_append, hT2.out, e, List.replicate_succ', List.append_assoc, List.append_assoc, List.append_assoc]; rfl))
                      have HLN := hid0 (show (Fi.length + [(⟨scn, (-1), none, 0, r⟩ : Ent)].length) * 40 ≤ 140737488355328 by
                        have e1 := congrArg List.length hT2.out
                        rw [List.length_map, List.length_append, List.length_append, List.length_replicate] at e1
                        have e3 := entsD_len scn ((E.map pr).take i)
                        have e4 := abs_take_le (E.map pr) i
                        have e5 := HSM.out
                        have e6 := HLD.out
                        simp only [List.length_cons, List.length_nil]
                        omega)
                      have HR := hid0 hR
                      have hw6 : w.heap.size ≤ wr.heap.size := hR.m.b.size
                      clear hR
                      go_wp2_with fail
                      have hR := HR.out
                      clear HR
                      refine wp_region_last (S := (SPq w.heap.size [.int .i64 f, v] g9 p9 (.slice x.a r.length x.c))) 15 (by kernel_rfl) (by kernel_rfl) ⟨hR.drew.v3.v, HCX.out _ hR.drew.m.b⟩ (fun hHeld => ?_)
                      have hR := hR.drew
                      generalize wr.drew = WY at hR hHeld ⊢
                      simp only [List.take_succ_cons, List.take_zero, List.drop_succ_cons, List.drop_zero]
                      refine wpAnyH_take (i := 0) (v := ?_) rfl (by kernel_rfl) (by kernel_rfl) (by kernel_rfl) (fun _ _ _ h => h) (Or.inl ⟨by rfl, ?_⟩) (by assumption) ?_
                      rotate_left
                      · (intro wx hSw; have u1 := hSw.v.cell 1 rfl; have xx := hSw.c; go_simp; (try with_reducible rfl); (try omega))
                      (try simp only [Act.put, List.setIfInBounds_toArray, List.set_cons_zero, List.set_cons_succ, List.getElem_toArray, List.getElem_cons_zero])
                      refine wpAnyH_take (i := 1) (v := ?_) rfl (by kernel_rfl) (by kernel_rfl) (by kernel_rfl) (fun _ _ _ h => h) (Or.inl ⟨by rfl, ?_⟩) (by assumption) ?_
                      rotate_left
                      · (intro wx hSw; have u1 := hSw.v.cell 1 rfl; have xx := hSw.c; go_simp; (try with_reducible rfl); (try omega))
                      (try simp only [Act.put, List.setIfInBounds_toArray, List.set_cons_zero, List.set_cons_succ, List.getElem_toArray, List.getElem_cons_zero, List.getElem_cons_succ])
                      refine wpAnyH_take (i := 2) (v := ?_) rfl (by kernel_rfl) (by kernel_rfl) (by kernel_rfl) (fun _ _ _ h => h) (Or.inl ⟨by rfl, ?_⟩) (by assumption) ?_
                      rotate_left
                      · (intro wx hSw; have u1 := hSw.v.cell 1 rfl; have xx := hSw.c; go_simp; (try with_reducible rfl); (try omega))
                      (try simp only [Act.put, List.setIfInBounds_toArray, List.set_cons_zero, List.set_cons_succ, List.getElem_toArray, List.getElem_cons_zero, List.getElem_cons_succ])
                      refine wpAnyH_take (i := 3) (v := ?_) rfl (by kernel_rfl) (by kernel_rfl) (by kernel_rfl) (fun _ _ _ h => h) (Or.inl ⟨by rfl, ?_⟩) (by assumption) ?_
                      rotate_left
                      · (intro wx hSw; have u1 := hSw.v.cell 1 rfl; have xx := hSw.c; go_simp; (try with_reducible rfl); (try omega))
                      (try simp only [Act.put, List.setIfInBounds_toArray, List.set_cons_zero, List.set_cons_succ, List.getElem_toArray, List.getElem_cons_zero, List.getElem_cons_succ])
                      refine wpAnyH_take (i := 5) (v := ?_) rfl (by kernel_rfl) (by kernel_rfl) (by kernel_rfl) (fun _ _ _ h => h) (Or.inl ⟨by rfl, ?_⟩) (by assumption) ?_
                      rotate_left
                      · (intro wx hSw; have u1 := hSw.v.cell 1 rfl; have xx := hSw.c; go_simp; (try with_reducible rfl); (try omega))
                      (try simp only [Act.put, List.setIfInBounds_toArray, List.set_cons_zero, List.set_cons_succ, List.getElem_toArray, List.getElem_cons_zero, List.getElem_cons_succ])
                      refine wpAnyH_take (i := 6) (v := ?_) rfl (by kernel_rfl) (by kernel_rfl) (by kernel_rfl) (fun _ _ _ h => h) (Or.inl ⟨by rfl, ?_⟩) (by assumption) ?_
                      rotate_left
                      · (intro wx hSw; have u1 := hSw.v.cell 1 rfl; have xx := hSw.c; go_simp; (try with_reducible rfl); (try omega))
                      (try simp only [Act.put, List.setIfInBounds_toArray, List.set_cons_zero, List.set_cons_succ, List.getElem_toArray, List.getElem_cons_zero, List.getElem_cons_succ])
                      refine wpAnyH_take (i := 7) (v := ?_) rfl (by kernel_rfl) (by kernel_rfl) (by kernel_rfl) (fun _ _ _ h => h) (Or.inl ⟨by rfl, ?_⟩) (by assumption) ?_
                      rotate_left
                      · (intro wx hSw; have u1 := hSw.v.cell 1 rfl; have xx := hSw.c; go_simp; (try with_reducible rfl); (try omega))
                      (try simp only [Act.put, List.setIfInBounds_toArray, List.set_cons_zero, List.set_cons_succ, List.getElem_toArray, List.getElem_cons_zero, List.getElem_cons_succ])
                      refine wpAnyH_take (i := 8) (v := ?_) rfl (by kernel_rfl) (by kernel_rfl) (by kernel_rfl) (fun _ _ _ h => h) (Or.inl ⟨by rfl, ?_⟩) (by assumption) ?_
                      rotate_left
                      · (intro wx hSw; have u1 := hSw.v.cell 1 rfl; have xx := hSw.c; go_simp; (try with_reducible rfl); (try omega))
                      (try simp only [Act.put, List.setIfInBounds_toArray, List.set_cons_zero, List.set_cons_succ, List.getElem_toArray, List.getElem_cons_zero, List.getElem_cons_succ])
                      refine wpAnyH_take (i := 9) (v := ?_) rfl (by kernel_rfl) (by kernel_rfl) (by kernel_rfl) (fun _ _ _ h => h) (Or.inl ⟨by rfl, ?_⟩) (by assumption) ?_
                      rotate_left
                      · (intro wx hSw; have u1 := hSw.v.cell 1 rfl; have xx := hSw.c; go_simp; (try with_reducible rfl); (try omega))
                      (try simp only [Act.put, List.setIfInBounds_toArray, List.set_cons_zero, List.set_cons_succ, List.getElem_toArray, List.getElem_cons_zero, List.getElem_cons_succ])
                      refine wpAnyH_ready (rs := [4]) (by kernel_rfl) (by simp) ?_
                      refine AllReadyH.cons rfl (fun K hK => ?_) AllReadyH.nil
                      go_simp
                      have hA := hR.below ((Below.refl _ _).alloc (Nat.le_refl _) (Obj.cells #[] 62))
                      have hmade : (WY.alloc (Obj.cells #[] 62)).ownsRow WY.heap.size 62 3 (.slice (some ⟨WY.heap.size, 0, none⟩) 0 0) 0 [] := World.ownsRow_made WY #[] 0 (Nat.le_refl _) (by unfold maxLen; omega) rfl
                      have hbm : Below WY.heap.size WY (WY.alloc (Obj.cells #[] 62)) := (Below.refl _ _).alloc (Nat.le_refl _) _
                      have hrx := HRX.out.1.later (hR.m.b.alloc hR.m.b.size (Obj.cells #[] 62))
                      refine hK.out _ _ ⟨hA.v3.v, HCX.out _ hA.m.b⟩ (fun hHeld => ?_)
                      clear hK K
                      (try simp only [Act.put, List.setIfInBounds_toArray, List.set_cons_zero, List.set_cons_succ, List.getElem_toArray, List.getElem_cons_zero, List.getElem_cons_succ])
                      refine wpAnyH_ready (rs := [10]) (by kernel_rfl) (by simp) ?_
                      refine AllReadyH.cons rfl (fun K hK => ?_) AllReadyH.nil
                      refine step_copyrow (by rfl) _ _ (by rfl) WY.heap.size (by simp) (by rfl) hmade x.a x.c r (by rfl) hrx HRX.out.2 ?_
                      intro a7 c7 W7 hG7 hb7
                      have hR := hR.below (hbm.trans hb7)
                      clear hA hmade hbm hrx hb7
                      refine hK.out _ _ ⟨hR.v3.v, HCX.out _ hR.m.b⟩ (fun hHeld => ?_)
                      clear hK K
                      (try simp only [Act.put, List.setIfInBounds_toArray, List.set_cons_zero, List.set_cons_succ, List.getElem_toArray, List.getElem_cons_zero, List.getElem_cons_succ])
                      refine wpAnyH_take (i := 11) (v := ?_) rfl (by kernel_rfl) (by kernel_rfl) (by kernel_rfl) (fun _ _ _ h => h) (Or.inl ⟨by rfl, ?_⟩) (by assumption) ?_
                      rotate_left
                      · (intro wx hSw; have u1 := hSw.v.cell 1 rfl; have xx := hSw.c; go_simp; (try with_reducible rfl); (try omega))
                      (try simp only [Act.put, List.setIfInBounds_toArray, List.set_cons_zero, List.set_cons_succ, List.getElem_toArray, List.getElem_cons_zero, List.getElem_cons_succ])
                      refine wpAnyH_ready (rs := [12]) (by kernel_rfl) (by simp) ?_
                      refine AllReadyH.cons rfl (fun K hK => ?_) AllReadyH.nil
                      go_simp
                      have hR2 := hR.below ((Below.refl _ _).alloc (Nat.le_refl _) (Obj.cells #[.int .i64 scn, .int .i64 (-1), .slice a7 r.length c7] 49))
                      have hG8 := hG7.later ((Below.refl _ _).alloc (Nat.le_refl _) (Obj.cells #[.int .i64 scn, .int .i64 (-1), .slice a7 r.length c7] 49))
                      have hx7 := VarB.new W7 [.int .i64 scn, .int .i64 (-1), .slice a7 r.length c7] 49
                      have hR := hR2
                      generalize W7.alloc (Obj.cells #[.int .i64 scn, .int .i64 (-1), .slice a7 r.length c7] 49) = W8 at hR hG8 hx7 ⊢
                      generalize W7.heap.size = bx at hx7 ⊢
                      clear hR2 hG7
                      refine hK.out _ _ ⟨hR.v3.v, HCX.out _ hR.m.b⟩ (fun hHeld => ?_)
                      clear hK K
                      (try simp only [Act.put, List.setIfInBounds_toArray, List.set_cons_zero, List.set_cons_succ, List.getElem_toArray, List.getElem_cons_zero, List.getElem_cons_succ])
                      refine wpAnyH_ready (rs := [13]) (by kernel_rfl) (by simp) ?_
                      refine AllReadyH.cons rfl (fun K hK => ?_) AllReadyH.nil
                      refine step_appN (by rfl) _ _ (by rfl) (by rfl) hR.m [⟨scn, (-1), a7, c7, r⟩] 1 rfl ⟨bx, 0, none⟩ 1 (by rfl) (one_ent (hx7.cell 0 rfl) (hx7.cell 1 rfl) (hx7.cell 2 rfl)) (fun e he => by obtain rfl := List.mem_singleton.1 he; exact hG8.lift (Nat.zero_le _)) HLN.out ?_
                      intro v9 W9 hM9 hK9 _
                      have hR := hR.app hM9 hK9
                      obtain ⟨a9, c9, hv9, _, _⟩ := hM9.ents
                      obtain ⟨n9, hn9⟩ : ∃ n9, (Fi ++ [(⟨scn, (-1), a7, c7, r⟩ : Ent)]).length = n9 := ⟨_, rfl⟩
                      rw [hn9] at hv9
                      subst hv9
                      clear hM9 hK9 hn9 hx7 hG8
                      refine hK.out _ _ ⟨hR.v3.v, HCX.out _ hR.m.b⟩ (fun hHeld => ?_)
                      clear hK K
                      (try simp only [Act.put, List.setIfInBounds_toArray, List.set_cons_zero, List.set_cons_succ, List.getElem_toArray, List.getElem_cons_zero, List.getElem_cons_succ])
                      refine wpAnyH_take (i := 14) (v := ?_) rfl (by kernel_rfl) (by kernel_rfl) (by kernel_rfl) (fun _ _ _ h => h) (Or.inl ⟨by rfl, ?_⟩) (by assumption) ?_
                      rotate_left
                      · (intro wx hSw; have u1 := hSw.v.cell 1 rfl; have xx := hSw.c; go_simp; (try with_reducible rfl); (try omega))
                      (try simp only [Act.put, List.setIfInBounds_toArray, List.set_cons_zero, List.set_cons_succ, List.getElem_toArray, List.getElem_cons_zero, List.getElem_cons_succ])
                      refine wpAnyH_done (by kernel_rfl) ?_ _
                      show wpList _ _ _ _ _ _
                      have u1 := hR.v3.v.cell 1 rfl
                      have f1 := hR.v3.v.frz 1 (by simp)
                      have hZ := hid0 (hR.stored (by have := HB36.out; omega))
                      clear hR hHeld
                      go_wp2
                      exact ⟨⟨k', _, Fi ++ [⟨scn, (-1), a7, c7, r⟩], by omega, by go_num, hZ.out, hid0 (HNX.out k' a7 c7 rfl)⟩, by simp [intOf]; omega⟩
                · rw [if_neg hneg] at hen
                  have HNE := hid0 (HNE0.out 1 K hen)
                  obtain rfl : nn = (K : Int) := by omega
                  have hd : decide ((K : Int) < 0) = false := by simp
                  clear hen HNE0
                  go_wp2_with fail
                  have hK4 : K ≤ 4000 := by omega
                  clear hd hneg hab hK
                  go_loopw [10] (fun kv wr => ∃ (k : Nat) (v : Value) (Fi : List Ent), k ≤ K ∧ kv = .int .i64 k ∧ SAq w w.heap.size (w.heap.size + 1) f v v Fi wr ∧ Hid (Fi.map dat = D ++ entsD scn ((E.map pr).take i) ++ List.replicate (K - k) (scn, (1 : Int), r))) (fun kv _ => (intOf kv).toNat)
                  case atStart => exact ⟨K, v, F, Nat.le_refl _, by go_num, HR0.out, hid0 (by rw [Nat.sub_self, List.replicate_zero, List.append_nil]; exact HT.out)⟩
                  case round =>
                    obtain ⟨k, v, Fi, hk, rfl, hR, hT2⟩ := hrel
                    by_cases hk0 : 0 < k
                    rotate_left
                    · obtain rfl : k = 0 := by omega
                      have hTT := hid0 (HNE.out Fi hT2.out)
                      have HR := hid0 hR
                      clear hR
                      go_wp2_with fail
                      exact ⟨⟨i + 1, v, Fi, by omega, by go_num, HR.out, hTT⟩, by simp [intOf]; omega⟩
                    · have hk1 : (0 : Int) < (k : Int) := by omega
                      obtain ⟨k', hk'⟩ : ∃ k', k = k' + 1 := ⟨k - 1, by omega⟩
                      have hkw : IntKind.i64.wrap ((k : Int) - 1) = (k' : Int) := by rw [IntWalk.i64_in _ (by omega)]; omega
                      have HNX := hid0 (fun (j : Nat) (a7 : Option Addr) (c7 : Nat) (hj : j = k') => (show (Fi ++ [(⟨scn, 1, a7, c7, r⟩ : Ent)]).map dat = D ++ entsD scn ((E.map pr).take i) ++ List.replicate (K - j) (scn, (1 : Int), r) by
                        have e : K - j = (K - k) + 1 := by omega
                        rw [List.map_append, hT2.out, e, List.replicate_succ', List.append_assoc, List.append_assoc, List.append_assoc]; rfl))
                      have HLN := hid0 (show (Fi.length + [(⟨scn, 1, none, 0, r⟩ : Ent)].length) * 40 ≤ 140737488355328 by
                        have e1 := congrArg List.length hT2.out
                        rw [List.length_map, List.length_append, List.length_append, List.length_replicate] at e1
                        have e3 := entsD_len scn ((E.map pr).take i)
                        have e4 := abs_take_le (E.map pr) i
                        have e5 := HSM.out
                        have e6 := HLD.out
                        simp only [List.length_cons, List.length_nil]
                        omega)
                      have HR := hid0 hR
                      have hw6 : w.heap.size ≤ wr.heap.size := hR.m.b.size
                      clear hR
                      go_wp2_with fail
                      have hR := HR.out
                      clear HR
                      refine wp_region_last (S := (SPq w.heap.size [.int .i64 f, v] g9 p9 (.slice x.a r.length x.c))) 15 (by kernel_rfl) (by kernel_rfl) ⟨hR.drew.v3.v, HCX.out _ hR.drew.m.b⟩ (fun hHeld => ?_)
                      have hR := hR.drew
                      generalize wr.drew = WY at hR hHeld ⊢
                      simp only [List.take_succ_cons, List.take_zero, List.drop_succ_cons, List.drop_zero]
                      refine wpAnyH_take (i := 0) (v := ?_) rfl (by kernel_rfl) (by kernel_rfl) (by kernel_rfl) (fun _ _ _ h => h) (Or.inl ⟨by rfl, ?_⟩) (by assumption) ?_
                      rotate_left
                      · (intro wx hSw; have u1 := hSw.v.cell 1 rfl; have xx := hSw.c; go_simp; (try with_reducible rfl); (try omega))
                      (try simp only [Act.put, List.setIfInBounds_toArray, List.set_cons_zero, List.set_cons_succ, List.getElem_toArray, List.getElem_cons_zero])
                      refine wpAnyH_take (i := 1) (v := ?_) rfl (by kernel_rfl) (by kernel_rfl) (by kernel_rfl) (fun _ _ _ h => h) (Or.inl ⟨by rfl, ?_⟩) (by assumption) ?_
                      rotate_left
                      · (intro wx hSw; have u1 := hSw.v.cell 1 rfl; have xx := hSw.c; go_simp; (try with_reducible rfl); (try omega))
                      (try simp only [Act.put, List.setIfInBounds_toArray, List.set_cons_zero, List.set_cons_succ, List.getElem_toArray, List.getElem_cons_zero, List.getElem_cons_succ])
                      refine wpAnyH_take (i := 2) (v := ?_) rfl (by kernel_rfl) (by kernel_rfl) (by kernel_rfl) (fun _ _ _ h => h) (Or.inl ⟨by rfl, ?_⟩) (by assumption) ?_
                      rotate_left
                      · (intro wx hSw; have u1 := hSw.v.cell 1 rfl; have xx := hSw.c; go_simp; (try with_reducible rfl); (try omega))
                      (try simp only [Act.put, List.setIfInBounds_toArray, List.set_cons_zero, List.set_cons_succ, List.getElem_toArray, List.getElem_cons_zero, List.getElem_cons_succ])
                      refine wpAnyH_take (i := 3) (v := ?_) rfl (by kernel_rfl) (by kernel_rfl) (by kernel_rfl) (fun _ _ _ h => h) (Or.inl ⟨by rfl, ?_⟩) (by assumption) ?_
                      rotate_left
                      · (intro wx hSw; have u1 := hSw.v.cell 1 rfl; have xx := hSw.c; go_simp; (try with_reducible rfl); (try omega))
                      (try simp only [Act.put, List.setIfInBounds_toArray, List.set_cons_zero, List.set_cons_succ, List.getElem_toArray, List.getElem_cons_zero, List.getElem_cons_succ])
                      refine wpAnyH_take (i := 5) (v := ?_) rfl (by kernel_rfl) (by kernel_rfl) (by kernel_rfl) (fun _ _ _ h => h) (Or.inl ⟨by rfl, ?_⟩) (by assumption) ?_
                      rotate_left
                      · (intro wx hSw; have u1 := hSw.v.cell 1 rfl; have xx := hSw.c; go_simp; (try with_reducible rfl); (try omega))
                      (try simp only [Act.put, List.setIfInBounds_toArray, List.set_cons_zero, List.set_cons_succ, List.getElem_toArray, List.getElem_cons_zero, List.getElem_cons_succ])
                      refine wpAnyH_take (i := 6) (v := ?_) rfl (by kernel_rfl) (by kernel_rfl) (by kernel_rfl) (fun _ _ _ h => h) (Or.inl ⟨by rfl, ?_⟩) (by assumption) ?_
                      rotate_left
                      · (intro wx hSw; have u1 := hSw.v.cell 1 rfl; have xx := hSw.c; go_simp; (try with_reducible rfl); (try omega))
                      (try simp only [Act.put, List.setIfInBounds_toArray, List.set_cons_zero, List.set_cons_succ, List.getElem_toArray, List.getElem_cons_zero, List.getElem_cons_succ])
                      refine wpAnyH_take (i := 7) (v := ?_) rfl (by kernel_rfl) (by kernel_rfl) (by kernel_rfl) (fun _ _ _ h => h) (Or.inl ⟨by rfl, ?_⟩) (by assumption) ?_
                      rotate_left
                      · (intro wx hSw; have u1 := hSw.v.cell 1 rfl; have xx := hSw.c; go_simp; (try with_reducible rfl); (try omega))
                      (try simp only [Act.put, List.setIfInBounds_toArray, List.set_cons_zero, List.set_cons_succ, List.getElem_toArray, List.getElem_cons_zero, List.getElem_cons_succ])
                      refine wpAnyH_take (i := 8) (v := ?_) rfl (by kernel_rfl) (by kernel_rfl) (by kernel_rfl) (fun _ _ _ h => h) (Or.inl ⟨by rfl, ?_⟩) (by assumption) ?_
                      rotate_left
                      · (intro wx hSw; have u1 := hSw.v.cell 1 rfl; have xx := hSw.c; go_simp; (try with_reducible rfl); (try omega))
                      (try simp only [Act.put, List.setIfInBounds_toArray, List.set_cons_zero, List.set_cons_succ, List.getElem_toArray, List.getElem_cons_zero, List.getElem_cons_succ])
                      refine wpAnyH_take (i := 9) (v := ?_) rfl (by kernel_rfl) (by kernel_rfl) (by kernel_rfl) (fun _ _ _ h => h) (Or.inl ⟨by rfl, ?_⟩) (by assumption) ?_
                      rotate_left
                      · (intro wx hSw; have u1 := hSw.v.cell 1 rfl; have xx := hSw.c; go_simp; (try with_reducible rfl); (try omega))
                      (try simp only [Act.put, List.setIfInBounds_toArray, List.set_cons_zero, List.set_cons_succ, List.getElem_toArray, List.getElem_cons_zero, List.getElem_cons_succ])
                      refine wpAnyH_ready (rs := [4]) (by kernel_rfl) (by simp) ?_
                      refine AllReadyH.cons rfl (fun K hK => ?_) AllReadyH.nil
                      go_simp
                      have hA := hR.below ((Below.refl _ _).alloc (Nat.le_refl _) (Obj.cells #[] 62))
                      have hmade : (WY.alloc (Obj.cells #[] 62)).ownsRow WY.heap.size 62 3 (.slice (some ⟨WY.heap.size, 0, none⟩) 0 0) 0 [] := World.ownsRow_made WY #[] 0 (Nat.le_refl _) (by unfold maxLen; omega) rfl
                      have hbm : Below WY.heap.size WY (WY.alloc (Obj.cells #[] 62)) := (Below.refl _ _).alloc (Nat.le_refl _) _
                      have hrx := HRX.out.1.later (hR.m.b.alloc hR.m.b.size (Obj.cells #[] 62))
                      refine hK.out _ _ ⟨hA.v3.v, HCX.out _ hA.m.b⟩ (fun hHeld => ?_)
                      clear hK K
                      (try simp only [Act.put, List.setIfInBounds_toArray, List.set_cons_zero, List.set_cons_succ, List.getElem_toArray, List.getElem_cons_zero, List.getElem_cons_succ])
                      refine wpAnyH_ready (rs := [10]) (by kernel_rfl) (by simp) ?_
                      refine AllReadyH.cons rfl (fun K hK => ?_) AllReadyH.nil
                      refine step_copyrow (by rfl) _ _ (by rfl) WY.heap.size (by simp) (by rfl) hmade x.a x.c r (by rfl) hrx HRX.out.2 ?_
                      intro a7 c7 W7 hG7 hb7
                      have hR := hR.below (hbm.trans hb7)
                      clear hA hmade hbm hrx hb7
                      refine hK.out _ _ ⟨hR.v3.v, HCX.out _ hR.m.b⟩ (fun hHeld => ?_)
                      clear hK K
                      (try simp only [Act.put, List.setIfInBounds_toArray, List.set_cons_zero, List.set_cons_succ, List.getElem_toArray, List.getElem_cons_zero, List.getElem_cons_succ])
                      refine wpAnyH_take (i := 11) (v := ?_) rfl (by kernel_rfl) (by kernel_rfl) (by kernel_rfl) (fun _ _ _ h => h) (Or.inl ⟨by rfl, ?_⟩) (by assumption) ?_
                      rotate_left
                      · (intro wx hSw; have u1 := hSw.v.cell 1 rfl; have xx := hSw.c; go_simp; (try with_reducible rfl); (try omega))
                      (try simp only [Act.put, List.setIfInBounds_toArray, List.set_cons_zero, List.set_cons_succ, List.getElem_toArray, List.getElem_cons_zero, List.getElem_cons_succ])
                      refine wpAnyH_ready (rs := [12]) (by kernel_rfl) (by simp) ?_
                      refine AllReadyH.cons rfl (fun K hK => ?_) AllReadyH.nil
                      go_simp
                      have hR2 := hR.below ((Below.refl _ _).alloc (Nat.le_refl _) (Obj.cells #[.int .i64 scn, .int .i64 1, .slice a7 r.length c7] 49))
                      have hG8 := hG7.later ((Below.refl _ _).alloc (Nat.le_refl _) (Obj.cells #[.int .i64 scn, .int .i64 1, .slice a7 r.length c7] 49))
                      have hx7 := VarB.new W7 [.int .i64 scn, .int .i64 1, .slice a7 r.length c7] 49
                      have hR := hR2
                      generalize W7.alloc (Obj.cells #[.int .i64 scn, .int .i64 1, .slice a7 r.length c7] 49) = W8 at hR hG8 hx7 ⊢
                      generalize W7.heap.size = bx at hx7 ⊢
                      clear hR2 hG7
                      refine hK.out _ _ ⟨hR.v3.v, HCX.out _ hR.m.b⟩ (fun hHeld => ?_)
                      clear hK K
                      (try simp only [Act.put, List.setIfInBounds_toArray, List.set_cons_zero, List.set_cons_succ, List.getElem_toArray, List.getElem_cons_zero, List.getElem_cons_succ])
                      refine wpAnyH_ready (rs := [13]) (by kernel_rfl) (by simp) ?_
                      refine AllReadyH.cons rfl (fun K hK => ?_) AllReadyH.nil
                      refine step_appN (by rfl) _ _ (by rfl) (by rfl) hR.m [⟨scn, 1, a7, c7, r⟩] 1 rfl ⟨bx, 0, none⟩ 1 (by rfl) (one_ent (hx7.cell 0 rfl) (hx7.cell 1 rfl) (hx7.cell 2 rfl)) (fun e he => by obtain rfl := List.mem_singleton.1 he; exact hG8.lift (Nat.zero_le _)) HLN.out ?_
                      intro v9 W9 hM9 hK9 _
                      have hR := hR.app hM9 hK9
                      obtain ⟨a9, c9, hv9, _, _⟩ := hM9.ents
                      obtain ⟨n9, hn9⟩ : ∃ n9, (Fi ++ [(⟨scn, 1, a7, c7, r⟩ : Ent)]).length = n9 := ⟨_, rfl⟩
                      rw [hn9] at hv9
                      subst hv9
                      clear hM9 hK9 hn9 hx7 hG8
                      refine hK.out _ _ ⟨hR.v3.v, HCX.out _ hR.m.b⟩ (fun hHeld => ?_)
                      clear hK K
                      (try simp only [Act.put, List.setIfInBounds_toArray, List.set_cons_zero, List.set_cons_succ, List.getElem_toArray, List.getElem_cons_zero, List.getElem_cons_succ])
                      refine wpAnyH_take (i := 14) (v := ?_) rfl (by kernel_rfl) (by kernel_rfl) (by kernel_rfl) (fun _ _ _ h => h) (Or.inl ⟨by rfl, ?_⟩) (by assumption) ?_
                      rotate_left
                      · (intro wx hSw; have u1 := hSw.v.cell 1 rfl; have xx := hSw.c; go_simp; (try with_reducible rfl); (try omega))
                      (try simp only [Act.put, List.setIfInBounds_toArray, List.set_cons_zero, List.set_cons_succ, List.getElem_toArray, List.getElem_cons_zero, List.getElem_cons_succ])
                      refine wpAnyH_done (by kernel_rfl) ?_ _
                      show wpList _ _ _ _ _ _
                      have u1 := hR.v3.v.cell 1 rfl
                      have f1 := hR.v3.v.frz 1 (by simp)
                      have hZ := hid0 (hR.stored (by have := HB36.out; omega))
                      clear hR hHeld
                      go_wp2
                      exact ⟨⟨k', _, Fi ++ [⟨scn, 1, a7, c7, r⟩], by omega, by go_num, hZ.out, hid0 (HNX.out k' a7 c7 rfl)⟩, by simp [intOf]; omega⟩
        · have hnp := List.length_pos_iff.2 hne
          have hls := lastD_at f (L.map dat) (by simpa using hne)
          simp only [List.getElem_map, List.length_map] at hls
          have hls2 : la = (L[L.length - 1]'(by omega)).s := by rw [← hla, ← HD.out, hls]; rfl
          obtain ⟨b0, o0, rfl, hc0⟩ := (HL.out.1.later hS.b) hne
          have q0 := (hc0 (L.length - 1) (by omega)).1
          rw [← hls2, HN.out] at q0
          rw [HN.out] at hnp
          clear hls hls2 hc0 hne
          by_cases hsl : scn ≤ la
          · have hmod : addM f D scn E = (D, 1) := by unfold addM; rw [if_neg (by rw [hla]; intro h; omega)]
            have hd2 : decide (scn ≤ la) = true := by simpa using hsl
            clear hla
            have a0 := hS.v3.v.cell 0 rfl
            have a1 := hS.v3.v.cell 1 rfl
            have z0 := hS.v6.v.cell 0 rfl
            have z1 := hS.v6.v.cell 1 rfl
            have y0 := hS.v6.v.frz 0 (by simp)
            have y1 := hS.v6.v.frz 1 (by simp)
            have HS := hid0 hS
            clear hS
            go_wp2_with fail
            have hS := HS.out
            exact end_vt (hS.v6.v.puts [.int .i64 f, .slice (some ⟨b0, o0, none⟩) n c] rfl) rfl rfl rfl _ Try.underlying24 rfl sizeLog rfl (radd_old HN.out hS.b (by omega) hS.v6 [.int .i64 f, .slice (some ⟨b0, o0, none⟩) n c] HL.out HD.out (by rw [hmod]) (by rw [hmod]))
          · have hd2 : decide (scn ≤ la) = false := by simpa using hsl
            have HMOD := hid0 (show addM f D scn E = (if 4000 < absS (E.map pr) then (D, 3) else (D ++ entsD scn (E.map pr), 0)) by unfold addM; rw [if_pos ⟨HRD.out, HRB.out, by rw [hla]; omega⟩])
            clear hla
            have a0 := hS.v3.v.cell 0 rfl
            have a1 := hS.v3.v.cell 1 rfl
            have z0 := hS.v6.v.cell 0 rfl
            have z1 := hS.v6.v.cell 1 rfl
            have y0 := hS.v6.v.frz 0 (by simp)
            have y1 := hS.v6.v.frz 1 (by simp)
            have HS := hid0 hS
            clear hS
            go_wp2_with fail
            have hS := HS.out
            clear HS a0 a1 z0 z1 y0 y1 q0
            refine Calls.mono (CZ.out _ hS.b HRB.out) ?_
            rintro e w6 ⟨rfl, hb6⟩
            have hS := hS.below hb6
            clear hb6
            by_cases hbig : 4000 < absS (E.map pr)
            · have hmod : addM f D scn E = (D, 3) := by rw [HMOD.out, if_pos hbig]
              have hz : 4000 < sizeS (E.map pr) := sizeS_le.2 hbig
              generalize sizeS (E.map pr) = z at hz ⊢
              have hd : decide (4000 < z) = true := by simpa using hz
              clear hbig
              have a0 := hS.v3.v.cell 0 rfl
              have a1 := hS.v3.v.cell 1 rfl
              have z0 := hS.v6.v.cell 0 rfl
              have z1 := hS.v6.v.cell 1 rfl
              have y0 := hS.v6.v.frz 0 (by simp)
              have y1 := hS.v6.v.frz 1 (by simp)
              have HS := hid0 hS
              clear hS
              go_wp2_with fail
              have hS := HS.out
              exact end_vt (hS.v6.v.puts [.int .i64 f, .slice (some ⟨b0, o0, none⟩) n c] rfl) rfl rfl rfl _ Try.underlying24 rfl sizeLog rfl (radd_old HN.out hS.b (by omega) hS.v6 [.int .i64 f, .slice (some ⟨b0, o0, none⟩) n c] HL.out HD.out (by rw [hmod]) (by rw [hmod]))
            · have hmod : addM f D scn E = (D ++ entsD scn (E.map pr), 0) := by rw [HMOD.out, if_neg hbig]
              have hz : ¬ 4000 < sizeS (E.map pr) := fun h => hbig (sizeS_le.1 h)
              generalize sizeS (E.map pr) = z at hz ⊢
              have hd : decide (4000 < z) = false := by simpa using hz
              have HSM := hid0 (show absS (E.map pr) ≤ 4000 by omega)
              have HMD := hid0 hmod
              clear hbig hmod HMOD
              have a0 := hS.v3.v.cell 0 rfl
              have a1 := hS.v3.v.cell 1 rfl
              have z0 := hS.v6.v.cell 0 rfl
              have z1 := hS.v6.v.cell 1 rfl
              have y0 := hS.v6.v.frz 0 (by simp)
              have y1 := hS.v6.v.frz 1 (by simp)
              have f1 := hS.v3.v.frz 1 (by simp)
              have hM0 : MkN w.heap.size w (w6.alloc (Obj.cells #[] 49)) (.slice (some ⟨w6.heap.size, 0, none⟩) 0 0) [] := ⟨⟨World.ownsRow_made w6 #[] 0 hS.b.size (by unfold maxLen; omega) rfl⟩, fun _ h => absurd h (by simp), hS.b.alloc hS.b.size _, Nat.le_refl _⟩
              have HS := hid0 hS
              have hlt6 := hS.v3.v.lt
              clear hS
              go_wp2_with (first | (at_builtin; go_must (refine wp_appN rfl _ _ rfl rfl hM0 L n HN.out (some ⟨b0, o0, none⟩) c rfl (HL.out.1.later hM0.b) (fun e he => (RowG.of (HL.out.2 e he).1 (HL.out.2 e he).2).later hM0.b) ?ln ?_)) | fail)
              case ln => have := HLD.out; have := HDL.out; simp; omega
              intro vM W7 hM7 hK7 _
              obtain ⟨a7, c7, rfl, _, _⟩ := hM7.ents
              have HB36 := hid0 (show w.heap.size ≤ w.heap.size ∧ w.heap.size + 1 ≠ w.heap.size from ⟨Nat.le_refl _, by omega⟩)
              have hA : SAq w w.heap.size (w.heap.size + 1) f (.slice (some ⟨b0, o0, none⟩) n c) (.slice a7 L.length c7) L W7 := ⟨(HS.out.v3.alloc _).keptT (by decide) hK7, (HS.out.v6.alloc _).keptT (by decide) hK7, hM7⟩
              have HL0 := hid0 (hA.stored HB36.out)
              have u1 := hA.v3.v.cell 1 rfl
              have f1 := hA.v3.v.frz 1 (by simp)
              have HD0 := hid0 (show L.map dat = D ++ entsD scn ((E.map pr).take 0) by rw [HD.out]; simp [entsD])
              clear hA hM7 hK7 HS hM0 a0 a1 z0 z1 y0 y1 hlt6
              go_wp2_with fail
              clear u1 f1
              go_loopw [8, 9, 10] (fun iv nv kv wr => ∃ (i : Nat) (v : Value) (F : List Ent), i ≤ m ∧ iv = .int .i64 i ∧ SAq w w.heap.size (w.heap.size + 1) f v v F wr ∧ Hid (F.map dat = D ++ entsD scn ((E.map pr).take i))) (fun iv _ _ _ => m - (intOf iv).toNat)
              case atStart => exact ⟨0, _, _, Nat.zero_le _, rfl, HL0.out, HD0⟩
              case round =>
                obtain ⟨i, v, F, hi, rfl, hR, HT⟩ := hrel
                by_cases hlt : i < m
                rotate_left
                · obtain rfl : i = m := by omega
                  have e : (E.map pr).take i = E.map pr := List.take_of_length_le (by rw [List.length_map, HM.out]; exact Nat.le_refl _)
                  rw [e] at HT
                  obtain ⟨a9, c9, hv9, _, _⟩ := hR.m.ents
                  obtain ⟨n9, hn9⟩ : ∃ n9, F.length = n9 := ⟨_, rfl⟩
                  rw [hn9] at hv9
                  subst hv9
                  have u0 := hR.v3.v.cell 0 rfl
                  have u1 := hR.v3.v.cell 1 rfl
                  have z0 := hR.v6.v.cell 0 rfl
                  have z1 := hR.v6.v.cell 1 rfl
                  have y0 := hR.v6.v.frz 0 (by simp)
                  have y1 := hR.v6.v.frz 1 (by simp)
                  have HR := hid0 hR
                  have HN9 := hid0 hn9
                  clear hR hn9
                  go_wp2_with fail
                  have hR := HR.out
                  have hP := hR.m.puts hR.v6 (by have := HB36.out; omega) (by decide) (hR.m.apart hR.v6 (by decide)) [.int .i64 f, .slice a9 n9 c9]
                  exact end_vt (hR.v6.v.puts [.int .i64 f, .slice a9 n9 c9] rfl) rfl rfl rfl _ Try.underlying24 rfl sizeLog rfl (radd_of HN9.out hP (by rw [HMD.out]) (by rw [HMD.out]; exact HT.out))
                · have hiE : i < E.length := by rw [HM.out]; exact hlt
                  obtain ⟨g9, o9, rfl, hc1⟩ := HE.out.at_.1 (by intro e; rw [e] at hiE; exact absurd hiE (by simp))
                  obtain ⟨q0w, q1w⟩ := hc1 i hiE
                  have HCX := hid0 (fun (W : World) (hW : Below w.heap.size w W) => cell_later hW q0w)
                  have HRX := hid0 (HE.out.at_.2 _ (List.getElem_mem hiE))
                  have hab := abs_each HSM.out (pr E[i]) (List.mem_map_of_mem (List.getElem_mem hiE))
                  have q0 := cell_later hR.m.b q0w
                  have q1 := cell_later hR.m.b q1w
                  have HNE0 := hid0 (fun (G : Int) (K : Nat) (hE1 : entsOne scn (pr E[i]) = List.replicate K (scn, G, E[i].r)) (Fi : List Ent) (hT2 : Fi.map dat = D ++ entsD scn ((E.map pr).take i) ++ List.replicate (K - 0) (scn, G, E[i].r)) => (show Fi.map dat = D ++ entsD scn ((E.map pr).take (i + 1)) by
                    rw [hT2, List.take_succ_eq_append_getElem (by simpa using hiE), entsD_append, List.append_assoc, Nat.sub_zero, ← hE1]
                    congr 2
                    simp [entsD]))
                  have hen : entsOne scn (pr E[i]) = List.replicate E[i].n.natAbs (scn, (if E[i].n < 0 then -1 else 1), E[i].r) := rfl
                  clear hc1 q0w q1w
                  have hab : -4000 ≤ E[i].n ∧ E[i].n ≤ 4000 := hab
                  generalize E[i] = x at q0 q1 HCX HRX hab HNE0 hen
                  generalize hp9 : o9 + i * 2 = p9 at q0 q1 HCX
                  have HP9 := hid0 hp9
                  obtain ⟨r, hr⟩ : ∃ r, x.r = r := ⟨_, rfl⟩
                  obtain ⟨nn, hnn⟩ : ∃ nn, x.n = nn := ⟨_, rfl⟩
                  obtain ⟨K, hK⟩ : ∃ K, nn.natAbs = K := ⟨_, rfl⟩
                  rw [hr] at q0 HCX HRX HNE0 hen
                  rw [hnn] at q1 hab hen
                  rw [hK] at hen
                  clear hr hnn
                  have HR0 := hid0 hR
                  clear hR
                  go_wp2_with fail
                  have hR := HR0.out
                  clear HR0
                  refine wp_region_held_drew (S := (fun W => Below wr.drew.heap.size wr.drew W)) (by kernel_rfl) (Below.refl _ _) (fun hHeld => ?_)
                  have hR := hR.drew
                  have q1 : wr.drew.cell? _ = _ := q1
                  have q0 : wr.drew.cell? _ = _ := q0
                  have hB0 : Below wr.drew.heap.size wr.drew wr.drew := Below.refl _ _
                  generalize wr.drew = W0 at hR q0 q1 hB0 hHeld ⊢
                  refine wpAnyH_take (i := 0) (v := ?_) rfl (by kernel_rfl) (by kernel_rfl) (by kernel_rfl) (fun _ _ _ h => h) (Or.inl ⟨by rfl, ?_⟩) (by assumption) ?_
                  rotate_left
                  · (intro wx hSw; have qq := cell_later hSw q1; go_simp; (try with_reducible rfl); (try omega))
                  (try simp only [Act.put, List.setIfInBounds_toArray, List.set_cons_zero, List.set_cons_succ, List.getElem_toArray, List.getElem_cons_zero])
                  refine wpAnyH_take (i := 1) (v := ?_) rfl (by kernel_rfl) (by kernel_rfl) (by kernel_rfl) (fun _ _ _ h => h) (Or.inl ⟨by rfl, ?_⟩) (by assumption) ?_
                  rotate_left
                  · (intro wx hSw; have qq := cell_later hSw q1; go_simp; (try with_reducible rfl); (try omega))
                  (try simp only [Act.put, List.setIfInBounds_toArray, List.set_cons_zero, List.set_cons_succ, List.getElem_toArray, List.getElem_cons_zero, List.getElem_cons_succ])
                  refine wpAnyH_take (i := 2) (v := ?_) rfl (by kernel_rfl) (by kernel_rfl) (by kernel_rfl) (fun _ _ _ h => h) (Or.inl ⟨by rfl, ?_⟩) (by assumption) ?_
                  rotate_left
                  · (intro wx hSw; have qq := cell_later hSw q1; go_simp; (try with_reducible rfl); (try omega))
                  (try simp only [Act.put, List.setIfInBounds_toArray, List.set_cons_zero, List.set_cons_succ, List.getElem_toArray, List.getElem_cons_zero, List.getElem_cons_succ])
                  refine wpAnyH_take (i := 3) (v := ?_) rfl (by kernel_rfl) (by kernel_rfl) (by kernel_rfl) (fun _ _ _ h => h) (Or.inl ⟨by rfl, ?_⟩) (by assumption) ?_
                  rotate_left
                  · (intro wx hSw; have qq := cell_later hSw q1; go_simp; (try with_reducible rfl); (try omega))
                  (try simp only [Act.put, List.setIfInBounds_toArray, List.set_cons_zero, List.set_cons_succ, List.getElem_toArray, List.getElem_cons_zero, List.getElem_cons_succ])
                  refine wpAnyH_take (i := 4) (v := ?_) rfl (by kernel_rfl) (by kernel_rfl) (by kernel_rfl) (fun _ _ _ h => h) (Or.inl ⟨by rfl, ?_⟩) (by assumption) ?_
                  rotate_left
                  · (intro wx hSw; have qq := cell_later hSw q1; go_simp; (try with_reducible rfl); (try omega))
                  (try simp only [Act.put, List.setIfInBounds_toArray, List.set_cons_zero, List.set_cons_succ, List.getElem_toArray, List.getElem_cons_zero, List.getElem_cons_succ])
                  refine wpAnyH_take (i := 5) (v := ?_) rfl (by kernel_rfl) (by kernel_rfl) (by kernel_rfl) (fun _ _ _ h => h) (Or.inl ⟨by rfl, ?_⟩) (by assumption) ?_
                  rotate_left
                  · (intro wx hSw; have qq := cell_later hSw q1; go_simp; (try with_reducible rfl); (try omega))
                  (try simp only [Act.put, List.setIfInBounds_toArray, List.set_cons_zero, List.set_cons_succ, List.getElem_toArray, List.getElem_cons_zero, List.getElem_cons_succ])
                  refine wpAnyH_take (i := 6) (v := ?_) rfl (by kernel_rfl) (by kernel_rfl) (by kernel_rfl) (fun _ _ _ h => h) (Or.inl ⟨by rfl, ?_⟩) (by assumption) ?_
                  rotate_left
                  · (intro wx hSw; have qq := cell_later hSw q1; go_simp; (try with_reducible rfl); (try omega))
                  (try simp only [Act.put, List.setIfInBounds_toArray, List.set_cons_zero, List.set_cons_succ, List.getElem_toArray, List.getElem_cons_zero, List.getElem_cons_succ])
                  refine wpAnyH_done (by kernel_rfl) ?_ _
                  have HR0 := hid0 hR
                  clear hR hB0 q0 q1
                  by_cases hneg : nn < 0
                  · rw [if_pos hneg] at hen
                    have HNE := hid0 (HNE0.out (-1) K hen)
                    have hwn : IntKind.i64.wrap (-nn) = (K : Int) := by rw [IntWalk.i64_in _ (by omega)]; omega
                    have hd : decide (nn < 0) = true := by simpa using hneg
                    clear hen HNE0
                    go_wp2_with fail
                    try rw [hwn]
                    have hK4 : K ≤ 4000 := by omega
                    clear hwn hd hneg hab hK
                    go_loopw [10] (fun kv wr => ∃ (k : Nat) (v : Value) (Fi : List Ent), k ≤ K ∧ kv = .int .i64 k ∧ SAq w w.heap.size (w.heap.size + 1) f v v Fi wr ∧ Hid (Fi.map dat = D ++ entsD scn ((E.map pr).take i) ++ List.replicate (K - k) (scn, ((-1) : Int), r))) (fun kv _ => (intOf kv).toNat)
                    case atStart => exact ⟨K, v, F, Nat.le_refl _, by go_num, HR0.out, hid0 (by rw [Nat.sub_self, List.replicate_zero, List.append_nil]; exact HT.out)⟩
                    case round =>
                      obtain ⟨k, v, Fi, hk, rfl, hR, hT2⟩ := hrel
                      by_cases hk0 : 0 < k
                      rotate_left
                      · obtain rfl : k = 0 := by omega
                        have hTT := hid0 (HNE.out Fi hT2.out)
                        have HR := hid0 hR
                        clear hR
                        go_wp2_with fail
                        exact ⟨⟨i + 1, v, Fi, by omega, by go_num, HR.out, hTT⟩, by simp [intOf]; omega⟩
                      · have hk1 : (0 : Int) < (k : Int) := by omega
                        obtain ⟨k', hk'⟩ : ∃ k', k = k' + 1 := ⟨k - 1, by omega⟩
                        have hkw : IntKind.i64.wrap ((k : Int) - 1) = (k' : Int) := by rw [IntWalk.i64_in _ (by omega)]; omega
                        have HNX := hid0 (fun (j : Nat) (a7 : Option Addr) (c7 : Nat) (hj : j = k') => (show (Fi ++ [(⟨scn, (-1), a7, c7, r⟩ : Ent)]).map dat = D ++ entsD scn ((E.map pr).take i) ++ List.replicate (K - j) (scn, ((-1) : Int), r) by
                          have e : K - j = (K - k) + 1 := by omega
                          rw [List.map_append, hT2.out, e, List.replicate_succ', List.append_assoc, List.append_assoc, List.append_assoc]; rfl))
                        have HLN := hid0 (show (Fi.length + [(⟨scn, (-1), none, 0, r⟩ : Ent)].length) * 40 ≤ 140737488355328 by
                          have e1 := congrArg List.length hT2.out
                          rw [List.length_map, List.length_append, List.length_append, List.length_replicate] at e1
                          have e3 := entsD_len scn ((E.map pr).take i)
                          have e4 := abs_take_le (E.map pr) i
                          have e5 := HSM.out
                          have e6 := HLD.out
                          simp only [List.length_cons, List.length_nil]
                          omega)
                        have HR := hid0 hR
                        have hw6 : w.heap.size ≤ wr.heap.size := hR.m.b.size
                        clear hR
                        go_wp2_with fail
                        have hR := HR.out
                        clear HR
                        refine wp_region_last (S := (SPq w.heap.size [.int .i64 f, v] g9 p9 (.slice x.a r.length x.c))) 15 (by kernel_rfl) (by kernel_rfl) ⟨hR.drew.v3.v, HCX.out _ hR.drew.m.b⟩ (fun hHeld => ?_)
                        have hR := hR.drew
                        generalize wr.drew = WY at hR hHeld ⊢
                        simp only [List.take_succ_cons, List.take_zero, List.drop_succ_cons, List.drop_zero]
                        refine wpAnyH_take (i := 0) (v := ?_) rfl (by kernel_rfl) (by kernel_rfl) (by kernel_rfl) (fun _ _ _ h => h) (Or.inl ⟨by rfl, ?_⟩) (by assumption) ?_
                        rotate_left
                        · (intro wx hSw; have u1 := hSw.v.cell 1 rfl; have xx := hSw.c; go_simp; (try with_reducible rfl); (try omega))
                        (try simp only [Act.put, List.setIfInBounds_toArray, List.set_cons_zero, List.set_cons_succ, List.getElem_toArray, List.getElem_cons_zero])
                        refine wpAnyH_take (i := 1) (v := ?_) rfl (by kernel_rfl) (by kernel_rfl) (by kernel_rfl) (fun _ _ _ h => h) (Or.inl ⟨by rfl, ?_⟩) (by assumption) ?_
                        rotate_left
                        · (intro wx hSw; have u1 := hSw.v.cell 1 rfl; have xx := hSw.c; go_simp; (try with_reducible rfl); (try omega))
                        (try simp only [Act.put, List.setIfInBounds_toArray, List.set_cons_zero, List.set_cons_succ, List.getElem_toArray, List.getElem_cons_zero, List.getElem_cons_succ])
                        refine wpAnyH_take (i := 2) (v := ?_) rfl (by kernel_rfl) (by kernel_rfl) (by kernel_rfl) (fun _ _ _ h => h) (Or.inl ⟨by rfl, ?_⟩) (by assumption) ?_
                        rotate_left
                        · (intro wx hSw; have u1 := hSw.v.cell 1 rfl; have xx := hSw.c; go_simp; (try with_reducible rfl); (try omega))
                        (try simp only [Act.put, List.setIfInBounds_toArray, List.set_cons_zero, List.set_cons_succ, List.getElem_toArray, List.getElem_cons_zero, List.getElem_cons_succ])
                        refine wpAnyH_take (i := 3) (v := ?_) rfl (by kernel_rfl) (by kernel_rfl) (by kernel_rfl) (fun _ _ _ h => h) (Or.inl ⟨by rfl, ?_⟩) (by assumption) ?_
                        rotate_left
                        · (intro wx hSw; have u1 := hSw.v.cell 1 rfl; have xx := hSw.c; go_simp; (try with_reducible rfl); (try omega))
                        (try simp only [Act.put, List.setIfInBounds_toArray, List.set_cons_zero, List.set_cons_succ, List.getElem_toArray, List.getElem_cons_zero, List.getElem_cons_succ])
                        refine wpAnyH_take (i := 5) (v := ?_) rfl (by kernel_rfl) (by kernel_rfl) (by kernel_rfl) (fun _ _ _ h => h) (Or.inl ⟨by rfl, ?_⟩) (by assumption) ?_
                        rotate_left
                        · (intro wx hSw; have u1 := hSw.v.cell 1 rfl; have xx := hSw.c; go_simp; (try with_reducible rfl); (try omega))
                        (try simp only [Act.put, List.setIfInBounds_toArray, List.set_cons_zero, List.set_cons_succ, List.getElem_toArray, List.getElem_cons_zero, List.getElem_cons_succ])
                        refine wpAnyH_take (i := 6) (v := ?_) rfl (by kernel_rfl) (by kernel_rfl) (by kernel_rfl) (fun _ _ _ h => h) (Or.inl ⟨by rfl, ?_⟩) (by assumption) ?_
                        rotate_left
                        · (intro wx hSw; have u1 := hSw.v.cell 1 rfl; have xx := hSw.c; go_simp; (try with_reducible rfl); (try omega))
                        (try simp only [Act.put, List.setIfInBounds_toArray, List.set_cons_zero, List.set_cons_succ, List.getElem_toArray, List.getElem_cons_zero, List.getElem_cons_succ])
                        refine wpAnyH_take (i := 7) (v := ?_) rfl (by kernel_rfl) (by kernel_rfl) (by kernel_rfl) (fun _ _ _ h => h) (Or.inl ⟨by rfl, ?_⟩) (by assumption) ?_
                        rotate_left
                        · (intro wx hSw; have u1 := hSw.v.cell 1 rfl; have xx := hSw.c; go_simp; (try with_reducible rfl); (try omega))
                        (try simp only [Act.put, List.setIfInBounds_toArray, List.set_cons_zero, List.set_cons_succ, List.getElem_toArray, List.getElem_cons_zero, List.getElem_cons_succ])
                        refine wpAnyH_take (i := 8) (v := ?_) rfl (by kernel_rfl) (by kernel_rfl) (by kernel_rfl) (fun _ _ _ h => h) (Or.inl ⟨by rfl, ?_⟩) (by assumption) ?_
                        rotate_left
                        · (intro wx hSw; have u1 := hSw.v.cell 1 rfl; have xx := hSw.c; go_simp; (try with_reducible rfl); (try omega))
                        (try simp only [Act.put, List.setIfInBounds_toArray, List.set_cons_zero, List.set_cons_succ, List.getElem_toArray, List.getElem_cons_zero, List.getElem_cons_succ])
                        refine wpAnyH_take (i := 9) (v := ?_) rfl (by kernel_rfl) (by kernel_rfl) (by kernel_rfl) (fun _ _ _ h => h) (Or.inl ⟨by rfl, ?_⟩) (by assumption) ?_
                        rotate_left
                        · (intro wx hSw; have u1 := hSw.v.cell 1 rfl; have xx := hSw.c; go_simp; (try with_reducible rfl); (try omega))
                        (try simp only [Act.put, List.setIfInBounds_toArray, List.set_cons_zero, List.set_cons_succ, List.getElem_toArray, List.getElem_cons_zero, List.getElem_cons_succ])
                        refine wpAnyH_ready (rs := [4]) (by kernel_rfl) (by simp) ?_
                        refine AllReadyH.cons rfl (fun K hK => ?_) AllReadyH.nil
                        go_simp
                        have hA := hR.below ((Below.refl _ _).alloc (Nat.le_refl _) (Obj.cells #[] 62))
                        have hmade : (WY.alloc (Obj.cells #[] 62)).ownsRow WY.heap.size 62 3 (.slice (some ⟨WY.heap.size, 0, none⟩) 0 0) 0 [] := World.ownsRow_made WY #[] 0 (Nat.le_refl _) (by unfold maxLen; omega) rfl
                        have hbm : Below WY.heap.size WY (WY.alloc (Obj.cells #[] 62)) := (Below.refl _ _).alloc (Nat.le_refl _) _
                        have hrx := HRX.out.1.later (hR.m.b.alloc hR.m.b.size (Obj.cells #[] 62))
                        refine hK.out _ _ ⟨hA.v3.v, HCX.out _ hA.m.b⟩ (fun hHeld => ?_)
                        clear hK K
                        (try simp only [Act.put, List.setIfInBounds_toArray, List.set_cons_zero, List.set_cons_succ, List.getElem_toArray, List.getElem_cons_zero, List.getElem_cons_succ])
                        refine wpAnyH_ready (rs := [10]) (by kernel_rfl) (by simp) ?_
                        refine AllReadyH.cons rfl (fun K hK => ?_) AllReadyH.nil
                        refine step_copyrow (by rfl) _ _ (by rfl) WY.heap.size (by simp) (by rfl) hmade x.a x.c r (by rfl) hrx HRX.out.2 ?_
                        intro a7 c7 W7 hG7 hb7
                        have hR := hR.below (hbm.trans hb7)
                        clear hA hmade hbm hrx hb7
                        refine hK.out _ _ ⟨hR.v3.v, HCX.out _ hR.m.b⟩ (fun hHeld => ?_)
                        clear hK K
                        (try simp only [Act.put, List.setIfInBounds_toArray, List.set_cons_zero, List.set_cons_succ, List.getElem_toArray, List.getElem_cons_zero, List.getElem_cons_succ])
                        refine wpAnyH_take (i := 11) (v := ?_) rfl (by kernel_rfl) (by kernel_rfl) (by kernel_rfl) (fun _ _ _ h => h) (Or.inl ⟨by rfl, ?_⟩) (by assumption) ?_
                        rotate_left
                        · (intro wx hSw; have u1 := hSw.v.cell 1 rfl; have xx := hSw.c; go_simp; (try with_reducible rfl); (try omega))
                        (try simp only [Act.put, List.setIfInBounds_toArray, List.set_cons_zero, List.set_cons_succ, List.getElem_toArray, List.getElem_cons_zero, List.getElem_cons_succ])
                        refine wpAnyH_ready (rs := [12]) (by kernel_rfl) (by simp) ?_
                        refine AllReadyH.cons rfl (fun K hK => ?_) AllReadyH.nil
                        go_simp
                        have hR2 := hR.below ((Below.refl _ _).alloc (Nat.le_refl _) (Obj.cells #[.int .i64 scn, .int .i64 (-1), .slice a7 r.length c7] 49))
                        have hG8 := hG7.later ((Below.refl _ _).alloc (Nat.le_refl _) (Obj.cells #[.int .i64 scn, .int .i64 (-1), .slice a7 r.length c7] 49))
                        have hx7 := VarB.new W7 [.int .i64 scn, .int .i64 (-1), .slice a7 r.length c7] 49
                        have hR := hR2
                        generalize W7.alloc (Obj.cells #[.int .i64 scn, .int .i64 (-1), .slice a7 r.length c7] 49) = W8 at hR hG8 hx7 ⊢
                        generalize W7.heap.size = bx at hx7 ⊢
                        clear hR2 hG7
                        refine hK.out _ _ ⟨hR.v3.v, HCX.out _ hR.m.b⟩ (fun hHeld => ?_)
                        clear hK K
                        (try simp only [Act.put, List.setIfInBounds_toArray, List.set_cons_zero, List.set_cons_succ, List.getElem_toArray, List.getElem_cons_zero, List.getElem_cons_succ])
                        refine wpAnyH_ready (rs := [13]) (by kernel_rfl) (by simp) ?_
                        refine AllReadyH.cons rfl (fun K hK => ?_) AllReadyH.nil
                        refine step_appN (by rfl) _ _ (by rfl) (by rfl) hR.m [⟨scn, (-1), a7, c7, r⟩] 1 rfl ⟨bx, 0, none⟩ 1 (by rfl) (one_ent (hx7.cell 0 rfl) (hx7.cell 1 rfl) (hx7.cell 2 rfl)) (fun e he => by obtain rfl := List.mem_singleton.1 he; exact hG8.lift (Nat.zero_le _)) HLN.out ?_
                        intro v9 W9 hM9 hK9 _
                        have hR := hR.app hM9 hK9
                        obtain ⟨a9, c9, hv9, _, _⟩ := hM9.ents
                        obtain ⟨n9, hn9⟩ : ∃ n9, (Fi ++ [(⟨scn, (-1), a7, c7, r⟩ : Ent)]).length = n9 := ⟨_, rfl⟩
                        rw [hn9] at hv9
                        subst hv9
                        clear hM9 hK9 hn9 hx7 hG8
                        refine hK.out _ _ ⟨hR.v3.v, HCX.out _ hR.m.b⟩ (fun hHeld => ?_)
                        clear hK K
                        (try simp only [Act.put, List.setIfInBounds_toArray, List.set_cons_zero, List.set_cons_succ, List.getElem_toArray, List.getElem_cons_zero, List.getElem_cons_succ])
                        refine wpAnyH_take (i := 14) (v := ?_) rfl (by kernel_rfl) (by kernel_rfl) (by kernel_rfl) (fun _ _ _ h => h) (Or.inl ⟨by rfl, ?_⟩) (by assumption) ?_
                        rotate_left
                        · (intro wx hSw; have u1 := hSw.v.cell 1 rfl; have xx := hSw.c; go_simp; (try with_reducible rfl); (try omega))
                        (try simp only [Act.put, List.setIfInBounds_toArray, List.set_cons_zero, List.set_cons_succ, List.getElem_toArray, List.getElem_cons_zero, List.getElem_cons_succ])
                        refine wpAnyH_done (by kernel_rfl) ?_ _
                        show wpList _ _ _ _ _ _
                        have u1 := hR.v3.v.cell 1 rfl
                        have f1 := hR.v3.v.frz 1 (by simp)
                        have hZ := hid0 (hR.stored (by have := HB36.out; omega))
                        clear hR hHeld
                        go_wp2
                        exact ⟨⟨k', _, Fi ++ [⟨scn, (-1), a7, c7, r⟩], by omega, by go_num, hZ.out, hid0 (HNX.out k' a7 c7 rfl)⟩, by simp [intOf]; omega⟩
                  · rw [if_neg hneg] at hen
                    have HNE := hid0 (HNE0.out 1 K hen)
                    obtain rfl : nn = (K : Int) := by omega
                    have hd : decide ((K : Int) < 0) = false := by simp
                    clear hen HNE0
                    go_wp2_with fail
                    have hK4 : K ≤ 4000 := by omega
                    clear hd hneg hab hK
                    go_loopw [10] (fun kv wr => ∃ (k : Nat) (v : Value) (Fi : List Ent), k ≤ K ∧ kv = .int .i64 k ∧ SAq w w.heap.size (w.heap.size + 1) f v v Fi wr ∧ Hid (Fi.map dat = D ++ entsD scn ((E.map pr).take i) ++ List.replicate (K - k) (scn, (1 : Int), r))) (fun kv _ => (intOf kv).toNat)
                    case atStart => exact ⟨K, v, F, Nat.le_refl _, by go_num, HR0.out, hid0 (by rw [Nat.sub_self, List.replicate_zero, List.append_nil]; exact HT.out)⟩
                    case round =>
                      obtain ⟨k, v, Fi, hk, rfl, hR, hT2⟩ := hrel
                      by_cases hk0 : 0 < k
                      rotate_left
                      · obtain rfl : k = 0 := by omega
                        have hTT := hid0 (HNE.out Fi hT2.out)
                        have HR := hid0 hR
                        clear hR
                        go_wp2_with fail
                        exact ⟨⟨i + 1, v, Fi, by omega, by go_num, HR.out, hTT⟩, by simp [intOf]; omega⟩
                      · have hk1 : (0 : Int) < (k : Int) := by omega
                        obtain ⟨k', hk'⟩ : ∃ k', k = k' + 1 := ⟨k - 1, by omega⟩
                        have hkw : IntKind.i64.wrap ((k : Int) - 1) = (k' : Int) := by rw [IntWalk.i64_in _ (by omega)]; omega
                        have HNX := hid0 (fun (j : Nat) (a7 : Option Addr) (c7 : Nat) (hj : j = k') => (show (Fi ++ [(⟨scn, 1, a7, c7, r⟩ : Ent)]).map dat = D ++ entsD scn ((E.map pr).take i) ++ List.replicate (K - j) (scn, (1 : Int), r) by
                          have e : K - j = (K - k) + 1 := by omega
                          rw [List.map_append, hT2.out, e, List.replicate_succ', List.append_assoc, List.append_assoc, List.append_assoc]; rfl))
                        have HLN := hid0 (show (Fi.length + [(⟨scn, 1, none, 0, r⟩ : Ent)].length) * 40 ≤ 140737488355328 by
                          have e1 := congrArg List.length hT2.out
                          rw [List.length_map, List.length_append, List.length_append, List.length_replicate] at e1
                          have e3 := entsD_len scn ((E.map pr).take i)
                          have e4 := abs_take_le (E.map pr) i
                          have e5 := HSM.out
                          have e6 := HLD.out
                          simp only [List.length_cons, List.length_nil]
                          omega)
                        have HR := hid0 hR
                        have hw6 : w.heap.size ≤ wr.heap.size := hR.m.b.size
                        clear hR
                        go_wp2_with fail
                        have hR := HR.out
                        clear HR
                        refine wp_region_last (S := (SPq w.heap.size [.int .i64 f, v] g9 p9 (.slice x.a r.length x.c))) 15 (by kernel_rfl) (by kernel_rfl) ⟨hR.drew.v3.v, HCX.out _ hR.drew.m.b⟩ (fun hHeld => ?_)
                        have hR := hR.drew
                        generalize wr.drew = WY at hR hHeld ⊢
                        simp only [List.take_succ_cons, List.take_zero, List.drop_succ_cons, List.drop_zero]
                        refine wpAnyH_take (i := 0) (v := ?_) rfl (by kernel_rfl) (by kernel_rfl) (by kernel_rfl) (fun _ _ _ h => h) (Or.inl ⟨by rfl, ?_⟩) (by assumption) ?_
                        rotate_left
                        · (intro wx hSw; have u1 := hSw.v.cell 1 rfl; have xx := hSw.c; go_simp; (try with_reducible rfl); (try omega))
                        (try simp only [Act.put, List.setIfInBounds_toArray, List.set_cons_zero, List.set_cons_succ, List.getElem_toArray, List.getElem_cons_zero])
                        refine wpAnyH_take (i := 1) (v := ?_) rfl (by kernel_rfl) (by kernel_rfl) (by kernel_rfl) (fun _ _ _ h => h) (Or.inl ⟨by rfl, ?_⟩) (by assumption) ?_
                        rotate_left
                        · (intro wx hSw; have u1 := hSw.v.cell 1 rfl; have xx := hSw.c; go_simp; (try with_reducible rfl); (try omega))
                        (try simp only [Act.put, List.setIfInBounds_toArray, List.set_cons_zero, List.set_cons_succ, List.getElem_toArray, List.getElem_cons_zero, List.getElem_cons_succ])
                        refine wpAnyH_take (i := 2) (v := ?_) rfl (by kernel_rfl) (by kernel_rfl) (by kernel_rfl) (fun _ _ _ h => h) (Or.inl ⟨by rfl, ?_⟩) (by assumption) ?_
                        rotate_left
                        · (intro wx hSw; have u1 := hSw.v.cell 1 rfl; have xx := hSw.c; go_simp; (try with_reducible rfl); (try omega))
                        (try simp only [Act.put, List.setIfInBounds_toArray, List.set_cons_zero, List.set_cons_succ, List.getElem_toArray, List.getElem_cons_zero, List.getElem_cons_succ])
                        refine wpAnyH_take (i := 3) (v := ?_) rfl (by kernel_rfl) (by kernel_rfl) (by kernel_rfl) (fun _ _ _ h => h) (Or.inl ⟨by rfl, ?_⟩) (by assumption) ?_
                        rotate_left
                        · (intro wx hSw; have u1 := hSw.v.cell 1 rfl; have xx := hSw.c; go_simp; (try with_reducible rfl); (try omega))
                        (try simp only [Act.put, List.setIfInBounds_toArray, List.set_cons_zero, List.set_cons_succ, List.getElem_toArray, List.getElem_cons_zero, List.getElem_cons_succ])
                        refine wpAnyH_take (i := 5) (v := ?_) rfl (by kernel_rfl) (by kernel_rfl) (by kernel_rfl) (fun _ _ _ h => h) (Or.inl ⟨by rfl, ?_⟩) (by assumption) ?_
                        rotate_left
                        · (intro wx hSw; have u1 := hSw.v.cell 1 rfl; have xx := hSw.c; go_simp; (try with_reducible rfl); (try omega))
                        (try simp only [Act.put, List.setIfInBounds_toArray, List.set_cons_zero, List.set_cons_succ, List.getElem_toArray, List.getElem_cons_zero, List.getElem_cons_succ])
                        refine wpAnyH_take (i := 6) (v := ?_) rfl (by kernel_rfl) (by kernel_rfl) (by kernel_rfl) (fun _ _ _ h => h) (Or.inl ⟨by rfl, ?_⟩) (by assumption) ?_
                        rotate_left
                        · (intro wx hSw; have u1 := hSw.v.cell 1 rfl; have xx := hSw.c; go_simp; (try with_reducible rfl); (try omega))
                        (try simp only [Act.put, List.setIfInBounds_toArray, List.set_cons_zero, List.set_cons_succ, List.getElem_toArray, List.getElem_cons_zero, List.getElem_cons_succ])
                        refine wpAnyH_take (i := 7) (v := ?_) rfl (by kernel_rfl) (by kernel_rfl) (by kernel_rfl) (fun _ _ _ h => h) (Or.inl ⟨by rfl, ?_⟩) (by assumption) ?_
                        rotate_left
                        · (intro wx hSw; have u1 := hSw.v.cell 1 rfl; have xx := hSw.c; go_simp; (try with_reducible rfl); (try omega))
                        (try simp only [Act.put, List.setIfInBounds_toArray, List.set_cons_zero, List.set_cons_succ, List.getElem_toArray, List.getElem_cons_zero, List.getElem_cons_succ])
                        refine wpAnyH_take (i := 8) (v := ?_) rfl (by kernel_rfl) (by kernel_rfl) (by kernel_rfl) (fun _ _ _ h => h) (Or.inl ⟨by rfl, ?_⟩) (by assumption) ?_
                        rotate_left
                        · (intro wx hSw; have u1 := hSw.v.cell 1 rfl; have xx := hSw.c; go_simp; (try with_reducible rfl); (try omega))
                        (try simp only [Act.put, List.setIfInBounds_toArray, List.set_cons_zero, List.set_cons_succ, List.getElem_toArray, List.getElem_cons_zero, List.getElem_cons_succ])
                        refine wpAnyH_take (i := 9) (v := ?_) rfl (by kernel_rfl) (by kernel_rfl) (by kernel_rfl) (fun _ _ _ h => h) (Or.inl ⟨by rfl, ?_⟩) (by assumption) ?_
                        rotate_left
                        · (intro wx hSw; have u1 := hSw.v.cell 1 rfl; have xx := hSw.c; go_simp; (try with_reducible rfl); (try omega))
                        (try simp only [Act.put, List.setIfInBounds_toArray, List.set_cons_zero, List.set_cons_succ, List.getElem_toArray, List.getElem_cons_zero, List.getElem_cons_succ])
                        refine wpAnyH_ready (rs := [4]) (by kernel_rfl) (by simp) ?_
                        refine AllReadyH.cons rfl (fun K hK => ?_) AllReadyH.nil
                        go_simp
                        have hA := hR.below ((Below.refl _ _).alloc (Nat.le_refl _) (Obj.cells #[] 62))
                        have hmade : (WY.alloc (Obj.cells #[] 62)).ownsRow WY.heap.size 62 3 (.slice (some ⟨WY.heap.size, 0, none⟩) 0 0) 0 [] := World.ownsRow_made WY #[] 0 (Nat.le_refl _) (by unfold maxLen; omega) rfl
                        have hbm : Below WY.heap.size WY (WY.alloc (Obj.cells #[] 62)) := (Below.refl _ _).alloc (Nat.le_refl _) _
                        have hrx := HRX.out.1.later (hR.m.b.alloc hR.m.b.size (Obj.cells #[] 62))
                        refine hK.out _ _ ⟨hA.v3.v, HCX.out _ hA.m.b⟩ (fun hHeld => ?_)
                        clear hK K
                        (try simp only [Act.put, List.setIfInBounds_toArray, List.set_cons_zero, List.set_cons_succ, List.getElem_toArray, List.getElem_cons_zero, List.getElem_cons_succ])
                        refine wpAnyH_ready (rs := [10]) (by kernel_rfl) (by simp) ?_
                        refine AllReadyH.cons rfl (fun K hK => ?_) AllReadyH.nil
                        refine step_copyrow (by rfl) _ _ (by rfl) WY.heap.size (by simp) (by rfl) hmade x.a x.c r (by rfl) hrx HRX.out.2 ?_
                        intro a7 c7 W7 hG7 hb7
                        have hR := hR.below (hbm.trans hb7)
                        clear hA hmade hbm hrx hb7
                        refine hK.out _ _ ⟨hR.v3.v, HCX.out _ hR.m.b⟩ (fun hHeld => ?_)
                        clear hK K
                        (try simp only [Act.put, List.setIfInBounds_toArray, List.set_cons_zero, List.set_cons_succ, List.getElem_toArray, List.getElem_cons_zero, List.getElem_cons_succ])
                        refine wpAnyH_take (i := 11) (v := ?_) rfl (by kernel_rfl) (by kernel_rfl) (by kernel_rfl) (fun _ _ _ h => h) (Or.inl ⟨by rfl, ?_⟩) (by assumption) ?_
                        rotate_left
                        · (intro wx hSw; have u1 := hSw.v.cell 1 rfl; have xx := hSw.c; go_simp; (try with_reducible rfl); (try omega))
                        (try simp only [Act.put, List.setIfInBounds_toArray, List.set_cons_zero, List.set_cons_succ, List.getElem_toArray, List.getElem_cons_zero, List.getElem_cons_succ])
                        refine wpAnyH_ready (rs := [12]) (by kernel_rfl) (by simp) ?_
                        refine AllReadyH.cons rfl (fun K hK => ?_) AllReadyH.nil
                        go_simp
                        have hR2 := hR.below ((Below.refl _ _).alloc (Nat.le_refl _) (Obj.cells #[.int .i64 scn, .int .i64 1, .slice a7 r.length c7] 49))
                        have hG8 := hG7.later ((Below.refl _ _).alloc (Nat.le_refl _) (Obj.cells #[.int .i64 scn, .int .i64 1, .slice a7 r.length c7] 49))
                        have hx7 := VarB.new W7 [.int .i64 scn, .int .i64 1, .slice a7 r.length c7] 49
                        have hR := hR2
                        generalize W7.alloc (Obj.cells #[.int .i64 scn, .int .i64 1, .slice a7 r.length c7] 49) = W8 at hR hG8 hx7 ⊢
                        generalize W7.heap.size = bx at hx7 ⊢
                        clear hR2 hG7
                        refine hK.out _ _ ⟨hR.v3.v, HCX.out _ hR.m.b⟩ (fun hHeld => ?_)
                        clear hK K
                        (try simp only [Act.put, List.setIfInBounds_toArray, List.set_cons_zero, List.set_cons_succ, List.getElem_toArray, List.getElem_cons_zero, List.getElem_cons_succ])
                        refine wpAnyH_ready (rs := [13]) (by kernel_rfl) (by simp) ?_
                        refine AllReadyH.cons rfl (fun K hK => ?_) AllReadyH.nil
                        refine step_appN (by rfl) _ _ (by rfl) (by rfl) hR.m [⟨scn, 1, a7, c7, r⟩] 1 rfl ⟨bx, 0, none⟩ 1 (by rfl) (one_ent (hx7.cell 0 rfl) (hx7.cell 1 rfl) (hx7.cell 2 rfl)) (fun e he => by obtain rfl := List.mem_singleton.1 he; exact hG8.lift (Nat.zero_le _)) HLN.out ?_
                        intro v9 W9 hM9 hK9 _
                        have hR := hR.app hM9 hK9
                        obtain ⟨a9, c9, hv9, _, _⟩ := hM9.ents
                        obtain ⟨n9, hn9⟩ : ∃ n9, (Fi ++ [(⟨scn, 1, a7, c7, r⟩ : Ent)]).length = n9 := ⟨_, rfl⟩
                        rw [hn9] at hv9
                        subst hv9
                        clear hM9 hK9 hn9 hx7 hG8
                        refine hK.out _ _ ⟨hR.v3.v, HCX.out _ hR.m.b⟩ (fun hHeld => ?_)
                        clear hK K
                        (try simp only [Act.put, List.setIfInBounds_toArray, List.set_cons_zero, List.set_cons_succ, List.getElem_toArray, List.getElem_cons_zero, List.getElem_cons_succ])
                        refine wpAnyH_take (i := 14) (v := ?_) rfl (by kernel_rfl) (by kernel_rfl) (by kernel_rfl) (fun _ _ _ h => h) (Or.inl ⟨by rfl, ?_⟩) (by assumption) ?_
                        rotate_left
                        · (intro wx hSw; have u1 := hSw.v.cell 1 rfl; have xx := hSw.c; go_simp; (try with_reducible rfl); (try omega))
                        (try simp only [Act.put, List.setIfInBounds_toArray, List.set_cons_zero, List.set_cons_succ, List.getElem_toArray, List.getElem_cons_zero, List.getElem_cons_succ])
                        refine wpAnyH_done (by kernel_rfl) ?_ _
                        show wpList _ _ _ _ _ _
                        have u1 := hR.v3.v.cell 1 rfl
                        have f1 := hR.v3.v.frz 1 (by simp)
                        have hZ := hid0 (hR.stored (by have := HB36.out; omega))
                        clear hR hHeld
                        go_wp2
                        exact ⟨⟨k', _, Fi ++ [⟨scn, 1, a7, c7, r⟩], by omega, by go_num, hZ.out, hid0 (HNX.out k' a7 c7 rfl)⟩, by simp [intOf]; omega⟩
end Go.Proofs.Ytadidikegfiedaa
