/- Several of my texts laid together, each as it was: Hpg. Conditions: each names its own. -/
import Derived.Test.YtneebnankghhgaaHpf
/- The project's heap: setting: a contract of the call, in whatever memory. Conditions: the pages' cells are known. -/
namespace Go.Proofs.Ytneebnankghhgaa
open Go.RowKit

set_option maxHeartbeats 8000000 in
set_option maxRecDepth 1000000 in
theorem hpSet_any (a : Option Addr) (c : Nat) (E : List PgE) (x y : Int) (d : List UInt8) (most : Int) (w : World) (h : HpAt w a c E) (hx1 : -9223372036854775808 ≤ x) (hx2 : x ≤ 9223372036854775807) (hy1 : -9223372036854775808 ≤ y) (hy2 : y ≤ 9223372036854775807) (hd : d.length ≤ 140737488351232) (hm1 : -9223372036854775808 ≤ most) (hm2 : most ≤ 9223372036854775807) :
    Calls Try.prog 9 #[.agg #[.slice a E.length c], .agg #[.int .i64 x, .int .i64 y], .string (txt d), .int .i64 most] w (HIdAns w a E (setHP (hp E) x y d most) (setHX (hp E) x y d most) (setHY (hp E) x y d most) (setHE (hp E) x y d most)) := by
  have A := hid0 h
  have hlb : E.length ≤ 5864062014805 := by have := h.len; omega
  have hz : (txt d).size = d.length := txt_size d
  have v0 := ((((VarAt.new w (.slice a E.length c) 25).alloc (Obj.cells #[.int .i64 x, .int .i64 y] 29)).alloc (Obj.cells #[.slice none 0 0] 25)).alloc (Obj.cells #[.int .i64 0, .int .i64 0] 29))
  have d0 := (((IdAt.new (w.alloc (Obj.cells #[.slice a E.length c] 25)) x y 29).alloc (Obj.cells #[.slice none 0 0] 25)).alloc (Obj.cells #[.int .i64 0, .int .i64 0] 29))
  have r0 := ((VarAt.new ((w.alloc (Obj.cells #[.slice a E.length c] 25)).alloc (Obj.cells #[.int .i64 x, .int .i64 y] 29)) (.slice none 0 0) 25).alloc (Obj.cells #[.int .i64 0, .int .i64 0] 29))
  have s0 := (IdAt.new (((w.alloc (Obj.cells #[.slice a E.length c] 25)).alloc (Obj.cells #[.int .i64 x, .int .i64 y] 29)).alloc (Obj.cells #[.slice none 0 0] 25)) 0 0 29)
  rw [World.size_alloc] at d0
  rw [World.size_alloc, World.size_alloc] at r0
  rw [World.size_alloc, World.size_alloc, World.size_alloc] at s0
  have hB0 : Below w.heap.size w ((((w.alloc (Obj.cells #[.slice a E.length c] 25)).alloc (Obj.cells #[.int .i64 x, .int .i64 y] 29)).alloc (Obj.cells #[.slice none 0 0] 25)).alloc (Obj.cells #[.int .i64 0, .int .i64 0] 29)) := ((((Below.refl _ _).alloc (Nat.le_refl _) _).alloc (by simp) _).alloc (by simp; omega) _).alloc (by simp; omega) _
  have C := hpGet_any a c E x y _ ((((h.alloc (Obj.cells #[.slice a E.length c] 25)).alloc (Obj.cells #[.int .i64 x, .int .i64 y] 29)).alloc (Obj.cells #[.slice none 0 0] 25)).alloc (Obj.cells #[.int .i64 0, .int .i64 0] 29)) hx1 hx2 hy1 hy2
  clear h
  rcases getHE_cases (hp E) x y with ⟨hne, hgd, _⟩ | ⟨hr, i, k, rfl, rfl, hi, hk, hg, he0⟩
  · obtain ⟨e1, e2, e3, e4⟩ := setH_not d most hne
    rw [e1, e2, e3, e4]
    obtain ⟨er, her⟩ : ∃ er, getHE (hp E) x y = er := ⟨_, rfl⟩
    rw [her] at C hne ⊢
    clear e1 e2 e3 e4 hgd her
    obtain ⟨q0, f0⟩ := v0
    obtain ⟨i0, i1, fi⟩ := d0
    go_enter Try.func9, Try.ntmps9
    go_wp2_with fail
    refine C.mono ?_
    rintro e w1 ⟨rfl, hb⟩
    obtain ⟨q1, f1⟩ := (VarAt.mk q0 f0).later hb
    have R1 := r0.later hb
    have S1 := s0.later hb
    have hB1 := below_through hb hB0.size hB0
    have hlS := S1.lt
    have C26 := hpCopied_any a c E w1 (A.out.later hB1).cellsH A.out.len
    clear q0 f0 i0 i1 fi r0 s0 C
    go_wp2_with fail
    refine C26.mono ?_
    rintro e w8 ⟨⟨v, rfl, hown⟩, hb⟩
    obtain ⟨a', c', rfl, hcap, -, -⟩ := pgs_owned hown
    have FN := copied_fin A.out (w.heap.size + 1 + 1) er _ (R1.later hb) (S1.later hb) (below_through hb hB1.size hB1) (by omega) hlS hown
    obtain ⟨m1, n1⟩ := R1.later hb
    obtain ⟨s1, s2, s3⟩ := S1.later hb
    clear C26 R1 S1 q1 f1 hB1
    go_wp2_with fail
    obtain ⟨x1, ⟨x2, x3, _⟩, x4⟩ := FN.out
    exact bodyPost_ret (v := .tuple #[.agg #[.slice a' E.length c'], .agg #[.int .i64 0, .int .i64 0], .int .i64 er]) (by simp [results, Try.results9, go_sem, x1, x2, x3]) rfl x4
  · by_cases hl : d.length ≤ 1016
    · have hiE : i < E.length := by simpa [hp_len] using hi
      obtain ⟨gd, hgd⟩ : ∃ g, getHD (hp E) (i : Int) (k : Int) = g := ⟨_, rfl⟩
      rw [he0, hgd] at C
      have hgp : gotP E[i].p k = some gd := by rw [hp_at hiE] at hg; rw [hg, hgd]
      have hk' : k < E[i].p.length := by rw [hp_at hiE] at hk; exact hk
      have hRp : RightP E[i].p := hr.pages _ (List.mem_map_of_mem (f := PgE.p) (List.getElem_mem hiE))
      have hge := (getE_of hRp hgp).1
      have hroom : roomH (hp E) (i : Int) (k : Int) d = roomB E[i].p (k : Int) d := by
        have hi' : i < (hp E).length := by rw [hp_len]; exact hiE
        unfold roomH
        rw [Int.toNat_natCast, List.getElem?_eq_getElem hi', hp_at hiE]
      obtain ⟨er2, her2⟩ : ∃ e, setE E[i].p (k : Int) d = e := ⟨_, rfl⟩
      have hli : ¬ (1016 : Int) < (d.length : Int) := by omega
      have HALL := hid0 (And.intro hr (And.intro he0 (And.intro hroom (And.intro hge (And.intro her2 (And.intro hl hd))))))
      have HIJ := hid0 (And.intro hx1 (And.intro hx2 (And.intro hy1 (And.intro hy2 (And.intro hm1 hm2)))))
      have C38 := hid0 (fun W (hb : Below w.heap.size w W) => her2 ▸ pgSet_any E[i].a E[i].c E[i].p (k : Int) d W (((A.out.pages _ (List.getElem_mem hiE)).later hb).out) (A.out.pages _ (List.getElem_mem hiE)).cap (A.out.pages _ (List.getElem_mem hiE)).len (A.out.pages _ (List.getElem_mem hiE)).small hy1 hy2 hd)
      clear hgd hg hk hgp hRp hr hi hroom hge her2 hl he0 hx1 hx2 hy1 hy2 hm1 hm2
      obtain ⟨q0, f0⟩ := v0
      obtain ⟨i0, i1, fi⟩ := d0
      go_enter Try.func9, Try.ntmps9
      go_wp2_with fail
      refine C.mono ?_
      rintro e w1 ⟨rfl, hb⟩
      have V0 := (VarAt.mk q0 f0).later hb
      have R0 := r0.later hb
      have S0 := s0.later hb
      have D0 := (IdAt.mk i0 i1 fi).later hb
      have hB1 := below_through hb hB0.size hB0
      clear q0 f0 i0 i1 fi r0 s0 hB0 hb C
      have hne : E ≠ [] := by intro e; rw [e] at hiE; exact absurd hiE (by simp)
      obtain ⟨b, o, rfl, hcs⟩ := (A.out.later hB1).cells hne
      have p1 := hcs i hiE
      clear hcs hne
      have hii : (i : Int) < (E.length : Int) := by omega
      obtain ⟨q0, f0⟩ := V0
      obtain ⟨i0, i1, fi⟩ := D0
      go_wp2_with fail
      go_cut [13, 14] from 15 (fun tv ev wr => ∃ (T : Nat) (a2 : Option Addr) (c2 : Nat) (Q : Pg), tv = .pointer (some ⟨T, 0, none⟩) ∧ ev = .int .i64 er2 ∧ Q.length ≤ c2 ∧ Hid (Q = setP E[i].p (k : Int) d) ∧ Below w1.heap.size w1 wr ∧ SlotsAt wr a2 Q ∧ wr.cell? ⟨T, 0, none⟩ = some (.slice a2 Q.length c2) ∧ w1.heap.size ≤ T ∧ Away w1 E[i].a E[i].p a2 Q)
      case first =>
        go_region_held3 (fun w' => w'.cell? ⟨w.heap.size, 0, none⟩ = some (.slice (some ⟨b, o, none⟩) E.length c) ∧ w'.cell? ⟨w.heap.size + 1, 0, none⟩ = some (.int .i64 (i : Int)) ∧ w'.cell? ⟨w.heap.size + 1, 1, none⟩ = some (.int .i64 (k : Int)) ∧ w'.cell? ⟨b, o + i, none⟩ = some (.slice E[i].a E[i].p.length E[i].c) ∧ Below w.heap.size w w')
          ((go_split_ands; (try dsimp only); (repeat' apply And.intro); all_goals (first
            | assumption
            | exact cell_later hbn ‹_›
            | exact Below.drew hB1
            | exact below_through hbn (Below.size (by assumption)) (by assumption)
            | exact cell_alloc_keep ‹_›
            | exact cell_alloc_keep (cell_later hbn q0)
            | exact cell_alloc_keep (cell_later hbn i0)
            | exact cell_alloc_keep (cell_later hbn i1)
            | exact cell_alloc_keep (cell_later hbn p1)
            | exact Below.alloc (below_through hbn (Below.drew hB1).size (Below.drew hB1)) (Below.size (below_through hbn (Below.drew hB1).size (Below.drew hB1))) _
            | exact Below.alloc (by assumption) (Below.size (by assumption)) _
            | exact store_new_keep q0 (by first | (simp; done) | (have := hbn.size; simp at this ⊢; omega)) ‹_›
            | exact store_new_keep i0 (by first | (simp; done) | (have := hbn.size; simp at this ⊢; omega)) ‹_›
            | exact store_new_keep i1 (by first | (simp; done) | (have := hbn.size; simp at this ⊢; omega)) ‹_›
            | exact store_new_keep p1 (by first | (simp; done) | (have := hbn.size; simp at this ⊢; omega)) ‹_›
            | exact Below.setCell (by assumption) (by first | (have := hB1.size; simp; omega) | (have := hB1.size; have := hbn.size; simp at this ⊢; omega)) _
            | go_keep)))
          (first
            | (go_at_call 20; (try go_split_ands); refine (C38.out _ (by assumption)).mono ?_; rintro e wn ⟨⟨a2, c2, Q, rfl, hc2, hq2, hqe, hAw⟩, hbn⟩; have HQE := hid0 hqe; clear hqe; try (have tv : VarAt wn w1.heap.size (.slice none 0 0) := VarAt.later (VarAt.new w1.drew (.slice none 0 0) 55) hbn; obtain ⟨tc, tf⟩ := tv)))
        all_goals (first
          | (have PV := ((VarAt.mk tc tf).set (.slice a2 Q.length c2)).cell
             have hW0 : Below w1.heap.size w1 (w1.drew.alloc (Obj.cells #[.slice none 0 0] 55)) := (Below.drew (Below.refl _ _)).alloc (Nat.le_refl _) _
             have hBf := (below_through hbn hW0.size hW0).setCell (p := ⟨w1.heap.size, 0, none⟩) (Nat.le_refl _) (.slice a2 Q.length c2)
             have hP0 := (A.out.pages _ (List.getElem_mem hiE)).later hB1
             have hqf := hq2.setCell w1.heap.size 0 (.slice a2 Q.length c2) (far_away hAw (far_old hP0.out (Nat.le_refl _)) (by simp))
             have hAf : Away w1 E[i].a E[i].p a2 Q := away_less hAw (by simp)
             go_wp2_with fail
             go_meet
             case rel => exact ⟨w1.heap.size, a2, c2, Q, rfl, rfl, hc2, HQE, hBf, hqf, PV, Nat.le_refl _, hAf⟩)
          | (have PV := (VarAt.new wn (.slice a2 Q.length c2) 55).cell
             have hW0 : Below w1.heap.size w1 wn := below_through hbn (Nat.le_refl _) (Below.drew (Below.refl _ _))
             have hBf := hW0.alloc hW0.size (Obj.cells #[.slice a2 Q.length c2] 55)
             have hqf := hq2.later ((Below.refl _ _).alloc (Nat.le_refl _) (Obj.cells #[.slice a2 Q.length c2] 55))
             have hAf : Away w1 E[i].a E[i].p a2 Q := away_less hAw (Nat.le_refl _)
             go_wp2_with fail
             go_meet
             case rel => exact ⟨wn.heap.size, a2, c2, Q, rfl, rfl, hc2, HQE, hBf, hqf, PV, hW0.size, hAf⟩))
      case rest =>
        obtain ⟨T, a2, c2, Q, rfl, rfl, hc2, HQE, hBf, hqf, PV, hTl, hAf⟩ := hcut
        generalize wc = Wf at hBf hqf PV ⊢
        have V1 := (VarAt.mk q0 f0).later hBf
        have D1 := (IdAt.mk i0 i1 fi).later hBf
        have R1 := R0.later hBf
        have S1 := S0.later hBf
        have hlR := S0.lt
        have hBw := hB1.trans (hBf.mono hB1.size)
        have hszf := hBf.size
        have hsz1 := hB1.size
        have hTW : T < Wf.heap.size := World.block_lt_of_cell? _ _ PV
        have hPE := A.out.pages _ (List.getElem_mem hiE)
        have hfine := set_fine (p := E[i].p) ⟨hPE.len, hPE.small⟩ (k : Int) d
        have hQ : PgAt Wf a2 c2 Q := ⟨hqf, hc2, by rw [HQE.out]; exact hfine.1, by rw [HQE.out]; exact hfine.2⟩
        have F0 : ∀ B, w.heap.size ≤ B → B < w1.heap.size → Far a2 Q B := fun B h1 h2 => far_away hAf (far_old hPE.out h1) h2
        have FG : ∀ B, Wf.heap.size ≤ B → Far a2 Q B := fun B h1 => far_old hqf h1
        have HAW := hid0 hAf
        clear R0 S0 hB1 hBf hqf hAf hfine hPE q0 f0 i0 i1 fi C38 p1 hc2
        obtain ⟨hr, he0, hroom, hge, her2, hl, hd⟩ := HALL.out
        cases hrb : roomB E[i].p (k : Int) d with
        | true =>
          -- there is room: it is set where it is
          obtain ⟨s1, s2⟩ := set_done hge hrb
          rw [s2] at her2
          obtain rfl : er2 = 0 := her2.symm
          have HIN := hid0 (setH_in most he0 hl (hroom.trans hrb))
          have HS1 := hid0 s1
          have C30 := hpCopied_any (some ⟨b, o, none⟩) c E Wf (A.out.later hBw).cellsH A.out.len
          clear hr he0 hroom hge her2 hl hrb s1 s2 HALL
          obtain ⟨q0, f0⟩ := V1
          obtain ⟨i0, i1, fi⟩ := D1
          go_wp2_with fail
          refine C30.mono ?_
          rintro e w4 ⟨⟨v, rfl, hown⟩, hb⟩
          obtain ⟨g, c4, rfl, hg, hcap4, hf4, hc4⟩ := hown.form (by omega)
          have hgl : g < w4.heap.size := World.block_lt_of_cell? _ _ (hc4 i hiE)
          have hown4 := hown.alloc (Obj.cells #[.slice (some ⟨g, 0, none⟩) E.length c4] 25)
          have D4 := ((IdAt.mk i0 i1 fi).later hb).alloc (Obj.cells #[.slice (some ⟨g, 0, none⟩) E.length c4] 25)
          have R4 := (R1.later hb).alloc (Obj.cells #[.slice (some ⟨g, 0, none⟩) E.length c4] 25)
          have S4 := (S1.later hb).alloc (Obj.cells #[.slice (some ⟨g, 0, none⟩) E.length c4] 25)
          have PV4 := cell_alloc_keep (o := Obj.cells #[.slice (some ⟨g, 0, none⟩) E.length c4] 25) (cell_later hb PV)
          have hQ4 := (hQ.later hb).alloc (Obj.cells #[.slice (some ⟨g, 0, none⟩) E.length c4] 25)
          have hB4 := (below_through hb hBw.size hBw).alloc (by have := hb.size; omega) (Obj.cells #[.slice (some ⟨g, 0, none⟩) E.length c4] 25)
          have VN := VarAt.new w4 (.slice (some ⟨g, 0, none⟩) E.length c4) 25
          have hz4 := hb.size
          have gN : g ≠ w4.heap.size := by omega
          have g1 : g ≠ w.heap.size + 1 := by omega
          have g2 : g ≠ w.heap.size + 1 + 1 := by omega
          have g3 : g ≠ w.heap.size + 1 + 1 + 1 := by omega
          have HO9 := hown4.write i ⟨a2, c2, Q⟩
          have N9 := VN.other ⟨g, i, none⟩ (.slice a2 Q.length c2) gN
          have D9 := D4.other ⟨g, i, none⟩ (.slice a2 Q.length c2) g1
          have R9 := R4.other ⟨g, i, none⟩ (.slice a2 Q.length c2) g2
          have S9 := S4.other ⟨g, i, none⟩ (.slice a2 Q.length c2) g3
          have Q9 := hQ4.setCell g i (.slice a2 Q.length c2) (FG _ hg)
          have B9 := hB4.setCell (p := ⟨g, i, none⟩) (by show w.heap.size ≤ g; omega) (.slice a2 Q.length c2)
          have haw := mem_set_away (w := w) (E := E) (i := i) (e := ⟨a2, c2, Q⟩) (by
            rcases HAW.out with ⟨e1, e2⟩ | h
            · exact .inl ⟨E[i], List.getElem_mem hiE, e1, e2⟩
            · exact .inr (fun b off e => by have := h b off e; omega))
          have hfar : ∀ B, w.heap.size ≤ B → B < w1.heap.size → HFar (some ⟨g, 0, none⟩) (E.set i ⟨a2, c2, Q⟩) B := fun B h1 h2 => by
            refine ⟨fun _ b' o' e => ?_, fun e he => ?_⟩
            · obtain ⟨rfl, -⟩ : g = b' ∧ 0 = o' := by simpa using e
              omega
            · rcases List.mem_or_eq_of_mem_set he with he | rfl
              · exact far_old (A.out.pages e he).out h1
              · exact F0 B h1 h2
          have HA9 : HpAt _ (some ⟨g, 0, none⟩) c4 (E.set i ⟨a2, c2, Q⟩) := ⟨HO9.slots, fun e he => by
            rcases List.mem_or_eq_of_mem_set he with he | rfl
            · exact (A.out.pages e he).later B9
            · exact Q9, by rw [List.length_set]; exact hcap4, by rw [List.length_set]; exact A.out.len⟩
          have HF := hid0 (idans_fin_drew (a := some ⟨b, o, none⟩) R9 S9 (by omega) B9 HA9 (hfar _ (by omega) (by omega)) (hfar _ (by omega) (by omega)) rfl ⟨.inr (fun b' o' e => by
            obtain ⟨rfl, -⟩ : g = b' ∧ 0 = o' := by simpa using e
            omega), haw⟩ (i : Int) (k : Int) 0)
          rw [List.length_set] at HF
          have H9 := hid0 (And.intro N9 (And.intro D9 (And.intro R9 S9)))
          obtain ⟨hgi, hgf, -⟩ := hown4.at hiE
          have hN2 : w.heap.size + 1 + 1 ≠ w4.heap.size := by omega
          have hN3 : w.heap.size + 1 + 1 + 1 ≠ w4.heap.size := by omega
          clear hQ hQ4 hBw hB4 hown hb q0 f0 i0 i1 fi R1 R4 S1 S4 PV hc4 hf4 HO9 N9 D9 R9 S9 Q9 B9 haw hfar HA9 F0 FG hown4
          obtain ⟨n0, fn0⟩ := VN
          obtain ⟨i0, i1, fi⟩ := D4
          go_wp2_with fail
          obtain ⟨N9, D9, R9, S9⟩ := H9.out
          clear H9 hgi hgf n0 fn0 i0 i1 fi PV4
          have hsw := World.setCell_alloc_past (w := w4) (Obj.cells #[.slice (some ⟨g, 0, none⟩) E.length c4] 25) g i (.slice a2 Q.length c2) hgl
          rw [hsw] at N9 D9 R9 S9 HF
          clear hsw
          generalize (w4.setCell ⟨g, i, none⟩ (.slice a2 Q.length c2)).alloc (Obj.cells #[.slice (some ⟨g, 0, none⟩) E.length c4] 25) = W9 at N9 D9 R9 S9 HF ⊢
          have q6 := N9.cell
          have j0 := D9.c0
          have j1 := D9.c1
          have n4 : w.heap.size + 1 + 1 ≠ w.heap.size + 1 := by omega
          have n5 : w.heap.size + 1 + 1 + 1 ≠ w.heap.size + 1 := by omega
          have hd0 : W9.drew.cell? ⟨w.heap.size + 1 + 1, 0, none⟩ = some (.slice none 0 0) := R9.cell
          have hd1 : W9.drew.frozen? ⟨w.heap.size + 1 + 1, 0, none⟩ = false := R9.frz
          have D2 := S9.drew.other ⟨w.heap.size + 1 + 1, 0, none⟩ (.slice (some ⟨g, 0, none⟩) E.length c4) (by show w.heap.size + 1 + 1 ≠ w.heap.size + 1 + 1 + 1; omega)
          obtain ⟨k0, k1, kf⟩ := D2
          obtain ⟨l0, l1, lf⟩ := S9.drew
          have lf0 := lf 0
          have lf1 := lf 1
          have kf0 := kf 0
          have kf1 := kf 1
          obtain ⟨m0, m1, mf⟩ := S9
          have mf0 := mf 0
          have mf1 := mf 1
          obtain ⟨o0, o1⟩ := R9
          go_region_held3 (fun w' => w'.cell? ⟨w4.heap.size, 0, none⟩ = some (.slice (some ⟨g, 0, none⟩) E.length c4) ∧ w'.cell? ⟨w.heap.size + 1, 0, none⟩ = some (.int .i64 (i : Int)) ∧ w'.cell? ⟨w.heap.size + 1, 1, none⟩ = some (.int .i64 (k : Int)))
            ((go_split_ands; (try dsimp only); (repeat' apply And.intro); all_goals (first
              | assumption
              | exact store_other_keep (by assumption) ‹_›
              | exact store_other_keep (by assumption) (store_other_keep (by assumption) ‹_›)
              | go_keep)))
            (fail)
          clear q6 j0 j1 hd0 hd1 k0 k1 kf l0 l1 lf lf0 lf1 kf0 kf1 m0 m1 mf mf0 mf1 o0 o1 N9 D9
          obtain ⟨x1, ⟨x2, x3, _⟩, x4⟩ := HF.out
          go_wp2_with fail
          refine bodyPost_ret (v := .tuple #[.agg #[.slice (some ⟨g, 0, none⟩) E.length c4], .agg #[.int .i64 (i : Int), .int .i64 (k : Int)], .int .i64 0]) (by simp [results, Try.results9, go_sem, x1, x2, x3]) rfl ?_
          obtain ⟨e1, e2, e3, e4⟩ := HIN.out
          rw [e1, e2, e3, e4]
          have hin : inH (hp E) (i : Int) (k : Int) d = hp (E.set i ⟨a2, c2, Q⟩) := by
            have hi' : i < (hp E).length := by rw [hp_len]; exact hiE
            unfold inH
            rw [Int.toNat_natCast, Int.toNat_natCast, List.getElem?_eq_getElem hi', hp_at hiE, hp_set, HQE.out, HS1.out, Int.toNat_natCast]
          rw [hin]
          exact x4
        | false =>
          -- there is none: it is moved
          obtain ⟨s1, s2⟩ := set_full hge hrb
          rw [s2] at her2
          obtain rfl : er2 = 17 := her2.symm
          have C38 := hpMoved_any (some ⟨b, o, none⟩) c E (i : Int) (k : Int) d most Wf (A.out.later hBw) HIJ.out.1 HIJ.out.2.1 HIJ.out.2.2.1 HIJ.out.2.2.2.1 HIJ.out.2.2.2.2.1 HIJ.out.2.2.2.2.2 he0 hl (hroom.trans hrb)
          unfold HIdAns at C38
          obtain ⟨X, hX⟩ : ∃ X, setHX (hp E) (i : Int) (k : Int) d most = X := ⟨_, rfl⟩
          obtain ⟨Y, hY⟩ : ∃ Y, setHY (hp E) (i : Int) (k : Int) d most = Y := ⟨_, rfl⟩
          obtain ⟨er, her⟩ : ∃ er, setHE (hp E) (i : Int) (k : Int) d most = er := ⟨_, rfl⟩
          rw [hX, hY, her] at C38
          have HE := hid0 (And.intro hX (And.intro hY her))
          clear hr he0 hroom hge her2 hl hd hrb s1 s2 hX hY her F0 FG hQ HALL
          obtain ⟨q0, f0⟩ := V1
          obtain ⟨i0, i1, fi⟩ := D1
          go_wp2_with fail
          refine C38.mono ?_
          rintro e w7 ⟨⟨a7, c7, E7, rfl, hA7, hh7, haw7⟩, hb7⟩
          have R7 := R1.later hb7
          have S7 := S1.later hb7
          have hB7 := below_through hb7 hBw.size hBw
          have hf7 : ∀ B, w.heap.size ≤ B → B < w1.heap.size → HFar a7 E7 B := fun B h1 h2 => hfar_away haw7 (hfar_old A.out h1) (by omega)
          have HF := hid0 (idans_fin R7 S7 (by omega) hB7 hA7 (hf7 _ (by omega) (by omega)) (hf7 _ (by omega) (by omega)) hh7 (haw7.less (w0 := w) (by omega)) X Y er)
          obtain ⟨m1, n1⟩ := R7
          obtain ⟨s1, s2, s3⟩ := S7
          clear C38 hb7 R1 S1 q0 f0 i0 i1 fi hA7 haw7 hf7
          go_wp2_with fail
          obtain ⟨x1, ⟨x2, x3, _⟩, x4⟩ := HF.out
          exact bodyPost_ret (v := .tuple #[.agg #[.slice a7 E7.length c7], .agg #[.int .i64 X, .int .i64 Y], .int .i64 er]) (by simp [results, Try.results9, go_sem, x1, x2, x3]) rfl (by obtain ⟨e1, e2, e3⟩ := HE.out; rw [e1, e2, e3]; exact x4)
    · have hli : (1016 : Int) < (d.length : Int) := by omega
      obtain ⟨e1, e2, e3, e4⟩ := setH_long most he0 hl
      rw [e1, e2, e3, e4]
      obtain ⟨gd, hgd⟩ : ∃ g, getHD (hp E) (i : Int) (k : Int) = g := ⟨_, rfl⟩
      rw [he0, hgd] at C
      clear e1 e2 e3 e4 hl hr hg hgd he0
      obtain ⟨q0, f0⟩ := v0
      obtain ⟨i0, i1, fi⟩ := d0
      go_enter Try.func9, Try.ntmps9
      go_wp2_with fail
      refine C.mono ?_
      rintro e w1 ⟨rfl, hb⟩
      obtain ⟨q1, f1⟩ := (VarAt.mk q0 f0).later hb
      have R1 := r0.later hb
      have S1 := s0.later hb
      have hB1 := below_through hb hB0.size hB0
      have hlS := S1.lt
      have C26 := hpCopied_any a c E w1 (A.out.later hB1).cellsH A.out.len
      clear q0 f0 i0 i1 fi r0 s0 C
      go_wp2_with fail
      refine C26.mono ?_
      rintro e w8 ⟨⟨v, rfl, hown⟩, hb⟩
      obtain ⟨a', c', rfl, hcap, -, -⟩ := pgs_owned hown
      have FN := copied_fin A.out (w.heap.size + 1 + 1) 3 _ (R1.later hb) (S1.later hb) (below_through hb hB1.size hB1) (by omega) hlS hown
      obtain ⟨m1, n1⟩ := R1.later hb
      obtain ⟨s1, s2, s3⟩ := S1.later hb
      clear C26 R1 S1 q1 f1 hB1
      go_wp2_with fail
      obtain ⟨x1, ⟨x2, x3, _⟩, x4⟩ := FN.out
      exact bodyPost_ret (v := .tuple #[.agg #[.slice a' E.length c'], .agg #[.int .i64 0, .int .i64 0], .int .i64 3]) (by simp [results, Try.results9, go_sem, x1, x2, x3]) rfl x4
end Go.Proofs.Ytneebnankghhgaa
