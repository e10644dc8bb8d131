/- The project's page: reading it from its bytes: a contract of the call, in whatever memory. Conditions: the bytes are a string's. -/
import Derived.Test.YtpcjfhoppcmenaaQpf
namespace Go.Proofs.Ytpcjfhoppcmenaa
open Go.RowKit

theorem made_slots (n : Nat) : (madeCells (Value.agg #[.bool false, .string ⟨#[]⟩]).cells (n * 2)).toList = slotCells (List.replicate n noS) := by
  show (madeCells #[Value.bool false, Value.string ⟨#[]⟩] (n * 2)).toList = _
  refine List.ext_getElem? fun j => ?_
  by_cases hj : j < n * 2
  · have hk : j / 2 < (List.replicate n noS).length := by rw [List.length_replicate]; omega
    obtain ⟨h0, h1⟩ := slotCells_at (List.replicate n noS) (j / 2) hk
    rw [List.getElem_replicate] at h0 h1
    have e : (madeCells #[Value.bool false, Value.string ⟨#[]⟩] (n * 2)).toList[j]? = some (#[Value.bool false, Value.string ⟨#[]⟩][j % 2]!) := by
      simp [madeCells, hj]
    rw [e]
    rcases (by omega : j % 2 = 0 ∨ j % 2 = 1) with hm | hm
    · rw [show j / 2 * 2 = j by omega] at h0
      rw [hm, h0]; rfl
    · rw [show j / 2 * 2 + 1 = j by omega] at h1
      rw [hm, h1]; rfl
  · rw [List.getElem?_eq_none (by simp [madeCells]; omega), List.getElem?_eq_none (by rw [slotCells_len, List.length_replicate]; omega)]
theorem own_made {w : World} {base B n : Nat} (h : w.ownsRow base 53 2 (.slice (some ⟨B, 0, none⟩) n n) n (madeCells (Value.agg #[.bool false, .string ⟨#[]⟩]).cells (n * 2)).toList) : OwnS w base (.slice (some ⟨B, 0, none⟩) n n) (List.replicate n noS) := by
  rw [made_slots] at h
  refine ⟨?_⟩
  rw [List.length_replicate]
  exact h
theorem fill_next {Q : Pg} {n i : Nat} (t : Slot) (hQ : Q.length = i) (hi : i < n) : (Q ++ List.replicate (n - i) noS).set i t = (Q ++ [t]) ++ List.replicate (n - (i + 1)) noS := by
  rw [List.set_append_right _ _ (by omega), hQ, Nat.sub_self, show n - i = (n - (i + 1)) + 1 by omega, List.replicate_succ, List.set_cons_zero]
  simp
theorem fill_skip {Q : Pg} {n i : Nat} (hi : i < n) : Q ++ List.replicate (n - i) noS = (Q ++ [noS]) ++ List.replicate (n - (i + 1)) noS := by
  rw [show n - i = (n - (i + 1)) + 1 by omega, List.replicate_succ]
  simp
theorem fill_len {Q : Pg} {n i : Nat} (hQ : Q.length = i) (hi : i ≤ n) : (Q ++ List.replicate (n - i) noS).length = n := by
  rw [List.length_append, List.length_replicate]; omega
theorem pgPlace_at (i : Nat) (x : Int) (w : World) (hi : i ≤ 1000000) (hx : x = 2 + 4 * (i : Int)) :
    Calls Try.prog 39 #[.int .i64 (i : Int)] w fun e w' => e = .returned (.int .i64 x) ∧ w = w' := by
  subst hx
  exact pgPlace_any i w hi
theorem pgRead_at (s : List UInt8) (o : Nat) (x : Int) (n : Nat) (w : World) (h : o + 1 < s.length) (hl : s.length ≤ 1000000) (hx : x = (o : Int)) (hn : numAt s o = n) :
    Calls Try.prog 41 #[.string (txt s), .int .i64 x] w fun e w' => e = .returned (.int .i64 (n : Int)) ∧ Below w.heap.size w w' := by
  subst hx
  subst hn
  exact pgRead2_any s o w h hl
theorem ret_page {a : Option Addr} {m n c : Nat} {er : Int} (h : m = n) : Ending.returned (.tuple #[.agg #[.slice a m c], .int .i64 er]) = .returned (.tuple #[.agg #[.slice a n c], .int .i64 er]) := by rw [h]
theorem numAt_lt (s : List UInt8) (o : Nat) : numAt s o < 65536 := by
  have h0 := (s.getD o 0).toNat_lt
  have h1 := (s.getD (o + 1) 0).toNat_lt
  unfold numAt
  omega

set_option maxHeartbeats 8000000 in
set_option maxRecDepth 1000000 in
theorem pgRead_any (s : List UInt8) (w : World) (_hs : s.length ≤ maxLen) :
    Calls Try.prog 29 #[.string (txt s)] w (PgAns w none [] (readQ s) (readE s)) := by
  have hz : (txt s).size = s.length := txt_size s
  have v0 := VarAt.new w (.slice none 0 0) 24
  have hB0 : Below w.heap.size w (w.alloc (Obj.cells #[.slice none 0 0] 24)) := (Below.refl _ _).alloc (Nat.le_refl _) _
  have fin : ∀ (W : World), VarAt W w.heap.size (.slice none 0 0) → Below w.heap.size w W → (∃ a c q', Ending.returned (.tuple #[.agg #[.slice none 0 0], .int .i64 2]) = .returned (.tuple #[.agg #[.slice a q'.length c], .int .i64 2]) ∧ q'.length ≤ c ∧ SlotsAt W a q' ∧ q' = ([] : Pg) ∧ Away w none [] a q') ∧ Below w.heap.size w W :=
    fun W _ hb => ⟨⟨none, 0, [], rfl, Nat.le_refl _, fun h => absurd rfl h, rfl, .inl ⟨rfl, rfl⟩⟩, hb⟩
  by_cases h1024 : s.length = 1024
  · rw [h1024] at hz
    obtain ⟨n, hn⟩ : ∃ n, numAt s 0 = n := ⟨_, rfl⟩
    have hn65 : n < 65536 := by rw [← hn]; exact numAt_lt s 0
    have CR := hid0 (fun W => pgRead_at s 0 0 n W (by omega) (by omega) rfl hn)
    have CP := hid0 (fun W => pgPlace_at n (2 + 4 * (n : Int)) W (by omega) rfl)
    have HN := hid0 hn
    have H1024 := hid0 h1024
    clear hn h1024
    by_cases hmany : 1024 < 2 + 4 * n
    · obtain ⟨e1, e2⟩ := read_none (read_many H1024.out (by rw [HN.out]; exact hmany))
      have E1 := hid0 e1
      have E2 := hid0 e2
      have hmi : (1024 : Int) < 2 + 4 * (n : Int) := by omega
      clear e1 e2
      go_enter Try.func29, Try.ntmps29
      go_wp2_with (first
        | (go_at_call 41; go_must (refine (CR.out _).mono ?_; rintro e w1 ⟨rfl, hb⟩; have v1 := v0.later hb; have hB1 := below_through hb hB0.size hB0; clear v0 hB0 hb))
        | (go_at_call 39; go_must (refine (CP.out _).mono ?_; rintro e w2 ⟨rfl, rfl⟩; obtain ⟨q1, f1⟩ := v1)))
      have v2 := (VarAt.mk q1 f1).set (.slice none 0 0)
      have hB2 := hB1.setCell (p := ⟨w.heap.size, 0, none⟩) (Nat.le_refl _) (.slice none 0 0)
      have c0 := v2.cell
      exact bodyPost_ret (v := .tuple #[.agg #[.slice none 0 0], .int .i64 2]) (by simp [results, Try.results29, go_sem, c0]) rfl (by rw [E1.out, E2.out]; exact fin _ v2 hB2)
    · have HIS := hid0 (read_is H1024.out (by rw [HN.out]; exact hmany))
      have hmi : ¬ (1024 : Int) < 2 + 4 * (n : Int) := by omega
      obtain ⟨i0, hi, hz0, hz1, hz2⟩ := info_parts info52
      go_enter Try.func29, Try.ntmps29
      go_wp2_with fail
      refine (CR.out _).mono ?_
      rintro e w1 ⟨rfl, hb⟩
      have v1 := v0.later hb
      have hB1 := below_through hb hB0.size hB0
      clear v0 hB0 hb
      go_wp2_with fail
      refine (CP.out _).mono ?_
      rintro e wp ⟨rfl, rfl⟩
      go_wp2_with fail
      refine (CR.out _).mono ?_
      rintro e w2 ⟨rfl, hb2⟩
      have v2 := v1.later hb2
      have hB2 := below_through hb2 hB1.size hB1
      clear v1 hB1 hb2
      go_wp2_with (at_make; refine wpList_make_full _ rfl _ _ 22 rfl w2.heap.size 53 i0 (.agg #[.bool false, .string ⟨#[]⟩]) 2 Try.underlying22 hi hz0 hz1 .i64 .i64 n n n rfl rfl rfl rfl (by rw [hz2]; omega) (by unfold maxLen; omega) (Nat.le_refl _) ?_; intro w3 hown hgrow; have hO3 := own_made hown; have hb3 : Below w2.heap.size w2 w3 := (Below.refl _ _).grown hgrow (Nat.le_refl _) (fun j hj => by cases hj); have hRB := v2.lt; have v3 := v2.later hb3; have hB3 := below_through hb3 hB2.size hB2; clear hown hgrow hB2 v2 hb3)
      have hRz := hB3.size
      obtain ⟨B, hBe⟩ : ∃ B, w2.heap.size = B := ⟨_, rfl⟩
      rw [hBe] at hO3 hRB ⊢
      clear hBe hi hz0 hz1 hz2 CR CP
      go_wp2_with fail
      go_loopw [26] (fun iv wr => ∃ (i : Nat) (Q : Pg), i ≤ n ∧ iv = .int .i64 i ∧ VarAt wr w.heap.size (.slice none 0 0) ∧ OwnS wr B (.slice (some ⟨B, 0, none⟩) n n) (Q ++ List.replicate (n - i) noS) ∧ Hid (ReadTo s n i Q) ∧ Below w.heap.size w wr) (fun iv _ => n - (intOf iv).toNat)
      case atStart => exact ⟨0, [], Nat.zero_le _, rfl, v3, hO3, hid0 (readTo_start s n), hB3⟩
      case round =>
        clear v3 hO3 hB3 hRz
        obtain ⟨i, Q, hi, rfl, rv, hown, hT, hB⟩ := hrel
        have hsz := hB.size
        have HO := hid0 hown
        clear hown
        by_cases hlt : i < n
        · obtain ⟨at', hat⟩ : ∃ x, numAt s (2 + 4 * i) = x := ⟨_, rfl⟩
          obtain ⟨sz, hsz'⟩ : ∃ x, numAt s (4 + 4 * i) = x := ⟨_, rfl⟩
          have hat65 : at' < 65536 := by rw [← hat]; exact numAt_lt _ _
          have hsz65 : sz < 65536 := by rw [← hsz']; exact numAt_lt _ _
          have hbd := H1024.out
          have HCP := hid0 (fun W => pgPlace_at i (2 + 4 * (i : Int)) W (by omega) rfl)
          have HC1 := hid0 (fun W => pgRead_at s (2 + 4 * i) (2 + 4 * (i : Int)) at' W (by omega) (by omega) (by omega) hat)
          have HC2 := hid0 (fun W => pgRead_at s (4 + 4 * i) (4 + 4 * (i : Int)) sz W (by omega) (by omega) (by omega) hsz')
          have HAT := hid0 hat
          have HSZ := hid0 hsz'
          clear hat hsz' hbd
          have hi4 : (2 + 4 * (i : Int) + 2) = 4 + 4 * (i : Int) := by omega
          have HI4 := hid0 hi4
          clear hi4
          go_wp2_with fail
          refine (HCP.out _).mono ?_
          rintro e wp ⟨rfl, rfl⟩
          go_wp2_with fail
          refine (HC1.out _).mono ?_
          rintro e w5 ⟨rfl, hb5⟩
          have rv5 := rv.later hb5
          have HO5 := hid0 (HO.out.kept hb5)
          have hB5 := below_through hb5 hsz hB
          clear rv HO hB hb5
          go_wp2_with fail
          refine (HCP.out _).mono ?_
          rintro e wp ⟨rfl, rfl⟩
          go_wp2_with fail
          rw [HI4.out]
          refine (HC2.out _).mono ?_
          rintro e w6 ⟨rfl, hb6⟩
          have rv6 := rv5.later hb6
          have HO6 := hid0 (HO5.out.kept hb6)
          have hB6 := below_through hb6 hB5.size hB5
          clear rv5 HO5 hB5 hb6 HCP HC1 HC2
          by_cases hbad : 1024 < at' + sz
          · have hbi : (1024 : Int) < (at' : Int) + (sz : Int) := by omega
            have hnone := readTo_bad hT.out hlt (slotD_bad HAT.out HSZ.out (by omega))
            have hrn : readP s = none := by rw [HIS.out, HN.out, hnone]
            obtain ⟨e1, e2⟩ := read_none hrn
            have E1 := hid0 e1
            have E2 := hid0 e2
            clear e1 e2 hnone hrn
            have v2 := rv6.set (.slice none 0 0)
            have hB4 := hB6.setCell (p := ⟨w.heap.size, 0, none⟩) (Nat.le_refl _) (.slice none 0 0)
            have c0 := v2.cell
            obtain ⟨q, f⟩ := rv6
            go_wp2
            exact bodyPost_ret (v := .tuple #[.agg #[.slice none 0 0], .int .i64 2]) (by simp [results, Try.results29, go_sem, c0]) rfl (by rw [E1.out, E2.out]; exact fin _ v2 hB4)
          · have hbi : ¬ (1024 : Int) < (at' : Int) + (sz : Int) := by omega
            have hslot := slotD_ok HAT.out HSZ.out (fun h => by omega)
            by_cases h0 : 0 < at'
            · have h0i : (0 : Int) < (at' : Int) := by omega
              rw [if_pos h0] at hslot
              obtain ⟨d, hd⟩ : ∃ d, (s.drop at').take sz = d := ⟨_, rfl⟩
              have hcut : ∀ W : World, (Instr.slice 9 (.string (txt s)) (some (.int .i64 (at' : Int))) (some (.int .i64 ((at' : Int) + (sz : Int)))) none).run Try.prog W = .ok (.string (txt d)) W := fun W => by
                rw [cut_at s at' ((at' : Int) + (sz : Int)) W (by omega) (by omega) (by have := H1024.out; omega), ← hd]
                congr 4 <;> omega
              rw [hd] at hslot
              have HSL := hid0 hslot
              clear hd hslot
              have HN' := hid0 (readTo_next hT.out hlt HSL.out)
              have hQl : Q.length = i := hT.out.2
              have hfl : (Q ++ List.replicate (n - i) noS).length = n := fill_len hQl hi
              obtain ⟨g5, c5, he5, hg5, hcap5, hf5, hc5⟩ := HO6.out.form (by omega)
              obtain ⟨rfl, -, rfl⟩ : B = g5 ∧ n = (Q ++ List.replicate (n - i) noS).length ∧ n = c5 := by
                obtain ⟨h1, h2, h3⟩ := Value.slice.inj he5
                exact ⟨by simpa using h1, h2, h3⟩
              obtain ⟨x0, k0⟩ : ∃ v, w6.cell? ⟨B, i * 2, none⟩ = some v := ⟨_, (hc5 i (by omega)).1⟩
              obtain ⟨x1, k1⟩ : ∃ v, w6.cell? ⟨B, i * 2 + 1, none⟩ = some v := ⟨_, (hc5 i (by omega)).2⟩
              have hown : OwnS w6 B (.slice (some ⟨B, 0, none⟩) (Q ++ List.replicate (n - i) noS).length n) (Q ++ List.replicate (n - i) noS) := by rw [hfl]; exact HO6.out
              have hown2 := hown.write i (true, d)
              rw [List.length_set, hfl, fill_next (true, d) hQl hlt] at hown2
              have HO7 := hid0 hown2
              have rv7 := (rv6.other ⟨B, i * 2, none⟩ (.bool true) (by show B ≠ w.heap.size; omega)).other ⟨B, i * 2 + 1, none⟩ (.string (txt d)) (by show B ≠ w.heap.size; omega)
              have hB7 := (hB6.setCell (p := ⟨B, i * 2, none⟩) (by show w.heap.size ≤ B; omega) (.bool true)).setCell (p := ⟨B, i * 2 + 1, none⟩) (by show w.heap.size ≤ B; omega) (.string (txt d))
              clear hown hown2 hfl he5 hg5 hcap5 hc5 hQl
              go_wp2
              exact ⟨⟨i + 1, Q ++ [(true, d)], by omega, by go_num, rv7, HO7.out, HN', hB7⟩, by simp [intOf]; omega⟩
            · obtain rfl : at' = 0 := by omega
              rw [if_neg h0] at hslot
              have HSL := hid0 hslot
              clear hslot h0
              have HN' := hid0 (readTo_next hT.out hlt HSL.out)
              have HO7 := HO6.out
              rw [fill_skip hlt] at HO7
              have HO8 := hid0 HO7
              clear HO7 HO6
              go_wp2
              exact ⟨⟨i + 1, Q ++ [noS], by omega, by go_num, rv6, HO8.out, HN', hB6⟩, by simp [intOf]; omega⟩
        · obtain rfl : i = n := by omega
          have hend := readTo_end hT.out
          have hQl : Q.length = i := hT.out.2
          have hsm : slotsIn Q := fun t ht => by
            have := slotsD_small _ _ _ hend t ht
            have h2 := H1024.out
            unfold maxLen; omega
          have hrp : readP s = if rightB Q = true ∧ bytesP Q = s then some Q else none := by rw [HIS.out, HN.out, hend]
          have hO := HO.out
          rw [Nat.sub_self, List.replicate_zero, List.append_nil] at hO
          have hO2 := hO.alloc (Obj.cells #[.slice (some ⟨B, 0, none⟩) i i] 24)
          have CB := pgBytes_any (some ⟨B, 0, none⟩) i Q _ hO2.slots (by omega) (by omega) hsm
          rw [hQl] at CB
          have HCB := hid0 CB
          have HQL := hid0 hQl
          have rv2 := rv.alloc (Obj.cells #[.slice (some ⟨B, 0, none⟩) i i] 24)
          have pv2 := VarAt.new wr (.slice (some ⟨B, 0, none⟩) i i) 24
          have hB2 := hB.alloc hsz (Obj.cells #[.slice (some ⟨B, 0, none⟩) i i] 24)
          have HO2 := hid0 hO2
          have hti := txt_toList s
          have hie : ¬ (i : Int) < (i : Int) := by omega
          clear hlt hend hsm CB hO hO2 HO hQl rv hB
          cases hr : rightB Q with
          | false =>
            have hb1 : bytE Q = 1 := by unfold bytE; rw [hr]; rfl
            rw [hb1] at HCB
            obtain ⟨e1, e2⟩ := read_none (s := s) (by rw [hrp, hr]; rfl)
            clear hb1 hr hrp
            have E1 := hid0 e1
            have E2 := hid0 e2
            clear e1 e2
            obtain ⟨p2, _⟩ := pv2
            go_wp2_with fail
            refine HCB.out.mono ?_
            rintro e w5 ⟨rfl, hb5⟩
            have rv5 := rv2.later hb5
            obtain ⟨q5, f5⟩ := rv5
            have hB5 := below_through hb5 hB2.size hB2
            have v2 := (VarAt.mk q5 f5).set (.slice none 0 0)
            have hB6 := hB5.setCell (p := ⟨w.heap.size, 0, none⟩) (Nat.le_refl _) (.slice none 0 0)
            have c0 := v2.cell
            go_wp2
            exact bodyPost_ret (v := .tuple #[.agg #[.slice none 0 0], .int .i64 2]) (by simp [results, Try.results29, go_sem, c0]) rfl (by rw [E1.out, E2.out]; exact fin _ v2 hB6)
          | true =>
            have hb1 : bytE Q = 0 := by unfold bytE; rw [hr]; rfl
            have hb2 : bytD Q = bytesP Q := by unfold bytD; rw [hr]; rfl
            rw [hb1, hb2] at HCB
            rw [hr] at hrp
            obtain ⟨X, hX⟩ : ∃ X, bytesP Q = X := ⟨_, rfl⟩
            rw [hX] at HCB hrp
            have hxi := txt_toList X
            obtain ⟨p2, g2⟩ := pv2
            by_cases hXs : X = s
            · subst hXs
              obtain ⟨e1, e2⟩ := read_some (s := X) (p := Q) (by rw [hrp, if_pos ⟨rfl, rfl⟩])
              have hne : (X == X) = true := by simp
              have E1 := hid0 e1
              have E2 := hid0 e2
              clear e1 e2 hb1 hb2 hr hrp hX
              go_wp2_with fail
              refine HCB.out.mono ?_
              rintro e w5 ⟨rfl, hb5⟩
              have rv5 := rv2.later hb5
              obtain ⟨q5, f5⟩ := rv5
              have qp5 := cell_later hb5 p2
              have hB5 := below_through hb5 hB2.size hB2
              have v2 := (VarAt.mk q5 f5).set (.slice (some ⟨B, 0, none⟩) i i)
              have hB6 := hB5.setCell (p := ⟨w.heap.size, 0, none⟩) (Nat.le_refl _) (.slice (some ⟨B, 0, none⟩) i i)
              have hO6 := (HO2.out.kept hb5).setCell (a := ⟨w.heap.size, 0, none⟩) (by show w.heap.size < B; omega) (.slice (some ⟨B, 0, none⟩) i i)
              have c0 := v2.cell
              go_wp2
              exact bodyPost_ret (v := .tuple #[.agg #[.slice (some ⟨B, 0, none⟩) i i], .int .i64 0]) (by simp [results, Try.results29, go_sem, c0]) rfl (by rw [E1.out, E2.out]; exact ⟨⟨some ⟨B, 0, none⟩, i, Q, ret_page HQL.out.symm, Nat.le_of_eq HQL.out, hO6.slots, rfl, away_new (by omega)⟩, hB6⟩)
            · have hne : (X == s) = false := by simpa using hXs
              obtain ⟨e1, e2⟩ := read_none (s := s) (by rw [hrp, if_neg (fun h => hXs h.2)])
              clear hb1 hb2 hr hrp hX hXs
              have E1 := hid0 e1
              have E2 := hid0 e2
              clear e1 e2
              go_wp2_with fail
              refine HCB.out.mono ?_
              rintro e w5 ⟨rfl, hb5⟩
              have rv5 := rv2.later hb5
              obtain ⟨q5, f5⟩ := rv5
              have hB5 := below_through hb5 hB2.size hB2
              have v2 := (VarAt.mk q5 f5).set (.slice none 0 0)
              have hB6 := hB5.setCell (p := ⟨w.heap.size, 0, none⟩) (Nat.le_refl _) (.slice none 0 0)
              have c0 := v2.cell
              go_wp2
              exact bodyPost_ret (v := .tuple #[.agg #[.slice none 0 0], .int .i64 2]) (by simp [results, Try.results29, go_sem, c0]) rfl (by rw [E1.out, E2.out]; exact fin _ v2 hB6)
  · obtain ⟨e1, e2⟩ := read_none (read_long h1024)
    rw [e1, e2]
    have hne : ¬ ((s.length : Int) = 1024) := by omega
    obtain ⟨q, f⟩ := v0
    clear e1 e2 h1024
    obtain ⟨n, hn⟩ : ∃ n, s.length = n := ⟨_, rfl⟩
    rw [hn] at hz hne
    clear hn
    go_enter Try.func29, Try.ntmps29
    go_wp2
    exact bodyPost_ret (v := .tuple #[.agg #[.slice none 0 0], .int .i64 2]) (by simp [results, Try.results29, go_sem]) rfl (fin _ ⟨q, f⟩ hB0)
end Go.Proofs.Ytpcjfhoppcmenaa
