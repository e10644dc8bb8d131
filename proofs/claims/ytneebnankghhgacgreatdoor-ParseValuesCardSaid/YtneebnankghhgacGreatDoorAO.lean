/- Several of my texts laid together, each as it was: Ao. Conditions: each names its own. -/
import Derived.Test.YtneebnankghhgacGreatDoorAN
import Derived.Test.YtneebnankghhgacGreatDoorWQ
import Derived.Lib.MinMax
import Derived.Deep.CutRange
import Derived.Deep.RegionHeld3
/- The walk of the law ParseValues: it returns true, and below the heap's end memory is as it was. Conditions: the rows' cells are known (what came in reads so); what strconv.ErrRange holds is an error. -/
namespace Go.Proofs.YtneebnankghhgacGreatDoor
open Go.RowKit

/-- What the rows up to i are. -/
structure InsG (R : List (List Val)) (n i : Nat) : Prop where
  few : 0 < i → n ≤ 16
  ok : ∀ r ∈ R.take i, (∀ v ∈ r, ValOk v) ∧ r ≠ [] ∧ r.length ≤ 8
theorem InsG.len {R : List (List Val)} {n i : Nat} (h : InsG R n i) (hi : i ≤ n) : (headT ++ rowsT 0 (R.take i)).length ≤ 17000 := by
  have h1 := rowsT_len 0 (fun r hr => ⟨(h.ok r hr).1, (h.ok r hr).2.2⟩)
  have h2 : (R.take i).length ≤ 16 := by
    rcases Nat.eq_zero_or_pos i with h0 | h0
    · subst h0; simp
    · have := h.few h0; rw [List.length_take]; omega
  rw [List.length_append]
  have : headT.length = 21 := rfl
  omega
theorem InsG.next {R : List (List Val)} {n i : Nat} {r : List Val} (h : InsG R n i) (hr : R[i]? = some r) (hn : n ≤ 16) (h1 : ∀ v ∈ r, ValOk v) (h2 : r ≠ []) (h3 : r.length ≤ 8) : InsG R n (i + 1) :=
  ⟨fun _ => hn, fun x hx => by
    rw [List.take_add_one, hr] at hx
    rcases List.mem_append.1 hx with hx | hx
    · exact h.ok x hx
    · obtain rfl := List.mem_singleton.1 hx
      exact ⟨h1, h2, h3⟩⟩
theorem rows_next {R : List (List Val)} {i : Nat} {r : List Val} (hr : R[i]? = some r) : rowsT 0 (R.take (i + 1)) = rowsT 0 (R.take i) ++ rowT i r := by
  have hi := (List.getElem?_eq_some_iff.1 hr).1
  rw [List.take_add_one, hr]
  show rowsT 0 (R.take i ++ [r]) = _
  rw [rowsT_snoc, Nat.zero_add, List.length_take, Nat.min_eq_left (by omega)]
set_option maxRecDepth 1000000 in
theorem idx0 (W : World) : (Instr.index 29 (.agg #[.string ⟨#[44, 32]⟩, .string ⟨#[40]⟩]) (.int .i64 0)).run Tryz.prog W = .ok (.string ⟨#[44, 32]⟩) W := by
  first | kernel_rfl | simp [Instr.index, go_sem]
set_option maxRecDepth 1000000 in
theorem idx1 (W : World) : (Instr.index 29 (.agg #[.string ⟨#[44, 32]⟩, .string ⟨#[40]⟩]) (.int .i64 1)).run Tryz.prog W = .ok (.string ⟨#[40]⟩) W := by
  first | kernel_rfl | simp [Instr.index, go_sem]
theorem chk_small {k n : Int} {s : ByteArray} (h : chk k n s = 0) : s.size ≤ 64 := by
  unfold chk at h
  have hz : ∀ {s : ByteArray}, s.toList = [] → s.size ≤ 64 := fun e => by rw [no_text e]; decide
  split at h
  · split at h
    · rename_i g; exact hz g.2
    · cases h
  split at h
  · split at h
    · rename_i g; exact hz g
    · cases h
  split at h
  · split at h
    · rename_i g; exact hz g.1
    · cases h
  split at h
  · split at h
    · split at h
      · assumption
      · cases h
    · cases h
  · cases h
theorem vals_next {r : List Val} {k : Nat} (h : k < r.length) : valsT 0 (r.take (k + 1)) = valsT 0 (r.take k) ++ vT k r[k] := by
  rw [List.take_succ_eq_append_getElem h, valsT_snoc, Nat.zero_add, List.length_take, Nat.min_eq_left (by omega)]

set_option maxRecDepth 1000000 in
set_option maxHeartbeats 8000000 in
theorem lawParseValues (a : Option Addr) (c : Nat) (Ls : List Line) (w : World) (hL : Lns w a Ls) (hI : ∀ e ∈ Ls, ∀ x ∈ e.r, inI x) (hn : Ls.length ≤ maxLen) (er : ErAt w) :
    Calls Tryz.prog 3 #[.slice a Ls.length c] w fun e w' => e = .returned (.bool true) ∧ Below w.heap.size w w' := by
  unfold maxLen at hn
  have A := hid0 hL
  have AI := hid0 hI
  have ER := hid0 er
  obtain ⟨n, hnn⟩ : ∃ n, Ls.length = n := ⟨_, rfl⟩
  rw [hnn]
  rw [hnn] at hn
  have HN := hid0 hnn
  clear hL hI er hnn
  go_enter Tryz.func3, Tryz.ntmps3
  go_wp2_with fail
  go_loopw [3, 4] (fun sv iv wr => ∃ i : Nat, i ≤ n ∧ iv = .int .i64 i ∧ sv = .string (txt (headT ++ rowsT 0 ((Ls.map (·.r)).take i))) ∧ InsG (Ls.map (·.r)) n i ∧ Below w.heap.size w wr) (fun _ iv _ => n - (intOf iv).toNat)
  case atStart => exact ⟨0, Nat.zero_le _, rfl, rfl, ⟨fun h => absurd h (by omega), fun r hr => absurd hr (by simp)⟩, Below.refl _ _⟩
  case round =>
    obtain ⟨i, hi, rfl, rfl, hG, hB⟩ := hrel
    have hsz := hB.size
    by_cases hlt : i < n
    · have g1 : i < Ls.length := by rw [HN.out]; exact hlt
      obtain ⟨b, o, rfl, hc⟩ := (A.out.later hB).cells (by intro e; rw [e] at g1; exact absurd g1 (by simp))
      have p0 := hc i g1
      have hrow := A.out.rows _ (List.getElem_mem g1)
      have hin := AI.out _ (List.getElem_mem g1)
      have hRi : (Ls.map (·.r))[i]? = some Ls[i].r := by simp [g1]
      obtain ⟨⟨ea, ec, r⟩, hop⟩ : ∃ t, Ls[i] = t := ⟨_, rfl⟩
      rw [hop] at p0 hrow hin hRi
      dsimp only at p0 hrow hin hRi
      have HOP := hid0 hop
      have HR := hid0 hrow
      have HI := hid0 hin
      have HRi := hid0 hRi
      have HG := hid0 hG
      have hS := hG.len hi
      obtain ⟨S, hSS⟩ : ∃ S, headT ++ rowsT 0 ((Ls.map (·.r)).take i) = S := ⟨_, rfl⟩
      rw [hSS] at hS ⊢
      have HS := hid0 hSS
      obtain ⟨m, hm⟩ : ∃ m, r.length = m := ⟨_, rfl⟩
      rw [hm] at p0
      have HM := hid0 hm
      have hii : (i : Int) < (n : Int) := by omega
      have CA := awake9_any _ (ER.out.later hB)
      have HB := hid0 hB
      clear hc hop hrow hin hRi hG hSS hm
      by_cases h0 : m = 0
      · subst h0
        clear hB
        go_wp2_with (go_at_call 4; refine CA.mono ?_; rintro e w2 ⟨rfl, hb2⟩)
        go_ret
        exact ⟨rfl, below_through hb2 hsz HB.out⟩
      have h0' : (((m : Nat) : Int) == 0) = false := by simp; omega
      by_cases h8 : m ≤ 8
      rotate_left
      · have h8' : (8 : Int) < (m : Int) := by omega
        clear hB
        go_wp2_with (go_at_call 4; refine CA.mono ?_; rintro e w2 ⟨rfl, hb2⟩)
        go_ret
        exact ⟨rfl, below_through hb2 hsz HB.out⟩
      have h8' : ¬ (8 : Int) < (m : Int) := by omega
      by_cases h16 : n ≤ 16
      rotate_left
      · have h16' : (16 : Int) < (n : Int) := by omega
        clear hB
        go_wp2_with (go_at_call 4; refine CA.mono ?_; rintro e w2 ⟨rfl, hb2⟩)
        go_ret
        exact ⟨rfl, below_through hb2 hsz HB.out⟩
      have h16' : ¬ (16 : Int) < (n : Int) := by omega
      clear CA
      obtain ⟨S1, hS1⟩ : ∃ S1, S ++ comT i = S1 := ⟨_, rfl⟩
      have hl1 : S1.length ≤ 17002 := by
        rw [← hS1, List.length_append]
        have : (comT i).length ≤ 2 := by unfold comT; split <;> simp
        omega
      have HS1 := hid0 hS1
      have hz0 : (txt S).size = S.length := txt_size S
      have hway : (i = 0 ∧ S = S1) ∨ (0 < i ∧ txt S ++ ⟨#[44, 32]⟩ = txt S1) := by
        rcases Nat.eq_zero_or_pos i with h | h
        · left; refine ⟨h, ?_⟩; rw [← hS1]; unfold comT; rw [if_pos h]; simp
        · right; refine ⟨h, ?_⟩; rw [← hS1]; unfold comT; rw [if_neg (by omega), ← txt_add]; rfl
      clear hS1 hB
      rcases hway with ⟨hi0, hSe⟩ | ⟨hi0, hSe⟩
      · rw [hSe]
        have hi1 : ¬ (0 : Int) < (i : Int) := by omega
        have hBc := HB.out
        clear hi0 hSe HB hz0
        go_wp2_with fail
        go_loopw [3, 5] (fun sv kv wq => ∃ k : Nat, k ≤ m ∧ kv = .int .i64 k ∧ sv = .string (txt (S1 ++ valsT 0 (r.take k))) ∧ Hid (∀ v ∈ r.take k, ValOk v) ∧ Below w.heap.size w wq) (fun _ kv _ => m - (intOf kv).toNat)
        case atStart => exact ⟨0, Nat.zero_le _, rfl, by simp [valsT], hid0 (fun v hv => absurd hv (by simp)), hBc⟩
        case round =>
          obtain ⟨k, hk, rfl, rfl, hV, hB2⟩ := hrel
          have hsz2 := hB2.size
          obtain ⟨b', o', eb, hc'⟩ := (A.out.later hB2).cells (by intro e; rw [e] at g1; exact absurd g1 (by simp))
          obtain ⟨rfl, rfl⟩ : b = b' ∧ o = o' := by simpa using eb
          have p1 : wr.cell? ⟨b, o + i, none⟩ = some (Value.slice ea m ec) := by have := hc' i g1; rw [HOP.out] at this; dsimp only at this; rwa [HM.out] at this
          clear hc' eb p0
          have hlS : (S1 ++ valsT 0 (r.take k)).length ≤ 20000 := by
            have h1 := valsT_len 0 hV.out
            have h2 : (r.take k).length ≤ 8 := by rw [List.length_take, HM.out]; omega
            rw [List.length_append]; omega
          obtain ⟨S2, hS2⟩ : ∃ S2, S1 ++ valsT 0 (r.take k) = S2 := ⟨_, rfl⟩
          rw [hS2] at hlS ⊢
          have HS2 := hid0 hS2
          have hz2 : (txt S2).size = S2.length := txt_size S2
          by_cases hkm : k < m
          · have g2 : k < r.length := by rw [HM.out]; exact hkm
            obtain ⟨rb, ro, rfl, hrc⟩ := (HR.out.later hB2) (by intro e; rw [e] at g2; exact absurd g2 (by simp))
            obtain ⟨q0, q1, q2⟩ := hrc k g2
            have hin1 := HI.out _ (List.getElem_mem g2)
            have hvk := vals_next g2
            obtain ⟨⟨vk, vn, vs⟩, hv⟩ : ∃ v, r[k] = v := ⟨_, rfl⟩
            rw [hv] at q0 q1 q2 hin1 hvk
            dsimp only at q0 q1 q2
            have HVK := hid0 hvk
            have HV1 := hid0 hv
            obtain ⟨hi1, hi2, hi3⟩ := hin1
            dsimp only at hi1 hi2 hi3
            have CC := fun W => refCheck_any vk vn vs W hi3
            obtain ⟨x, hx⟩ : ∃ x, chk vk vn vs = x := ⟨_, rfl⟩
            rw [hx] at CC
            have HX := hid0 hx
            have CA := fun W (hb : Below w.heap.size w W) => awake9_any W (ER.out.later hb)
            have hkm' : (k : Int) < (m : Int) := by omega
            have HB2 := hid0 hB2
            clear hrc hv hx hS2 hvk hB2
            by_cases hx0 : x = 0
            rotate_left
            · have hx1 : (x != 0) = true := by simpa using hx0
              clear hx0 hz2
              go_wp2_with fail
              go_at_call 5
              refine (CC _).mono ?_
              rintro e w3 ⟨rfl, hb3⟩
              have B3 := below_through hb3 hsz2 HB2.out
              have CA3 := CA _ B3
              go_wp2_with (go_at_call 4; refine CA3.mono ?_; rintro e w4 ⟨rfl, hb4⟩)
              go_ret
              exact ⟨rfl, below_through hb4 B3.size B3⟩
            · subst hx0
              have hok : ValOk ⟨vk, vn, vs⟩ := ⟨HX.out, hi1, hi2⟩
              have hpl := print_len hok
              have hsm : vs.size ≤ 1048576 := by
                have h := HX.out
                have hb := chk_small h
                omega
              have CP := fun W => refPrint_any vk vn vs W hi1 hi2 hsm
              obtain ⟨P, hP⟩ : ∃ P, printL vk vn vs = P := ⟨_, rfl⟩
              rw [show printL (⟨vk, vn, vs⟩ : Val).k (⟨vk, vn, vs⟩ : Val).n (⟨vk, vn, vs⟩ : Val).s = P from hP] at hpl
              rw [hP] at CP
              change ∀ W, Calls _ _ _ W (fun e w' => e = .returned (.string (txt P)) ∧ _) at CP
              have HP := hid0 hP
              have HOK := hid0 hok
              clear hP hok CA
              go_wp2_with fail
              go_at_call 5
              refine (CC _).mono ?_
              rintro e w3 ⟨rfl, hb3⟩
              have B3 := below_through hb3 hsz2 HB2.out
              replace p1 := cell_later hb3 p1
              replace q0 := cell_later hb3 q0
              replace q1 := cell_later hb3 q1
              replace q2 := cell_later hb3 q2
              clear CC
              have fin : ∀ W, Below w.heap.size w W → ∃ k' : Nat, k' ≤ m ∧ Value.int .i64 ((k : Int) + 1) = .int .i64 k' ∧ Value.string (txt (S2 ++ (preT k ++ P))) = .string (txt (S1 ++ valsT 0 (r.take k'))) ∧ Hid (∀ v ∈ r.take k', ValOk v) ∧ Below w.heap.size w W := fun W hb =>
                ⟨k + 1, by omega, by go_num, by rw [HVK.out, show S1 ++ (valsT 0 (r.take k) ++ vT k ⟨vk, vn, vs⟩) = S2 ++ (preT k ++ P) by rw [← List.append_assoc, HS2.out, ← HP.out]; rfl], hid0 (fun v hv => by
                  rw [List.take_succ_eq_append_getElem g2] at hv
                  rcases List.mem_append.1 hv with hv | hv
                  · exact hV.out v hv
                  · obtain rfl := List.mem_singleton.1 hv
                    have := HOK.out
                    rw [← HV1.out] at this
                    exact this), hb⟩
              have FIN := hid0 fin
              have hzP : (txt P).size = P.length := txt_size P
              clear fin
              rcases Nat.eq_zero_or_pos k with hk0 | hk0
              · subst hk0
                simp only [Nat.zero_mul, Nat.add_zero] at q0 q1 q2
                obtain ⟨S3, hS3⟩ : ∃ S3, S2 ++ [40] = S3 := ⟨_, rfl⟩
                have X1 : txt S2 ++ ⟨#[40]⟩ = txt S3 := by rw [← hS3, ← txt_add]; rfl
                have hd1 : ∀ W, (Op.stringOp .add (txt S2) ⟨#[40]⟩).run Tryz.prog W = .ok (.string (txt S3)) W := fun W => by rw [run_string_add_sum W _ _ (by rw [hz2]; show S2.length + 1 ≤ _; omega), X1]
                have hl3 : S3.length = S2.length + 1 := by rw [← hS3]; simp
                have hz3 : (txt S3).size = S3.length := txt_size S3
                have X2 : txt S3 ++ txt P = txt (S2 ++ (preT 0 ++ P)) := by rw [txt_add, ← hS3]; congr 1; simp [preT]
                have hkw : IntKind.i64.wrap 1 = 1 := by decide
                have hmx : max (0 : Int) 1 = 1 := by decide
                have hix := idx1
                have hd2 : ∀ W, (Op.stringOp .add (txt S3) (txt P)).run Tryz.prog W = .ok (.string (txt (S2 ++ (preT 0 ++ P)))) W := fun W => by rw [run_string_add_sum W _ _ (by rw [hz3, hzP]; omega), X2]
                have HS3 := hid0 hS3
                clear hS3
                go_wp2_with fail
                go_region_held3 (fun w' => w'.cell? ⟨b, o + i, none⟩ = some (.slice (some ⟨rb, ro, none⟩) m ec) ∧ w'.cell? ⟨rb, ro, none⟩ = some (.int .i64 vk) ∧ w'.cell? ⟨rb, ro + 1, none⟩ = some (.int .i64 vn) ∧ w'.cell? ⟨rb, ro + 2, none⟩ = some (.string vs) ∧ Below w.heap.size w w')
                  ((go_split_ands; (try dsimp only); (repeat' apply And.intro); all_goals (first
                    | assumption
                    | exact cell_later hbn ‹_›
                    | exact below_through hbn (Below.size ‹Below w.heap.size w _›) ‹_›
                    | exact Below.drew B3
                    | go_keep)))
                  (first
                    | (go_at_call 6; (try go_split_ands); refine (CP _).mono ?_; rintro e wn ⟨rfl, hbn⟩))
                all_goals
                  obtain ⟨_, _, _, _, hBn⟩ := ‹wn.cell? ⟨b, o + i, none⟩ = some (.slice (some ⟨rb, ro, none⟩) m ec) ∧ _›
                  have FF := FIN.out _ hBn
                  go_wp2
                  exact ⟨FF, by simp [intOf]; omega⟩
              · have hkw : IntKind.i64.wrap (1 - (k : Int)) = 1 - (k : Int) := IntWalk.i64_in _ (by omega)
                have hmx : max (0 : Int) (1 - (k : Int)) = 0 := by omega
                obtain ⟨S3, hS3⟩ : ∃ S3, S2 ++ [44, 32] = S3 := ⟨_, rfl⟩
                have X1 : txt S2 ++ ⟨#[44, 32]⟩ = txt S3 := by rw [← hS3, ← txt_add]; rfl
                have hd1 : ∀ W, (Op.stringOp .add (txt S2) ⟨#[44, 32]⟩).run Tryz.prog W = .ok (.string (txt S3)) W := fun W => by rw [run_string_add_sum W _ _ (by rw [hz2]; show S2.length + 2 ≤ _; omega), X1]
                have hl3 : S3.length = S2.length + 2 := by rw [← hS3]; simp
                have hz3 : (txt S3).size = S3.length := txt_size S3
                have X2 : txt S3 ++ txt P = txt (S2 ++ (preT k ++ P)) := by rw [txt_add, ← hS3]; congr 1; unfold preT; rw [if_neg (by omega)]; simp
                have hix := idx0
                have hd2 : ∀ W, (Op.stringOp .add (txt S3) (txt P)).run Tryz.prog W = .ok (.string (txt (S2 ++ (preT k ++ P)))) W := fun W => by rw [run_string_add_sum W _ _ (by rw [hz3, hzP]; omega), X2]
                have HS3 := hid0 hS3
                clear hS3
                go_wp2_with fail
                go_region_held3 (fun w' => w'.cell? ⟨b, o + i, none⟩ = some (.slice (some ⟨rb, ro, none⟩) m ec) ∧ w'.cell? ⟨rb, ro + k * 3, none⟩ = some (.int .i64 vk) ∧ w'.cell? ⟨rb, ro + k * 3 + 1, none⟩ = some (.int .i64 vn) ∧ w'.cell? ⟨rb, ro + k * 3 + 2, none⟩ = some (.string vs) ∧ Below w.heap.size w w')
                  ((go_split_ands; (try dsimp only); (repeat' apply And.intro); all_goals (first
                    | assumption
                    | exact cell_later hbn ‹_›
                    | exact below_through hbn (Below.size ‹Below w.heap.size w _›) ‹_›
                    | exact Below.drew B3
                    | go_keep)))
                  (first
                    | (go_at_call 6; (try go_split_ands); refine (CP _).mono ?_; rintro e wn ⟨rfl, hbn⟩))
                all_goals
                  obtain ⟨_, _, _, _, hBn⟩ := ‹wn.cell? ⟨b, o + i, none⟩ = some (.slice (some ⟨rb, ro, none⟩) m ec) ∧ _›
                  have FF := FIN.out _ hBn
                  go_wp2
                  exact ⟨FF, by simp [intOf]; omega⟩
          · have hkm' : ¬ (k : Int) < (m : Int) := by omega
            obtain rfl : k = m := by omega
            obtain ⟨S3, hS3⟩ : ∃ S3, S2 ++ [41] = S3 := ⟨_, rfl⟩
            have X1 : txt S2 ++ ⟨#[41]⟩ = txt S3 := by rw [← hS3, ← txt_add]; rfl
            have fin : ∃ i' : Nat, i' ≤ n ∧ Value.int .i64 ((i : Int) + 1) = .int .i64 i' ∧ Value.string (txt S3) = .string (txt (headT ++ rowsT 0 ((Ls.map (·.r)).take i'))) ∧ InsG (Ls.map (·.r)) n i' ∧ Below w.heap.size w _ :=
              ⟨i + 1, by omega, by go_num, by
                rw [rows_next HRi.out, ← List.append_assoc, HS.out, ← hS3, ← HS2.out, ← HS1.out, List.take_of_length_le (by rw [HM.out]; exact Nat.le_refl _)]
                unfold rowT
                simp only [List.append_assoc], HG.out.next HRi.out h16 (by
                  have := hV.out
                  rwa [List.take_of_length_le (by rw [HM.out]; exact Nat.le_refl _)] at this) (by intro e; rw [e] at HM; have := HM.out; simp at this; omega) (by rw [HM.out]; exact h8), hB2⟩
            have FIN := hid0 fin
            clear fin hB2 hS3 hS2
            go_wp2
            exact ⟨FIN.out, by simp [intOf]; omega⟩
      · have hi1 : (0 : Int) < (i : Int) := by omega
        have hBc := HB.out
        clear hi0 HB
        go_wp2_with fail
        go_loopw [3, 5] (fun sv kv wq => ∃ k : Nat, k ≤ m ∧ kv = .int .i64 k ∧ sv = .string (txt (S1 ++ valsT 0 (r.take k))) ∧ Hid (∀ v ∈ r.take k, ValOk v) ∧ Below w.heap.size w wq) (fun _ kv _ => m - (intOf kv).toNat)
        case atStart => exact ⟨0, Nat.zero_le _, rfl, by simp [valsT], hid0 (fun v hv => absurd hv (by simp)), hBc⟩
        case round =>
          obtain ⟨k, hk, rfl, rfl, hV, hB2⟩ := hrel
          have hsz2 := hB2.size
          obtain ⟨b', o', eb, hc'⟩ := (A.out.later hB2).cells (by intro e; rw [e] at g1; exact absurd g1 (by simp))
          obtain ⟨rfl, rfl⟩ : b = b' ∧ o = o' := by simpa using eb
          have p1 : wr.cell? ⟨b, o + i, none⟩ = some (Value.slice ea m ec) := by have := hc' i g1; rw [HOP.out] at this; dsimp only at this; rwa [HM.out] at this
          clear hc' eb p0
          have hlS : (S1 ++ valsT 0 (r.take k)).length ≤ 20000 := by
            have h1 := valsT_len 0 hV.out
            have h2 : (r.take k).length ≤ 8 := by rw [List.length_take, HM.out]; omega
            rw [List.length_append]; omega
          obtain ⟨S2, hS2⟩ : ∃ S2, S1 ++ valsT 0 (r.take k) = S2 := ⟨_, rfl⟩
          rw [hS2] at hlS ⊢
          have HS2 := hid0 hS2
          have hz2 : (txt S2).size = S2.length := txt_size S2
          by_cases hkm : k < m
          · have g2 : k < r.length := by rw [HM.out]; exact hkm
            obtain ⟨rb, ro, rfl, hrc⟩ := (HR.out.later hB2) (by intro e; rw [e] at g2; exact absurd g2 (by simp))
            obtain ⟨q0, q1, q2⟩ := hrc k g2
            have hin1 := HI.out _ (List.getElem_mem g2)
            have hvk := vals_next g2
            obtain ⟨⟨vk, vn, vs⟩, hv⟩ : ∃ v, r[k] = v := ⟨_, rfl⟩
            rw [hv] at q0 q1 q2 hin1 hvk
            dsimp only at q0 q1 q2
            have HVK := hid0 hvk
            have HV1 := hid0 hv
            obtain ⟨hi1, hi2, hi3⟩ := hin1
            dsimp only at hi1 hi2 hi3
            have CC := fun W => refCheck_any vk vn vs W hi3
            obtain ⟨x, hx⟩ : ∃ x, chk vk vn vs = x := ⟨_, rfl⟩
            rw [hx] at CC
            have HX := hid0 hx
            have CA := fun W (hb : Below w.heap.size w W) => awake9_any W (ER.out.later hb)
            have hkm' : (k : Int) < (m : Int) := by omega
            have HB2 := hid0 hB2
            clear hrc hv hx hS2 hvk hB2
            by_cases hx0 : x = 0
            rotate_left
            · have hx1 : (x != 0) = true := by simpa using hx0
              clear hx0 hz2
              go_wp2_with fail
              go_at_call 5
              refine (CC _).mono ?_
              rintro e w3 ⟨rfl, hb3⟩
              have B3 := below_through hb3 hsz2 HB2.out
              have CA3 := CA _ B3
              go_wp2_with (go_at_call 4; refine CA3.mono ?_; rintro e w4 ⟨rfl, hb4⟩)
              go_ret
              exact ⟨rfl, below_through hb4 B3.size B3⟩
            · subst hx0
              have hok : ValOk ⟨vk, vn, vs⟩ := ⟨HX.out, hi1, hi2⟩
              have hpl := print_len hok
              have hsm : vs.size ≤ 1048576 := by
                have h := HX.out
                have hb := chk_small h
                omega
              have CP := fun W => refPrint_any vk vn vs W hi1 hi2 hsm
              obtain ⟨P, hP⟩ : ∃ P, printL vk vn vs = P := ⟨_, rfl⟩
              rw [show printL (⟨vk, vn, vs⟩ : Val).k (⟨vk, vn, vs⟩ : Val).n (⟨vk, vn, vs⟩ : Val).s = P from hP] at hpl
              rw [hP] at CP
              change ∀ W, Calls _ _ _ W (fun e w' => e = .returned (.string (txt P)) ∧ _) at CP
              have HP := hid0 hP
              have HOK := hid0 hok
              clear hP hok CA
              go_wp2_with fail
              go_at_call 5
              refine (CC _).mono ?_
              rintro e w3 ⟨rfl, hb3⟩
              have B3 := below_through hb3 hsz2 HB2.out
              replace p1 := cell_later hb3 p1
              replace q0 := cell_later hb3 q0
              replace q1 := cell_later hb3 q1
              replace q2 := cell_later hb3 q2
              clear CC
              have fin : ∀ W, Below w.heap.size w W → ∃ k' : Nat, k' ≤ m ∧ Value.int .i64 ((k : Int) + 1) = .int .i64 k' ∧ Value.string (txt (S2 ++ (preT k ++ P))) = .string (txt (S1 ++ valsT 0 (r.take k'))) ∧ Hid (∀ v ∈ r.take k', ValOk v) ∧ Below w.heap.size w W := fun W hb =>
                ⟨k + 1, by omega, by go_num, by rw [HVK.out, show S1 ++ (valsT 0 (r.take k) ++ vT k ⟨vk, vn, vs⟩) = S2 ++ (preT k ++ P) by rw [← List.append_assoc, HS2.out, ← HP.out]; rfl], hid0 (fun v hv => by
                  rw [List.take_succ_eq_append_getElem g2] at hv
                  rcases List.mem_append.1 hv with hv | hv
                  · exact hV.out v hv
                  · obtain rfl := List.mem_singleton.1 hv
                    have := HOK.out
                    rw [← HV1.out] at this
                    exact this), hb⟩
              have FIN := hid0 fin
              have hzP : (txt P).size = P.length := txt_size P
              clear fin
              rcases Nat.eq_zero_or_pos k with hk0 | hk0
              · subst hk0
                simp only [Nat.zero_mul, Nat.add_zero] at q0 q1 q2
                obtain ⟨S3, hS3⟩ : ∃ S3, S2 ++ [40] = S3 := ⟨_, rfl⟩
                have X1 : txt S2 ++ ⟨#[40]⟩ = txt S3 := by rw [← hS3, ← txt_add]; rfl
                have hd1 : ∀ W, (Op.stringOp .add (txt S2) ⟨#[40]⟩).run Tryz.prog W = .ok (.string (txt S3)) W := fun W => by rw [run_string_add_sum W _ _ (by rw [hz2]; show S2.length + 1 ≤ _; omega), X1]
                have hl3 : S3.length = S2.length + 1 := by rw [← hS3]; simp
                have hz3 : (txt S3).size = S3.length := txt_size S3
                have X2 : txt S3 ++ txt P = txt (S2 ++ (preT 0 ++ P)) := by rw [txt_add, ← hS3]; congr 1; simp [preT]
                have hkw : IntKind.i64.wrap 1 = 1 := by decide
                have hmx : max (0 : Int) 1 = 1 := by decide
                have hix := idx1
                have hd2 : ∀ W, (Op.stringOp .add (txt S3) (txt P)).run Tryz.prog W = .ok (.string (txt (S2 ++ (preT 0 ++ P)))) W := fun W => by rw [run_string_add_sum W _ _ (by rw [hz3, hzP]; omega), X2]
                have HS3 := hid0 hS3
                clear hS3
                go_wp2_with fail
                go_region_held3 (fun w' => w'.cell? ⟨b, o + i, none⟩ = some (.slice (some ⟨rb, ro, none⟩) m ec) ∧ w'.cell? ⟨rb, ro, none⟩ = some (.int .i64 vk) ∧ w'.cell? ⟨rb, ro + 1, none⟩ = some (.int .i64 vn) ∧ w'.cell? ⟨rb, ro + 2, none⟩ = some (.string vs) ∧ Below w.heap.size w w')
                  ((go_split_ands; (try dsimp only); (repeat' apply And.intro); all_goals (first
                    | assumption
                    | exact cell_later hbn ‹_›
                    | exact below_through hbn (Below.size ‹Below w.heap.size w _›) ‹_›
                    | exact Below.drew B3
                    | go_keep)))
                  (first
                    | (go_at_call 6; (try go_split_ands); refine (CP _).mono ?_; rintro e wn ⟨rfl, hbn⟩))
                all_goals
                  obtain ⟨_, _, _, _, hBn⟩ := ‹wn.cell? ⟨b, o + i, none⟩ = some (.slice (some ⟨rb, ro, none⟩) m ec) ∧ _›
                  have FF := FIN.out _ hBn
                  go_wp2
                  exact ⟨FF, by simp [intOf]; omega⟩
              · have hkw : IntKind.i64.wrap (1 - (k : Int)) = 1 - (k : Int) := IntWalk.i64_in _ (by omega)
                have hmx : max (0 : Int) (1 - (k : Int)) = 0 := by omega
                obtain ⟨S3, hS3⟩ : ∃ S3, S2 ++ [44, 32] = S3 := ⟨_, rfl⟩
                have X1 : txt S2 ++ ⟨#[44, 32]⟩ = txt S3 := by rw [← hS3, ← txt_add]; rfl
                have hd1 : ∀ W, (Op.stringOp .add (txt S2) ⟨#[44, 32]⟩).run Tryz.prog W = .ok (.string (txt S3)) W := fun W => by rw [run_string_add_sum W _ _ (by rw [hz2]; show S2.length + 2 ≤ _; omega), X1]
                have hl3 : S3.length = S2.length + 2 := by rw [← hS3]; simp
                have hz3 : (txt S3).size = S3.length := txt_size S3
                have X2 : txt S3 ++ txt P = txt (S2 ++ (preT k ++ P)) := by rw [txt_add, ← hS3]; congr 1; unfold preT; rw [if_neg (by omega)]; simp
                have hix := idx0
                have hd2 : ∀ W, (Op.stringOp .add (txt S3) (txt P)).run Tryz.prog W = .ok (.string (txt (S2 ++ (preT k ++ P)))) W := fun W => by rw [run_string_add_sum W _ _ (by rw [hz3, hzP]; omega), X2]
                have HS3 := hid0 hS3
                clear hS3
                go_wp2_with fail
                go_region_held3 (fun w' => w'.cell? ⟨b, o + i, none⟩ = some (.slice (some ⟨rb, ro, none⟩) m ec) ∧ w'.cell? ⟨rb, ro + k * 3, none⟩ = some (.int .i64 vk) ∧ w'.cell? ⟨rb, ro + k * 3 + 1, none⟩ = some (.int .i64 vn) ∧ w'.cell? ⟨rb, ro + k * 3 + 2, none⟩ = some (.string vs) ∧ Below w.heap.size w w')
                  ((go_split_ands; (try dsimp only); (repeat' apply And.intro); all_goals (first
                    | assumption
                    | exact cell_later hbn ‹_›
                    | exact below_through hbn (Below.size ‹Below w.heap.size w _›) ‹_›
                    | exact Below.drew B3
                    | go_keep)))
                  (first
                    | (go_at_call 6; (try go_split_ands); refine (CP _).mono ?_; rintro e wn ⟨rfl, hbn⟩))
                all_goals
                  obtain ⟨_, _, _, _, hBn⟩ := ‹wn.cell? ⟨b, o + i, none⟩ = some (.slice (some ⟨rb, ro, none⟩) m ec) ∧ _›
                  have FF := FIN.out _ hBn
                  go_wp2
                  exact ⟨FF, by simp [intOf]; omega⟩
          · have hkm' : ¬ (k : Int) < (m : Int) := by omega
            obtain rfl : k = m := by omega
            obtain ⟨S3, hS3⟩ : ∃ S3, S2 ++ [41] = S3 := ⟨_, rfl⟩
            have X1 : txt S2 ++ ⟨#[41]⟩ = txt S3 := by rw [← hS3, ← txt_add]; rfl
            have fin : ∃ i' : Nat, i' ≤ n ∧ Value.int .i64 ((i : Int) + 1) = .int .i64 i' ∧ Value.string (txt S3) = .string (txt (headT ++ rowsT 0 ((Ls.map (·.r)).take i'))) ∧ InsG (Ls.map (·.r)) n i' ∧ Below w.heap.size w _ :=
              ⟨i + 1, by omega, by go_num, by
                rw [rows_next HRi.out, ← List.append_assoc, HS.out, ← hS3, ← HS2.out, ← HS1.out, List.take_of_length_le (by rw [HM.out]; exact Nat.le_refl _)]
                unfold rowT
                simp only [List.append_assoc], HG.out.next HRi.out h16 (by
                  have := hV.out
                  rwa [List.take_of_length_le (by rw [HM.out]; exact Nat.le_refl _)] at this) (by intro e; rw [e] at HM; have := HM.out; simp at this; omega) (by rw [HM.out]; exact h8), hB2⟩
            have FIN := hid0 fin
            clear fin hB2 hS3 hS2
            go_wp2
            exact ⟨FIN.out, by simp [intOf]; omega⟩
    · obtain rfl : i = n := by omega
      have hnn : ¬ (i : Int) < (i : Int) := by omega
      obtain ⟨R, hR⟩ : ∃ R, Ls.map (·.r) = R := ⟨_, rfl⟩
      have hRl : R.length = i := by rw [← hR, List.length_map, HN.out]
      have hG2 := hG
      rw [hR] at hG2 ⊢
      rw [List.take_of_length_le (by omega)]
      have CA := awake9_any _ (ER.out.later hB)
      have HB := hid0 hB
      obtain ⟨S, hSS⟩ : ∃ S, headT ++ rowsT 0 R = S := ⟨_, rfl⟩
      rw [hSS]
      have hz0 : (txt S).size = S.length := txt_size S
      by_cases h0 : i = 0
      · have h0' : (((i : Nat) : Int) == 0) = true := by simp [h0]
        clear hB hG hG2 hSS
        go_wp2_with (go_at_call 4; refine CA.mono ?_; rintro e w2 ⟨rfl, hb2⟩)
        go_ret
        exact ⟨rfl, below_through hb2 hsz HB.out⟩
      have h0' : (((i : Nat) : Int) == 0) = false := by simp; omega
      by_cases hl : S.length ≤ 2048
      rotate_left
      · have hl' : (2048 : Int) < (S.length : Int) := by omega
        clear hB hG hG2 hSS
        go_wp2_with (go_at_call 4; refine CA.mono ?_; rintro e w2 ⟨rfl, hb2⟩)
        go_ret
        exact ⟨rfl, below_through hb2 hsz HB.out⟩
      have hl' : ¬ (2048 : Int) < (S.length : Int) := by omega
      have hok := hG2.ok
      rw [List.take_of_length_le (by omega)] at hok
      have hRne : R ≠ [] := by intro e; rw [e] at hRl; simp at hRl; omega
      have hS0 : sgT (sgAll R) = S := (all_text hRne (fun r hr => (hok r hr).2.1)).trans hSS
      have hpar : parM S 0 = (insS R, 0) := by
        rw [← hS0]
        exact parM_rows hok hRne (by have := hG2.few (by omega); omega) (by rw [hS0]; exact hl)
      have hIs : IsSt (insS R) := by have := s_par S 0; rwa [hpar] at this
      have HPAR := hid0 hpar
      have HIS := hid0 hIs
      have HLG := hid0 (fun r hr => (hok r hr).2.2)
      have HRR := hid0 hR
      have HRL := hid0 hRl
      have HFW := hid0 (hG2.few (by omega))
      have hst : (txt [116]).toList = [116] := by rw [ByteArray.toList_eq]; rfl
      have er := ER.out.later hB
      clear CA hG hG2 hok hRne hS0 hpar hIs hSS hR hRl hB
      go_wp2_with fail
      go_at_call 7
      refine (paParse_any S 0 _ (by unfold maxLen; omega) (by decide) er).mono ?_
      rintro e w1a ⟨us, hl, rfl, hA, hb⟩
      obtain ⟨s1_0, s1_1, s1_2, s1_3, s1_4, s1_5, s1_6, s1_7, s1_8, s1_9, s1_10, s1_11, s1_12, s1_13, s1_14, s1_15, s1_16, s1_17, s1_18, s1_19, s1_20, s1_21, s1_22, s1_23, s1_24, s1_25, rfl⟩ := len26' hl
      clear hl
      rw [HPAR.out]
      rw [HPAR.out] at hA
      have BB := below_through hb hsz HB.out
      replace er := er.later hb
      have hcells := ins_cells HIS.out hA (fun r hr => by have := HLG.out r hr; unfold maxLen; omega)
      obtain ⟨k0, k1, rp, rcp, E, k6, hE, hLn⟩ := hcells
      have hX : VarB (w1a.alloc (Obj.cells #[.int .i64 0, .string ⟨#[]⟩, .slice none 0 0, .slice none 0 0, .slice none 0 0, .int .i64 0, .slice none 0 0, .slice none 0 0, .int .i64 0, .int .i64 0, .int .i64 0, .string ⟨#[]⟩, .string ⟨#[]⟩, .int .i64 0, .int .i64 0, .string ⟨#[]⟩, .slice none 0 0, .int .i64 0, .string ⟨#[]⟩, .string ⟨#[]⟩, .int .i64 0, .int .i64 0, .string ⟨#[]⟩, .slice none 0 0, .slice none 0 0, .int .i64 0] 44)) w1a.heap.size zStv := VarB.new w1a zStv 44
      have hA2 := hA.any ((Below.refl w1a.heap.size w1a).alloc (Nat.le_refl _) (Obj.cells #[.int .i64 0, .string ⟨#[]⟩, .slice none 0 0, .slice none 0 0, .slice none 0 0, .int .i64 0, .slice none 0 0, .slice none 0 0, .int .i64 0, .int .i64 0, .int .i64 0, .string ⟨#[]⟩, .string ⟨#[]⟩, .int .i64 0, .int .i64 0, .string ⟨#[]⟩, .slice none 0 0, .int .i64 0, .string ⟨#[]⟩, .string ⟨#[]⟩, .int .i64 0, .int .i64 0, .string ⟨#[]⟩, .slice none 0 0, .slice none 0 0, .int .i64 0] 44))
      clear hA hb
      go_wp2_with (first | ((with_reducible refine wp_putB hX hA2 ?_ ?_ ?_ ?_ ?_); (rfl); (exact infoSt); (rfl); (rfl); intro w1b V1 hw; simp only [Act.put]) | fail)
      have hG : Below w1a.heap.size w1a w1b := by rw [hw.out]; exact ((Below.refl _ _).alloc (Nat.le_refl _) _).trans ⟨(grown_setCells _ _ _ _).os, (grown_setCells _ _ _ _).tape, (grown_setCells _ _ _ _).output, (grown_setCells _ _ _ _).size, fun k hk => heap_setCells _ _ _ _ k (by omega)⟩
      replace er := er.later hG
      have a0 := V1.cell 0 k0
      have a1 := V1.cell 1 k1
      have a6 := V1.cell 6 k6
      have HLN := hid0 (hLn.later hG)
      have haz : w1a.heap.size < w1b.heap.size := V1.lt
      have B2 := below_through hG BB.size BB
      have CA := awake9_any _ er
      clear hX hA2 hw hG V1 hLn BB k0 k1 k6
      go_wp2_with fail
      go_at_call 4
      refine CA.mono ?_
      rintro e w2 ⟨rfl, hb2⟩
      have B3 := below_through hb2 B2.size B2
      replace a0 := cell_later hb2 a0
      replace a1 := cell_later hb2 a1
      replace a6 := cell_later hb2 a6
      replace haz := Nat.lt_of_lt_of_le haz hb2.size
      have hEl : E.length = R.length := by have := congrArg List.length hE; simpa using this
      have CS := refSameV_any rp a rcp c E Ls w2 (HLN.out.later hb2) (A.out.later B3) (by rw [hE, HRR.out]) (by have := HRL.out; have := HFW.out; omega)
      rw [hEl, HRL.out, HN.out] at CS
      rw [HRL.out] at a6
      clear hb2
      go_wp2_with (go_at_call 8; refine CS.mono ?_; rintro e w4 ⟨rfl, hb4⟩)
      go_ret
      exact ⟨rfl, below_through hb4 B3.size B3⟩
end Go.Proofs.YtneebnankghhgacGreatDoor
