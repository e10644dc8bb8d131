/- Several of my texts laid together, each as it was: Uw. Conditions: each names its own. -/
import Derived.Test.YtneebnankghhgabUo
import Derived.Deep.RegionHeld3
import Derived.Lib.MinMax
/- The walk of the law TreeAny: it returns true, and below the heap's end memory is as it was. Conditions: the steps' cells are known (what came in reads so). -/
namespace Go.Proofs.Ytneebnankghhgab
open Go.RowKit

theorem fold_few {β : Type} (v : OpR → β) : ∀ (l : List OpR) (A : List (Key × β)), (l.foldl (fun L t => stepA v t L) A).length ≤ A.length + l.length
  | [], A => by simp
  | t :: l, A => by
    have h1 := fold_few v l (stepA v t A)
    have h2 := step_len v t A
    rw [List.foldl_cons, List.length_cons]; omega
theorem play_few {β : Type} (v : OpR → β) (l : List OpR) : (playA v l).length ≤ l.length := by
  have := fold_few v l []
  simpa [playA] using this
theorem nilTxt : (⟨#[]⟩ : ByteArray) = txt [] := rfl

set_option maxRecDepth 1000000 in
set_option maxHeartbeats 8000000 in
theorem lawTreeAny (o : Int) (a : Option Addr) (c : Nat) (ops : List OpR) (w : World) (hops : OpsAt7 w a ops) :
    Calls Try.prog 3 #[.int .i64 o, .slice a ops.length c] w fun e w' => e = .returned (.bool true) ∧ Below w.heap.size w w' := by
  have hlen := hops.len
  by_cases ho : o < 3 ∨ 64 < o
  · have CG := grown_no o a ops.length c w (by unfold maxLen; omega) ho
    clear hops
    go_enter Try.func3, Try.ntmps3
    go_wp2_with fail
    refine CG.mono ?_
    rintro e w' ⟨rfl, rfl⟩
    go_wp2_with (first
      | (go_at_call 5; refine (awakeT_any _).mono ?_; rintro e w2 ⟨rfl, hb⟩)
      | fail)
    go_ret
    exact ⟨rfl, hb⟩
  · obtain ⟨m, rfl⟩ : ∃ m : Nat, o = m := ⟨o.toNat, by omega⟩
    have h3 : 3 ≤ m := by omega
    have h64 : m ≤ 64 := by omega
    have CG := grown_yes m a c ops w h3 h64 hops
    have A := hid0 hops
    clear hops
    obtain ⟨L, hL⟩ : ∃ L, playA (·.n) (ops.take 400) = L := ⟨_, rfl⟩
    rw [hL] at CG
    have HLD := hid0 hL
    obtain ⟨n, hn⟩ : ∃ n, ops.length = n := ⟨_, rfl⟩
    rw [hn] at hlen ⊢
    rw [hn] at CG
    have HN := hid0 hn
    clear hL ho hn
    go_enter Try.func3, Try.ntmps3
    go_wp2_with fail
    refine CG.mono ?_
    rintro e w1 ⟨tb, ub, rfl, hB, hl⟩
    have HB := hid0 hB
    have hww := hB.keep.size
    clear CG hB
    go_wp2_with fail
    refine (newP_yes m w1 h3 h64).mono ?_
    rintro e w2 ⟨rfl, hP2, hb2, hz2⟩
    have HP2 := hid0 hP2
    have HZ2 := hid0 hz2
    clear hP2 hz2
    go_wp2_with fail
    refine (newL_yes m w2 h3 h64).mono ?_
    rintro e w3 ⟨rfl, hP3, hb3, hz3⟩
    have hT3 : Trip w1 w3 (w1.heap.size + 1) (w2.heap.size + 1) m [] := by
      have hz2 := HZ2.out
      refine ⟨(HP2.out (Two (w1.heap.size + 1) (w2.heap.size + 1)) ⟨by omega, by omega⟩ (two_a _ _)).later hb3, ⟨[], hP3 (Two (w1.heap.size + 1) (w2.heap.size + 1)) ⟨by omega, by omega⟩ (two_b _ _), trivial⟩, below_through hb3 hb2.size hb2, by omega, by omega⟩
    generalize w1.heap.size + 1 = pa at hT3 ⊢
    generalize w2.heap.size + 1 = pb at hT3 ⊢
    have HT3 := hid0 hT3
    clear hP3 hz3 hb3 hb2 HP2 HZ2 hT3
    go_wp2_with fail
    go_loopw [12] (fun iv wr => ∃ i : Nat, i ≤ n ∧ i ≤ 400 ∧ iv = .int .i64 i ∧ Trip w1 wr pa pb m (playA (·.n) (ops.take i))) (fun iv _ => 400 - (intOf iv).toNat)
    case atStart => exact ⟨0, Nat.zero_le _, by omega, rfl, HT3.out⟩
    case round =>
      obtain ⟨i, hi, hi4, rfl, hT⟩ := hrel
      clear HT3
      have hfew := play_few (·.n) (ops.take i)
      rw [List.length_take] at hfew
      by_cases hlt : i < n ∧ i < 400
      · obtain ⟨hlt, hl2⟩ := hlt
        have g1 : i < ops.length := by rw [HN.out]; exact hlt
        have hBw := below_through hT.keep hww HB.out.keep
        obtain ⟨b, of, rfl, hc⟩ := (A.out.later hBw).cells (by intro e; rw [e] at g1; exact absurd g1 (by simp))
        obtain ⟨q0, q1, q2⟩ := hc i g1
        obtain ⟨b', of', eb, hc0⟩ := A.out.cells (by intro e; rw [e] at g1; exact absurd g1 (by simp))
        obtain ⟨rfl, rfl⟩ : b = b' ∧ of = of' := by simpa using eb
        have hbw : b < w.heap.size := World.block_lt_of_cell? _ _ (hc0 i g1).1
        have hnx := play_next (v := (·.n)) (List.getElem?_eq_getElem g1)
        obtain ⟨⟨k, key, nn⟩, hop⟩ : ∃ t, ops[i] = t := ⟨_, rfl⟩
        rw [hop] at q0 q1 q2 hnx
        dsimp only at q0 q1 q2
        obtain ⟨Lc, hLc⟩ : ∃ Lc, playA (·.n) (ops.take i) = Lc := ⟨_, rfl⟩
        rw [hLc] at hT hfew hnx
        have hlc : Lc.length ≤ 400 := by omega
        have hii : (i : Int) < (n : Int) := by omega
        have hi400 : (i : Int) < 400 := by omega
        have hlo := hT.lo
        have hpab := hT.lt
        have hpbl : pb < wr.heap.size := by obtain ⟨B, h1, _⟩ := hT.tb; exact h1.lt
        have hb1 : b < w1.heap.size := by omega
        have HNX := hid0 hnx
        have hK := hT.keep
        clear hc hc0 eb hop hLc hfew hnx hBw
        by_cases k0 : k = 0
        · subst k0
          have CP := (hT.later (Below.drew (Below.refl wr.heap.size wr))).putP_any key nn hlc
          clear hT
          go_wp2_with fail
          go_region_held3 (fun w' => w'.cell? ⟨b, of + i * 3 + 1, none⟩ = some (.string (txt key)) ∧ w'.cell? ⟨b, of + i * 3 + 2, none⟩ = some (.int .i64 nn) ∧ Below w1.heap.size w1 w')
            ((go_split_ands; (try dsimp only); (repeat' apply And.intro); all_goals (first
              | assumption
              | exact hTu.cell (by omega) ‹_›
              | exact below_turn ‹Below w1.heap.size w1 _› hTu hlo
              | exact Below.drew hK
              | go_keep)))
            (first
              | (go_at_call 8; (try go_split_ands); refine CP.mono ?_; rintro e wn ⟨⟨v, rfl⟩, hH, hTu⟩))
          have hs := ‹wn.cell? ⟨b, of + i * 3 + 1, none⟩ = some (.string (txt key)) ∧ _›
          obtain ⟨p1, p2, hKn⟩ := hs
          have hpbn : pb < wn.heap.size := by obtain ⟨B, h1, _⟩ := hH.tb; exact h1.lt
          have hBa : Below wn.heap.size wn (wn.drew.alloc (Obj.cells #[.int .i64 nn] 3)) := (Below.drew (Below.refl wn.heap.size wn)).alloc (by simp) _
          have CL := (hH.later hBa).put_any (b := wn.heap.size) hlc hpbn (by go_cell) rfl
          unfold vL at CL
          clear hH hTu CP q0 q1 q2
          go_wp2_with fail
          go_region_held3 (fun w' => w'.cell? ⟨b, of + i * 3 + 1, none⟩ = some (.string (txt key)) ∧ w'.cell? ⟨b, of + i * 3 + 2, none⟩ = some (.int .i64 nn) ∧ Below w1.heap.size w1 w')
            ((go_split_ands; (try dsimp only); (repeat' apply And.intro); all_goals (first
              | assumption
              | exact hTu.cell (by omega) ‹_›
              | exact below_turn ‹Below w1.heap.size w1 _› hTu (by omega)
              | exact Below.drew hKn
              | exact Below.alloc ‹Below w1.heap.size w1 _› (Below.size ‹Below w1.heap.size w1 _›) _
              | go_keep)))
            (first
              | (go_at_call 9; (try go_split_ands); refine CL.mono ?_; rintro e w5 ⟨⟨v, rfl⟩, hT5, hTu⟩))
          go_wp2
          exact ⟨⟨i + 1, by omega, by omega, by go_num, by rw [HNX.out]; exact hT5⟩, by simp [intOf]; omega⟩
        · by_cases k1 : k = 1
          · subst k1
            have CP := hT.cutP_any key hlc
            clear hT
            go_wp2_with fail
            refine CP.mono ?_
            rintro e wn ⟨⟨v, rfl⟩, hH, hTu⟩
            have p1 := hTu.cell (by omega) q1
            have CL := hH.cut_any (k := key) hlc rfl
            clear hH hTu CP q0 q1 q2
            go_wp2_with fail
            refine CL.mono ?_
            rintro e w5 ⟨⟨v, rfl⟩, hT5, hTu⟩
            clear hTu
            go_wp2
            exact ⟨⟨i + 1, by omega, by omega, by go_num, by rw [HNX.out]; exact hT5⟩, by simp [intOf]; omega⟩
          · have k0' : (k == 0) = false := by simpa using k0
            have k1' : (k == 1) = false := by simpa using k1
            have hnx2 : stepA (·.n) ⟨k, key, nn⟩ Lc = Lc := by unfold stepA; rw [if_neg k0, if_neg k1]
            have HT := hid0 hT
            clear hT k0 k1 q1 q2
            go_wp2
            exact ⟨⟨i + 1, by omega, by omega, by go_num, by rw [HNX.out, hnx2]; exact HT.out⟩, by simp [intOf]; omega⟩
      · have hLe : playA (·.n) (ops.take i) = L := by
          rw [← HLD.out]
          congr 1
          by_cases h : i < 400
          · rw [List.take_of_length_le (by have := HN.out; omega), List.take_of_length_le (by have := HN.out; omega)]
          · obtain rfl : i = 400 := by omega
            rfl
        rw [hLe] at hT
        have hend : (¬ (i : Int) < (n : Int)) ∨ ((i : Int) < (n : Int) ∧ ¬ (i : Int) < 400) := by omega
        have CK := bothKeys_any [] [] (HB.out.later hT.keep) (by omega)
        rw [flt_none, ← nilTxt, List.length_map] at CK
        have HT := hid0 hT
        have hBw := below_through hT.keep hww HB.out.keep
        have HBW := hid0 hBw
        have hKp := hT.keep
        clear hlt hfew hLe hT HLD A hBw
        rcases hend with hii | ⟨hii, hi400⟩
        all_goals
          go_wp2_with fail
          refine CK.mono ?_
          rintro e w5 ⟨⟨ka, kc, rfl, hS⟩, hb5⟩
          have HT5 := hid0 (HT.out.later hb5)
          have HB5 := hid0 ((HB.out.later hKp).later hb5)
          have HW5 := hid0 (below_through hb5 HBW.out.size HBW.out)
          have HS := hid0 hS
          obtain ⟨N, hNl⟩ : ∃ N, L.length = N := ⟨_, rfl⟩
          rw [hNl] at hl ⊢
          rw [hNl] at HS
          have HNL := hid0 hNl
          clear CK hS hb5 HT HBW hKp hNl
          go_wp2_with fail
          go_loopw [14] (fun iv wq => ∃ j : Nat, j ≤ N ∧ iv = .int .i64 j ∧ Below w5.heap.size w5 wq) (fun iv _ => N - (intOf iv).toNat)
          case atStart => exact ⟨0, Nat.zero_le _, rfl, Below.refl _ _⟩
          case round =>
            obtain ⟨j, hj, rfl, hBj⟩ := hrel
            have hszj := hBj.size
            by_cases hlj : j < N
            · have gj : j < L.length := by rw [HNL.out]; exact hlj
              obtain ⟨⟨key, nn⟩, hx⟩ : ∃ x, L[j] = x := ⟨_, rfl⟩
              have hkx : (L.map (·.1))[j]? = some key := by rw [List.getElem?_map, List.getElem?_eq_getElem gj, hx]; rfl
              obtain ⟨kb, ko, rfl, _, y0⟩ := (HS.out.later hBj).one hkx
              have hTj := HT5.out.later hBj
              have hBo := HB5.out.later hBj
              obtain ⟨vk, vv, hTt, _⟩ := hBo.out
              have hga : getA key L = some nn := by
                have := getA_mem3 hTt.asc (List.getElem_mem gj)
                rw [hx] at this; exact this
              have CG := getI_any _ tb m L key _ hTt
              rw [hga] at CG
              have hjN : (j : Int) < (N : Int) := by omega
              have HTj := hid0 hTj
              have HGA := hid0 hga
              have HBj := hid0 hBj
              clear hkx hx hTj hBo hTt hBj hga
              change Calls _ _ _ _ (fun e w' => e = .returned (.tuple #[.int .i64 nn, .bool true]) ∧ _) at CG
              go_wp2_with fail
              refine CG.mono ?_
              rintro e w6 ⟨rfl, hb6⟩
              have y6 := cell_later hb6 y0
              have CP := (HTj.out.later hb6).getP HGA.out
              have HB6 := hid0 (below_through hb6 HBj.out.size HBj.out)
              have HTk := hid0 (HTj.out.later hb6)
              clear CG y0 hb6
              go_wp2_with fail
              refine CP.mono ?_
              rintro e w7 ⟨rfl, hb7⟩
              have V7 : VarB (w7.alloc (Obj.cells #[.int .i64 nn, .string (txt key)] 33)) w7.heap.size [.int .i64 nn, .string (txt key)] := VarB.new w7 [.int .i64 nn, .string (txt key)] 33
              have hBa : Below w7.heap.size w7 (w7.alloc (Obj.cells #[.int .i64 nn, .string (txt key)] 33)) := (Below.refl _ _).alloc (Nat.le_refl _) _
              have y7 := cell_later hBa (cell_later hb7 y6)
              obtain ⟨lb, hlb, CL⟩ := ((HTk.out.later hb7).later hBa).getL HGA.out
              have HB7 := hid0 (below_through hBa (below_through hb7 HB6.out.size HB6.out).size (below_through hb7 HB6.out.size HB6.out))
              clear CP y6 hb7 hBa
              go_wp2_with fail
              refine CL.mono ?_
              rintro e w8 ⟨rfl, hb8⟩
              have V8 := V7.below hb8
              have x0 := V8.cell 0 rfl
              have x1 := V8.cell 1 rfl
              have y8 := cell_later hb8 y7
              have l8 := cell_later hb8 hlb
              have hB8 := below_through hb8 HB7.out.size HB7.out
              have HB8 := hid0 hB8
              have hnq := neqP nn (txt key)
              have hnn : (nn != nn) = false := by simp
              clear CL y7 hlb V7 V8 hb8 hB8
              go_wp2_with fail
              go_quiet (fail)
              go_wp2
              exact ⟨⟨j + 1, by omega, by go_num, ⟨HB8.out.os, HB8.out.tape, HB8.out.output, HB8.out.size, HB8.out.block⟩⟩, by simp [intOf]; omega⟩
            · have hjN : ¬ (j : Int) < (N : Int) := by omega
              have CA := awakeT_any
              have HTj := hid0 (HT5.out.later hBj)
              have HSj := hid0 (HS.out.later hBj)
              have HWj := hid0 (below_through hBj HW5.out.size HW5.out)
              clear hBj
              go_wp2_with fail
              refine (awakeT_any _).mono ?_
              rintro e w6 ⟨rfl, hb6⟩
              have CK := (HTj.out.later hb6).keysP (by have := HNL.out; omega)
              rw [HNL.out] at CK
              go_wp2_with fail
              refine CK.mono ?_
              rintro e w7 ⟨⟨a7, c7, rfl, hS7⟩, hb7⟩
              have CS := same_yes _ _ a7 ka N c7 kc _ _ hS7 ((HSj.out.later hb6).later hb7) (by omega)
              clear CK
              go_wp2_with fail
              refine CS.mono ?_
              rintro e w8 ⟨rfl, hb8⟩
              have CK := (((HTj.out.later hb6).later hb7).later hb8).keysL (by have := HNL.out; omega)
              rw [HNL.out] at CK
              clear CS
              go_wp2_with fail
              refine CK.mono ?_
              rintro e w9 ⟨⟨a9, c9, rfl, hS9⟩, hb9⟩
              have CS := same_yes _ _ a9 ka N c9 kc _ _ hS9 ((((HSj.out.later hb6).later hb7).later hb8).later hb9) (by omega)
              have HB6 := hid0 (below_through hb6 HWj.out.size HWj.out)
              have HB7 := hid0 (below_through hb7 HB6.out.size HB6.out)
              have HB8 := hid0 (below_through hb8 HB7.out.size HB7.out)
              have HB9 := hid0 (below_through hb9 HB8.out.size HB8.out)
              clear CK
              go_wp2_with fail
              refine CS.mono ?_
              rintro e w10 ⟨rfl, hb10⟩
              go_wp2
              go_ret
              exact ⟨rfl, below_through hb10 HB9.out.size HB9.out⟩
end Go.Proofs.Ytneebnankghhgab
