/- The law LexPlaces, whatever the text: it returns true, and below the heap's end memory is as it was. Conditions: what strconv.ErrRange holds is an error. -/
import Derived.Test.YtfjhkchkiacfpaaDoorNm
namespace Go.Proofs.YtfjhkchkiacfpaaDoor
open Go.RowKit

set_option maxRecDepth 1000000 in
set_option maxHeartbeats 4000000 in
theorem places_bad (s : List UInt8) (k : Nat) (w : World) (er : ErAt w) (HS : WordsOn s k 4 []) (hk : ∃ h : k < s.length, s[k] ≠ 32) :
    Calls Tryd.prog 6 #[.string (txt s)] w fun e w' => e = .returned (.bool true) ∧ Below w.heap.size w w' := by
  have hzs : (txt s).size = s.length := txt_size s
  obtain ⟨hlt, hc⟩ := hk
  have hki : (k : Int) < (s.length : Int) := by omega
  have g0 : ∀ h, (txt s)[k]'h = s[k] := fun h => txt_get s k h hlt
  have hc1 : (((s[k]).toNat : Int) != 32) = true := by
    have : ¬ ((s[k]).toNat : Int) = 32 := fun e => hc (UInt8.toNat_inj.1 (show (s[k]).toNat = 32 by omega))
    simpa using this
  have hc2 : ¬ ((s[k]).toNat : Int) = 32 := fun e => hc (UInt8.toNat_inj.1 (show (s[k]).toNat = 32 by omega))
  clear hc
  go_enter Tryd.func6, Tryd.ntmps6
  go_wp2_with fail
  refine (HS.out _ er).mono ?_
  rintro e w1 ⟨v1, rfl, hO1, hb1⟩
  obtain ⟨a1, c1, rfl⟩ := hO1.len
  have CA := awake8_any w1 (er.later hb1)
  go_wp2_with (first
    | (go_at_call 8; refine CA.mono ?_; rintro e w3 ⟨rfl, hb3⟩)
    | fail)
  go_ret
  exact ⟨ret_bool hc1, below_through hb3 hb1.size hb1⟩
set_option maxRecDepth 1000000 in
set_option maxHeartbeats 4000000 in
theorem places_long (s : List UInt8) (k : Nat) (w : World) (er : ErAt w) (HS : WordsOn s k 3 []) :
    Calls Tryd.prog 6 #[.string (txt s)] w fun e w' => e = .returned (.bool true) ∧ Below w.heap.size w w' := by
  go_enter Tryd.func6, Tryd.ntmps6
  go_wp2_with fail
  refine (HS.out _ er).mono ?_
  rintro e w1 ⟨v1, rfl, hO1, hb1⟩
  obtain ⟨a1, c1, rfl⟩ := hO1.len
  have CA := awake8_any w1 (er.later hb1)
  go_wp2_with (first
    | (go_at_call 8; refine CA.mono ?_; rintro e w3 ⟨rfl, hb3⟩)
    | fail)
  go_ret
  exact ⟨rfl, below_through hb3 hb1.size hb1⟩

theorem lawLexPlaces (s : List UInt8) (w : World) (hs : s.length ≤ maxLen) (er : ErAt w) :
    Calls Tryd.prog 6 #[.string (txt s)] w fun e w' => e = .returned (.bool true) ∧ Below w.heap.size w w' := by
  obtain ⟨R1, hR1⟩ : ∃ R, lexR s = R := ⟨_, rfl⟩
  have HS := wordsOn hs hR1
  cases R1 with
  | ok ws =>
    obtain ⟨few, hl⟩ := lexR_few hR1
    exact places_main s _ _ w hl er HS (lexR_places hR1 (by omega))
  | syn k => exact places_bad s k w er HS (lexR_bad hR1)
  | long k => exact places_long s k w er HS
end Go.Proofs.YtfjhkchkiacfpaaDoor
