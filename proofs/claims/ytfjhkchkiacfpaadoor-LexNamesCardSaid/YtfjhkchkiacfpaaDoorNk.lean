/- The walk of the law LexNames: it returns true, and below the heap's end memory is as it was. Conditions: what strconv.ErrRange holds is an error. -/
import Derived.Test.YtfjhkchkiacfpaaDoorNj
namespace Go.Proofs.YtfjhkchkiacfpaaDoor
open Go.RowKit

theorem taken_noname {l : List UInt8} (h : takenB l = true) : nameB l = false := by
  unfold nameB
  rw [h]; simp

set_option maxHeartbeats 1000000 in
theorem lawLexNames (l : List UInt8) (w : World) (hl : l.length ≤ maxLen) (er : ErAt w) :
    Calls Tryd.prog 3 #[.string (txt l)] w fun e w' => e = .returned (.bool true) ∧ Below w.heap.size w w' := by
  have CA := awake8_any w er
  have CT := fun W => lxTaken_any l W
  have CR := fun W => refTaken_any l W
  have CN := fun W => lxIsName_any l W hl
  have CM := fun W => refIsName_any l W hl
  clear er hl
  cases ht : takenB l with
  | true =>
    have hn := taken_noname ht
    rw [ht] at CT CR
    rw [hn] at CN CM
    clear ht hn
    go_enter Tryd.func3, Tryd.ntmps3
    go_wp2_with (first
      | (go_at_call 8; refine CA.mono ?_; rintro e w1 ⟨rfl, hb1⟩)
      | (go_at_call 9; refine (CT _).mono ?_; rintro e w' ⟨rfl, rfl⟩)
      | (go_at_call 10; refine (CR _).mono ?_; rintro e w' ⟨rfl, rfl⟩)
      | (go_at_call 11; refine (CN _).mono ?_; rintro e w' ⟨rfl, rfl⟩)
      | (go_at_call 12; refine (CM _).mono ?_; rintro e w' ⟨rfl, rfl⟩)
      | fail)
    go_ret
    exact ⟨rfl, hb1⟩
  | false =>
    rw [ht] at CT CR
    cases hn : nameB l with
    | true =>
      rw [hn] at CN CM
      clear ht hn
      go_enter Tryd.func3, Tryd.ntmps3
      go_wp2_with (first
        | (go_at_call 8; refine CA.mono ?_; rintro e w1 ⟨rfl, hb1⟩)
        | (go_at_call 9; refine (CT _).mono ?_; rintro e w' ⟨rfl, rfl⟩)
        | (go_at_call 10; refine (CR _).mono ?_; rintro e w' ⟨rfl, rfl⟩)
        | (go_at_call 11; refine (CN _).mono ?_; rintro e w' ⟨rfl, rfl⟩)
        | (go_at_call 12; refine (CM _).mono ?_; rintro e w' ⟨rfl, rfl⟩)
        | fail)
      go_ret
      exact ⟨rfl, hb1⟩
    | false =>
      rw [hn] at CN CM
      clear ht hn
      go_enter Tryd.func3, Tryd.ntmps3
      go_wp2_with (first
        | (go_at_call 8; refine CA.mono ?_; rintro e w1 ⟨rfl, hb1⟩)
        | (go_at_call 9; refine (CT _).mono ?_; rintro e w' ⟨rfl, rfl⟩)
        | (go_at_call 10; refine (CR _).mono ?_; rintro e w' ⟨rfl, rfl⟩)
        | (go_at_call 11; refine (CN _).mono ?_; rintro e w' ⟨rfl, rfl⟩)
        | (go_at_call 12; refine (CM _).mono ?_; rintro e w' ⟨rfl, rfl⟩)
        | fail)
      go_ret
      exact ⟨rfl, hb1⟩
end Go.Proofs.YtfjhkchkiacfpaaDoor
