/- The words of the language, the project's and the reference's, and what may be a name; the document's example: contracts of the calls. Conditions: what strconv.ErrRange holds is an error (the example alone). -/
import Derived.Test.YtfjhkchkiacfpaaDoorNg
import Derived.Handy
namespace Go.Proofs.YtfjhkchkiacfpaaDoor
open Go.RowKit

def wordsL : List (List UInt8) := [[99, 114, 101, 97, 116, 101], [100, 114, 111, 112], [116, 97, 98, 108, 101], [108, 111, 103], [111, 110], [111, 102, 102], [118, 105, 101, 119], [114, 101, 102, 114, 101, 115, 104], [97, 115], [105, 110, 115, 101, 114, 116], [105, 110, 116, 111], [118, 97, 108, 117, 101, 115], [100, 101, 108, 101, 116, 101], [102, 114, 111, 109], [119, 104, 101, 114, 101], [117, 112, 100, 97, 116, 101], [115, 101, 116], [102, 97, 115, 116], [99, 111, 109, 112, 108, 101, 116, 101], [102, 111, 114, 99, 101], [110, 101, 115, 116, 101, 100], [112, 117, 114, 103, 101], [114, 101, 119, 114, 105, 116, 101], [112, 111, 108, 105, 99, 121], [101, 110, 102, 111, 114, 99, 101, 100], [116, 111, 108, 101, 114, 97, 116, 101, 100], [115, 104, 111, 119], [115, 101, 108, 101, 99, 116], [100, 105, 115, 116, 105, 110, 99, 116], [103, 114, 111, 117, 112], [98, 121], [117, 110, 105, 111, 110], [97, 108, 108], [97, 110, 100], [111, 114], [110, 111, 116], [105, 115], [110, 117, 108, 108], [116, 114, 117, 101], [102, 97, 108, 115, 101], [99, 111, 117, 110, 116], [115, 117, 109], [109, 105, 110], [109, 97, 120], [105, 110, 116], [98, 111, 111, 108], [116, 101, 120, 116], [112, 114, 105, 109, 97, 114, 121], [107, 101, 121]]
def takenB (l : List UInt8) : Bool := wordsL.contains l
theorem txt_toList (l : List UInt8) : (txt l).toList = l := by rw [ByteArray.toList_eq]; rfl
theorem taken_yes {l : List UInt8} {x : List UInt8} (h : (l == x) = true) (hx : x ∈ wordsL) : takenB l = true := by
  rw [beq_iff_eq] at h
  unfold takenB
  rw [List.contains_iff_mem, h]
  exact hx

set_option maxRecDepth 1000000 in
set_option maxHeartbeats 8000000 in
theorem lxTaken_any (l : List UInt8) (w : World) :
    Calls Tryd.prog 9 #[.string (txt l)] w fun e w' => e = .returned (.bool (takenB l)) ∧ w = w' := by
  have tl := txt_toList l
  go_enter Tryd.func9, Tryd.ntmps9
  go_wp2
  all_goals
    first
      | (rename_i h1 h2; exact absurd (h1.symm.trans h2) (by decide))
      | (go_ret
         exact ⟨ret_bool (taken_yes (by assumption) (by decide +kernel)).symm, rfl⟩)
      | (go_ret
         refine ⟨ret_bool ?_, rfl⟩
         simp only [takenB, wordsL, List.contains_cons, List.contains_nil, Bool.or_self, *])

def firstL : List (List UInt8) := [[99, 114, 101, 97, 116, 101], [100, 114, 111, 112], [116, 97, 98, 108, 101], [108, 111, 103], [111, 110], [111, 102, 102], [118, 105, 101, 119], [114, 101, 102, 114, 101, 115, 104], [97, 115], [105, 110, 115, 101, 114, 116], [105, 110, 116, 111], [118, 97, 108, 117, 101, 115], [100, 101, 108, 101, 116, 101], [102, 114, 111, 109], [119, 104, 101, 114, 101], [117, 112, 100, 97, 116, 101], [115, 101, 116], [102, 97, 115, 116], [99, 111, 109, 112, 108, 101, 116, 101], [102, 111, 114, 99, 101], [110, 101, 115, 116, 101, 100], [112, 117, 114, 103, 101], [114, 101, 119, 114, 105, 116, 101], [112, 111, 108, 105, 99, 121], [101, 110, 102, 111, 114, 99, 101, 100], [116, 111, 108, 101, 114, 97, 116, 101, 100], [115, 104, 111, 119]]
set_option maxRecDepth 1000000 in
set_option maxHeartbeats 8000000 in
theorem refTaken_first (l : List UInt8) (w : World) (h : l ∈ firstL) :
    Calls Tryd.prog 10 #[.string (txt l)] w fun e w' => e = .returned (.bool true) ∧ w = w' := by
  have tl := txt_toList l
  unfold firstL at h
  simp only [List.mem_cons, List.not_mem_nil, or_false] at h
  rcases h with rfl | rfl | rfl | rfl | rfl | rfl | rfl | rfl | rfl | rfl | rfl | rfl | rfl | rfl | rfl | rfl | rfl | rfl | rfl | rfl | rfl | rfl | rfl | rfl | rfl | rfl | rfl
  all_goals
    go_enter Tryd.func10, Tryd.ntmps10
    go_wp2
    go_ret
    exact ⟨rfl, rfl⟩

set_option maxRecDepth 1000000 in
set_option maxHeartbeats 8000000 in
theorem refTaken_any (l : List UInt8) (w : World) :
    Calls Tryd.prog 10 #[.string (txt l)] w fun e w' => e = .returned (.bool (takenB l)) ∧ w = w' := by
  by_cases h : l ∈ firstL
  · have e : takenB l = true := by
      unfold takenB
      rw [List.contains_iff_mem]
      exact (show ∀ x ∈ firstL, x ∈ wordsL by decide +kernel) l h
    rw [e]
    exact refTaken_first l w h
  · have tl := txt_toList l
    have no : ∀ x, x ∈ firstL → (l == x) = false := fun x hx => beq_eq_false_iff_ne.2 (fun e => h (by rw [e]; exact hx))
    have f0 := no [99, 114, 101, 97, 116, 101] (by decide +kernel)
    have f1 := no [100, 114, 111, 112] (by decide +kernel)
    have f2 := no [116, 97, 98, 108, 101] (by decide +kernel)
    have f3 := no [108, 111, 103] (by decide +kernel)
    have f4 := no [111, 110] (by decide +kernel)
    have f5 := no [111, 102, 102] (by decide +kernel)
    have f6 := no [118, 105, 101, 119] (by decide +kernel)
    have f7 := no [114, 101, 102, 114, 101, 115, 104] (by decide +kernel)
    have f8 := no [97, 115] (by decide +kernel)
    have f9 := no [105, 110, 115, 101, 114, 116] (by decide +kernel)
    have f10 := no [105, 110, 116, 111] (by decide +kernel)
    have f11 := no [118, 97, 108, 117, 101, 115] (by decide +kernel)
    have f12 := no [100, 101, 108, 101, 116, 101] (by decide +kernel)
    have f13 := no [102, 114, 111, 109] (by decide +kernel)
    have f14 := no [119, 104, 101, 114, 101] (by decide +kernel)
    have f15 := no [117, 112, 100, 97, 116, 101] (by decide +kernel)
    have f16 := no [115, 101, 116] (by decide +kernel)
    have f17 := no [102, 97, 115, 116] (by decide +kernel)
    have f18 := no [99, 111, 109, 112, 108, 101, 116, 101] (by decide +kernel)
    have f19 := no [102, 111, 114, 99, 101] (by decide +kernel)
    have f20 := no [110, 101, 115, 116, 101, 100] (by decide +kernel)
    have f21 := no [112, 117, 114, 103, 101] (by decide +kernel)
    have f22 := no [114, 101, 119, 114, 105, 116, 101] (by decide +kernel)
    have f23 := no [112, 111, 108, 105, 99, 121] (by decide +kernel)
    have f24 := no [101, 110, 102, 111, 114, 99, 101, 100] (by decide +kernel)
    have f25 := no [116, 111, 108, 101, 114, 97, 116, 101, 100] (by decide +kernel)
    have f26 := no [115, 104, 111, 119] (by decide +kernel)
    clear no h
    go_enter Tryd.func10, Tryd.ntmps10
    go_wp2
    all_goals
      first
        | (rename_i h1 h2; exact absurd (h1.symm.trans h2) (by decide))
        | (go_ret
           exact ⟨ret_bool (taken_yes (by assumption) (by decide +kernel)).symm, rfl⟩)
        | (go_ret
           refine ⟨ret_bool ?_, rfl⟩
           simp only [takenB, wordsL, List.contains_cons, List.contains_nil, Bool.or_self, *])
end Go.Proofs.YtfjhkchkiacfpaaDoor
