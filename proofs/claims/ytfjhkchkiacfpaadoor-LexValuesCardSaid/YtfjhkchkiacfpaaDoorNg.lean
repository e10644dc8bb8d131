/- The project's Words: whatever the bytes: a contract of the call, in whatever memory. Conditions: what strconv.ErrRange holds is an error. -/
import Derived.Test.YtfjhkchkiacfpaaDoorNf
namespace Go.Proofs.YtfjhkchkiacfpaaDoor
open Go.RowKit

/-- What Words answers. -/
structure WordsAns (l : List UInt8) (w : World) (e : Ending) (w' : World) : Prop where
  out : ∃ v, e = .returned (.tuple #[v, .int .i64 (outN (lexR l) : Nat), .int .i64 (outE (lexR l) : Nat)]) ∧ OwnW w' w.heap.size v (outW l.length (lexR l))
  below : Below w.heap.size w w'

set_option maxHeartbeats 4000000 in
theorem lxWords_any (l : List UInt8) (w : World) (hl : l.length ≤ maxLen) (er : ErAt w) :
    Calls Tryd.prog 13 #[.string (txt l)] w (WordsAns l w) := by
  unfold maxLen at hl
  have hsz : (txt l).size = l.length := txt_size l
  by_cases hlong : 2048 < l.length
  · have hR : lexR l = .long 0 := if_pos hlong
    have hi : (2048 : Int) < (l.length : Int) := by omega
    go_enter Tryd.func13, Tryd.ntmps13
    go_wp2
    exact bodyPost_ret (v := .tuple #[.slice none 0 0, .int .i64 0, .int .i64 3]) (by simp [results, Tryd.results13, go_sem]; done) rfl ⟨⟨_, by rw [hR]; rfl, by rw [hR]; exact OwnW.nil _ _⟩, by go_grown⟩
  · have hi : ¬ (2048 : Int) < (l.length : Int) := by omega
    have ER := hid0 er
    have hl2 : l.length ≤ 2048 := by omega
    clear er hlong hl
    go_enter Tryd.func13, Tryd.ntmps13
    go_wp2
    go_loopw [5, 6] (fun lv iv wr => ∃ (i : Nat) (acc : List Wd), i ≤ l.length ∧ iv = .int .i64 i ∧ OwnW wr w.heap.size lv acc ∧ Below w.heap.size w wr ∧ Hid (LexTo l i acc)) (fun _ iv _ => l.length - (intOf iv).toNat)
    case atStart => exact ⟨0, [], Nat.zero_le _, rfl, OwnW.nil _ _, Below.refl _ _, hid0 (LexTo.start hl2)⟩
    case round =>
      obtain ⟨i, acc, hil, rfl, hO, hB, hT⟩ := hrel
      have hbs := hB.size
      have few := hT.out.few
      obtain ⟨a, c, rfl, -⟩ := hO.row
      by_cases hlt : i < l.length
      · have hii : (i : Int) < (l.length : Int) := by omega
        have g1 : ∀ h, (txt l)[i]'h = l[i] := fun h => txt_get l i h hlt
        by_cases hc : l[i] = 32
        · have HT := hid0 (hT.out.blank hlt hc)
          have hc1 : (((l[i]).toNat : Int) == 32) = true := by rw [beq_iff_eq, hc]; rfl
          clear hc
          go_wp2
          exact ⟨⟨i + 1, acc, by omega, by go_num, hO, hB, HT⟩, by simp [intOf]; omega⟩
        · have hc1 : ¬ ((l[i]).toNat : Int) = 32 := fun e => hc (UInt8.toNat_inj.1 (show (l[i]).toNat = 32 by omega))
          have hne : l.drop i ≠ [] := fun e => by have := congrArg List.length e; rw [List.length_drop] at this; simp at this; omega
          have CW0 := fun W hE => lxWord_any (l.drop i) W (by rw [List.length_drop]; omega) hne hE
          have HS := fun h => hT.out.syn hlt hc h
          have HL := fun h h1 => hT.out.long hlt hc h h1
          have HM := fun h h1 => hT.out.more hlt hc h h1
          have hwl := word_le (l.drop i)
          rw [List.length_drop] at hwl
          obtain ⟨⟨⟨k, s, n, p⟩, z⟩, hx⟩ : ∃ x, wordM (l.drop i) = x := ⟨_, rfl⟩
          rw [hx] at CW0 HS HL HM hwl
          dsimp only at HS HL HM hwl
          have CW : WordAt 19 (l.drop i) k s n p z := ⟨CW0⟩
          clear CW0 hx hc hne
          have cut : ∀ W : World, (Instr.slice 9 (.string (txt l)) (some (.int .i64 (i : Int))) none none).run Tryd.prog W = .ok (.string (txt (l.drop i))) W := fun W => by
            have := cut_from l (i : Int) W (by omega) (by omega)
            simpa using this
          have ERw := ER.out.later hB
          by_cases hz : z = 0
          · have HS' := HS hz
            have hzb : ((z : Int) == 0) = true := by rw [beq_iff_eq]; omega
            clear HS HL HM hz
            go_wp2_with (first
              | (go_at_call 19; refine (CW.out _ ERw).mono ?_; rintro e w1 ⟨rfl, hb⟩; have hO1 := hO.kept hb; have hB1 := below_through hb hbs hB)
              | fail)
            exact bodyPost_ret (v := .tuple #[.slice none 0 0, .int .i64 (i : Int), .int .i64 4]) (by simp [results, Tryd.results13, go_sem]; done) rfl ⟨⟨_, by rw [HS']; rfl, by rw [HS']; exact OwnW.nil _ _⟩, hB1.alloc hB1.size _⟩
          · have hzb : ((z : Int) == 0) = false := by rw [beq_eq_false_iff_ne]; omega
            by_cases h512 : acc.length = 512
            · have HS' := HL hz h512
              have h5 : ((acc.length : Int) == 512) = true := by rw [beq_iff_eq]; omega
              clear HS HL HM hz h512
              go_wp2_with (first
                | (go_at_call 19; refine (CW.out _ ERw).mono ?_; rintro e w1 ⟨rfl, hb⟩; have hO1 := hO.kept hb; have hB1 := below_through hb hbs hB)
                | fail)
              exact bodyPost_ret (v := .tuple #[.slice none 0 0, .int .i64 (i : Int), .int .i64 3]) (by simp [results, Tryd.results13, go_sem]; done) rfl ⟨⟨_, by rw [HS']; rfl, by rw [HS']; exact OwnW.nil _ _⟩, hB1.alloc hB1.size _⟩
            · have HS' := hid0 (HM hz h512)
              have h5 : ((acc.length : Int) == 512) = false := by rw [beq_eq_false_iff_ne]; omega
              clear HS HL HM
              go_wp2_with (first
                | (go_at_call 19; refine (CW.out _ ERw).mono ?_; rintro e w1 ⟨rfl, hb⟩; have hO1 := hO.kept hb; have hB1 := below_through hb hbs hB)
                | (at_builtin; go_loud (refine wp_word1 rfl _ _ rfl rfl ((hO1.alloc _).alloc _) ⟨k, s, n, i⟩ (w1.heap.size + 1) rfl (by go_cell) (by go_cell) (by go_cell) (by go_cell) (by omega) ?hb2 ?_))
                | fail)
              case hb2 => rw [World.size_alloc, World.size_alloc]; have := hB1.size; omega
              intro v2 w2 hO2 hb2
              have hB2 := ((hB1.alloc hB1.size _).alloc (by rw [World.size_alloc]; have := hB1.size; omega) _).trans hb2
              go_wp2
              exact ⟨⟨i + z, acc ++ [⟨k, s, n, i⟩], by omega, by go_num, hO2, hB2, HS'⟩, by simp [intOf]; omega⟩
      · have hii : ¬ (i : Int) < (l.length : Int) := by omega
        have hR := hT.out.end (by omega)
        obtain rfl : i = l.length := by omega
        go_wp2_with (first
          | (at_builtin; go_loud (refine wp_word1 rfl _ _ rfl rfl (hO.alloc _) ⟨5, [], 0, l.length⟩ wr.heap.size rfl (by go_cell) (by show _ = some (Value.string ⟨#[]⟩); go_cell) (by go_cell) (by go_cell) (by omega) ?hb2 ?_))
          | fail)
        case hb2 => omega
        intro v2 w2 hO2 hb2
        have hB2 := (hB.alloc hbs _).trans hb2
        go_wp2
        exact bodyPost_ret (v := .tuple #[v2, .int .i64 0, .int .i64 0]) (by simp [results, Tryd.results13, go_sem]; done) rfl ⟨⟨_, by rw [hR]; rfl, by rw [hR]; exact hO2⟩, hB2⟩
end Go.Proofs.YtfjhkchkiacfpaaDoor
