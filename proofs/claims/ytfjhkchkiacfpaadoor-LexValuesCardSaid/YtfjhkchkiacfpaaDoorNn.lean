/- The walk of the law LexParts: it returns true, and below the heap's end memory is as it was. Conditions: what strconv.ErrRange holds is an error. -/
import Derived.Test.YtfjhkchkiacfpaaDoorNl
import Derived.Test.YtfjhkchkiacfpaaDoorNj
namespace Go.Proofs.YtfjhkchkiacfpaaDoor
open Go.RowKit

/-- What Words answers of one text: offered at another text it is refused at once. -/
structure WordsOn (l : List UInt8) (N E : Nat) (ws : List Wd) : Prop where
  out : ∀ W, ErAt W → Calls Tryd.prog 13 #[.string (txt l)] W fun e w' => ∃ v, e = .returned (.tuple #[v, .int .i64 (N : Int), .int .i64 (E : Int)]) ∧ OwnW w' W.heap.size v ws ∧ Below W.heap.size W w'
theorem wordsOn {l : List UInt8} (hl : l.length ≤ maxLen) {R : LexR} (hR : lexR l = R) : WordsOn l (outN R) (outE R) (outW l.length R) := ⟨fun W hE => (lxWords_any l W hl hE).mono (by
  rintro e w' ⟨⟨v, rfl, hO⟩, hb⟩
  rw [hR] at hO ⊢
  exact ⟨v, rfl, hO, hb⟩)⟩
/-- Words that lie from a block's beginning on. -/
structure Wds (w : World) (g : Nat) (ws : List Wd) : Prop where
  cell4 : ∀ i (h : i < ws.length), w.cell? ⟨g, i * 4, none⟩ = some (.int .i64 (ws[i].k : Nat)) ∧ w.cell? ⟨g, i * 4 + 1, none⟩ = some (.string (txt ws[i].s)) ∧ w.cell? ⟨g, i * 4 + 2, none⟩ = some (.int .u64 (ws[i].n : Nat)) ∧ w.cell? ⟨g, i * 4 + 3, none⟩ = some (.int .i64 (ws[i].p : Nat))
theorem OwnW.wds {w : World} {base : Nat} {v : Value} {ws : List Wd} (h : OwnW w base v ws) (hne : ws ≠ []) : ∃ g c, v = .slice (some ⟨g, 0, none⟩) ws.length c ∧ Wds w g ws := by
  obtain ⟨g, c, e, H⟩ := h.row0 hne
  exact ⟨g, c, e, ⟨fun i hi => ⟨H _ _ (wdCells_at ws i hi).1, H _ _ (wdCells_at ws i hi).2.1, H _ _ (wdCells_at ws i hi).2.2.1, H _ _ (wdCells_at ws i hi).2.2.2⟩⟩⟩
theorem Wds.later {w w' : World} {g : Nat} {ws : List Wd} (h : Wds w g ws) (hb : Below w.heap.size w w') : Wds w' g ws :=
  ⟨fun i hi => ⟨cell_later hb (h.cell4 i hi).1, cell_later hb (h.cell4 i hi).2.1, cell_later hb (h.cell4 i hi).2.2.1, cell_later hb (h.cell4 i hi).2.2.2⟩⟩
theorem OwnW.len {w : World} {base : Nat} {v : Value} {ws : List Wd} (h : OwnW w base v ws) : ∃ a c, v = .slice a ws.length c := by
  obtain ⟨a, c, e, _⟩ := h.row
  exact ⟨a, c, e⟩

/-! ### The ways on which nothing is asked -/
set_option maxHeartbeats 2000000 in
theorem parts_out0 (s t : List UInt8) (N1 E1 N2 E2 : Nat) (ws ms : List Wd) (w : World) (er : ErAt w) (HS : WordsOn s N1 E1 ws) (HT : WordsOn t N2 E2 ms) (h1 : E1 ≠ 0) :
    Calls Tryd.prog 5 #[.string (txt s), .string (txt t)] w fun e w' => e = .returned (.bool true) ∧ Below w.heap.size w w' := by
  have hzs : (txt s).size = s.length := txt_size s
  have hzt : (txt t).size = t.length := txt_size t
  have h1' : ¬ (E1 : Int) = 0 := by omega
  go_enter Tryd.func5, Tryd.ntmps5
  go_wp2_with fail
  go_at_call 13
  refine (HS.out _ er).mono ?_
  rintro e w1 ⟨v1, rfl, hO1, hb1⟩
  have er1 := er.later hb1
  obtain ⟨a1, c1, rfl⟩ := hO1.len
  go_wp2_with fail
  go_at_call 13
  refine (HT.out _ er1).mono ?_
  rintro e w2 ⟨v2, rfl, hO2, hb2⟩
  have er2 := er1.later hb2
  obtain ⟨a2, c2, rfl⟩ := hO2.len
  have CA := awake8_any w2 er2
  go_wp2_with (first
    | (go_at_call 8; refine CA.mono ?_; rintro e w3 ⟨rfl, hb3⟩)
    | fail)
  go_ret
  have h2 := below_through hb2 hb1.size hb1
  exact ⟨rfl, below_through hb3 h2.size h2⟩

set_option maxHeartbeats 2000000 in
theorem parts_out1 (s t : List UInt8) (N1 E1 N2 E2 : Nat) (ws ms : List Wd) (w : World) (er : ErAt w) (HS : WordsOn s N1 E1 ws) (HT : WordsOn t N2 E2 ms) (h1 : E1 = 0) (h2 : E2 ≠ 0) :
    Calls Tryd.prog 5 #[.string (txt s), .string (txt t)] w fun e w' => e = .returned (.bool true) ∧ Below w.heap.size w w' := by
  have hzs : (txt s).size = s.length := txt_size s
  have hzt : (txt t).size = t.length := txt_size t
  subst h1
  have h2' : ¬ (E2 : Int) = 0 := by omega
  go_enter Tryd.func5, Tryd.ntmps5
  go_wp2_with fail
  go_at_call 13
  refine (HS.out _ er).mono ?_
  rintro e w1 ⟨v1, rfl, hO1, hb1⟩
  have er1 := er.later hb1
  obtain ⟨a1, c1, rfl⟩ := hO1.len
  go_wp2_with fail
  go_at_call 13
  refine (HT.out _ er1).mono ?_
  rintro e w2 ⟨v2, rfl, hO2, hb2⟩
  have er2 := er1.later hb2
  obtain ⟨a2, c2, rfl⟩ := hO2.len
  have CA := awake8_any w2 er2
  go_wp2_with (first
    | (go_at_call 8; refine CA.mono ?_; rintro e w3 ⟨rfl, hb3⟩)
    | fail)
  go_ret
  have h2 := below_through hb2 hb1.size hb1
  exact ⟨rfl, below_through hb3 h2.size h2⟩

set_option maxHeartbeats 2000000 in
theorem parts_out2 (s t : List UInt8) (N1 E1 N2 E2 : Nat) (ws ms : List Wd) (w : World) (er : ErAt w) (HS : WordsOn s N1 E1 ws) (HT : WordsOn t N2 E2 ms) (h1 : E1 = 0) (h2 : E2 = 0) (h3 : 900 < s.length) :
    Calls Tryd.prog 5 #[.string (txt s), .string (txt t)] w fun e w' => e = .returned (.bool true) ∧ Below w.heap.size w w' := by
  have hzs : (txt s).size = s.length := txt_size s
  have hzt : (txt t).size = t.length := txt_size t
  subst h1 h2
  have h3' : (900 : Int) < (s.length : Int) := by omega
  go_enter Tryd.func5, Tryd.ntmps5
  go_wp2_with fail
  go_at_call 13
  refine (HS.out _ er).mono ?_
  rintro e w1 ⟨v1, rfl, hO1, hb1⟩
  have er1 := er.later hb1
  obtain ⟨a1, c1, rfl⟩ := hO1.len
  go_wp2_with fail
  go_at_call 13
  refine (HT.out _ er1).mono ?_
  rintro e w2 ⟨v2, rfl, hO2, hb2⟩
  have er2 := er1.later hb2
  obtain ⟨a2, c2, rfl⟩ := hO2.len
  have CA := awake8_any w2 er2
  go_wp2_with (first
    | (go_at_call 8; refine CA.mono ?_; rintro e w3 ⟨rfl, hb3⟩)
    | fail)
  go_ret
  have h2 := below_through hb2 hb1.size hb1
  exact ⟨rfl, below_through hb3 h2.size h2⟩

set_option maxHeartbeats 2000000 in
theorem parts_out3 (s t : List UInt8) (N1 E1 N2 E2 : Nat) (ws ms : List Wd) (w : World) (er : ErAt w) (HS : WordsOn s N1 E1 ws) (HT : WordsOn t N2 E2 ms) (h1 : E1 = 0) (h2 : E2 = 0) (h3 : s.length ≤ 900) (h4 : 900 < t.length) :
    Calls Tryd.prog 5 #[.string (txt s), .string (txt t)] w fun e w' => e = .returned (.bool true) ∧ Below w.heap.size w w' := by
  have hzs : (txt s).size = s.length := txt_size s
  have hzt : (txt t).size = t.length := txt_size t
  subst h1 h2
  have h3' : ¬ (900 : Int) < (s.length : Int) := by omega
  have h4' : (900 : Int) < (t.length : Int) := by omega
  go_enter Tryd.func5, Tryd.ntmps5
  go_wp2_with fail
  go_at_call 13
  refine (HS.out _ er).mono ?_
  rintro e w1 ⟨v1, rfl, hO1, hb1⟩
  have er1 := er.later hb1
  obtain ⟨a1, c1, rfl⟩ := hO1.len
  go_wp2_with fail
  go_at_call 13
  refine (HT.out _ er1).mono ?_
  rintro e w2 ⟨v2, rfl, hO2, hb2⟩
  have er2 := er1.later hb2
  obtain ⟨a2, c2, rfl⟩ := hO2.len
  have CA := awake8_any w2 er2
  go_wp2_with (first
    | (go_at_call 8; refine CA.mono ?_; rintro e w3 ⟨rfl, hb3⟩)
    | fail)
  go_ret
  have h2 := below_through hb2 hb1.size hb1
  exact ⟨rfl, below_through hb3 h2.size h2⟩

set_option maxHeartbeats 2000000 in
theorem parts_out4 (s t : List UInt8) (N1 E1 N2 E2 : Nat) (ws ms : List Wd) (w : World) (er : ErAt w) (HS : WordsOn s N1 E1 ws) (HT : WordsOn t N2 E2 ms) (h1 : E1 = 0) (h2 : E2 = 0) (h3 : s.length ≤ 900) (h4 : t.length ≤ 900) (h5 : 200 < ws.length) :
    Calls Tryd.prog 5 #[.string (txt s), .string (txt t)] w fun e w' => e = .returned (.bool true) ∧ Below w.heap.size w w' := by
  have hzs : (txt s).size = s.length := txt_size s
  have hzt : (txt t).size = t.length := txt_size t
  subst h1 h2
  have h3' : ¬ (900 : Int) < (s.length : Int) := by omega
  have h4' : ¬ (900 : Int) < (t.length : Int) := by omega
  have h5' : (200 : Int) < (ws.length : Int) := by omega
  go_enter Tryd.func5, Tryd.ntmps5
  go_wp2_with fail
  go_at_call 13
  refine (HS.out _ er).mono ?_
  rintro e w1 ⟨v1, rfl, hO1, hb1⟩
  have er1 := er.later hb1
  obtain ⟨a1, c1, rfl⟩ := hO1.len
  go_wp2_with fail
  go_at_call 13
  refine (HT.out _ er1).mono ?_
  rintro e w2 ⟨v2, rfl, hO2, hb2⟩
  have er2 := er1.later hb2
  obtain ⟨a2, c2, rfl⟩ := hO2.len
  have CA := awake8_any w2 er2
  go_wp2_with (first
    | (go_at_call 8; refine CA.mono ?_; rintro e w3 ⟨rfl, hb3⟩)
    | fail)
  go_ret
  have h2 := below_through hb2 hb1.size hb1
  exact ⟨rfl, below_through hb3 h2.size h2⟩

set_option maxHeartbeats 2000000 in
theorem parts_out5 (s t : List UInt8) (N1 E1 N2 E2 : Nat) (ws ms : List Wd) (w : World) (er : ErAt w) (HS : WordsOn s N1 E1 ws) (HT : WordsOn t N2 E2 ms) (h1 : E1 = 0) (h2 : E2 = 0) (h3 : s.length ≤ 900) (h4 : t.length ≤ 900) (h5 : ws.length ≤ 200) (h6 : 200 < ms.length) :
    Calls Tryd.prog 5 #[.string (txt s), .string (txt t)] w fun e w' => e = .returned (.bool true) ∧ Below w.heap.size w w' := by
  have hzs : (txt s).size = s.length := txt_size s
  have hzt : (txt t).size = t.length := txt_size t
  subst h1 h2
  have h3' : ¬ (900 : Int) < (s.length : Int) := by omega
  have h4' : ¬ (900 : Int) < (t.length : Int) := by omega
  have h5' : ¬ (200 : Int) < (ws.length : Int) := by omega
  have h6' : (200 : Int) < (ms.length : Int) := by omega
  go_enter Tryd.func5, Tryd.ntmps5
  go_wp2_with fail
  go_at_call 13
  refine (HS.out _ er).mono ?_
  rintro e w1 ⟨v1, rfl, hO1, hb1⟩
  have er1 := er.later hb1
  obtain ⟨a1, c1, rfl⟩ := hO1.len
  go_wp2_with fail
  go_at_call 13
  refine (HT.out _ er1).mono ?_
  rintro e w2 ⟨v2, rfl, hO2, hb2⟩
  have er2 := er1.later hb2
  obtain ⟨a2, c2, rfl⟩ := hO2.len
  have CA := awake8_any w2 er2
  go_wp2_with (first
    | (go_at_call 8; refine CA.mono ?_; rintro e w3 ⟨rfl, hb3⟩)
    | fail)
  go_ret
  have h2 := below_through hb2 hb1.size hb1
  exact ⟨rfl, below_through hb3 h2.size h2⟩

end Go.Proofs.YtfjhkchkiacfpaaDoor
