/- The walk of the law PageSpoilt: it returns true, and below the heap's end memory is as it was. Conditions: the slots' and the turns' cells are known (what came in reads so). -/
import Derived.Test.YtpcjfhoppcmenaaQs
import Derived.Test.YtpcjfhoppcmenaaRf
namespace Go.Proofs.Ytpcjfhoppcmenaa
open Go.RowKit

/-- A string's bytes laid anew. -/
theorem bytes_new (X : List UInt8) (W : World) : ∃ c W1, (convert 9 46 (.string (txt X))).run Try.prog W = .ok (.slice (some ⟨W.heap.size, 0, none⟩) X.length c) W1 ∧ BytAt W1 W.heap.size X ∧ Below W.heap.size W W1 ∧ X.length ≤ c := by
  have hz : (txt X).size = X.length := txt_size X
  have h := run_bytes_of_string (P := Try.prog) W 9 46 5 (txt X) Try.underlying9 Try.underlying46 Try.underlying5
  rw [hz] at h
  refine ⟨_, _, h, ?_, ?_, ?_⟩
  · have hh : ∀ (C : Array Value) (fz : Nat × Nat), (W.drew.alloc (.cells C 5 fz)).heap[W.heap.size]? = some (.cells C 5 fz) := fun C fz => by
      show (W.heap.push (.cells C 5 fz))[W.heap.size]? = _
      simp
    have hlen : X.length ≤ (bytesRow (txt X) (grownCap W X.length 0 5)).size := by
      unfold bytesRow
      rw [Array.size_append, Array.size_map]
      have : (txt X).data.size = X.length := hz
      omega
    refine ⟨fun j hj => ?_, fun j hj => ?_, by simp⟩
    · rw [cell_of_row _ _ _ _ _ _ (hh _ _)]
      exact bytesRow_at (txt X) _ j (by have : (txt X).data.size = X.length := hz; omega)
    · unfold World.frozen?
      rw [hh]
      simp only
      simp
      omega
  · exact (Below.drew (Below.refl _ _)).alloc (Nat.le_refl _) _
  · exact grownCap_ge W X.length 0 5
/-- Which byte a turn meets. -/
theorem turn_at (x : Int) : ∃ u k : Nat, Hid (IntKind.u64.wrap x = (u : Int)) ∧ Hid ((u : Int).tmod 1024 = (k : Int) ∧ (u : Int) % 1024 = (k : Int)) ∧ k < 1024 := by
  have e : IntKind.u64.wrap x = x % 18446744073709551616 := IntKind.wrap_u64 x
  have h0 : 0 ≤ x % 18446744073709551616 := Int.emod_nonneg _ (by decide)
  generalize x % 18446744073709551616 = m at e h0
  obtain ⟨u, rfl⟩ := Int.eq_ofNat_of_zero_le h0
  exact ⟨u, u % 1024, hid0 e, hid0 ⟨rfl, by omega⟩, Nat.mod_lt _ (by decide)⟩
theorem small_wraps (k : Nat) (h : k < 1024) : Hid (IntKind.u64.wrap (k : Int) = (k : Int)) ∧ Hid (IntKind.i64.wrap (k : Int) = (k : Int) ∧ wrap64 (k : Int) = (k : Int)) :=
  ⟨hid0 (wrap_u64 _ (by omega) (by omega)), hid0 (w64 (x := (k : Int)) rfl (by omega) (by omega))⟩
/-- The cells of a list of turns. -/
def TurnsAt (w : World) (a : Option Addr) (T : List (Int × UInt8)) : Prop :=
  T ≠ [] → ∃ b off, a = some ⟨b, off, none⟩ ∧ ∀ i (h : i < T.length), w.cell? ⟨b, off + i * 2, none⟩ = some (.int .i64 (T[i]).1) ∧ w.cell? ⟨b, off + i * 2 + 1, none⟩ = some (.int .u8 ((T[i]).2.toNat : Int))
theorem TurnsAt.later {w w' : World} {a : Option Addr} {T : List (Int × UInt8)} (h : TurnsAt w a T) (hb : Below w.heap.size w w') : TurnsAt w' a T := fun hn => by
  obtain ⟨b, off, e, hc⟩ := h hn
  exact ⟨b, off, e, fun i hi => ⟨cell_later hb (hc i hi).1, cell_later hb (hc i hi).2⟩⟩

set_option maxHeartbeats 8000000 in
set_option maxRecDepth 1000000 in
theorem lawPageSpoilt (a : Option Addr) (c : Nat) (p : Pg) (ta : Option Addr) (tc : Nat) (T : List (Int × UInt8)) (w : World) (hP : PgAt w a c p) (hT : TurnsAt w ta T) (hTl : T.length ≤ 140737488351232) :
    Calls Try.prog 9 #[.agg #[.slice a p.length c], .slice ta T.length tc] w fun e w' => e = .returned (.bool true) ∧ Below w.heap.size w w' := by
  have hP0 := hP.alloc (Obj.cells #[.slice a p.length c] 24)
  have q0 := (VarAt.new w (.slice a p.length c) 24).cell
  have hB : Below w.heap.size w (w.alloc (Obj.cells #[.slice a p.length c] 24)) := (Below.refl _ _).alloc (Nat.le_refl _) _
  have C := pgBytes_any a c p _ hP0.out hP0.cap hP0.len hP0.small
  have HT := hid0 hT
  clear hP hT
  cases hr : rightB p with
  | false =>
    obtain ⟨e1, e2⟩ := byt_wrong hr
    rw [e1, e2] at C
    have he := txt_toList []
    have he2 : (ByteArray.mk #[]).toList = [] := txt_toList []
    clear e1 e2 hr hP0
    go_enter Try.func9, Try.ntmps9
    go_wp2_with fail
    refine C.mono ?_
    rintro e w1 ⟨rfl, hb1⟩
    replace hB := below_through hb1 hB.size hB
    clear C q0 hb1
    go_wp2_with fail
    refine (awake_any _).mono ?_
    rintro e w2 ⟨rfl, hb2⟩
    replace hB := below_through hb2 hB.size hB
    clear hb2
    go_wp2
    go_ret
    exact ⟨rfl, hB⟩
  | true =>
    obtain ⟨e1, e2⟩ := byt_right hr
    rw [e1, e2] at C
    have hl := bytesP_len ((rightB_iff p).1 hr).size
    obtain ⟨X0, hX0⟩ : ∃ X, bytesP p = X := ⟨_, rfl⟩
    rw [hX0] at C hl
    clear e1 e2 hr hP0 hX0
    go_enter Try.func9, Try.ntmps9
    go_wp2_with fail
    refine C.mono ?_
    rintro e w1 ⟨rfl, hb1⟩
    replace hB := below_through hb1 hB.size hB
    have hz1 := hB.size
    obtain ⟨cc, W1, hconv, hby, hbW, hcc⟩ := bytes_new X0 w1
    rw [hl] at hconv hcc
    have hBW := below_through hbW hz1 hB
    obtain ⟨B, hBd⟩ : ∃ B, w1.heap.size = B := ⟨_, rfl⟩
    rw [hBd] at hconv hby hz1
    have HL := hid0 hl
    clear C q0 hb1 hbW hBd hB hl
    go_wp2_with fail
    clear hconv
    go_loopw [8] (fun iv wr => ∃ (i : Nat) (X : List UInt8), i ≤ T.length ∧ iv = .int .i64 i ∧ Hid (X.length = 1024) ∧ BytAt wr B X ∧ Below w.heap.size w wr) (fun iv _ => T.length - (intOf iv).toNat)
    case atStart => exact ⟨0, X0, Nat.zero_le _, rfl, HL, hby, hBW⟩
    case round =>
      clear hby hBW HL
      obtain ⟨i, X, hi, rfl, HL, hby, hB⟩ := hrel
      have hsz := hB.size
      by_cases hlt : i < T.length
      · obtain ⟨tb, to, rfl, hc⟩ := (HT.out.later hB) (by intro e; rw [e] at hlt; exact absurd hlt (by simp))
        obtain ⟨q0, q1⟩ := hc i hlt
        have htb : tb < w.heap.size := by
          obtain ⟨b, o, e, hc⟩ := HT.out (by intro e; rw [e] at hlt; exact absurd hlt (by simp))
          obtain ⟨rfl, rfl⟩ : tb = b ∧ to = o := by simpa using e
          exact World.block_lt_of_cell? _ _ (hc i hlt).1
        clear hc
        obtain ⟨⟨at', by'⟩, hti⟩ : ∃ t, T[i] = t := ⟨_, rfl⟩
        rw [hti] at q0 q1
        dsimp only at q0 q1
        obtain ⟨u, k, HU, HK, hkl⟩ := turn_at at'
        obtain ⟨HW1, HW2⟩ := small_wraps k hkl
        have hki : (k : Int) < 1024 := by omega
        have hcB : wr.drew.cell? ⟨B, k, none⟩ = some (.int .u8 ((X[k]'(by have := HL.out; omega)).toNat : Int)) := hby.cell k _
        have hfB : wr.drew.frozen? ⟨B, k, none⟩ = false := hby.frz k (by have := HL.out; omega)
        have hcB0 : wr.cell? ⟨B, k, none⟩ = some (.int .u8 ((X[k]'(by have := HL.out; omega)).toNat : Int)) := hby.cell k _
        have hfB0 : wr.frozen? ⟨B, k, none⟩ = false := hby.frz k (by have := HL.out; omega)
        have hne : ∀ o u, (wr.drew.setCell ⟨B, k, none⟩ u).cell? ⟨tb, o, none⟩ = wr.cell? ⟨tb, o, none⟩ := fun o u => by
          rw [World.cell?_setCell_other _ _ _ _ (fun e => by have := congrArg Addr.block e; simp at this; omega)]; rfl
        have HBY := hid0 (hby.drew.set k by')
        have hBn := hB.drew.setCell (p := ⟨B, k, none⟩) hz1 (.int .u8 (by'.toNat : Int))
        clear hti hby
        go_wp2_with fail
        have hu := HU.out
        obtain ⟨hk1, hk2⟩ := HK.out
        have hw1 := HW1.out
        obtain ⟨hw2, hw3⟩ := HW2.out
        go_region_held3 (fun w' => w'.cell? ⟨tb, to + i * 2, none⟩ = some (.int .i64 at') ∧ w'.cell? ⟨tb, to + i * 2 + 1, none⟩ = some (.int .u8 (by'.toNat : Int)))
          ((go_split_ands; (try dsimp only); (repeat' apply And.intro); all_goals (first
            | assumption
            | exact (hne _ _).trans ‹_›
            | go_keep)))
          (fail)
        clear hu hk1 hk2 hw1 hw2 hw3 HU HK HW1 HW2 hcB hfB hcB0 hfB0 hne q0 q1
        go_wp2
        exact ⟨⟨i + 1, X.set k by', by omega, by go_num, hid0 (by rw [List.length_set]; exact HL.out), HBY.out, hBn⟩, by simp [intOf]; omega⟩
      · have hie : ¬ (i : Int) < T.length := by omega
        have hback : (convert 46 9 (.slice (some ⟨B, 0, none⟩) 1024 cc)).run Try.prog wr = .ok (.string (txt X)) wr := by
          have h := run_convert_bytes_back (P := Try.prog) wr 46 9 5 ⟨B, 0, none⟩ cc X Try.underlying46 Try.underlying5 Try.underlying9 (fun j hj => by
            rw [WideShapes.add_plain, Nat.zero_add]; exact hby.cell j hj)
          rw [HL.out] at h
          exact h
        have C1 := pgRead_any X wr (by have := HL.out; unfold maxLen; omega)
        have C2 := fun W => refRead_any X W
        obtain ⟨Q, hQ⟩ : ∃ Q, readQ X = Q := ⟨_, rfl⟩
        obtain ⟨er, her⟩ : ∃ er, readE X = er := ⟨_, rfl⟩
        have hf := read_fine X
        rw [hQ] at hf
        have hlm := fine_len hf
        rw [hQ, her] at C1
        simp only [hQ, her] at C2
        unfold PgAns at C1 C2
        clear hQ her hby HL
        go_wp2_with fail
        refine C1.mono ?_
        rintro e w2 ⟨⟨a1, c1, q1, rfl, hc1, hq1, hqe1, _⟩, hb2⟩
        obtain rfl := hqe1.symm
        replace hB := below_through hb2 hB.size hB
        have hz2 := hB.size
        have hP2 : PgAt w2 a1 c1 Q := ⟨hq1, hc1, hf.1, hf.2⟩
        clear C1 hb2 hq1 hback
        replace hB := hB.alloc hz2 (Obj.cells #[.slice a1 Q.length c1] 24)
        have hP3 := hP2.alloc (Obj.cells #[.slice a1 Q.length c1] 24)
        have v3 := (VarAt.new w2 (.slice a1 Q.length c1) 24).cell
        clear hP2
        go_wp2_with fail
        refine (C2 _).mono ?_
        rintro e w4 ⟨⟨a3, c3, q3, rfl, hc3, hq3, hqe3, _⟩, hb4⟩
        obtain rfl := hqe3.symm
        replace hB := below_through hb4 hB.size hB
        have hz4 := hB.size
        replace hP3 := hP3.later hb4
        replace v3 := cell_later hb4 v3
        have hR4 : PgAt w4 a3 c3 Q := ⟨hq3, hc3, hf.1, hf.2⟩
        clear C2 hb4 hq3
        replace hB := hB.alloc hz4 (Obj.cells #[.slice a3 Q.length c3] 24)
        replace hP3 := hP3.alloc (Obj.cells #[.slice a3 Q.length c3] 24)
        have hR5 := hR4.alloc (Obj.cells #[.slice a3 Q.length c3] 24)
        have u5 := (VarAt.new w4 (.slice a3 Q.length c3) 24).cell
        replace v3 := cell_later ((Below.refl w4.heap.size w4).alloc (Nat.le_refl _) (Obj.cells #[.slice a3 Q.length c3] 24)) v3
        clear hR4
        go_wp2_with fail
        refine (awake_any _).mono ?_
        rintro e w6 ⟨rfl, hb6⟩
        replace hB := below_through hb6 hB.size hB
        replace hP3 := hP3.later hb6
        replace hR5 := hR5.later hb6
        replace v3 := cell_later hb6 v3
        replace u5 := cell_later hb6 u5
        clear hb6
        have C6 := refSame_any a1 a3 c1 c3 Q w6 hP3.out hR5.out hlm
        go_wp2_with fail
        refine C6.mono ?_
        rintro e w7 ⟨rfl, hb7⟩
        replace hB := below_through hb7 hB.size hB
        clear C6 hb7 hP3 hR5 v3 u5
        go_wp2
        go_ret
        exact ⟨rfl, hB⟩
end Go.Proofs.Ytpcjfhoppcmenaa
