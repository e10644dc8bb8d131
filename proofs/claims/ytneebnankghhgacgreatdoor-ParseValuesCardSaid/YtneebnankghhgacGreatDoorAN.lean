/- Several of my texts laid together, each as it was: An. Conditions: each names its own. -/
import Derived.Test.YtneebnankghhgacGreatDoorAK
import Derived.Test.YtneebnankghhgacGreatDoorFG
import Derived.Test.YtneebnankghhgacGreatDoorRR
/- Rows that were read, as they lie in memory; whether two lists of rows are the same: the reference's Same answers true where they are: a contract of the call, in whatever memory. Conditions: each names its own. -/
namespace Go.Proofs.YtneebnankghhgacGreatDoor
open Go.RowKit

/-- A list of rows in memory. -/
structure Lns (w : World) (a : Option Addr) (E : List Line) : Prop where
  cells : LineCells w a E
  rows : ∀ e ∈ E, RowAt w e.a e.r
  long : ∀ e ∈ E, e.r.length ≤ maxLen
theorem Lns.later {w w' : World} {a : Option Addr} {E : List Line} (h : Lns w a E) (hb : Below w.heap.size w w') : Lns w' a E := ⟨h.cells.later hb, fun e he => (h.rows e he).later hb, h.long⟩

set_option maxHeartbeats 2000000 in
theorem refSameV_any (a1 a2 : Option Addr) (c1 c2 : Nat) (E F : List Line) (w : World) (h1 : Lns w a1 E) (h2 : Lns w a2 F) (he : E.map (·.r) = F.map (·.r)) (hn : E.length ≤ 1000000) :
    Calls Tryz.prog 8 #[.slice a1 E.length c1, .slice a2 F.length c2] w fun e w' => e = .returned (.bool true) ∧ Below w.heap.size w w' := by
  have hlen : F.length = E.length := by have := congrArg List.length he; simpa using this.symm
  have R1 := hid0 h1
  have R2 := hid0 h2
  have HE := hid0 he
  obtain ⟨n, hnn⟩ : ∃ n, E.length = n := ⟨_, rfl⟩
  rw [hlen, hnn]
  rw [hnn] at hn
  have HN := hid0 hnn
  have HF := hid0 (hlen.trans hnn)
  clear h1 h2 he hlen hnn
  go_enter Tryz.func8, Tryz.ntmps8
  go_wp2
  go_loopw [5] (fun i wr => ∃ k : Nat, k ≤ n ∧ i = .int .i64 k ∧ Below w.heap.size w wr) (fun i _ => n - (intOf i).toNat)
  case atStart => exact ⟨0, Nat.zero_le _, rfl, Below.refl _ _⟩
  case round =>
    obtain ⟨k, hk1, rfl, hB⟩ := hrel
    have hsz := hB.size
    by_cases hlt : k < n
    · have g1 : k < E.length := by rw [HN.out]; exact hlt
      have g2 : k < F.length := by rw [HF.out]; exact hlt
      obtain ⟨b1, o1, rfl, hc1⟩ := (R1.out.later hB).cells (by intro e; rw [e] at g1; exact absurd g1 (by simp))
      obtain ⟨b2, o2, rfl, hc2⟩ := (R2.out.later hB).cells (by intro e; rw [e] at g2; exact absurd g2 (by simp))
      have p0 := hc1 k g1
      have q0 := hc2 k g2
      have hr : E[k].r = F[k].r := by
        have := congrArg (fun l => l[k]?) HE.out
        simpa [g1, g2] using this
      have CR : ∀ W, Below w.heap.size w W → Calls Tryz.prog 13 #[.slice E[k].a E[k].r.length E[k].c, .slice F[k].a F[k].r.length F[k].c] W fun e w' => e = .returned (.int .i64 0) ∧ Below W.heap.size W w' := fun W hb => by
        have h := refRows_any E[k].a F[k].a E[k].c F[k].c E[k].r F[k].r W ((R1.out.later hb).rows _ (List.getElem_mem g1)) ((R2.out.later hb).rows _ (List.getElem_mem g2)) (R1.out.long _ (List.getElem_mem g1))
        have hz : rowsV E[k].r F[k].r = 0 := by rw [hr]; exact rowsV_self _
        rwa [hz] at h
      have k0 : (0 : Int) ≤ (k : Int) := Int.natCast_nonneg _
      have k1 : (k : Int) < (n : Int) := by omega
      clear hc1 hc2 hr
      go_wp2_with fail
      go_region_held3 (fun w' => w'.cell? ⟨b1, o1 + k, none⟩ = some (.slice E[k].a E[k].r.length E[k].c) ∧ w'.cell? ⟨b2, o2 + k, none⟩ = some (.slice F[k].a F[k].r.length F[k].c) ∧ Below w.heap.size w w')
        ((go_split_ands; (try dsimp only); (repeat' apply And.intro); all_goals (first
          | assumption
          | exact cell_later hbn ‹_›
          | exact below_through hbn (Below.size ‹Below w.heap.size w _›) ‹_›
          | exact Below.drew hB
          | go_keep)))
        (first
          | (go_at_call 13; (try go_split_ands); refine (CR _ (by assumption)).mono ?_; rintro e wn ⟨rfl, hbn⟩))
      obtain ⟨_, _, hBn⟩ := ‹wn.cell? ⟨b1, o1 + k, none⟩ = some (.slice E[k].a E[k].r.length E[k].c) ∧ _›
      go_wp2
      exact ⟨⟨k + 1, by omega, by go_num, hBn⟩, by simp [intOf]; omega⟩
    · go_wp2
      go_ret
      exact ⟨rfl, hB⟩

/-! ### What was read -/
theorem vLf_parts {w : World} {P : Nat → Prop} {v : Val} {us : List Value} (h : LsAt w P (vLf v) us) : us = [.int .i64 v.k, .int .i64 v.n, .string v.s] := by
  obtain ⟨u0, r0, rfl, h0, h⟩ := h.uncons
  obtain ⟨u1, r1, rfl, h1, h⟩ := h.uncons
  obtain ⟨u2, r2, rfl, h2, h3⟩ := h.uncons
  obtain rfl := LsAt.unnil h3
  obtain rfl := LfAt.val h0
  obtain rfl := LfAt.val h1
  obtain rfl := LfAt.val h2
  rfl
theorem row_of {w : World} {p : Option Addr} {r : List Val} (h : RowX w 3 (r.map vLf) p) : RowAt w p r := by
  intro hne
  have hpos : 0 < r.length := List.length_pos_iff.2 hne
  obtain ⟨b, o, us0, rfl, -, -, -, -⟩ := h.out 0 (by simpa using hpos)
  refine ⟨b, o, rfl, fun i hi => ?_⟩
  obtain ⟨b', o', us, e, hb, hl, hA, hR⟩ := h.out i (by simpa using hi)
  obtain ⟨rfl, rfl⟩ : b = b' ∧ o = o' := by simpa using e
  rw [List.getElem_map] at hA
  have hus := vLf_parts hA
  subst hus
  have r0 := hR 0 _ rfl
  have r1 := hR 1 _ rfl
  have r2 := hR 2 _ rfl
  exact ⟨r0, r1, r2⟩
theorem lines_read {w : World} : ∀ (R : List (List Val)) (p : Option Addr), RowX w 1 (R.map (fun r => [rL (r.map vLf)])) p → (∀ r ∈ R, r.length ≤ maxLen) → ∃ E : List Line, E.map (·.r) = R ∧ Lns w p E := by
  intro R p h hlong
  have each : ∀ i, i < R.length → ∃ x : Line, x.r = R[i]?.getD [] ∧ (∃ b o, p = some ⟨b, o, none⟩ ∧ w.cell? ⟨b, o + i, none⟩ = some (.slice x.a x.r.length x.c)) ∧ RowAt w x.a x.r := by
    intro i hi
    obtain ⟨b, o, us, e, hb, hl, hA, hR⟩ := h.out i (by simpa using hi)
    rw [List.getElem_map] at hA
    obtain ⟨u0, r0, rfl, k0, g1⟩ := hA.uncons
    obtain rfl := LsAt.unnil g1
    obtain ⟨q, d, rfl, hq⟩ := row_parts (k := 3) (by decide) k0 (fun x hx => by obtain ⟨v, _, rfl⟩ := List.mem_map.1 hx; rfl)
    rw [List.length_map] at hR
    have c0 := hR 0 _ rfl
    rw [Nat.add_zero, Nat.mul_one] at c0
    exact ⟨⟨q, d, R[i]⟩, by simp [hi], ⟨b, o, e, c0⟩, row_of hq⟩
  have hex : ∀ n, n ≤ R.length → ∃ l : List Line, l.length = n ∧ ∀ i (hi : i < l.length), (l[i]).r = R[i]?.getD [] ∧ (∃ b o, p = some ⟨b, o, none⟩ ∧ w.cell? ⟨b, o + i, none⟩ = some (.slice (l[i]).a (l[i]).r.length (l[i]).c)) ∧ RowAt w (l[i]).a (l[i]).r := by
    intro n
    induction n with
    | zero => intro _; exact ⟨[], rfl, fun i hi => absurd hi (by simp)⟩
    | succ n ih =>
      intro hn
      obtain ⟨l, hl, hp⟩ := ih (by omega)
      obtain ⟨x, hx⟩ := each n (by omega)
      refine ⟨l ++ [x], by simp [hl], fun i hi => ?_⟩
      rcases Nat.lt_or_ge i l.length with h1 | h1
      · rw [List.getElem_append_left h1]; exact hp i h1
      · obtain rfl : i = n := by simp at hi; omega
        rw [List.getElem_append_right h1]
        simp only [hl, Nat.sub_self, List.getElem_cons_zero]
        exact hx
  obtain ⟨E, hE, hp⟩ := hex R.length (Nat.le_refl _)
  have hmap : E.map (·.r) = R := by
    refine List.ext_getElem (by simpa using hE) (fun i h1 h2 => ?_)
    rw [List.getElem_map, (hp i (by simpa using h1)).1]
    simp [h2]
  refine ⟨E, hmap, fun hne => ?_, fun e he => ?_, fun e he => hlong _ (by rw [← hmap]; exact List.mem_map_of_mem he)⟩
  · have hpos : 0 < E.length := List.length_pos_iff.2 hne
    obtain ⟨b, o, hb, -⟩ := (hp 0 hpos).2.1
    refine ⟨b, o, hb, fun i hi => ?_⟩
    obtain ⟨b', o', e, hc⟩ := (hp i hi).2.1
    rw [hb] at e
    obtain ⟨rfl, rfl⟩ : b = b' ∧ o = o' := by simpa using e
    exact hc
  · obtain ⟨i, hi, rfl⟩ := List.mem_iff_getElem.1 he
    exact (hp i hi).2.2
/-- The statement's cells. -/
theorem ins_cells {w : World} {P : Nat → Prop} {R : List (List Val)} {us : List Value} (hS : IsSt (insS R)) (h : LsAt w P (stL (insS R)) us) (hR : ∀ r ∈ R, r.length ≤ maxLen) :
    us[0]? = some (.int .i64 8) ∧ us[1]? = some (.string (txt [116])) ∧ ∃ p c E, us[6]? = some (.slice p R.length c) ∧ E.map (·.r) = R ∧ Lns w p E := by
  obtain ⟨p1, c1, p2, c2, p3, c3, p4, c4, p5, c5, uw, rfl, hUw, hp1, hp2, hp3, hp4, hp5⟩ := st_parts h hS
  refine ⟨rfl, rfl, ?_⟩
  have e : (insS R).rows.length = R.length := by show (R.map _).length = _; simp
  obtain ⟨E, h1, h2⟩ := lines_read R p4 hp4 hR
  exact ⟨p4, c4, E, by rw [← e]; rfl, h1, h2⟩
end Go.Proofs.YtneebnankghhgacGreatDoor
