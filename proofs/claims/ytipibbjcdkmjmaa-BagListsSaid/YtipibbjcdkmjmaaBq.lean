/- The project's bag.List and bag.Rows: the bag of rows, each once; the rows of a bag: contracts of the calls, in whatever memory. Conditions: the rows' cells are known; they are not too many. -/
import Derived.Test.YtipibbjcdkmjmaaBo
namespace Go.Proofs.Ytipibbjcdkmjmaa
open Go.RowKit

/-- A block that is known whole. -/
structure BlkAt (w : World) (B : Nat) (cs : Array Value) (t : TypeId) : Prop where
  out : ∃ fz, w.heap[B]? = some (Obj.cells cs t fz)
theorem BlkAt.later {w w' : World} {B : Nat} {cs : Array Value} {t : TypeId} (h : BlkAt w B cs t) (hb : Below w.heap.size w w') : BlkAt w' B cs t := by
  obtain ⟨fz, hh⟩ := h.out
  exact ⟨fz, (hb.block B (Array.getElem?_eq_some_iff.1 hh).1).trans hh⟩
theorem BlkAt.keptT {w w' : World} {B : Nat} {cs : Array Value} {t e : TypeId} {base : Nat} (h : BlkAt w B cs t) (ht : t ≠ e) (hK : KeptT e base w w') : BlkAt w' B cs t := by
  obtain ⟨fz, hh⟩ := h.out
  exact ⟨fz, hK.other B cs fz t ht hh⟩
theorem BlkAt.two {w : World} {B : Nat} {u v : Value} {t : TypeId} (h : BlkAt w B #[u, v] t) : w.cell? ⟨B, 0, none⟩ = some u ∧ w.cell? ⟨B, 1, none⟩ = some v := by
  obtain ⟨fz, hh⟩ := h.out
  constructor <;> simp [World.cell?, hh]
theorem BlkAt.new (w : World) (cs : Array Value) (t : TypeId) : BlkAt (w.alloc (Obj.cells cs t)) w.heap.size cs t := ⟨_, by show (w.heap.push (Obj.cells cs t))[w.heap.size]? = some (Obj.cells cs t); simp⟩

set_option maxHeartbeats 2000000 in
theorem bagList_any (a : Option Addr) (c : Nat) (Ls : List Line) (w : World) (h : LinesAt w a Ls) (_ : Ls.length ≤ c) (hl : Ls.length ≤ 1000) :
    Calls Try.prog 5 #[.slice a Ls.length c] w (OfAns w (onesB (Ls.map (·.r)))) := by
  have A := hid0 h
  clear h
  obtain ⟨i0, hi, hz0, hz1, hz2⟩ := info_parts info36
  go_enter Try.func5, Try.ntmps5
  go_wp2_with (at_make; go_must (refine wpList_make_own _ rfl _ _ 24 rfl w.heap.size 36 i0 (.agg #[.slice none 0 0, .int .i64 0]) 2 Try.underlying24 hi hz0 hz1 _ _ _ Ls.length rfl rfl ?b1 ?b2 ?b3 (Nat.le_refl _) ?_))
  case b1 => rfl
  case b2 => rw [hz2]; omega
  case b3 => unfold maxLen; omega
  intro w1 hown1 hg1
  have hB1 : Below w.heap.size w w1 := (Below.refl _ _).grown hg1 (Nat.le_refl _) (fun k hk => by cases hk)
  have hO1 : OwnB w1 w.heap.size (.slice (some ⟨w.heap.size, 0, none⟩) 0 Ls.length) [] := ⟨hown1⟩
  clear hown1 hg1 hz0 hz1 hz2 hi
  go_wp2_with fail
  go_loopw [3, 11] (fun ov iv wr => ∃ i : Nat, i ≤ Ls.length ∧ iv = .int .i64 i ∧ OwnB wr w.heap.size ov ((Ls.map onceE).take i) ∧ Below w.heap.size w wr) (fun _ iv _ => Ls.length - (intOf iv).toNat)
  case atStart => exact ⟨0, Nat.zero_le _, rfl, hO1, hB1⟩
  case round =>
    obtain ⟨i, hi, rfl, hown, hB⟩ := hrel
    have hsz := hB.size
    clear hO1 hB1
    by_cases hlt : i < Ls.length
    · obtain ⟨b1, o1, rfl, hc1⟩ := (A.out.1.later hB) (by intro e; rw [e] at hlt; exact absurd hlt (by simp))
      have q0 := hc1 i hlt
      clear hc1
      have ho1 := fun o => hown.alloc o
      have hlen : ((Ls.map onceE).take i).length = i := by rw [List.length_take, List.length_map]; omega
      go_wp2_with (at_builtin; go_must (refine wp_bag1 rfl _ _ rfl rfl (ho1 _) (onceE Ls[i]) wr.heap.size rfl (elem_new _ _ _ _).1 (elem_new _ _ _ _).2 ?hl ?hb ?_))
      case hl => omega
      case hb => simp; omega
      intro v1 w1 hown1 hK1
      have hB1 := (Below.alloc hB hsz _).trans hK1.below
      have e1 : (Ls.map onceE).take i ++ [onceE Ls[i]] = (Ls.map onceE).take (i + 1) := by rw [List.take_succ_eq_append_getElem (by simpa using hlt)]; simp
      rw [e1] at hown1
      clear hown ho1 hK1 q0 e1
      go_wp2
      exact ⟨⟨i + 1, by omega, by go_num, hown1, hB1⟩, by simp [intOf]; omega⟩
    · rw [List.take_of_length_le (by simp; omega)] at hown
      obtain ⟨a', c', rfl, hcap, _, hcl⟩ := elems_owned hown.out
      have hE : ElemsAt wr a' (Ls.map onceE) := ⟨hcl, once_in (A.out.2.later hB)⟩
      have hlen : (Ls.map onceE).length = Ls.length := List.length_map _
      have hC := bagOf_any a' c' (Ls.map onceE) wr hE hcap (by omega) (by rw [once_pr, absS_ones, List.length_map]; omega)
      rw [once_pr, hlen] at hC
      rw [hlen]
      have HC := hid0 hC
      clear hown hcl hE hC hcap hlen
      have hie : ¬ (i : Int) < Ls.length := by omega
      go_wp2_with (go_at_call 13; refine HC.out.mono ?_; rintro e w1 ⟨⟨a2, c2, E2, rfl, h1, h2, h3⟩, hb⟩)
      go_ret
      exact ⟨⟨a2, c2, E2, rfl, h1, h2, h3⟩, below_through hb hsz hB⟩

set_option maxHeartbeats 4000000 in
theorem bagRows_any (a : Option Addr) (c : Nat) (E : List Elem) (w : World) (h : ElemsAt w a E) (_ : E.length ≤ c) (hle : E.length ≤ 1000000) (hl : (rowsB (E.map pr)).length ≤ 1000000) (hn : ∀ e ∈ E, e.n ≤ 1000000) :
    Calls Try.prog 6 #[.slice a E.length c] w (RowsAns w (rowsB (E.map pr))) := by
  have A := hid0 h
  have HN := hid0 hn
  clear h hn
  go_enter Try.func6, Try.ntmps6
  go_wp2
  go_loopw [3, 8] (fun ov iv wr => ∃ (i : Nat) (Ls : List Line), i ≤ E.length ∧ iv = .int .i64 i ∧ OwnL wr w.heap.size ov Ls ∧ Hid (CopiesIn wr Ls) ∧ Hid (RowsTo E Ls i 0) ∧ Below w.heap.size w wr) (fun _ iv _ => E.length - (intOf iv).toNat)
  case atStart => exact ⟨0, [], Nat.zero_le _, rfl, OwnL.nil _ _, hid0 (fun e he => absurd he (by simp)), hid0 ⟨[], by simp [rowsB], fun h => absurd h (by omega)⟩, Below.refl _ _⟩
  case round =>
    obtain ⟨i, Ls, hi, rfl, hown, hR, hT, hB⟩ := hrel
    have hsz := hB.size
    by_cases hlt : i < E.length
    · have hne : E ≠ [] := by intro e; rw [e] at hlt; exact absurd hlt (by simp)
      obtain ⟨b1, o1, rfl, hc⟩ := (A.out.1.later hB) hne
      obtain ⟨q0, q1⟩ := hc i hlt
      clear hc
      have hr := hid0 (A.out.2 _ (List.getElem_mem hlt))
      have hnn := HN.out _ (List.getElem_mem hlt)
      go_wp2_with fail
      have hblkA := BlkAt.new wr #[.slice E[i].a E[i].r.length E[i].c, .int .i64 E[i].n] 36
      have hownA := hown.alloc (Obj.cells #[.slice E[i].a E[i].r.length E[i].c, .int .i64 E[i].n] 36)
      have hRA := hid0 (hR.out.later ((Below.refl wr.heap.size wr).alloc (Nat.le_refl _) (Obj.cells #[.slice E[i].a E[i].r.length E[i].c, .int .i64 E[i].n] 36)))
      have hBA := Below.alloc hB hsz (Obj.cells #[.slice E[i].a E[i].r.length E[i].c, .int .i64 E[i].n] 36)
      clear hown hR hB q0 q1
      generalize wr.alloc (Obj.cells #[.slice E[i].a E[i].r.length E[i].c, .int .i64 E[i].n] 36) = W at hblkA hownA hRA hBA ⊢
      generalize wr.heap.size = B at hblkA hsz ⊢
      have hcA := hblkA.two
      obtain ⟨p0, p1⟩ := hcA
      go_wp2_with fail
      go_loopw [3, 14] (fun ov kv w2 => ∃ (k : Nat) (L2 : List Line), ((k : Int) ≤ E[i].n ∨ k = 0) ∧ kv = .int .i64 k ∧ OwnL w2 w.heap.size ov L2 ∧ BlkAt w2 B #[.slice E[i].a E[i].r.length E[i].c, .int .i64 E[i].n] 36 ∧ Hid (CopiesIn w2 L2) ∧ Hid (RowsTo E L2 i k) ∧ Below w.heap.size w w2) (fun _ kv _ => (E[i].n - intOf kv).toNat)
      case atStart => exact ⟨0, Ls, .inr rfl, rfl, hownA, hblkA, hRA, hT, hBA⟩
      case round =>
        obtain ⟨k, L2, hk, rfl, hown2, hblk2, hR2, hT2, hB2⟩ := hrel
        have hz2 := hB2.size
        clear hownA hblkA hRA hBA p0 p1
        obtain ⟨p0, p1⟩ := hblk2.two
        by_cases hkn : (k : Int) < E[i].n
        · have hfew := rowsTo_few hT2.out hlt hkn
          go_wp2_with (first
            | (go_at_call 16; go_must (refine (clone_any _ _ _ _ (hr.out.1.later hB2) hr.out.2).mono ?_; rintro e wn ⟨⟨a', c', rfl, hrow, hblk⟩, hbn⟩; have HCP := hid0 (Copied.mk hrow hblk); have hown3 := hown2.kept hbn; have ho3 := fun o => hown3.alloc o; have hB3 := below_through hbn hz2 hB2; have hz3 := hB3.size; clear hrow hblk))
            | (at_builtin; go_must (refine wp_line1 rfl _ _ rfl rfl (ho3 _) ⟨a', c', E[i].r⟩ wn.heap.size rfl (line_new _ _ _) ?hl ?hb ?_)))
          case hl => omega
          case hb => simp; omega
          intro v1 w1 hown4 hK1
          have hB4 := (Below.alloc hB3 hz3 _).trans hK1.below
          have hblk4 := ((hblk2.later hbn).later ((Below.refl _ _).alloc (Nat.le_refl _) _)).keptT (by decide) hK1
          have HR4 := hid0 (copies_snoc (e := ⟨a', c', E[i].r⟩) (((hR2.out.later hbn).later ((Below.refl _ _).alloc (Nat.le_refl _) _)).keptT hK1) ⟨(HCP.out.later ((Below.refl _ _).alloc (Nat.le_refl _) _)).keptT hK1, hr.out.2⟩)
          clear hown2 hown3 ho3 hK1 hbn hblk2 p0 p1
          go_wp2
          exact ⟨⟨k + 1, L2 ++ [⟨a', c', E[i].r⟩], .inl (by omega), by go_num, hown4, hblk4, HR4, hid0 (rowsTo_next hT2.out hlt a' c'), hB4⟩, by simp [intOf]; omega⟩
        · go_wp2
          exact ⟨⟨i + 1, L2, by omega, by go_num, hown2, hR2, hid0 (rowsTo_turn hT2.out hlt hk hkn), hB2⟩, by simp [intOf]; omega⟩
    · obtain ⟨a', c', rfl, hcap, _, hcl⟩ := lines_owned hown.out
      have HC := hid0 hcl
      clear hown hcl
      have hie : ¬ (i : Int) < E.length := by omega
      go_wp2
      go_ret
      exact ⟨⟨a', c', Ls, rfl, hcap, ⟨HC.out, fun e he => ⟨(hR.out e he).1.row, (hR.out e he).2⟩⟩, rowsTo_all hT.out hlt⟩, hB⟩
end Go.Proofs.Ytipibbjcdkmjmaa
