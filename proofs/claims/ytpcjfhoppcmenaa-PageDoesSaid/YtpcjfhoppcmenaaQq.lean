/- What the laws of layer 5 call of their own: a page in new memory; the document's example, whatever the memory. Conditions: the slots' cells are known, they are not too many. -/
import Derived.Test.YtpcjfhoppcmenaaQp
namespace Go.Proofs.Ytpcjfhoppcmenaa
open Go.RowKit

/-- A page whose slots' cells are known. (A structure: nothing parts it.) -/
structure PgAt (w : World) (a : Option Addr) (c : Nat) (p : Pg) : Prop where
  out : SlotsAt w a p
  cap : p.length ≤ c
  len : p.length * 24 ≤ 140737488351232
  small : slotsIn p
theorem PgAt.later {w w' : World} {a : Option Addr} {c : Nat} {p : Pg} (h : PgAt w a c p) (hb : Below w.heap.size w w') : PgAt w' a c p := ⟨h.out.later hb, h.cap, h.len, h.small⟩
theorem PgAt.drew {w : World} {a : Option Addr} {c : Nat} {p : Pg} (h : PgAt w a c p) : PgAt w.drew a c p := ⟨h.out, h.cap, h.len, h.small⟩
theorem PgAt.alloc {w : World} {a : Option Addr} {c : Nat} {p : Pg} (h : PgAt w a c p) (o : Obj) : PgAt (w.alloc o) a c p := h.later ((Below.refl _ _).alloc (Nat.le_refl _) _)
/-- The slots don't lie in block B. -/
def Far (a : Option Addr) (p : Pg) (B : Nat) : Prop := p ≠ [] → ∀ b off, a = some ⟨b, off, none⟩ → b ≠ B
theorem far_old {w : World} {a : Option Addr} {p : Pg} {B : Nat} (h : SlotsAt w a p) (hB : w.heap.size ≤ B) : Far a p B := fun hn b off e => by
  obtain ⟨b', off', e', hc⟩ := h hn
  rw [e] at e'
  obtain ⟨rfl, rfl⟩ : b = b' ∧ off = off' := by simpa using e'
  have h0 : 0 < p.length := by
    rcases Nat.eq_zero_or_pos p.length with h | h
    · exact absurd (List.length_eq_zero_iff.1 h) hn
    · exact h
  have := World.block_lt_of_cell? _ _ (hc 0 h0).1
  have : b < w.heap.size := this
  omega
theorem far_away {w : World} {a a' : Option Addr} {p q : Pg} {B : Nat} (h : Away w a p a' q) (hf : Far a p B) (hB : B < w.heap.size) : Far a' q B := fun hn b off e => by
  rcases h with ⟨rfl, rfl⟩ | h
  · exact hf hn b off e
  · have := h b off e; omega
theorem SlotsAt.setCell {w : World} {a : Option Addr} {p : Pg} (h : SlotsAt w a p) (B o : Nat) (u : Value) (hf : Far a p B) : SlotsAt (w.setCell ⟨B, o, none⟩ u) a p := fun hn => by
  obtain ⟨b, off, e, hc⟩ := h hn
  have hb := hf hn b off e
  refine ⟨b, off, e, fun i hi => ?_⟩
  rw [World.cell?_setCell_other _ _ _ _ (fun e => hb (by simpa using (congrArg Addr.block e).symm)), World.cell?_setCell_other _ _ _ _ (fun e => hb (by simpa using (congrArg Addr.block e).symm))]
  exact hc i hi
theorem PgAt.setCell {w : World} {a : Option Addr} {c : Nat} {p : Pg} (h : PgAt w a c p) (B o : Nat) (u : Value) (hf : Far a p B) : PgAt (w.setCell ⟨B, o, none⟩ u) a c p := ⟨h.out.setCell B o u hf, h.cap, h.len, h.small⟩
def fineP (p : Pg) : Prop := p.length * 24 ≤ 140737488351232 ∧ slotsIn p
theorem fine_len {p : Pg} (h : fineP p) : p.length ≤ maxLen := by have := h.1; unfold maxLen; omega
theorem right_fine {p : Pg} (h : RightP p) : fineP p := ⟨by have := h.len; omega, fun s hs => by have := (h.slots s hs).2; unfold maxLen; omega⟩
theorem put_fine {p : Pg} (h : fineP p) (d : List UInt8) : fineP (putP p d) := by
  unfold putP
  split
  · rename_i hf
    have hf := (fitsB_iff p _).1 hf
    exact right_fine (putR_right hf.1 hf)
  · exact h
theorem setP_right {p : Pg} {i : Int} {d : List UInt8} (h0 : getE p i = 0) (hr : roomB p i d = true) : RightP (p.set i.toNat (true, d)) := by
  rcases getE_cases p i with ⟨h, _⟩ | ⟨h, k, rfl, hk, hpk, _⟩
  · exact absurd h0 h
  · rw [Int.toNat_natCast]
    unfold roomB at hr
    rw [Bool.and_eq_true, decide_eq_true_eq, decide_eq_true_eq] at hr
    refine set_right ((rightB_iff p).1 h) hk hr.1 ?_
    rw [hpk]; exact hr.2
theorem set_fine {p : Pg} (h : fineP p) (i : Int) (d : List UInt8) : fineP (setP p i d) := by
  unfold setP
  split
  · rename_i hh; exact right_fine (setP_right hh.1 hh.2)
  · exact h
theorem trimP_mem : ∀ (p : Pg) (s : Slot), s ∈ trimP p → s ∈ p
  | [], s, h => h
  | t :: p, s, h => by
    unfold trimP at h
    split at h
    · split at h
      · rcases List.mem_singleton.1 h with rfl; simp
      · exact absurd h (by simp)
    · rename_i e
      rcases List.mem_cons.1 h with rfl | h
      · simp
      · exact List.mem_cons_of_mem _ (trimP_mem p s (by rw [e]; exact h))
theorem cut_fine {p : Pg} (h : fineP p) (i : Int) : fineP (cutP p i) := by
  unfold cutP
  split
  · unfold cutR
    refine ⟨?_, fun s hs => ?_⟩
    · have := trimP_le (p.set i.toNat noS)
      rw [List.length_set] at this
      have := h.1
      omega
    · rcases List.mem_or_eq_of_mem_set (trimP_mem _ _ hs) with h' | rfl
      · exact h.2 s h'
      · unfold maxLen noS; simp
  · exact h
theorem read_fine (s : List UInt8) : fineP (readQ s) := by
  unfold readQ
  cases h : readP s with
  | none => exact ⟨by simp, fun s hs => absurd hs (by simp)⟩
  | some p => exact right_fine (readP_bytes h).1

set_option maxHeartbeats 2000000 in
theorem copiedOwn_any (a : Option Addr) (c : Nat) (p : Pg) (w : World) (h : SlotsAt w a p) (hl : p.length * 24 ≤ 140737488351232) :
    Calls Try.prog 10 #[.agg #[.slice a p.length c]] w fun e w' => (∃ v, e = .returned (.agg #[v]) ∧ OwnS w' w.heap.size v p) ∧ Below w.heap.size w w' := by
  obtain ⟨i0, hi, hz0, hz1, hz2⟩ := info_parts info52
  have hown : ∀ o o', (((w.alloc o).alloc o').alloc (Obj.cells #[] 53)).ownsRow (w.heap.size + 2) 53 2 (.slice (some ⟨w.heap.size + 2, 0, none⟩) 0 0) 0 [] := fun o o' => by
    have h := World.ownsRow_made (base := w.heap.size + 2) (e := 53) (size := 2) ((w.alloc o).alloc o') #[] 0 (by simp) (by unfold maxLen; omega) rfl
    simpa using h
  have hB0 : ∀ o o', Below w.heap.size w (((w.alloc o).alloc o').alloc (Obj.cells #[] 53)) := fun o o' => (((Below.refl _ _).alloc (Nat.le_refl _) _).alloc (by simp) _).alloc (by simp; omega) _
  have fin : ∀ (W : World) (v : Value), OwnS W (w.heap.size + 2) v p → Below w.heap.size w W → (∃ v', Ending.returned (.agg #[v]) = .returned (.agg #[v']) ∧ OwnS (W.setCell ⟨w.heap.size + 1, 0, none⟩ v) w.heap.size v' p) ∧ Below w.heap.size w (W.setCell ⟨w.heap.size + 1, 0, none⟩ v) := fun W v ho hb =>
    ⟨⟨v, rfl, (ho.setCell (by show w.heap.size + 1 < w.heap.size + 2; omega) _).base (by omega)⟩, hb.setCell (by show w.heap.size ≤ w.heap.size + 1; omega) _⟩
  by_cases hne : p = []
  · subst hne
    cases a with
    | none =>
      have hap := fun W ty => run_append_none (P := Try.prog) W 22 ty 53 i0 Try.underlying22 hi (some ⟨w.heap.size + 2, 0, none⟩) 0 0 c (Nat.le_refl _)
      have hap' : ∀ W ty, (Builtin.append_ #[22, 22] ty #[.slice (some ⟨w.heap.size + 1 + 1, 0, none⟩) 0 0, .slice none 0 c]).run Try.prog W = .ok (.slice (some ⟨w.heap.size + 1 + 1, 0, none⟩) 0 0) W := hap
      have HO : ∀ o o', OwnS (((w.alloc o).alloc o').alloc (Obj.cells #[] 53)) (w.heap.size + 2) (.slice (some ⟨w.heap.size + 2, 0, none⟩) 0 0) [] := fun o o' => ⟨hown o o'⟩
      have hf := fun o o' v t => frozen_two w o o' v t
      clear hown
      go_enter Try.func10, Try.ntmps10
      go_wp2
      exact bodyPost_ret (v := .agg #[.slice (some ⟨w.heap.size + 1 + 1, 0, none⟩) 0 0]) (by simp [results, Try.results10, go_sem]) rfl ⟨⟨_, rfl, (HO _ _).base (by omega)⟩, hB0 _ _⟩
    | some ad =>
      go_enter Try.func10, Try.ntmps10
      go_wp2_with (at_builtin; go_must (refine wpList_append_own _ rfl _ _ 22 rfl (w.heap.size + 2) 53 i0 (.agg #[.bool false, .string ⟨#[]⟩]) 2 24 Try.underlying22 hi hz0 hz1 hz2 rfl (by decide) _ _ _ rfl (hown _ _) ad 0 c [] rfl rfl (fun j u h => by simp at h) (fun u h => by simp at h) ?c3 ?c4 ?c5 ?_))
      case c3 => unfold maxLen; omega
      case c4 => omega
      case c5 => simp
      intro v' w1 hown' hgrow _
      have hB1 : Below w.heap.size w w1 := (hB0 _ _).grown hgrow (by simp; omega) (fun k hk => by have := (hown (Obj.cells #[.slice (some ad) 0 c] 24) (Obj.cells #[.slice none 0 0] 24)).lt k hk; omega)
      have hc1 : w1.cell? ⟨w.heap.size + 1, 0, none⟩ = some (.slice none 0 0) := hgrow.cell (by go_cell) (by simp [Value.ownBlock])
      have hf1 : w1.frozen? ⟨w.heap.size + 1, 0, none⟩ = false := (World.frozen?_of_block (a := ⟨w.heap.size + 1, 0, none⟩) (hgrow.block (w.heap.size + 1) (by simp) (by simp [Value.ownBlock]))).trans (frozen_two _ _ _ _ _)
      have HO : OwnS w1 (w.heap.size + 2) v' [] := ⟨by simpa [slotCells] using hown'⟩
      clear hown' hgrow hown
      obtain ⟨a', c', rfl, _, _, _⟩ := slots_owned HO
      go_wp2
      exact bodyPost_ret (v := .agg #[.slice a' 0 c']) (by simp [results, Try.results10, go_sem, hc1]) rfl (fin _ _ HO hB1)
  · obtain ⟨b, off, rfl, hc⟩ := h hne
    have h' := fun W (hb : Below w.heap.size w W) => slotCells_of (SlotsAt.later (fun _ => ⟨b, off, rfl, hc⟩ : SlotsAt w (some ⟨b, off, none⟩) p) hb)
    clear hc h
    go_enter Try.func10, Try.ntmps10
    go_wp2_with (at_builtin; go_loud (refine wpList_append_own _ rfl _ _ 22 rfl (w.heap.size + 2) 53 i0 (.agg #[.bool false, .string ⟨#[]⟩]) 2 24 Try.underlying22 hi hz0 hz1 hz2 rfl (by decide) _ _ _ rfl (hown _ _) ⟨b, off, none⟩ p.length c (slotCells p) rfl (slotCells_len p) (h' _ (hB0 _ _)) (slotCells_one p) ?c3 ?c4 ?c5 ?_))
    case c3 => unfold maxLen; omega
    case c4 => omega
    case c5 => simp
    intro v' w1 hown' hgrow _
    have hB1 : Below w.heap.size w w1 := (hB0 _ _).grown hgrow (by simp; omega) (fun k hk => by have := (hown (Obj.cells #[.slice (some ⟨b, off, none⟩) p.length c] 24) (Obj.cells #[.slice none 0 0] 24)).lt k hk; omega)
    have hc1 : w1.cell? ⟨w.heap.size + 1, 0, none⟩ = some (.slice none 0 0) := hgrow.cell (by go_cell) (by simp [Value.ownBlock])
    have hf1 : w1.frozen? ⟨w.heap.size + 1, 0, none⟩ = false := (World.frozen?_of_block (a := ⟨w.heap.size + 1, 0, none⟩) (hgrow.block (w.heap.size + 1) (by simp) (by simp [Value.ownBlock]))).trans (frozen_two _ _ _ _ _)
    have HO : OwnS w1 (w.heap.size + 2) v' p := ⟨by simpa using hown'⟩
    clear hown' hgrow hown
    obtain ⟨a', c', rfl, _, _, _⟩ := slots_owned HO
    go_wp2
    exact bodyPost_ret (v := .agg #[.slice a' p.length c']) (by simp [results, Try.results10, go_sem, hc1]) rfl (fin _ _ HO hB1)
theorem copied_any (a : Option Addr) (c : Nat) (p : Pg) (w : World) (h : SlotsAt w a p) (hl : p.length * 24 ≤ 140737488351232) :
    Calls Try.prog 10 #[.agg #[.slice a p.length c]] w fun e w' => (∃ a' c', e = .returned (.agg #[.slice a' p.length c']) ∧ p.length ≤ c' ∧ SlotsAt w' a' p) ∧ Below w.heap.size w w' := by
  refine (copiedOwn_any a c p w h hl).mono ?_
  rintro e w' ⟨⟨v, rfl, hown⟩, hb⟩
  obtain ⟨a', c', rfl, h1, _, h2⟩ := slots_owned hown
  exact ⟨⟨a', c', rfl, h1, h2⟩, hb⟩

theorem ex1 : putP [] [97, 98] = [(true, [97, 98])] ∧ putI [] [97, 98] = 0 ∧ putE [] [97, 98] = 0 := by decide +kernel
theorem ex2 : putP [(true, [97, 98])] [99] = [(true, [97, 98]), (true, [99])] ∧ putI [(true, [97, 98])] [99] = 1 ∧ putE [(true, [97, 98])] [99] = 0 := by decide +kernel
theorem ex3 : cutP [(true, [97, 98]), (true, [99])] 0 = [noS, (true, [99])] ∧ getE [(true, [97, 98]), (true, [99])] 0 = 0 := by decide +kernel
theorem ex4 : bytE [noS, (true, [99])] = 0 ∧ (bytD [noS, (true, [99])]).length = 1024 ∧ (bytD [noS, (true, [99])]).take 10 = [0, 2, 0, 0, 0, 0, 3, 255, 0, 1] := by decide +kernel
theorem ex5 : sizeW [(true, [97, 98]), (true, [99])] = 15 := by decide +kernel
set_option maxHeartbeats 4000000 in
theorem awake_any (w : World) : Calls Try.prog 15 #[] w fun e w' => e = .returned (.bool true) ∧ Below w.heap.size w w' := by
  have sm0 : slotsIn [] := fun s hs => absurd hs (by simp)
  have sm1 : slotsIn [(true, [97, 98])] := fun s hs => by obtain rfl := List.mem_singleton.1 hs; unfold maxLen; simp
  have sm2 : slotsIn [(true, [97, 98]), (true, [99])] := fun s hs => by
    rcases List.mem_cons.1 hs with rfl | hs
    · unfold maxLen; simp
    · obtain rfl := List.mem_singleton.1 hs; unfold maxLen; simp
  have sm3 : slotsIn [noS, (true, [99])] := fun s hs => by
    rcases List.mem_cons.1 hs with rfl | hs
    · unfold maxLen noS; simp
    · obtain rfl := List.mem_singleton.1 hs; unfold maxLen; simp
  have C1 : Calls Try.prog 11 #[.agg #[.slice none 0 0], .string ⟨#[97, 98]⟩] w fun e w' => (∃ a c, e = .returned (.tuple #[.agg #[.slice a 1 c], .int .i64 0, .int .i64 0]) ∧ 1 ≤ c ∧ SlotsAt w' a [(true, [97, 98])]) ∧ Below w.heap.size w w' := by
    refine Calls.mono (pgPut_any none 0 [] [97, 98] w (fun h => absurd rfl h) (Nat.le_refl _) (by simp) sm0 (by unfold maxLen; simp)) ?_
    rintro e w' ⟨⟨a, c, q, rfl, h1, h2, rfl, _⟩, hb⟩
    obtain ⟨e1, e2, e3⟩ := ex1
    rw [e1] at h1 h2 ⊢
    rw [e2, e3]
    exact ⟨⟨a, c, rfl, h1, h2⟩, hb⟩
  have C2 : ∀ a0 c W, 1 ≤ c → SlotsAt W a0 [(true, [97, 98])] → Calls Try.prog 11 #[.agg #[.slice a0 1 c], .string ⟨#[99]⟩] W fun e w' => (∃ a c, e = .returned (.tuple #[.agg #[.slice a 2 c], .int .i64 1, .int .i64 0]) ∧ 2 ≤ c ∧ SlotsAt w' a [(true, [97, 98]), (true, [99])] ∧ Away W a0 [(true, [97, 98])] a [(true, [97, 98]), (true, [99])]) ∧ Below W.heap.size W w' := fun a c W hc hS => by
    refine Calls.mono (pgPut_any a c [(true, [97, 98])] [99] W hS hc (by simp) sm1 (by unfold maxLen; simp)) ?_
    rintro e w' ⟨⟨a, c, q, rfl, h1, h2, rfl, h3⟩, hb⟩
    obtain ⟨e1, e2, e3⟩ := ex2
    rw [e1] at h1 h2 h3 ⊢
    rw [e2, e3]
    exact ⟨⟨a, c, rfl, h1, h2, h3⟩, hb⟩
  have C3 : ∀ a c W, 2 ≤ c → SlotsAt W a [(true, [97, 98]), (true, [99])] → Calls Try.prog 17 #[.agg #[.slice a 2 c], .int .i64 0] W fun e w' => (∃ a c, e = .returned (.tuple #[.agg #[.slice a 2 c], .int .i64 0]) ∧ 2 ≤ c ∧ SlotsAt w' a [noS, (true, [99])]) ∧ Below W.heap.size W w' := fun a c W hc hS => by
    refine Calls.mono (pgCut_any a c [(true, [97, 98]), (true, [99])] 0 W hS hc (by simp) sm2 (by omega) (by omega)) ?_
    rintro e w' ⟨⟨a, c, q, rfl, h1, h2, rfl, _⟩, hb⟩
    obtain ⟨e1, e2⟩ := ex3
    rw [e1] at h1 h2 ⊢
    rw [e2]
    exact ⟨⟨a, c, rfl, h1, h2⟩, hb⟩
  obtain ⟨X, hX⟩ : ∃ X, bytD [noS, (true, [99])] = X := ⟨_, rfl⟩
  obtain ⟨x1, x2, x3⟩ := ex4
  rw [hX] at x2 x3
  have C4 : ∀ a c W, 2 ≤ c → SlotsAt W a [noS, (true, [99])] → Calls Try.prog 27 #[.agg #[.slice a 2 c]] W fun e w' => e = .returned (.tuple #[.string (txt X), .int .i64 0]) ∧ Below W.heap.size W w' := fun a c W hc hS => by
    have h := pgBytes_any a c [noS, (true, [99])] W hS hc (by simp) sm3
    rwa [x1, hX] at h
  have C5 : ∀ a c W, SlotsAt W a [(true, [97, 98]), (true, [99])] → Calls Try.prog 21 #[.agg #[.slice a 2 c]] W fun e w' => e = .returned (.int .i64 15) ∧ Below W.heap.size W w' := fun a c W hS => by
    have h := pgSize_any a c [(true, [97, 98]), (true, [99])] W hS (by simp) sm2
    rwa [ex5] at h
  have hcut : ∀ W : World, (Instr.slice 9 (.string (txt X)) none (some (.int .i64 10)) none).run Try.prog W = .ok (.string (txt [0, 2, 0, 0, 0, 0, 3, 255, 0, 1])) W := fun W => by
    rw [run_slice_string_h W 9 (txt X) Try.underlying9 .i64 10 (by omega) (by rw [txt_size, x2]; omega), txt_cut]
    rw [← x3]; rfl
  have hz : (txt X).size = 1024 := by rw [txt_size, x2]
  have he1 : (txt [0, 2, 0, 0, 0, 0, 3, 255, 0, 1]).toList = [0, 2, 0, 0, 0, 0, 3, 255, 0, 1] := txt_toList _
  have he2 : (ByteArray.mk #[0, 2, 0, 0, 0, 0, 3, 255, 0, 1]).toList = [0, 2, 0, 0, 0, 0, 3, 255, 0, 1] := txt_toList [0, 2, 0, 0, 0, 0, 3, 255, 0, 1]
  clear x1 x2 x3 hX sm0 sm1 sm2 sm3
  go_enter Try.func15, Try.ntmps15
  go_wp2_with fail
  refine C1.mono ?_
  rintro e w1 ⟨⟨a1, c1, rfl, hc1, hq1⟩, hb1⟩
  have H1 := hid0 hq1
  have hz1 := hb1.size
  clear C1
  have F1 := far_old hq1 (Nat.le_refl _)
  clear hq1
  have v1 := VarAt.new w1 (.slice a1 1 c1) 24
  have hB1 := hb1.alloc hz1 (Obj.cells #[.slice a1 1 c1] 24)
  go_wp2_with fail
  refine (C2 a1 c1 _ hc1 (H1.out.later ((Below.refl _ _).alloc (Nat.le_refl _) _))).mono ?_
  rintro e w2 ⟨⟨a2, c2, rfl, hc2, hq2, hA2⟩, hb2⟩
  have F2 := far_away hA2 F1 (by simp)
  have v2 := v1.later hb2
  have hB2 := below_through hb2 hB1.size hB1
  have H2 := hid0 hq2
  obtain ⟨q2, f2⟩ := v2
  clear hq2 C2 v1 hB1 hb1 hb2 H1 hA2 F1
  have v3 := (VarAt.mk q2 f2).set (.slice a2 2 c2)
  have hB3 := hB2.setCell (p := ⟨w1.heap.size, 0, none⟩) (by show w.heap.size ≤ w1.heap.size; omega) (.slice a2 2 c2)
  have H3 := hid0 (H2.out.setCell w1.heap.size 0 (.slice a2 2 c2) F2)
  go_wp2_with fail
  refine (C3 a2 c2 _ hc2 H3.out).mono ?_
  rintro e w4 ⟨⟨a3, c3, rfl, hc3, hq3⟩, hb4⟩
  have v4 := v3.later hb4
  have hB4 := below_through hb4 hB3.size hB3
  have H4 := hid0 (H3.out.later hb4)
  have H5 := hid0 hq3
  have hz4 := hB4.size
  clear hq3 C3 v3 hB3 hb4 H3 H2 q2 f2 F2 hB2
  have v5 := v4.alloc (Obj.cells #[.slice a3 2 c3] 24)
  have u5 := VarAt.new w4 (.slice a3 2 c3) 24
  have hB5 := hB4.alloc hz4 (Obj.cells #[.slice a3 2 c3] 24)
  have H6 := hid0 (H5.out.later ((Below.refl _ _).alloc (Nat.le_refl _) (Obj.cells #[.slice a3 2 c3] 24)))
  have H7 := hid0 (H4.out.later ((Below.refl _ _).alloc (Nat.le_refl _) (Obj.cells #[.slice a3 2 c3] 24)))
  clear v4 hB4 H4 H5
  obtain ⟨u6, _⟩ := u5
  go_wp2_with fail
  refine (C4 a3 c3 _ hc3 H6.out).mono ?_
  rintro e w6 ⟨rfl, hb6⟩
  have v6 := v5.later hb6
  have hB6 := below_through hb6 hB5.size hB5
  have H8 := hid0 (H7.out.later hb6)
  have u7 := cell_later hb6 u6
  obtain ⟨q6, _⟩ := v6
  clear C4 v5 hB5 H6 H7 hb6 u6
  go_wp2_with fail
  refine (C5 a2 c2 _ H8.out).mono ?_
  rintro e w7 ⟨rfl, hb7⟩
  have hB7 := below_through hb7 hB6.size hB6
  clear C5 hB6 H8 hb7
  go_wp2
  go_ret
  exact ⟨rfl, hB7⟩
end Go.Proofs.Ytpcjfhoppcmenaa
