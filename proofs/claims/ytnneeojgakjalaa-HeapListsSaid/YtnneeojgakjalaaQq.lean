/- What the laws of layer 5 call of their own: a page in new memory; the document's example, whatever the memory. Conditions: the slots' cells are known, they are not too many. -/
import Derived.Test.YtnneeojgakjalaaQp
namespace Go.Proofs.Ytnneeojgakjalaa
open Go.RowKit

/-- A page whose slots' cells are known. (A structure: nothing parts it.) -/
structure PgAt (w : World) (a : Option Addr) (c : Nat) (p : Pg) : Prop where
  out : SlotsAt w a p
  cap : p.length ≤ c
  len : p.length * 24 ≤ 140737488351232
  small : slotsIn p
theorem PgAt.later {w w' : World} {a : Option Addr} {c : Nat} {p : Pg} (h : PgAt w a c p) (hb : Below w.heap.size w w') : PgAt w' a c p := ⟨h.out.later hb, h.cap, h.len, h.small⟩
theorem PgAt.drew {w : World} {a : Option Addr} {c : Nat} {p : Pg} (h : PgAt w a c p) : PgAt w.drew a c p := ⟨h.out, h.cap, h.len, h.small⟩
theorem PgAt.alloc {w : World} {a : Option Addr} {c : Nat} {p : Pg} (h : PgAt w a c p) (o : Obj) : PgAt (w.alloc o) a c p := h.later ((Below.refl _ _).alloc (Nat.le_refl _) _)
/-- The slots don't lie in block B. -/
def Far (a : Option Addr) (p : Pg) (B : Nat) : Prop := p ≠ [] → ∀ b off, a = some ⟨b, off, none⟩ → b ≠ B
theorem far_old {w : World} {a : Option Addr} {p : Pg} {B : Nat} (h : SlotsAt w a p) (hB : w.heap.size ≤ B) : Far a p B := fun hn b off e => by
  obtain ⟨b', off', e', hc⟩ := h hn
  rw [e] at e'
  obtain ⟨rfl, rfl⟩ : b = b' ∧ off = off' := by simpa using e'
  have h0 : 0 < p.length := by
    rcases Nat.eq_zero_or_pos p.length with h | h
    · exact absurd (List.length_eq_zero_iff.1 h) hn
    · exact h
  have := World.block_lt_of_cell? _ _ (hc 0 h0).1
  have : b < w.heap.size := this
  omega
theorem far_away {w : World} {a a' : Option Addr} {p q : Pg} {B : Nat} (h : Away w a p a' q) (hf : Far a p B) (hB : B < w.heap.size) : Far a' q B := fun hn b off e => by
  rcases h with ⟨rfl, rfl⟩ | h
  · exact hf hn b off e
  · have := h b off e; omega
theorem SlotsAt.setCell {w : World} {a : Option Addr} {p : Pg} (h : SlotsAt w a p) (B o : Nat) (u : Value) (hf : Far a p B) : SlotsAt (w.setCell ⟨B, o, none⟩ u) a p := fun hn => by
  obtain ⟨b, off, e, hc⟩ := h hn
  have hb := hf hn b off e
  refine ⟨b, off, e, fun i hi => ?_⟩
  rw [World.cell?_setCell_other _ _ _ _ (fun e => hb (by simpa using (congrArg Addr.block e).symm)), World.cell?_setCell_other _ _ _ _ (fun e => hb (by simpa using (congrArg Addr.block e).symm))]
  exact hc i hi
theorem PgAt.setCell {w : World} {a : Option Addr} {c : Nat} {p : Pg} (h : PgAt w a c p) (B o : Nat) (u : Value) (hf : Far a p B) : PgAt (w.setCell ⟨B, o, none⟩ u) a c p := ⟨h.out.setCell B o u hf, h.cap, h.len, h.small⟩
def fineP (p : Pg) : Prop := p.length * 24 ≤ 140737488351232 ∧ slotsIn p
theorem fine_len {p : Pg} (h : fineP p) : p.length ≤ maxLen := by have := h.1; unfold maxLen; omega
theorem right_fine {p : Pg} (h : RightP p) : fineP p := ⟨by have := h.len; omega, fun s hs => by have := (h.slots s hs).2; unfold maxLen; omega⟩
theorem put_fine {p : Pg} (h : fineP p) (d : List UInt8) : fineP (putP p d) := by
  unfold putP
  split
  · rename_i hf
    have hf := (fitsB_iff p _).1 hf
    exact right_fine (putR_right hf.1 hf)
  · exact h
theorem setP_right {p : Pg} {i : Int} {d : List UInt8} (h0 : getE p i = 0) (hr : roomB p i d = true) : RightP (p.set i.toNat (true, d)) := by
  rcases getE_cases p i with ⟨h, _⟩ | ⟨h, k, rfl, hk, hpk, _⟩
  · exact absurd h0 h
  · rw [Int.toNat_natCast]
    unfold roomB at hr
    rw [Bool.and_eq_true, decide_eq_true_eq, decide_eq_true_eq] at hr
    refine set_right ((rightB_iff p).1 h) hk hr.1 ?_
    rw [hpk]; exact hr.2
theorem set_fine {p : Pg} (h : fineP p) (i : Int) (d : List UInt8) : fineP (setP p i d) := by
  unfold setP
  split
  · rename_i hh; exact right_fine (setP_right hh.1 hh.2)
  · exact h
theorem trimP_mem : ∀ (p : Pg) (s : Slot), s ∈ trimP p → s ∈ p
  | [], s, h => h
  | t :: p, s, h => by
    unfold trimP at h
    split at h
    · split at h
      · rcases List.mem_singleton.1 h with rfl; simp
      · exact absurd h (by simp)
    · rename_i e
      rcases List.mem_cons.1 h with rfl | h
      · simp
      · exact List.mem_cons_of_mem _ (trimP_mem p s (by rw [e]; exact h))
theorem cut_fine {p : Pg} (h : fineP p) (i : Int) : fineP (cutP p i) := by
  unfold cutP
  split
  · unfold cutR
    refine ⟨?_, fun s hs => ?_⟩
    · have := trimP_le (p.set i.toNat noS)
      rw [List.length_set] at this
      have := h.1
      omega
    · rcases List.mem_or_eq_of_mem_set (trimP_mem _ _ hs) with h' | rfl
      · exact h.2 s h'
      · unfold maxLen noS; simp
  · exact h
theorem read_fine (s : List UInt8) : fineP (readQ s) := by
  unfold readQ
  cases h : readP s with
  | none => exact ⟨by simp, fun s hs => absurd hs (by simp)⟩
  | some p => exact right_fine (readP_bytes h).1

theorem ex1 : putP [] [97, 98] = [(true, [97, 98])] ∧ putI [] [97, 98] = 0 ∧ putE [] [97, 98] = 0 := by decide +kernel
theorem ex2 : putP [(true, [97, 98])] [99] = [(true, [97, 98]), (true, [99])] ∧ putI [(true, [97, 98])] [99] = 1 ∧ putE [(true, [97, 98])] [99] = 0 := by decide +kernel
theorem ex3 : cutP [(true, [97, 98]), (true, [99])] 0 = [noS, (true, [99])] ∧ getE [(true, [97, 98]), (true, [99])] 0 = 0 := by decide +kernel
theorem ex4 : bytE [noS, (true, [99])] = 0 ∧ (bytD [noS, (true, [99])]).length = 1024 ∧ (bytD [noS, (true, [99])]).take 10 = [0, 2, 0, 0, 0, 0, 3, 255, 0, 1] := by decide +kernel
theorem ex5 : sizeW [(true, [97, 98]), (true, [99])] = 15 := by decide +kernel
end Go.Proofs.Ytnneeojgakjalaa
