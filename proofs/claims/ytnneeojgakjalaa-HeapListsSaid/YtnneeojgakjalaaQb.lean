/- A page's bytes, plainly; it is read from them. Nothing of any program here. Conditions: each lemma names its own. -/
import Derived.Test.YtnneeojgakjalaaQa
namespace Go.Proofs.Ytnneeojgakjalaa
open Go.RowKit

def rightB (p : Pg) : Bool := decide (p.length ≤ 256) && p.all (fun s => (s.1 || s.2.isEmpty) && decide (s.2.length ≤ 1024)) && decide (sizeP p ≤ 1024) && lastUsed p
theorem rightB_iff (p : Pg) : rightB p = true ↔ RightP p := by
  unfold rightB
  simp only [Bool.and_eq_true, decide_eq_true_eq, List.all_eq_true, Bool.or_eq_true, List.isEmpty_iff]
  constructor
  · rintro ⟨⟨⟨h1, h2⟩, h3⟩, h4⟩
    exact ⟨h1, fun s hs => ⟨fun e => by rcases (h2 s hs).1 with h | h; rw [e] at h; cases h; exact h, (h2 s hs).2⟩, h3, h4⟩
  · rintro ⟨h1, h2, h3, h4⟩
    exact ⟨⟨⟨h1, fun s hs => ⟨by cases e : s.1; exact .inr ((h2 s hs).1 e); exact .inl rfl, (h2 s hs).2⟩⟩, h3⟩, h4⟩

def twoB (n : Nat) : List UInt8 := [UInt8.ofNat (n / 256), UInt8.ofNat (n % 256)]
def dataP : Pg → List UInt8
  | [] => []
  | s :: p => dataP p ++ s.2
def headsP : Nat → Pg → List UInt8
  | _, [] => []
  | acc, s :: p => twoB (if s.1 then 1024 - (acc + s.2.length) else 0) ++ twoB s.2.length ++ headsP (acc + s.2.length) p
def bytesP (p : Pg) : List UInt8 := twoB p.length ++ headsP 0 p ++ List.replicate (1024 - (2 + 4 * p.length + (dataP p).length)) 0 ++ dataP p

theorem dataP_append : ∀ A B : Pg, dataP (A ++ B) = dataP B ++ dataP A
  | [], B => by simp [dataP]
  | s :: A, B => by rw [List.cons_append, dataP, dataP_append A B, dataP, List.append_assoc]
theorem sizeP_data : ∀ p : Pg, sizeP p = 4 + 4 * p.length + (dataP p).length
  | [] => rfl
  | s :: p => by
    have := sizeP_data p
    rw [sizeP, dataP, List.length_append, List.length_cons]; omega
theorem headsP_len : ∀ (p : Pg) (acc : Nat), (headsP acc p).length = 4 * p.length
  | [], _ => rfl
  | s :: p, acc => by
    have := headsP_len p (acc + s.2.length)
    rw [headsP, List.length_append, List.length_append, this, List.length_cons]
    simp [twoB]; omega
theorem bytesP_len {p : Pg} (h : sizeP p ≤ 1024) : (bytesP p).length = 1024 := by
  have := sizeP_data p
  unfold bytesP
  rw [List.length_append, List.length_append, List.length_append, headsP_len, List.length_replicate]
  simp [twoB]; omega

/-! ### Reading -/
def numAt (s : List UInt8) (i : Nat) : Nat := 256 * (s.getD i 0).toNat + (s.getD (i + 1) 0).toNat
def slotD (s : List UInt8) (i : Nat) : Option Slot :=
  if 1024 < numAt s (2 + 4 * i) ∨ 1024 - numAt s (2 + 4 * i) < numAt s (4 + 4 * i) then none
  else some (if 0 < numAt s (2 + 4 * i) then (true, (s.drop (numAt s (2 + 4 * i))).take (numAt s (4 + 4 * i))) else noS)
def slotsD (s : List UInt8) : Nat → Nat → Option Pg
  | _, 0 => some []
  | i, k + 1 => match slotD s i with
    | none => none
    | some t => (slotsD s (i + 1) k).map (t :: ·)
def readP (s : List UInt8) : Option Pg :=
  if s.length ≠ 1024 then none
  else if 1024 < 2 + 4 * numAt s 0 then none
  else match slotsD s 0 (numAt s 0) with
    | none => none
    | some p => if rightB p = true ∧ bytesP p = s then some p else none
theorem readP_bytes {s : List UInt8} {p : Pg} (h : readP s = some p) : RightP p ∧ bytesP p = s := by
  unfold readP at h
  split at h
  · cases h
  split at h
  · cases h
  split at h
  · cases h
  · split at h
    · rename_i hh
      obtain rfl := Option.some.inj h
      exact ⟨(rightB_iff _).1 hh.1, hh.2⟩
    · cases h

theorem numAt_two (n : Nat) (h : n < 65536) (A r : List UInt8) : numAt (A ++ (twoB n ++ r)) A.length = n := by
  have e0 : (A ++ (twoB n ++ r)).getD A.length 0 = UInt8.ofNat (n / 256) := by simp [List.getD, twoB]
  have e1 : (A ++ (twoB n ++ r)).getD (A.length + 1) 0 = UInt8.ofNat (n % 256) := by
    rw [List.getD, List.getElem?_append_right (by omega)]
    simp [twoB]
  unfold numAt
  rw [e0, e1, u8_ofNat, u8_ofNat]; omega
theorem headsP_split : ∀ (A B : Pg) (acc : Nat), headsP acc (A ++ B) = headsP acc A ++ headsP (acc + (dataP A).length) B
  | [], B, acc => by simp [headsP, dataP]
  | s :: A, B, acc => by
    rw [List.cons_append, headsP, headsP_split A B, headsP, dataP, List.length_append]
    rw [show acc + s.2.length + (dataP A).length = acc + ((dataP A).length + s.2.length) by omega]
    simp [List.append_assoc]
theorem slot_back {p : Pg} (h : RightP p) {i : Nat} (hi : i < p.length) : slotD (bytesP p) i = some p[i] := by
  have hsz := h.size
  have hdl := sizeP_data p
  have hs := h.slots _ (List.getElem_mem hi)
  obtain ⟨s, hsi⟩ : ∃ s, p[i] = s := ⟨_, rfl⟩
  rw [hsi] at hs ⊢
  have hp : p = p.take i ++ s :: p.drop (i + 1) := by
    rw [← hsi, ← List.drop_eq_getElem_cons hi, List.take_append_drop]
  have hd : dataP p = dataP (p.drop (i + 1)) ++ s.2 ++ dataP (p.take i) := by
    conv => lhs; rw [hp]
    rw [dataP_append, dataP]
  have hh : headsP 0 p = headsP 0 (p.take i) ++ (twoB (if s.1 then 1024 - ((dataP (p.take i)).length + s.2.length) else 0) ++ (twoB s.2.length ++ headsP ((dataP (p.take i)).length + s.2.length) (p.drop (i + 1)))) := by
    conv => lhs; rw [hp]
    rw [headsP_split, headsP]
    simp [List.append_assoc]
  have hdle : (dataP p).length = (dataP (p.drop (i + 1))).length + s.2.length + (dataP (p.take i)).length := by rw [hd]; simp [Nat.add_assoc]
  obtain ⟨a, ha⟩ : ∃ a, (if s.1 then 1024 - ((dataP (p.take i)).length + s.2.length) else 0) = a := ⟨_, rfl⟩
  rw [ha] at hh
  have ha1 : a ≤ 1024 := by rw [← ha]; split <;> omega
  have hl1 : (twoB p.length ++ headsP 0 (p.take i)).length = 2 + 4 * i := by
    rw [List.length_append, headsP_len, List.length_take]; simp [twoB]; omega
  have hl2 : (twoB p.length ++ headsP 0 (p.take i) ++ twoB a).length = 4 + 4 * i := by rw [List.length_append, hl1]; simp [twoB]; omega
  have e1 : bytesP p = (twoB p.length ++ headsP 0 (p.take i)) ++ (twoB a ++ (twoB s.2.length ++ (headsP ((dataP (p.take i)).length + s.2.length) (p.drop (i + 1)) ++ (List.replicate (1024 - (2 + 4 * p.length + (dataP p).length)) 0 ++ dataP p)))) := by
    unfold bytesP; rw [hh]; simp [List.append_assoc]
  have e2 : bytesP p = (twoB p.length ++ headsP 0 (p.take i) ++ twoB a) ++ (twoB s.2.length ++ (headsP ((dataP (p.take i)).length + s.2.length) (p.drop (i + 1)) ++ (List.replicate (1024 - (2 + 4 * p.length + (dataP p).length)) 0 ++ dataP p))) := by
    rw [e1]; simp [List.append_assoc]
  have n1 : numAt (bytesP p) (2 + 4 * i) = a := by
    have := numAt_two a (by omega) (twoB p.length ++ headsP 0 (p.take i)) (twoB s.2.length ++ (headsP ((dataP (p.take i)).length + s.2.length) (p.drop (i + 1)) ++ (List.replicate (1024 - (2 + 4 * p.length + (dataP p).length)) 0 ++ dataP p)))
    rwa [← e1, hl1] at this
  have n2 : numAt (bytesP p) (4 + 4 * i) = s.2.length := by
    have := numAt_two s.2.length (by omega) (twoB p.length ++ headsP 0 (p.take i) ++ twoB a) (headsP ((dataP (p.take i)).length + s.2.length) (p.drop (i + 1)) ++ (List.replicate (1024 - (2 + 4 * p.length + (dataP p).length)) 0 ++ dataP p))
    rwa [← e2, hl2] at this
  unfold slotD
  rw [n1, n2]
  cases hu : s.1 with
  | false =>
    rw [hu] at ha
    have ha0 : a = 0 := by simpa using ha.symm
    have hs2 := hs.1 hu
    rw [ha0, hs2, if_neg (by simp), if_neg (by omega)]
    exact congrArg some (Prod.ext hu.symm hs2.symm)
  | true =>
    rw [hu] at ha
    have ha0 : 1024 - ((dataP (p.take i)).length + s.2.length) = a := by simpa using ha
    rw [if_neg (by omega), if_pos (by omega)]
    have e3 : bytesP p = (twoB p.length ++ headsP 0 p ++ List.replicate (1024 - (2 + 4 * p.length + (dataP p).length)) 0 ++ dataP (p.drop (i + 1))) ++ (s.2 ++ dataP (p.take i)) := by
      unfold bytesP
      conv => lhs; arg 2; rw [hd]
      simp [List.append_assoc]
    obtain ⟨X, hX⟩ : ∃ X, twoB p.length ++ headsP 0 p ++ List.replicate (1024 - (2 + 4 * p.length + (dataP p).length)) 0 ++ dataP (p.drop (i + 1)) = X := ⟨_, rfl⟩
    rw [hX] at e3
    have hl3 : X.length = a := by
      have ht := bytesP_len hsz
      rw [e3, List.length_append, List.length_append] at ht
      omega
    have e4 : ((bytesP p).drop a).take s.2.length = s.2 := by
      rw [e3, ← hl3, List.drop_left, List.take_left' rfl]
    rw [e4]
    exact congrArg some (Prod.ext hu.symm rfl)
theorem slots_back {p : Pg} (h : RightP p) : ∀ (k i : Nat), i + k = p.length → slotsD (bytesP p) i k = some (p.drop i)
  | 0, i, hk => by rw [List.drop_eq_nil_of_le (by omega)]; rfl
  | k + 1, i, hk => by
    have hi : i < p.length := by omega
    rw [slotsD, slot_back h hi]
    dsimp only
    rw [slots_back h k (i + 1) (by omega), List.drop_eq_getElem_cons hi]; rfl
theorem read_back {p : Pg} (h : RightP p) : readP (bytesP p) = some p := by
  have hn : numAt (bytesP p) 0 = p.length := by
    have := numAt_two p.length (by have := h.len; omega) [] (headsP 0 p ++ (List.replicate (1024 - (2 + 4 * p.length + (dataP p).length)) 0 ++ dataP p))
    unfold bytesP
    simpa [List.append_assoc] using this
  have hsz := h.size
  have hdl := sizeP_data p
  unfold readP
  rw [bytesP_len h.size, if_neg (by simp), hn, if_neg (by omega), slots_back h p.length 0 (by omega)]
  dsimp only
  rw [List.drop_zero, if_pos ⟨(rightB_iff p).2 h, rfl⟩]
end Go.Proofs.Ytnneeojgakjalaa
