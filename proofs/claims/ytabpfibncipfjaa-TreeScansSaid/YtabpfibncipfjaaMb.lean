/- The two codes of a row, plainly: as it stands in a page, and as a key; each is read back as it was written; keys stand to one another as their rows do. Nothing of any program here. Conditions: each lemma names its own. -/
import Derived.Test.YtabpfibncipfjaaMa
namespace Go.Proofs.Ytabpfibncipfjaa
open Go.RowKit

def txt (l : List UInt8) : ByteArray := ⟨l.toArray⟩
theorem txt_list (l : List UInt8) : (txt l).data.toList = l := rfl
theorem txt_get (l : List UInt8) (k : Nat) (h : k < (txt l).size) (h' : k < l.length) : (txt l)[k]'h = l[k] := rfl
theorem txt_add (a b : List UInt8) : txt a ++ txt b = txt (a ++ b) := WideShapes.bytes_inj (by simp [txt])
theorem txt_cut (l : List UInt8) (a b : Nat) : (txt l).extract a b = txt ((l.drop a).take (b - a)) := WideShapes.bytes_inj (by
  show ((txt l).extract a b).data.toList = _
  rw [ByteArray.data_extract, txt_list]
  simp [txt])
theorem txt_of (s : ByteArray) : txt s.data.toList = s := WideShapes.bytes_inj rfl
theorem txt_size (l : List UInt8) : (txt l).size = l.length := by simp [txt, ByteArray.size]
theorem size_list (s : ByteArray) : s.data.toList.length = s.size := Array.length_toList

theorem okV_cases {v : Val} (h : okV v) : v = noV ∨ (∃ n, v = ⟨1, n, txt []⟩ ∧ -9223372036854775808 ≤ n ∧ n ≤ 9223372036854775807) ∨ (∃ n, v = ⟨2, n, txt []⟩ ∧ (n = 0 ∨ n = 1)) ∨ ∃ l : List UInt8, v = ⟨3, 0, txt l⟩ ∧ l.length ≤ 64 := by
  obtain ⟨k, n, s⟩ := v
  obtain ⟨h, h1, h2, _⟩ := h
  simp only at h h1 h2
  have hs : s.toList = [] → s = txt [] := fun e => WideShapes.bytes_inj (by rw [ByteArray.toList_eq] at e; rw [e]; rfl)
  unfold chk at h
  by_cases k0 : k = 0
  · rw [if_pos k0] at h
    split at h
    · rename_i g; left; rw [k0, g.1, hs g.2]; rfl
    · cases h
  rw [if_neg k0] at h
  by_cases k1 : k = 1
  · rw [if_pos k1] at h
    split at h
    · rename_i g; right; left; exact ⟨n, by rw [k1, hs g], h1, h2⟩
    · cases h
  rw [if_neg k1] at h
  by_cases k2 : k = 2
  · rw [if_pos k2] at h
    split at h
    · rename_i g; right; right; left; exact ⟨n, by rw [k2, hs g.1], g.2⟩
    · cases h
  rw [if_neg k2] at h
  by_cases k3 : k = 3
  · rw [if_pos k3] at h
    split at h
    · split at h
      · rename_i g g2; right; right; right; exact ⟨s.data.toList, by rw [k3, g, txt_of], by rw [size_list]; exact g2⟩
      · cases h
    · cases h
  rw [if_neg k3] at h; cases h
theorem ok_none : okV noV := ⟨by simp [chk, noV, ByteArray.toList_eq], by decide, by decide, by show (0 : Nat) ≤ maxLen; exact Nat.zero_le _⟩
theorem ok_int {n : Int} (h1 : -9223372036854775808 ≤ n) (h2 : n ≤ 9223372036854775807) : okV ⟨1, n, txt []⟩ := ⟨by simp [chk, txt, ByteArray.toList_eq], h1, h2, by show (0 : Nat) ≤ maxLen; exact Nat.zero_le _⟩
theorem ok_bool {n : Int} (h : n = 0 ∨ n = 1) : okV ⟨2, n, txt []⟩ := ⟨by simp [chk, txt, ByteArray.toList_eq, h], by show -9223372036854775808 ≤ n; omega, by show n ≤ 9223372036854775807; omega, by show (0 : Nat) ≤ maxLen; exact Nat.zero_le _⟩
theorem ok_text {l : List UInt8} (h : l.length ≤ 64) : okV ⟨3, 0, txt l⟩ := ⟨by simp [chk, txt_size, h], by show (-9223372036854775808 : Int) ≤ 0; omega, by show (0 : Int) ≤ 9223372036854775807; omega, by show (txt l).size ≤ maxLen; rw [txt_size]; unfold maxLen; omega⟩

/-! ### As it stands in a page -/
def rowB (v : Val) : List UInt8 :=
  if v.k = 1 then 1 :: encBE 8 (un64 v.n) else if v.k = 2 then [2, UInt8.ofNat v.n.toNat] else if v.k = 3 then 3 :: UInt8.ofNat v.s.size :: v.s.data.toList else [0]
def rowD : List UInt8 → Option (Val × Nat)
  | [] => none
  | b :: r =>
    if b = 0 then some (noV, 1)
    else if b = 1 then (if 8 ≤ r.length then some (⟨1, sn64 (decBE (r.take 8)), txt []⟩, 9) else none)
    else if b = 2 then (match r with | [] => none | c :: _ => if c.toNat ≤ 1 then some (⟨2, c.toNat, txt []⟩, 2) else none)
    else if b = 3 then (match r with | [] => none | c :: t => if c.toNat ≤ 64 ∧ c.toNat ≤ t.length then some (⟨3, 0, txt (t.take c.toNat)⟩, 2 + c.toNat) else none)
    else none

theorem rowB_none : rowB noV = [0] := rfl
theorem rowB_int (n : Int) : rowB ⟨1, n, txt []⟩ = 1 :: encBE 8 (un64 n) := rfl
theorem rowB_bool (n : Int) : rowB ⟨2, n, txt []⟩ = [2, UInt8.ofNat n.toNat] := rfl
theorem rowB_text (l : List UInt8) : rowB ⟨3, 0, txt l⟩ = 3 :: UInt8.ofNat l.length :: l := by simp [rowB, txt, ByteArray.size]

theorem rowD_none (r : List UInt8) : rowD (0 :: r) = some (noV, 1) := rfl
theorem rowD_int (r : List UInt8) : rowD (1 :: r) = if 8 ≤ r.length then some (⟨1, sn64 (decBE (r.take 8)), txt []⟩, 9) else none := rfl
theorem rowD_bool (c : UInt8) (r : List UInt8) : rowD (2 :: c :: r) = if c.toNat ≤ 1 then some (⟨2, c.toNat, txt []⟩, 2) else none := rfl
theorem rowD_text (c : UInt8) (r : List UInt8) : rowD (3 :: c :: r) = if c.toNat ≤ 64 ∧ c.toNat ≤ r.length then some (⟨3, 0, txt (r.take c.toNat)⟩, 2 + c.toNat) else none := rfl
theorem rowD_else {b : UInt8} (r : List UInt8) (h0 : b ≠ 0) (h1 : b ≠ 1) (h2 : b ≠ 2) (h3 : b ≠ 3) : rowD (b :: r) = none := by
  simp [rowD, h0, h1, h2, h3]
theorem rowB_len {v : Val} (h : okV v) : (rowB v).length ≤ 66 := by
  rcases okV_cases h with rfl | ⟨n, rfl, _⟩ | ⟨n, rfl, _⟩ | ⟨l, rfl, hl⟩
  · rw [rowB_none]; simp
  · rw [rowB_int, List.length_cons, encBE_len]; omega
  · rw [rowB_bool]; simp
  · rw [rowB_text]; simp; omega

theorem pow8 : 256 ^ 8 = 18446744073709551616 := by decide
theorem rowCoded : Coded rowB rowD := {
  there := fun v h r => by
    rcases okV_cases h with rfl | ⟨n, rfl, h1, h2⟩ | ⟨n, rfl, hn⟩ | ⟨l, rfl, hl⟩
    · rfl
    · rw [rowB_int, List.cons_append, rowD_int, if_pos (by rw [List.length_append, encBE_len]; omega), List.take_left' (encBE_len 8 _), decBE_encBE 8 _ (un64_lt n), sn64_un64 h1 h2, List.length_cons, encBE_len]
    · rw [rowB_bool]
      rcases hn with rfl | rfl <;> rfl
    · have e : (UInt8.ofNat l.length).toNat = l.length := by rw [u8_ofNat]; omega
      rw [rowB_text, List.cons_append, List.cons_append, rowD_text, e, if_pos ⟨hl, by simp⟩, List.take_left' rfl]
      simp; omega
  back := fun s v m h => by
    cases s with
    | nil => cases h
    | cons b r =>
      by_cases b0 : b = 0
      · subst b0
        rw [rowD_none] at h
        obtain ⟨rfl, rfl⟩ := Prod.mk.inj (Option.some.inj h)
        exact ⟨ok_none, rfl, rfl⟩
      by_cases b1 : b = 1
      · subst b1
        rw [rowD_int] at h
        split at h
        · rename_i h8
          obtain ⟨rfl, rfl⟩ := Prod.mk.inj (Option.some.inj h)
          have hl : (r.take 8).length = 8 := by rw [List.length_take]; omega
          have hlt := decBE_lt (r.take 8)
          rw [hl] at hlt
          have hs := sn64_in hlt
          refine ⟨ok_int hs.1 hs.2, ?_, by rw [rowB_int, List.length_cons, encBE_len]⟩
          rw [rowB_int, un64_sn64 hlt, encBE_decBE_of _ 8 hl, List.cons_append, List.drop_succ_cons, List.take_append_drop]
        · cases h
      by_cases b2 : b = 2
      · subst b2
        cases r with
        | nil => cases h
        | cons c r =>
          rw [rowD_bool] at h
          split at h
          · rename_i hc
            obtain ⟨rfl, rfl⟩ := Prod.mk.inj (Option.some.inj h)
            refine ⟨ok_bool (by omega), ?_, rfl⟩
            rw [rowB_bool]
            show 2 :: c :: r = 2 :: UInt8.ofNat _ :: r
            rw [Int.toNat_natCast, UInt8.ofNat_toNat]
          · cases h
      by_cases b3 : b = 3
      · subst b3
        cases r with
        | nil => cases h
        | cons c r =>
          rw [rowD_text] at h
          split at h
          · rename_i hc
            obtain ⟨rfl, rfl⟩ := Prod.mk.inj (Option.some.inj h)
            have hl : (r.take c.toNat).length = c.toNat := by rw [List.length_take]; omega
            refine ⟨ok_text (by rw [hl]; exact hc.1), ?_, by rw [rowB_text, List.length_cons, List.length_cons, hl]; omega⟩
            rw [rowB_text, hl, UInt8.ofNat_toNat, show 2 + c.toNat = c.toNat + 1 + 1 by omega, List.drop_succ_cons, List.drop_succ_cons, List.cons_append, List.cons_append, List.take_append_drop]
          · cases h
      rw [rowD_else r b0 b1 b2 b3] at h; cases h
  pos := fun v => by
    unfold rowB
    repeat' split
    all_goals simp }
end Go.Proofs.Ytabpfibncipfjaa
