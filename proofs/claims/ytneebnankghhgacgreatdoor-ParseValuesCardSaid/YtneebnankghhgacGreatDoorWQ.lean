/- Several of my texts laid together, each as it was: Wq, Wn, V1, V2, Nv, Aj. Conditions: each names its own. -/
import Derived.Test.YtneebnankghhgacGreatDoorPA
import Derived.Laws.StructEq
import Derived.Test.YtneebnankghhgacGreatDoorShelf
import Derived.Lib.ReplaceLaws
import Derived.Lib.SplitLaws
import Derived.Lib.ItoaMem
import Derived.Laws.BytesArg
import Derived.Lib.ItoaLen
import Derived.Lib.AppendIntMem
import Derived.Test.YtneebnankghhgacGreatDoorIA
import Derived.Test.YtneebnankghhgacGreatDoorPB
/- Whether two values of three fields are the same: the model's comparison of structs, as one plain function. Conditions: none. -/
namespace Go.Proofs.YtneebnankghhgacGreatDoor
open Go.RowKit

def sameV (k n : Int) (s : ByteArray) (k' n' : Int) (s' : ByteArray) : Bool := k == k' && n == n' && s.toList == s'.toList

theorem sameV_iff (k n : Int) (s : ByteArray) (k' n' : Int) (s' : ByteArray) : sameV k n s k' n' s' = true ↔ k = k' ∧ n = n' ∧ s = s' := by
  simp only [sameV, Bool.and_eq_true, beq_iff_eq, ByteArray.toList_eq]
  constructor
  · rintro ⟨⟨rfl, rfl⟩, h⟩; exact ⟨rfl, rfl, WideShapes.bytes_inj h⟩
  · rintro ⟨rfl, rfl, rfl⟩; exact ⟨⟨rfl, rfl⟩, rfl⟩

theorem eql23 (k n : Int) (s : ByteArray) (k' n' : Int) (s' : ByteArray) (w : World) :
    (binOp .eql 28 (.agg #[.int .i64 k, .int .i64 n, .string s]) (.agg #[.int .i64 k', .int .i64 n', .string s'])).run Tryz.prog w = .ok (.bool (sameV k n s k' n' s')) w := by
  rw [run_eql_struct, run_equalIn_agg _ _ _ _ _ (by kernel_rfl) (by kernel_rfl)]
  have hf : (Tryz.prog.fieldsOf 28).toList = [{ name := "Kind", type := 3, offset := 0, embedded := false, tag := "", pkgPath := "", byteOffset := 0 }, { name := "N", type := 3, offset := 1, embedded := false, tag := "", pkgPath := "", byteOffset := 8 }, { name := "S", type := 9, offset := 2, embedded := false, tag := "", pkgPath := "", byteOffset := 16 }] := by kernel_rfl
  rw [hf]
  simp only [Op.eqFields]
  simp [go_sem, sameV]
  by_cases h1 : k = k' <;> by_cases h2 : n = n' <;> by_cases h3 : s.toList = s'.toList <;> simp [h1, h2, h3]

theorem neq23 (k n : Int) (s : ByteArray) (k' n' : Int) (s' : ByteArray) (w : World) :
    (binOp .neq 28 (.agg #[.int .i64 k, .int .i64 n, .string s]) (.agg #[.int .i64 k', .int .i64 n', .string s'])).run Tryz.prog w = .ok (.bool (!sameV k n s k' n' s')) w := by
  have h := eql23 k n s k' n' s' w
  rw [run_eql_struct] at h
  rw [run_neq_struct]
  revert h
  cases (Op.equalIn 10000 28 (.agg #[.int .i64 k, .int .i64 n, .string s]) (.agg #[.int .i64 k', .int .i64 n', .string s'])).run Tryz.prog w with
  | ok b w1 => simp [Result.andThen]
  | halt x w1 => simp [Result.andThen]
end Go.Proofs.YtneebnankghhgacGreatDoor

/- How a value is written: plain functions on lists of bytes: a text's quotes doubled; that replacing each quote by two is just that; that unlike values that may be are written in unlike ways. Conditions: each lemma names its own. -/
namespace Go.Proofs.YtneebnankghhgacGreatDoor
open Go.RowKit

def dup : List UInt8 → List UInt8
  | [] => []
  | c :: l => if c = 39 then 39 :: 39 :: dup l else c :: dup l

theorem dup_append (a b : List UInt8) : dup (a ++ b) = dup a ++ dup b := by
  induction a with
  | nil => rfl
  | cons c l ih => simp only [List.cons_append, dup]; split <;> simp [ih]
theorem dup_length (l : List UInt8) : (dup l).length ≤ 2 * l.length := by
  induction l with
  | nil => simp [dup]
  | cons c l ih => simp only [dup]; split <;> simp <;> omega

theorem index_head (l : List UInt8) : Lib.index (39 :: l) [39] = 0 := by simp [Lib.index]
theorem index_tail {b : UInt8} {l : List UInt8} (h : b ≠ 39) : Lib.index (b :: l) [39] = if Lib.index l [39] == -1 then -1 else Lib.index l [39] + 1 := by
  rw [Lib.index]
  have : ([39] : List UInt8).isPrefixOf (b :: l) = false := by simp [List.isPrefixOf, Ne.symm h]
  rw [this]; rfl

theorem replaceK_zero (s : List UInt8) : Lib.replaceK [39] [39, 39] 0 s = s := rfl
theorem rep_dup : ∀ (l : List UInt8), Lib.replaceK [39] [39, 39] (Lib.count l [39]) l = dup l
  | [] => rfl
  | b :: t => by
    by_cases hb : b = 39
    · subst hb
      rw [Lib.count_cons_eq, Nat.add_comm, Lib.replaceK_hit [39] [39, 39] _ _ 0 (index_head t), dup, if_pos rfl]
      simp [rep_dup t]
    · rw [Lib.count_cons_ne b 39 t hb, dup, if_neg hb, ← rep_dup t]
      cases hk : Lib.count t [39] with
      | zero => rfl
      | succ k =>
        have hne : Lib.index t [39] ≠ -1 := fun e => by rw [Lib.count_miss e] at hk; cases hk
        have hge := Lib.index_ge t [39]
        obtain ⟨i, hi⟩ : ∃ i : Nat, Lib.index t [39] = i := ⟨(Lib.index t [39]).toNat, by omega⟩
        have hi' : Lib.index (b :: t) [39] = ((i + 1 : Nat) : Int) := by
          rw [index_tail hb, hi, if_neg (by simp)]; omega
        rw [Lib.replaceK_hit [39] [39, 39] k (b :: t) (i + 1) hi', Lib.replaceK_hit [39] [39, 39] k t i hi]
        simp
theorem replaceAll_dup (l : List UInt8) : Lib.replaceAll l [39] [39, 39] = dup l := by
  unfold Lib.replaceAll Lib.replace Lib.replaceNum
  rw [if_neg (by simp), if_pos (Or.inl (by decide))]
  exact rep_dup l

theorem dup_quote_end : ∀ (a b : List UInt8), dup a ++ [39] = dup b ++ [39] → a = b := by
  intro a
  induction a with
  | nil =>
    intro b h
    cases b with
    | nil => rfl
    | cons c l =>
      exfalso
      simp only [dup, List.nil_append] at h
      split at h
      · simp at h
      · rename_i hc; simp at h; first | done | exact hc h.1.symm
  | cons x xs ih =>
    intro b h
    cases b with
    | nil =>
      exfalso
      simp only [dup, List.nil_append] at h
      split at h
      · simp at h
      · rename_i hc; simp at h; first | done | exact hc h.1
    | cons c l =>
      simp only [dup] at h
      by_cases hx : x = 39 <;> by_cases hc : c = 39
      · rw [if_pos hx, if_pos hc] at h
        simp only [List.cons_append, List.cons.injEq, true_and] at h
        rw [hx, hc, ih l h]
      · rw [if_pos hx, if_neg hc] at h
        simp only [List.cons_append, List.cons.injEq] at h
        exact absurd h.1.symm hc
      · rw [if_neg hx, if_pos hc] at h
        simp only [List.cons_append, List.cons.injEq] at h
        exact absurd h.1 hx
      · rw [if_neg hx, if_neg hc] at h
        simp only [List.cons_append, List.cons.injEq] at h
        rw [h.1, ih l h.2]

/-! ### Decimal digits -/
def preD (j : Nat) : List UInt8 := if j = 0 then [] else Lib.decDigits j
theorem dec_step (u : Nat) : Lib.decDigits u = preD (u / 10) ++ [UInt8.ofNat (48 + u % 10)] := by
  by_cases h : u < 10
  · rw [Lib.decDigits_one h, preD, if_pos (by omega), Nat.mod_eq_of_lt h]; rfl
  · rw [Lib.decDigits, dif_neg h, preD, if_neg (by omega)]
theorem dec_ne (u : Nat) : Lib.decDigits u ≠ [] := by rw [dec_step]; simp
theorem preD_pos {j : Nat} (h : j ≠ 0) : preD j = Lib.decDigits j := by rw [preD, if_neg h]

def digitB (c : UInt8) : Bool := decide (48 ≤ c.toNat ∧ c.toNat ≤ 57)
theorem digit_of (j : Nat) (h : j < 10) : digitB (UInt8.ofNat (48 + j)) = true := by
  have e : (UInt8.ofNat (48 + j)).toNat = 48 + j := by simp [UInt8.toNat_ofNat']; omega
  simp only [digitB, e, decide_eq_true_eq]; omega
theorem ofNat_inj {a b : Nat} (ha : a < 10) (hb : b < 10) (h : UInt8.ofNat (48 + a) = UInt8.ofNat (48 + b)) : a = b := by
  have h' := congrArg UInt8.toNat h
  simp [UInt8.toNat_ofNat'] at h'
  omega
theorem dec_digits : ∀ (u : Nat), ∀ c ∈ Lib.decDigits u, digitB c = true := by
  intro u
  induction u using Nat.strongRecOn with
  | ind u ih =>
    intro c hc
    rw [dec_step] at hc
    rcases List.mem_append.1 hc with h | h
    · by_cases h0 : u / 10 = 0
      · rw [preD, if_pos h0] at h; cases h
      · rw [preD_pos h0] at h; exact ih (u / 10) (by omega) c h
    · rw [List.mem_singleton.1 h]; exact digit_of _ (by omega)
theorem dec_inj : ∀ (u v : Nat), Lib.decDigits u = Lib.decDigits v → u = v := by
  intro u
  induction u using Nat.strongRecOn with
  | ind u ih =>
    intro v h
    rw [dec_step u, dec_step v] at h
    obtain ⟨h1, h2⟩ := List.append_inj' h rfl
    have e2 := ofNat_inj (by omega) (by omega) (List.cons.inj h2).1
    by_cases hu : u / 10 = 0
    · by_cases hv : v / 10 = 0
      · omega
      · rw [preD, if_pos hu, preD_pos hv] at h1
        exact absurd h1.symm (dec_ne _)
    · by_cases hv : v / 10 = 0
      · rw [preD_pos hu, preD, if_pos hv] at h1
        exact absurd h1 (dec_ne _)
      · rw [preD_pos hu, preD_pos hv] at h1
        have := ih (u / 10) (by omega) _ h1
        omega
theorem dec_head (u : Nat) : ∃ c l, Lib.decDigits u = c :: l ∧ digitB c = true := by
  cases h : Lib.decDigits u with
  | nil => exact absurd h (dec_ne u)
  | cons c l => exact ⟨c, l, rfl, dec_digits u c (by rw [h]; simp)⟩
theorem itoa_head (n : Int) : ∃ c l, Lib.itoa n = c :: l ∧ (c = 45 ∨ digitB c = true) := by
  unfold Lib.itoa
  split
  · exact ⟨45, _, rfl, .inl rfl⟩
  · obtain ⟨c, l, e, h⟩ := dec_head n.toNat
    exact ⟨c, l, e, .inr h⟩
theorem itoa_inj (a b : Int) (h : Lib.itoa a = Lib.itoa b) : a = b := by
  unfold Lib.itoa at h
  by_cases ha : a < 0 <;> by_cases hb : b < 0
  · rw [if_pos ha, if_pos hb] at h
    have := dec_inj _ _ (List.cons.inj h).2
    omega
  · rw [if_pos ha, if_neg hb] at h
    obtain ⟨c, l, e, hd⟩ := dec_head b.toNat
    rw [e] at h
    rw [← (List.cons.inj h).1] at hd
    exact absurd hd (by decide)
  · rw [if_neg ha, if_pos hb] at h
    obtain ⟨c, l, e, hd⟩ := dec_head a.toNat
    rw [e] at h
    rw [(List.cons.inj h).1] at hd
    exact absurd hd (by decide)
  · rw [if_neg ha, if_neg hb] at h
    have := dec_inj _ _ h
    omega

/-! ### What is printed -/
def nullB : List UInt8 := [110, 117, 108, 108]
def truthB (b : Bool) : List UInt8 := if b then [116, 114, 117, 101] else [102, 97, 108, 115, 101]
def printL (k n : Int) (s : ByteArray) : List UInt8 :=
  if k = 1 then Lib.itoa n else if k = 2 then truthB (n == 1) else if k = 3 then 39 :: (dup s.data.toList ++ [39]) else nullB

theorem chk_zero {k n : Int} {s : ByteArray} (h : chk k n s = 0) : (k = 0 ∧ n = 0 ∧ s.data.toList = []) ∨ (k = 1 ∧ s.data.toList = []) ∨ (k = 2 ∧ s.data.toList = [] ∧ (n = 0 ∨ n = 1)) ∨ (k = 3 ∧ n = 0) := by
  unfold chk at h
  rw [ByteArray.toList_eq] at h
  by_cases h0 : k = 0
  · left; rw [if_pos h0] at h; split at h <;> simp_all
  rw [if_neg h0] at h
  by_cases h1 : k = 1
  · right; left; rw [if_pos h1] at h; split at h <;> simp_all
  rw [if_neg h1] at h
  by_cases h2 : k = 2
  · right; right; left; rw [if_pos h2] at h; split at h <;> simp_all
  rw [if_neg h2] at h
  by_cases h3 : k = 3
  · right; right; right; rw [if_pos h3] at h; split at h <;> simp_all
  rw [if_neg h3] at h; cases h

theorem print0 (n : Int) (s : ByteArray) : printL 0 n s = nullB := rfl
theorem print1 (n : Int) (s : ByteArray) : printL 1 n s = Lib.itoa n := rfl
theorem print2 (n : Int) (s : ByteArray) : printL 2 n s = truthB (n == 1) := rfl
theorem print3 (n : Int) (s : ByteArray) : printL 3 n s = 39 :: (dup s.data.toList ++ [39]) := rfl
theorem itoa_not {n : Int} {c : UInt8} {l : List UInt8} (hc : c ≠ 45) (hd : digitB c = false) : Lib.itoa n ≠ c :: l := by
  obtain ⟨c', l', e, h⟩ := itoa_head n
  rw [e]
  intro he
  obtain rfl := (List.cons.inj he).1
  rcases h with h | h
  · exact hc h
  · rw [h] at hd; cases hd
theorem truth_cons (b : Bool) : ∃ c l, truthB b = c :: l ∧ c ≠ 45 ∧ digitB c = false ∧ c ≠ 39 ∧ c ≠ 110 := by
  cases b
  · exact ⟨102, _, rfl, by decide, by decide, by decide, by decide⟩
  · exact ⟨116, _, rfl, by decide, by decide, by decide, by decide⟩
theorem itoa_truth (n : Int) (b : Bool) : Lib.itoa n ≠ truthB b := by
  obtain ⟨c, l, e, h1, h2, _, _⟩ := truth_cons b
  rw [e]; exact itoa_not h1 h2
theorem truth_null (b : Bool) : truthB b ≠ nullB := by cases b <;> decide
theorem truth_text (b : Bool) (l : List UInt8) : truthB b ≠ 39 :: l := by
  obtain ⟨c, l', e, _, _, h, _⟩ := truth_cons b
  rw [e]; intro he; exact h (List.cons.inj he).1
theorem null_text (l : List UInt8) : nullB ≠ 39 :: l := by intro h; exact absurd (List.cons.inj h).1 (by decide)

theorem print_inj {k n k' n' : Int} {s s' : ByteArray} (h : chk k n s = 0) (h' : chk k' n' s' = 0) : printL k n s = printL k' n' s' ↔ (k = k' ∧ n = n' ∧ s = s') := by
  constructor
  · intro hp
    rcases chk_zero h with ⟨rfl, rfl, e⟩ | ⟨rfl, e⟩ | ⟨rfl, e, hn⟩ | ⟨rfl, rfl⟩ <;> rcases chk_zero h' with ⟨rfl, rfl, e'⟩ | ⟨rfl, e'⟩ | ⟨rfl, e', hn'⟩ | ⟨rfl, rfl⟩
    · exact ⟨rfl, rfl, WideShapes.bytes_inj (e.trans e'.symm)⟩
    · exact absurd hp.symm (itoa_not (by decide) (by decide))
    · exact absurd hp.symm (truth_null _)
    · exact absurd hp (null_text _)
    · exact absurd hp (itoa_not (by decide) (by decide))
    · exact ⟨rfl, itoa_inj _ _ hp, WideShapes.bytes_inj (e.trans e'.symm)⟩
    · exact absurd hp (itoa_truth _ _)
    · exact absurd hp (itoa_not (by decide) (by decide))
    · exact absurd hp (truth_null _)
    · exact absurd hp.symm (itoa_truth _ _)
    · refine ⟨rfl, ?_, WideShapes.bytes_inj (e.trans e'.symm)⟩
      rcases hn with rfl | rfl <;> rcases hn' with rfl | rfl
      · rfl
      · exact absurd (show truthB (0 == (1 : Int)) = truthB (1 == (1 : Int)) from hp) (by decide)
      · exact absurd (show truthB (1 == (1 : Int)) = truthB (0 == (1 : Int)) from hp) (by decide)
      · rfl
    · exact absurd hp (truth_text _ _)
    · exact absurd hp.symm (null_text _)
    · exact absurd hp.symm (itoa_not (by decide) (by decide))
    · exact absurd hp.symm (truth_text _ _)
    · exact ⟨rfl, rfl, WideShapes.bytes_inj (dup_quote_end _ _ (List.cons.inj hp).2)⟩
  · rintro ⟨rfl, rfl, rfl⟩; rfl
end Go.Proofs.YtneebnankghhgacGreatDoor

/- The reference's Digits: a number in decimal digits. Condition: the number lies within 64 bits. -/
namespace Go.Proofs.YtneebnankghhgacGreatDoor
open Go.RowKit

def emptyM (s : Value) : Nat := match s with | .string b => if b.size = 0 then 1 else 0 | _ => 0
theorem emptyM_nil : emptyM (.string ⟨#[]⟩) = 1 := rfl
theorem emptyM_cons (c : UInt8) (l : List UInt8) : emptyM (.string ⟨(c :: l).toArray⟩) = 0 := by
  simp [emptyM, ByteArray.size]

theorem conv1 (x : Int) (w : World) : (convert 61 9 (.slice (some ⟨w.heap.size, 0, none⟩) 1 1)).run Tryz.prog (w.alloc (.cells #[.int .u8 x] 5)) = .ok (.string (strOfNums [x])) (w.alloc (.cells #[.int .u8 x] 5)) :=
  run_convert_bytes_arg (P := Tryz.prog) _ 61 5 Tryz.underlying61 Tryz.underlying5 w.heap.size 0 1 1 [x] rfl (fun i hi => by
    have : i = 0 := by omega
    subst this
    simp) 9 Tryz.underlying9
theorem digit_str (j : Nat) (l : List UInt8) : strOfNums [48 + (j : Int) % 10] ++ ⟨l.toArray⟩ = ⟨(UInt8.ofNat (48 + j % 10) :: l).toArray⟩ := by
  have e : (48 + (j : Int) % 10).toNat = 48 + j % 10 := by omega
  have h : strOfNums [48 + (j : Int) % 10] = ⟨#[UInt8.ofNat (48 + j % 10)]⟩ := by simp [strOfNums, e]
  rw [h]
  apply WideShapes.bytes_inj
  simp

theorem len20 {u j : Nat} {l : List UInt8} (h2 : (u : Int) ≤ 9223372036854775807) (h : l ≠ [] → Lib.decDigits u = preD j ++ l) : l.length ≤ 20 := by
  by_cases e : l = []
  · rw [e]; simp
  · have := congrArg List.length (h e)
    rw [Lib.decDigits_length, List.length_append] at this
    have := Lib.nDigits_le20 u (by omega)
    omega
theorem len20b {u j : Nat} {l : List UInt8} (h2 : (u : Int) ≤ 9223372036854775808) (h : l ≠ [] → Lib.decDigits u = preD j ++ l) : l.length ≤ 20 := by
  by_cases e : l = []
  · rw [e]; simp
  · have := congrArg List.length (h e)
    rw [Lib.decDigits_length, List.length_append] at this
    have := Lib.nDigits_le20 u (by omega)
    omega
theorem ret_str {a b : ByteArray} (h : a = b) : Ending.returned (.string a) = .returned (.string b) := by rw [h]
theorem dec_go {u j : Nat} {l : List UInt8} (h1 : l = [] → j = u) (h2 : l ≠ [] → Lib.decDigits u = preD j ++ l) (hj : j ≠ 0) : Lib.decDigits u = preD (j / 10) ++ (UInt8.ofNat (48 + j % 10) :: l) := by
  by_cases e : l = []
  · subst e
    rw [← h1 rfl, dec_step]
  · rw [h2 e, preD_pos hj, dec_step]
    simp

set_option maxRecDepth 100000 in
set_option maxHeartbeats 1000000 in
theorem digits_pos (u : Nat) (w : World) (h2 : (u : Int) ≤ 9223372036854775807) :
    Calls Tryz.prog 9 #[.int .i64 (u : Int)] w fun e w' => e = .returned (.string ⟨(Lib.decDigits u).toArray⟩) ∧ Below w.heap.size w w' := by
  go_enter Tryz.func9, Tryz.ntmps9
  go_wp2
  go_loopw [3, 4] (fun s i wr => ∃ (j : Nat) (l : List UInt8), j ≤ u ∧ i = .int .i64 j ∧ s = .string ⟨l.toArray⟩ ∧ Below w.heap.size w wr ∧ Hid (l = [] → j = u) ∧ Hid (l ≠ [] → Lib.decDigits u = preD j ++ l))
    (fun s i _ => (intOf i).toNat + emptyM s)
  case atStart => exact ⟨u, [], Nat.le_refl _, rfl, rfl, Below.refl _ _, fun _ => rfl, fun h => absurd rfl h⟩
  case round =>
    obtain ⟨j, l, hj, rfl, rfl, hB, hl1, hl2⟩ := hrel
    have hsz := hB.size
    have hcv := conv1
    have hso := strOfNums_size
    have hlen : l.length ≤ 20 := len20 h2 hl2.out
    have hBn : ∀ o, Below w.heap.size w (wr.alloc o) := fun o => Below.alloc hB hsz o
    have HN := hid0 hBn
    clear hBn
    by_cases hj0 : j = 0
    · subst hj0
      cases l with
      | nil =>
        go_wp2
        exact ⟨⟨0, [48], Nat.zero_le _, rfl, by rfl, HN.out _, hid0 (fun h => absurd h (by simp)), hid0 (fun _ => by rw [← hl1.out rfl]; exact dec_step 0)⟩, by decide⟩
      | cons c l0 =>
        go_wp2
        go_ret
        exact ⟨ret_str (by rw [hl2.out (by simp)]; rfl), hB⟩
    · go_wp2
      refine ⟨⟨j / 10, UInt8.ofNat (48 + j % 10) :: l, by omega, ?_, ?_, HN.out _, hid0 (fun h => absurd h (by simp)), hid0 (fun _ => dec_go hl1.out hl2.out hj0)⟩, ?_⟩
      · go_num
      · rw [digit_str]
      · rw [digit_str, emptyM_cons]
        simp [intOf]
        omega

theorem tmod_neg10 (j : Nat) : (-(j : Int)).tmod 10 = -((j : Int) % 10) := by
  rw [Int.neg_tmod, Int.tmod_eq_emod_of_nonneg (Int.natCast_nonneg _)]
theorem tdiv_neg10 (j : Nat) : (-(j : Int)).tdiv 10 = -((j : Int) / 10) := by
  rw [Int.neg_tdiv, Int.tdiv_eq_ediv_of_nonneg (Int.natCast_nonneg _)]

set_option maxRecDepth 100000 in
set_option maxHeartbeats 1000000 in
theorem digits_neg (u : Nat) (w : World) (h1 : 1 ≤ u) (h2 : (u : Int) ≤ 9223372036854775808) :
    Calls Tryz.prog 9 #[.int .i64 (-(u : Int))] w fun e w' => e = .returned (.string ⟨(45 :: Lib.decDigits u).toArray⟩) ∧ Below w.heap.size w w' := by
  have hneg : -(u : Int) < 0 := by omega
  go_enter Tryz.func9, Tryz.ntmps9
  go_wp2
  go_loopw [3, 4] (fun s i wr => ∃ (j : Nat) (l : List UInt8), j ≤ u ∧ i = .int .i64 (-(j : Int)) ∧ s = .string ⟨l.toArray⟩ ∧ Below w.heap.size w wr ∧ Hid (l = [] → j = u) ∧ Hid (l ≠ [] → Lib.decDigits u = preD j ++ l))
    (fun s i _ => (-(intOf i)).toNat + emptyM s)
  case atStart => exact ⟨u, [], Nat.le_refl _, rfl, rfl, Below.refl _ _, fun _ => rfl, fun h => absurd rfl h⟩
  case round =>
    obtain ⟨j, l, hj, rfl, rfl, hB, hl1, hl2⟩ := hrel
    have hsz := hB.size
    have hcv := conv1
    have hso := strOfNums_size
    have hlen : l.length ≤ 20 := len20b h2 hl2.out
    have hBn : ∀ o, Below w.heap.size w (wr.alloc o) := fun o => Below.alloc hB hsz o
    have HN := hid0 hBn
    clear hBn
    have hm := tmod_neg10 j
    have hq := tdiv_neg10 j
    by_cases hj0 : j = 0
    · subst hj0
      cases l with
      | nil => exact absurd (hl1.out rfl) (by omega)
      | cons c l0 =>
        have hl0 : l0.length ≤ 19 := by simpa using hlen
        clear hlen
        go_wp2
        go_ret
        exact ⟨ret_str (by
          rw [hl2.out (by simp)]
          apply WideShapes.bytes_inj
          simp [preD]), hB⟩
    · have hj1 : (-(j : Int) != 0) = true := by simp; omega
      go_wp2
      · refine ⟨⟨j / 10, UInt8.ofNat (48 + j % 10) :: l, by omega, ?_, ?_, HN.out _, hid0 (fun h => absurd h (by simp)), hid0 (fun _ => dec_go hl1.out hl2.out hj0)⟩, ?_⟩
        · go_num
        · rw [digit_str]
        · rw [digit_str, emptyM_cons]
          simp [intOf]
          omega
      · have e0 : (j : Int) % 10 = 0 := by omega
        have e1 : j % 10 = 0 := by omega
        have e2 : strOfNums [48 + -((j : Int) % 10)] = strOfNums [48 + (j : Int) % 10] := by rw [e0]; rfl
        refine ⟨⟨j / 10, UInt8.ofNat (48 + j % 10) :: l, by omega, ?_, ?_, HN.out _, hid0 (fun h => absurd h (by simp)), hid0 (fun _ => dec_go hl1.out hl2.out hj0)⟩, ?_⟩
        · go_num
        · rw [e2, digit_str]
        · rw [e2, digit_str, emptyM_cons]
          simp [intOf]
          omega
end Go.Proofs.YtneebnankghhgacGreatDoor

/- What Print and the reference's Print answer, in whatever memory. Conditions: internal/bytealg.MaxLen holds some integer; strconv's table of powers is laid; the number lies within 64 bits; the text has at most 1048576 bytes. -/
namespace Go.Proofs.YtneebnankghhgacGreatDoor
open Go.RowKit

theorem digits_any (n : Int) (w : World) (h1 : -9223372036854775808 ≤ n) (h2 : n ≤ 9223372036854775807) :
    Calls Tryz.prog 9 #[.int .i64 n] w fun e w' => e = .returned (.string ⟨(Lib.itoa n).toArray⟩) ∧ Below w.heap.size w w' := by
  by_cases hn : n < 0
  · obtain ⟨u, rfl⟩ : ∃ u : Nat, n = -(u : Int) := ⟨n.natAbs, by omega⟩
    rw [Lib.itoa_neg u (by omega)]
    exact digits_neg u w (by omega) (by omega)
  · obtain ⟨u, rfl⟩ : ∃ u : Nat, n = (u : Int) := ⟨n.toNat, by omega⟩
    rw [Lib.itoa_nonneg]
    exact digits_pos u w h2

theorem countB_small (s : ByteArray) (h : s.size ≤ 1048576) : s.size + Lib.countB s ⟨#[39]⟩ * (ByteArray.mk #[39, 39]).size ≤ 140737488355328 := by
  have := Lib.countB_le ⟨#[39]⟩ (by decide) s.size s (Nat.le_refl _)
  have e : (ByteArray.mk #[39, 39]).size = 2 := rfl
  rw [e]; omega

def quoted (s : ByteArray) : ByteArray := ⟨(dup s.data.toList).toArray⟩
theorem quoted_size (s : ByteArray) (h : s.size ≤ 1048576) : (quoted s).size ≤ 2097152 := by
  have := dup_length s.data.toList
  have e : (quoted s).size = (dup s.data.toList).length := by simp only [quoted, ByteArray.size, List.size_toArray]
  have e2 : s.data.toList.length = s.size := by simp only [ByteArray.size, Array.length_toList]
  omega
theorem print_text (s : ByteArray) : (⟨#[39]⟩ : ByteArray) ++ quoted s ++ ⟨#[39]⟩ = ⟨(39 :: (dup s.data.toList ++ [39])).toArray⟩ := by
  apply WideShapes.bytes_inj
  simp [quoted]

theorem printL_other {k n : Int} {s : ByteArray} (h1 : ¬k = 1) (h2 : ¬k = 2) (h3 : ¬k = 3) : printL k n s = nullB := by rw [printL, if_neg h1, if_neg h2, if_neg h3]

theorem take_snoc (l : List UInt8) (k : Nat) (h : k < l.length) : l.take (k + 1) = l.take k ++ [l[k]] := List.take_succ_eq_append_getElem h

theorem len_data (s : ByteArray) : s.data.toList.length = s.size := by simp only [ByteArray.size, Array.length_toList]
theorem extract_byte (s : ByteArray) (k : Nat) (h : k < s.size) : s.extract k (k + 1) = ⟨[s[k]].toArray⟩ := by
  have h' : k < s.data.toList.length := by rw [len_data]; exact h
  rw [Lib.extract_eq, List.drop_eq_getElem_cons h', show k + 1 - k = 1 from by omega]
  rfl
theorem text_go (s : ByteArray) (k : Nat) (h : k < s.size) (r : List UInt8) (hr : r = 39 :: dup (s.data.toList.take k)) : r ++ dup [s[k]] = 39 :: dup (s.data.toList.take (k + 1)) := by
  have h' : k < s.data.toList.length := by rw [len_data]; exact h
  rw [take_snoc _ _ h', dup_append, hr]
  rfl
theorem text_quote (s : ByteArray) (k : Nat) (h : k < s.size) (r : List UInt8) (hq : (((s[k]).toNat : Int) == 39) = true) : (⟨r.toArray⟩ : ByteArray) ++ ⟨#[39]⟩ ++ s.extract k (k + 1) = ⟨(r ++ dup [s[k]]).toArray⟩ := by
  have e : s[k] = 39 := UInt8.toNat_inj.1 (by simp at hq; simpa using (by omega : (s[k]).toNat = 39))
  rw [extract_byte s k h, e]
  apply WideShapes.bytes_inj
  simp [dup]
theorem text_plain (s : ByteArray) (k : Nat) (h : k < s.size) (r : List UInt8) (hq : (((s[k]).toNat : Int) == 39) = false) : (⟨r.toArray⟩ : ByteArray) ++ s.extract k (k + 1) = ⟨(r ++ dup [s[k]]).toArray⟩ := by
  have e : ¬s[k] = 39 := by intro e; rw [e] at hq; exact absurd hq (by decide)
  rw [extract_byte s k h]
  apply WideShapes.bytes_inj
  simp [dup, e]
theorem val_str {a b : ByteArray} (h : a = b) : Value.string a = .string b := by rw [h]

set_option maxRecDepth 100000 in
set_option maxHeartbeats 1000000 in
theorem refPrint_text (n : Int) (s : ByteArray) (w : World) (hs : s.size ≤ 1048576) :
    Calls Tryz.prog 6 #[.agg #[.int .i64 3, .int .i64 n, .string s]] w fun e w' => e = .returned (.string ⟨(printL 3 n s).toArray⟩) ∧ Below w.heap.size w w' := by
  go_enter Tryz.func6, Tryz.ntmps6
  go_wp2
  go_loop [3, 4] (fun t i => ∃ (k : Nat) (r : List UInt8), k ≤ s.size ∧ i = .int .i64 k ∧ t = .string ⟨r.toArray⟩ ∧ Hid (r = 39 :: dup (s.data.toList.take k))) (fun _ i => s.size - (intOf i).toNat)
  case atStart => exact ⟨0, [39], Nat.zero_le _, rfl, rfl, rfl⟩
  case round =>
    obtain ⟨k, r, hk, rfl, rfl, hr⟩ := hrel
    have hlr : r.length ≤ 2097154 := by
      have := dup_length (s.data.toList.take k)
      have e := List.length_take_le k s.data.toList
      rw [show r = 39 :: dup (s.data.toList.take k) from hr, List.length_cons]
      omega
    by_cases hlt : k < s.size
    · go_wp2
      · exact ⟨⟨k + 1, r ++ dup [s[k]], by omega, by go_num, val_str (text_quote s k hlt r ‹_›), text_go s k hlt r hr⟩, by simp [intOf]; omega⟩
      · exact ⟨⟨k + 1, r ++ dup [s[k]], by omega, by go_num, val_str (text_plain s k hlt r ‹_›), text_go s k hlt r hr⟩, by simp [intOf]; omega⟩
    · go_wp2
      go_ret
      refine ⟨ret_str ?_, by go_grown⟩
      rw [show r = 39 :: dup (s.data.toList.take k) from hr, List.take_of_length_le (by rw [len_data]; omega), print3]
      apply WideShapes.bytes_inj
      simp

set_option maxHeartbeats 1000000 in
theorem refPrint_any (k n : Int) (s : ByteArray) (w : World) (h1 : -9223372036854775808 ≤ n) (h2 : n ≤ 9223372036854775807) (hs : s.size ≤ 1048576) :
    Calls Tryz.prog 6 #[.agg #[.int .i64 k, .int .i64 n, .string s]] w fun e w' => e = .returned (.string ⟨(printL k n s).toArray⟩) ∧ Below w.heap.size w w' := by
  by_cases k1 : k = 1
  · subst k1
    go_enter Tryz.func6, Tryz.ntmps6
    go_wp2_with (go_at_call 9; refine (digits_any _ _ h1 h2).mono ?_; rintro e w' ⟨rfl, hb⟩)
    go_ret
    exact ⟨rfl, below_through hb (by simp) ((Below.refl _ _).alloc (Nat.le_refl _) _)⟩
  by_cases k2 : k = 2
  · subst k2
    go_enter Tryz.func6, Tryz.ntmps6
    go_wp2
    · go_ret
      exact ⟨ret_str (by rw [print2, show (n == 1) = true by first | assumption | (simp; assumption)]; rfl), by go_grown⟩
    · go_ret
      exact ⟨ret_str (by rw [print2, show (n == 1) = false by first | assumption | (simp; assumption)]; rfl), by go_grown⟩
  by_cases k3 : k = 3
  · subst k3
    exact refPrint_text n s w hs
  · have k1' : (k == 1) = false := by simpa using k1
    have k2' : (k == 2) = false := by simpa using k2
    have k3' : (k == 3) = false := by simpa using k3
    go_enter Tryz.func6, Tryz.ntmps6
    go_wp2
    go_ret
    exact ⟨ret_str (by rw [printL_other k1 k2 k3]; rfl), by go_grown⟩
end Go.Proofs.YtneebnankghhgacGreatDoor

/- Values as they are written, as words, plainly: a text is one word, a number one or a sign and one, a truth and nothing a word of the language. Nothing of any program here: lemmas on lists. Conditions: each lemma names its own. -/
namespace Go.Proofs.YtneebnankghhgacGreatDoor
open Go.RowKit

theorem txR_dup : ∀ (l : List UInt8), txR (dup l ++ [39]) = some (l, (dup l).length + 1)
  | [] => by simp [dup, txR]
  | c :: l => by
    by_cases hc : c = 39
    · subst hc
      have ih := txR_dup l
      have e : dup (39 :: l) = 39 :: 39 :: dup l := by simp [dup]
      rw [e]
      show txR (39 :: 39 :: (dup l ++ [39])) = _
      rw [txR_two, ih]
      simp
    · have ih := txR_dup l
      have e : dup (c :: l) = c :: dup l := by simp [dup, hc]
      rw [e]
      show txR (c :: (dup l ++ [39])) = _
      rw [txR_plain hc, ih]
      simp
theorem digitB_is (c : UInt8) : digitB c = isD c := by
  unfold digitB isD
  rw [Bool.decide_and]
theorem decV_dec : ∀ u : Nat, decV (Lib.decDigits u) = u := by
  intro u
  induction u using Nat.strongRecOn with
  | ind u ih =>
    rw [dec_step, decV_snoc]
    have e : (UInt8.ofNat (48 + u % 10)).toNat = 48 + u % 10 := by simp [UInt8.toNat_ofNat']; omega
    rw [e]
    by_cases h0 : u / 10 = 0
    · rw [preD, if_pos h0]
      show 10 * 0 + _ = _
      omega
    · rw [preD_pos h0, ih (u / 10) (by omega)]
      omega
theorem cnt_every {p : UInt8 → Bool} : ∀ {l : List UInt8}, (∀ c ∈ l, p c = true) → cnt p l = l.length
  | [], _ => rfl
  | c :: l, h => by
    simp only [cnt, h c (by simp), if_true, List.length_cons]
    rw [cnt_every (fun d hd => h d (List.mem_cons_of_mem _ hd))]
theorem dec_nought : ∀ u : Nat, u ≠ 0 → (Lib.decDigits u).head? ≠ some 48 := by
  intro u
  induction u using Nat.strongRecOn with
  | ind u ih =>
    intro h
    rw [dec_step]
    by_cases h0 : u / 10 = 0
    · rw [preD, if_pos h0]
      simp
      intro e
      have := congrArg UInt8.toNat e
      simp [UInt8.toNat_ofNat'] at this
      omega
    · rw [preD_pos h0]
      have h1 := ih (u / 10) (by omega) h0
      obtain ⟨c, l, e, _⟩ := dec_head (u / 10)
      rw [e] at h1 ⊢
      simpa using h1
theorem isD_notL {c : UInt8} (h : isD c = true) : isL c = false := by
  simp only [isD, Bool.and_eq_true, decide_eq_true_eq] at h
  simp only [isL, Bool.or_eq_false_iff, Bool.and_eq_false_iff, decide_eq_false_iff_not]
  omega
/-- A number's digits are one word. -/
theorem word_dec {u : Nat} (hu : u ≤ 9223372036854775808) : wordM (Lib.decDigits u) = (⟨2, [], u, 0⟩, (Lib.decDigits u).length) := by
  have hall : ∀ c ∈ Lib.decDigits u, isD c = true := fun c hc => by rw [← digitB_is]; exact dec_digits u c hc
  obtain ⟨c, l, e, hc⟩ := dec_head u
  have hD : isD c = true := by rw [← digitB_is]; exact hc
  have hcnt := cnt_every hall
  have hN : numN (Lib.decDigits u) = u := by unfold numN; rw [hcnt, List.take_of_length_le (Nat.le_refl _), decV_dec]
  have hb : numBad (Lib.decDigits u) = false := by
    unfold numBad
    rw [hcnt, hN, List.getElem?_eq_none (Nat.le_refl _)]
    have a : (decide (1 < (Lib.decDigits u).length) && decide ((Lib.decDigits u).head? = some 48)) = false := by
      by_cases h0 : u = 0
      · subst h0; rw [Lib.decDigits_one (by omega)]; decide
      · simp [dec_nought u h0]
    rw [a]
    simp
    exact hu
  rw [e] at hcnt hN hb ⊢
  rw [word_num (isD_notL hD) hD, hb]
  simp only [Bool.false_eq_true, if_false]
  rw [hN, hcnt]
theorem lexM_word {f i : Nat} {c : UInt8} {r : List UInt8} {acc : List Wd} {x : Wd} (hc : c ≠ 32) (hw : wordM (c :: r) = (x, (c :: r).length)) (h1 : acc.length ≠ 512) : lexM (f + 2) i (c :: r) acc = .ok (acc ++ [x.put i]) := by
  rw [lexM_more hc (by rw [hw]; simp) h1, hw]
  simp only
  rw [List.drop_eq_nil_of_le (Nat.le_refl _), lexM_end]
theorem lexR_word {c : UInt8} {r : List UInt8} {x : Wd} (hc : c ≠ 32) (hw : wordM (c :: r) = (x, (c :: r).length)) (hl : (c :: r).length ≤ 2048) : lexR (c :: r) = .ok [x.put 0] := by
  unfold lexR
  rw [if_neg (by omega)]
  have : (c :: r).length + 1 = r.length + 2 := rfl
  rw [this, lexM_word hc hw (by simp)]
  rfl
theorem dec_long : ∀ (n u : Nat), u < 10 ^ n → (Lib.decDigits u).length ≤ n + 1
  | 0, u, h => by
    have : u = 0 := by simpa using h
    subst this; rw [Lib.decDigits_one (by omega)]; decide
  | n + 1, u, h => by
    rw [dec_step, List.length_append]
    by_cases h0 : u / 10 = 0
    · rw [preD, if_pos h0]; simp
    · rw [preD_pos h0]
      have := dec_long n (u / 10) (by rw [Nat.pow_succ] at h; omega)
      simp; omega
theorem dec_len {u : Nat} (hu : u ≤ 9223372036854775808) : (Lib.decDigits u).length ≤ 21 := dec_long 20 u (by have : (10 : Nat) ^ 20 = 100000000000000000000 := by decide
                                                                                                              omega)
theorem lexR_dec {u : Nat} (hu : u ≤ 9223372036854775808) : lexR (Lib.decDigits u) = .ok [⟨2, [], u, 0⟩] := by
  have hw := word_dec hu
  have hl := dec_len hu
  obtain ⟨c, l, e, hc⟩ := dec_head u
  rw [e] at hw hl ⊢
  have h32 : c ≠ 32 := fun e => by rw [e] at hc; exact absurd hc (by decide)
  exact lexR_word h32 hw (by omega)
theorem lexR_neg {u : Nat} (hu : u ≤ 9223372036854775808) : lexR (45 :: Lib.decDigits u) = .ok [⟨4, [45], 0, 0⟩, ⟨2, [], u, 1⟩] := by
  have hw := word_dec hu
  have hl := dec_len hu
  obtain ⟨c, l, e, hc⟩ := dec_head u
  rw [e] at hw hl ⊢
  have h32 : c ≠ 32 := fun e => by rw [e] at hc; exact absurd hc (by decide)
  unfold lexR
  rw [if_neg (by simp at hl ⊢; omega)]
  have hs : sgS (45 :: c :: l) = 1 := sgS_else (by rintro (⟨h, _⟩ | ⟨h, _⟩ | ⟨h, _⟩) <;> exact absurd h (by decide))
  have h4 : wordM (45 :: c :: l) = (⟨4, [45], 0, 0⟩, 1) := by
    rw [word_sign (by decide) (by decide) (by decide) (by decide), hs]; rfl
  have hle : (45 :: c :: l).length + 1 = (l.length + 2) + 1 := rfl
  rw [hle, lexM_more (by decide) (by rw [h4]; simp) (by simp), h4]
  show lexM (l.length + 2) 1 (c :: l) [⟨4, [45], 0, 0⟩] = _
  rw [lexM_word h32 hw (by simp)]
  rfl
theorem lexR_text {l : List UInt8} (hl : l.length ≤ 64) : lexR (39 :: (dup l ++ [39])) = .ok [⟨3, l, 0, 0⟩] := by
  have hd := dup_length l
  refine lexR_word (x := ⟨3, l, 0, 0⟩) (by decide) ?_ (by simp; omega)
  rw [word_text (by decide) (by decide) rfl, txR_dup]
  simp
theorem lexR_null : lexR nullB = .ok [⟨1, nullB, 0, 0⟩] := by decide +kernel
theorem lexR_truth (b : Bool) : lexR (truthB b) = .ok [⟨1, truthB b, 0, 0⟩] := by cases b <;> decide +kernel
theorem taken_null : takenB nullB = true := by decide +kernel
theorem taken_truth (b : Bool) : takenB (truthB b) = true := by cases b <;> decide +kernel
end Go.Proofs.YtneebnankghhgacGreatDoor

/- A command of words that stand side by side, with blanks or without, plainly: the words that a lexer makes of it; the words of a value as it is written. Nothing of any program here: lemmas on lists. Conditions: each lemma names its own. -/
namespace Go.Proofs.YtneebnankghhgacGreatDoor
open Go.RowKit

/-- What may stand behind a value's word: nothing, a blank, a bracket, a comma. -/
def Dl (r : List UInt8) : Prop := ∀ d, r.head? = some d → d = 32 ∨ d = 41 ∨ d = 44
theorem dl_cons {d : UInt8} (h : d = 32 ∨ d = 41 ∨ d = 44) (r : List UInt8) : Dl (d :: r) := fun x hx => by simp at hx; subst hx; exact h
theorem dl_nil : Dl [] := fun x hx => by simp at hx
theorem cnt_dl {p : UInt8 → Bool} (h1 : p 32 = false) (h2 : p 41 = false) (h3 : p 44 = false) {r : List UInt8} (hr : Dl r) : ∀ {l : List UInt8}, (∀ c ∈ l, p c = true) → cnt p (l ++ r) = l.length
  | [], _ => by
    cases r with
    | nil => rfl
    | cons d r =>
      have : p d = false := by rcases hr d rfl with rfl | rfl | rfl <;> assumption
      simp [cnt, this]
  | c :: l, h => by
    simp only [List.cons_append, cnt, h c (by simp), if_true, List.length_cons]
    rw [cnt_dl h1 h2 h3 hr (fun d hd => h d (List.mem_cons_of_mem _ hd))]
theorem word_nm {c : UInt8} {l r : List UInt8} (hr : Dl r) (hc : isL c = true) (hl : ∀ d ∈ l, isLD d = true) : wordM ((c :: l) ++ r) = (⟨1, c :: l, 0, 0⟩, (c :: l).length) := by
  have e : nmS (c :: (l ++ r)) = l.length + 1 := by
    simp only [nmS, hc, if_true]
    rw [cnt_dl (by decide) (by decide) (by decide) hr hl]
  rw [List.cons_append, word_name hc, e]
  simp
theorem word_dc {u : Nat} (hu : u ≤ 9223372036854775808) {r : List UInt8} (hr : Dl r) : wordM (Lib.decDigits u ++ r) = (⟨2, [], u, 0⟩, (Lib.decDigits u).length) := by
  have hall : ∀ c ∈ Lib.decDigits u, isD c = true := fun c hc => by rw [← digitB_is]; exact dec_digits u c hc
  obtain ⟨c, l, e, hc⟩ := dec_head u
  have hD : isD c = true := by rw [← digitB_is]; exact hc
  have hcnt := cnt_dl (p := isD) (by decide) (by decide) (by decide) hr hall
  have hN : numN (Lib.decDigits u ++ r) = u := by unfold numN; rw [hcnt, List.take_left, decV_dec]
  have hb : numBad (Lib.decDigits u ++ r) = false := by
    unfold numBad
    rw [hcnt, hN]
    have a : (decide (1 < (Lib.decDigits u).length) && decide ((Lib.decDigits u ++ r).head? = some 48)) = false := by
      by_cases h0 : u = 0
      · subst h0; rw [Lib.decDigits_one (by omega)]; simp
      · have := dec_nought u h0
        rw [e] at this ⊢
        simp at this
        simp [this]
    have b : ((Lib.decDigits u ++ r)[(Lib.decDigits u).length]?).any isL = false := by
      rw [List.getElem?_append_right (Nat.le_refl _), Nat.sub_self]
      cases r with
      | nil => rfl
      | cons d r => rcases hr d rfl with rfl | rfl | rfl <;> (simp; decide)
    rw [a, b]
    simp
    exact hu
  rw [e] at hcnt hN hb ⊢
  rw [List.cons_append] at hcnt hN hb ⊢
  rw [word_num (isD_notL hD) hD, hb]
  simp only [Bool.false_eq_true, if_false]
  rw [hN, hcnt]
theorem txR_dl {r : List UInt8} (hr : Dl r) : ∀ (l : List UInt8), txR (dup l ++ 39 :: r) = some (l, (dup l).length + 1)
  | [] => by
    show txR (39 :: r) = _
    rw [txR_end (fun d hd => by rcases hr d hd with rfl | rfl | rfl <;> decide)]
    rfl
  | c :: l => by
    have ih := txR_dl hr l
    by_cases hc : c = 39
    · subst hc
      have e : dup (39 :: l) = 39 :: 39 :: dup l := by simp [dup]
      rw [e]
      show txR (39 :: 39 :: (dup l ++ 39 :: r)) = _
      rw [txR_two, ih]
      simp
    · have e : dup (c :: l) = c :: dup l := by simp [dup, hc]
      rw [e]
      show txR (c :: (dup l ++ 39 :: r)) = _
      rw [txR_plain hc, ih]
      simp
theorem word_tx {l r : List UInt8} (hr : Dl r) : wordM ((39 :: (dup l ++ [39])) ++ r) = (⟨3, l, 0, 0⟩, (39 :: (dup l ++ [39])).length) := by
  have e : (39 :: (dup l ++ [39])) ++ r = 39 :: (dup l ++ 39 :: r) := by simp
  rw [e, word_text (by decide) (by decide) rfl, txR_dl hr]
  simp
theorem word_sg {c : UInt8} (h : c = 40 ∨ c = 41 ∨ c = 44 ∨ c = 45) (r : List UInt8) : wordM ([c] ++ r) = (⟨4, [c], 0, 0⟩, [c].length) := by
  have hs : sgS (c :: r) = 1 := by
    cases r with
    | nil => rfl
    | cons d r => rcases h with rfl | rfl | rfl | rfl <;> exact sgS_else (by rintro (⟨h, _⟩ | ⟨h, _⟩ | ⟨h, _⟩) <;> exact absurd h (by decide))
  have hw : wordM (c :: r) = (⟨4, (c :: r).take (sgS (c :: r)), 0, 0⟩, sgS (c :: r)) := by
    rcases h with rfl | rfl | rfl | rfl <;> exact word_sign (by decide) (by decide) (by decide) (by decide)
  show wordM (c :: r) = _
  rw [hw, hs]
  rfl

/-! ### Words side by side -/
/-- A part of a command: a blank, or a word. -/
abbrev Sg := List UInt8 × Option Wd
def sgT (S : List Sg) : List UInt8 := S.flatMap (·.1)
def sgW (S : List Sg) : List Wd := S.filterMap (·.2)
def SgOk : List Sg → List UInt8 → Prop
  | [], _ => True
  | (t, none) :: S, r => t = [32] ∧ SgOk S r
  | (t, some x) :: S, r => t ≠ [] ∧ t.head? ≠ some 32 ∧ wordM (t ++ (sgT S ++ r)) = (x, t.length) ∧ x.p = 0 ∧ SgOk S r
theorem sgT_cons (x : Sg) (S : List Sg) : sgT (x :: S) = x.1 ++ sgT S := rfl
theorem sgT_app (S S' : List Sg) : sgT (S ++ S') = sgT S ++ sgT S' := by simp [sgT]
theorem sgW_app (S S' : List Sg) : sgW (S ++ S') = sgW S ++ sgW S' := by simp [sgW]
theorem sg_app : ∀ {S S' : List Sg} {r : List UInt8}, SgOk S (sgT S' ++ r) → SgOk S' r → SgOk (S ++ S') r
  | [], _, _, _, h => h
  | (t, none) :: S, S', r, h, h' => ⟨h.1, sg_app h.2 h'⟩
  | (t, some x) :: S, S', r, h, h' => ⟨h.1, h.2.1, by have := h.2.2.1; show wordM (t ++ (sgT (S ++ S') ++ r)) = _; rw [sgT_app, List.append_assoc]; exact this, h.2.2.2.1, sg_app h.2.2.2.2 h'⟩
theorem put_p0 {x : Wd} {i : Nat} (h : x.p = 0) : (x.put i).put 0 = x := by
  cases x; simp only [Wd.put] at *; subst h; rfl
theorem lex_segs : ∀ (S : List Sg) (f i : Nat) (acc : List Wd), SgOk S [] → (sgT S).length < f → acc.length + (sgW S).length ≤ 512 → ∃ ws, lexM f i (sgT S) acc = .ok (acc ++ ws) ∧ ws.map (fun x => x.put 0) = sgW S
  | [], f, i, acc, _, hf, _ => by
    cases f with
    | zero => omega
    | succ f => exact ⟨[], by simp [sgT, lexM], rfl⟩
  | (t, none) :: S, f, i, acc, h, hf, hn => by
    obtain ⟨rfl, h⟩ := h
    cases f with
    | zero => omega
    | succ f =>
      have hl : (sgT (([32], none) :: S)).length = (sgT S).length + 1 := by rw [sgT_cons]; simp [Nat.add_comm]
      obtain ⟨ws, h1, h2⟩ := lex_segs S f (i + 1) acc h (by omega) hn
      refine ⟨ws, ?_, h2⟩
      show lexM (f + 1) i (32 :: sgT S) acc = _
      rw [lexM_blank]
      exact h1
  | (t, some x) :: S, f, i, acc, h, hf, hn => by
    obtain ⟨h0, h32, hw, hp, h⟩ := h
    rw [List.append_nil] at hw
    have hl : (sgT ((t, some x) :: S)).length = t.length + (sgT S).length := by rw [sgT_cons]; simp
    have hW : sgW ((t, some x) :: S) = x :: sgW S := rfl
    rw [hW, List.length_cons] at hn
    cases f with
    | zero => omega
    | succ f =>
      cases t with
      | nil => exact absurd rfl h0
      | cons c t =>
        have hc : c ≠ 32 := fun e => h32 (by rw [e]; rfl)
        simp only [List.length_cons] at hl
        obtain ⟨ws, h1, h2⟩ := lex_segs S f (i + (t.length + 1)) (acc ++ [x.put i]) h (by omega) (by simp; omega)
        refine ⟨x.put i :: ws, ?_, ?_⟩
        · show lexM (f + 1) i (c :: (t ++ sgT S)) acc = _
          have hw' : wordM (c :: (t ++ sgT S)) = (x, t.length + 1) := hw
          rw [lexM_more hc (by rw [hw']; simp) (by omega), hw']
          have hd : (c :: (t ++ sgT S)).drop (t.length + 1) = sgT S := by simp
          simp only
          rw [hd, h1]
          simp
        · rw [List.map_cons, h2, put_p0 hp, hW]
theorem lexR_segs {S : List Sg} (h : SgOk S []) (hl : (sgT S).length ≤ 2048) (hn : (sgW S).length ≤ 512) : ∃ ws, lexR (sgT S) = .ok ws ∧ ws.map (fun x => x.put 0) = sgW S := by
  unfold lexR
  rw [if_neg (by omega)]
  obtain ⟨ws, h1, h2⟩ := lex_segs S _ 0 [] h (Nat.lt_succ_self _) (by simpa using hn)
  exact ⟨ws, by simpa using h1, h2⟩

/-! ### A value's words -/
def wdN (s : List UInt8) : Wd := ⟨1, s, 0, 0⟩
def wdS (c : UInt8) : Wd := ⟨4, [c], 0, 0⟩
def sgOne (c : UInt8) : Sg := ([c], some (wdS c))
def sgBl : Sg := ([32], none)
def sgVal (v : Val) : List Sg :=
  if v.k = 1 then (if v.n < 0 then [sgOne 45, (Lib.decDigits (-v.n).toNat, some ⟨2, [], (-v.n).toNat, 0⟩)] else [(Lib.decDigits v.n.toNat, some ⟨2, [], v.n.toNat, 0⟩)])
  else if v.k = 2 then [(truthB (v.n == 1), some (wdN (truthB (v.n == 1))))]
  else if v.k = 3 then [(39 :: (dup v.s.data.toList ++ [39]), some ⟨3, v.s.data.toList, 0, 0⟩)]
  else [(nullB, some (wdN nullB))]
theorem itoa_neg {n : Int} (h : n < 0) : Lib.itoa n = 45 :: Lib.decDigits (-n).toNat := by
  unfold Lib.itoa; rw [if_pos h]
  try (congr 2; omega)
theorem itoa_pos {n : Int} (h : ¬ n < 0) : Lib.itoa n = Lib.decDigits n.toNat := by
  unfold Lib.itoa; rw [if_neg h]
  try (congr 1; omega)
theorem sgVal_text (v : Val) : sgT (sgVal v) = printL v.k v.n v.s := by
  unfold sgVal
  by_cases h1 : v.k = 1
  · rw [if_pos h1, h1, print1]
    by_cases h : v.n < 0
    · rw [if_pos h, itoa_neg h]; simp [sgT, sgOne]
    · rw [if_neg h, itoa_pos h]; simp [sgT]
  · rw [if_neg h1]
    by_cases h2 : v.k = 2
    · rw [if_pos h2, h2, print2]; simp [sgT]
    · rw [if_neg h2]
      by_cases h3 : v.k = 3
      · rw [if_pos h3, h3, print3]; simp [sgT]
      · rw [if_neg h3, printL, if_neg h1, if_neg h2, if_neg h3]; simp [sgT]
theorem sgVal_len (v : Val) : 1 ≤ (sgW (sgVal v)).length ∧ (sgW (sgVal v)).length ≤ 2 := by
  unfold sgVal
  repeat' split
  all_goals simp [sgW, sgOne]
theorem word_truth {b : Bool} {r : List UInt8} (hr : Dl r) : wordM (truthB b ++ r) = (wdN (truthB b), (truthB b).length) := by
  cases b
  · exact word_nm (c := 102) (l := [97, 108, 115, 101]) hr (by decide) (by decide)
  · exact word_nm (c := 116) (l := [114, 117, 101]) hr (by decide) (by decide)
theorem word_null {r : List UInt8} (hr : Dl r) : wordM (nullB ++ r) = (wdN nullB, nullB.length) :=
  word_nm (c := 110) (l := [117, 108, 108]) hr (by decide) (by decide)
theorem dec_not32 (u : Nat) : Lib.decDigits u ≠ [] ∧ (Lib.decDigits u).head? ≠ some 32 := by
  obtain ⟨c, l, e, hc⟩ := dec_head u
  rw [e]
  exact ⟨by simp, fun h => by simp at h; subst h; exact absurd hc (by decide)⟩
theorem sgVal_ok {v : Val} (hn1 : -9223372036854775808 ≤ v.n) (hn2 : v.n ≤ 9223372036854775807) {r : List UInt8} (hr : Dl r) : SgOk (sgVal v) r := by
  unfold sgVal
  by_cases h1 : v.k = 1
  · rw [if_pos h1]
    by_cases h : v.n < 0
    · rw [if_pos h]
      have h2 := dec_not32 (-v.n).toNat
      exact ⟨by simp, by simp, word_sg (by simp) _, rfl, h2.1, h2.2, by simpa [sgT] using word_dc (u := (-v.n).toNat) (by omega) hr, rfl, trivial⟩
    · rw [if_neg h]
      have h2 := dec_not32 v.n.toNat
      exact ⟨h2.1, h2.2, by simpa [sgT] using word_dc (u := v.n.toNat) (by omega) hr, rfl, trivial⟩
  · rw [if_neg h1]
    by_cases h2 : v.k = 2
    · rw [if_pos h2]
      exact ⟨by cases (v.n == 1) <;> decide, by cases (v.n == 1) <;> decide, by simpa [sgT] using word_truth hr, rfl, trivial⟩
    · rw [if_neg h2]
      by_cases h3 : v.k = 3
      · rw [if_pos h3]
        exact ⟨by simp, by simp, word_tx hr, rfl, trivial⟩
      · rw [if_neg h3]
        exact ⟨by decide, by decide, by simpa [sgT] using word_null hr, rfl, trivial⟩
end Go.Proofs.YtneebnankghhgacGreatDoor
