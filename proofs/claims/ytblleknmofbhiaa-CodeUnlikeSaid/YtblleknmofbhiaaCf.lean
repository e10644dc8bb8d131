/- The project's layer 3: the value that bytes begin with, as a page has them, and what is behind it: contracts of the calls, in whatever memory. Conditions: the bytes are a string's. -/
import Derived.Test.YtblleknmofbhiaaRh
namespace Go.Proofs.Ytblleknmofbhiaa
open Go.RowKit

/-- What is answered: the value, what is behind it, and whether there is one. -/
def takeA (v : Val) (rest : List UInt8) (ok : Bool) : Value := .tuple #[vA v, .string (txt rest), .bool ok]
theorem takeA_none : takeA noV [] false = .tuple #[.agg #[.int .i64 0, .int .i64 0, .string ⟨#[]⟩], .string ⟨#[]⟩, .bool false] := rfl

theorem shl_or (d c : Nat) (hd : d < 72057594037927936) (hc : c < 256) : bits BinOp.or IntKind.u64 ((d : Int) * 256) (c : Int) = ((256 * d + c : Nat) : Int) := by
  have e1 : ((d : Int) * 256 % ((2 ^ 64 : Nat) : Int)).toNat = d * 256 := by omega
  have e2 : ((c : Int) % ((2 ^ 64 : Nat) : Int)).toNat = c := by omega
  have e3 : d * 256 ||| c = 256 * d + c := by
    have h := Nat.shiftLeft_add_eq_or_of_lt (b := c) (i := 8) hc d
    rw [Nat.shiftLeft_eq, show (2 : Nat) ^ 8 = 256 from rfl] at h
    omega
  have e : (BitVec.ofInt 64 ((d : Int) * 256) ||| BitVec.ofInt 64 (c : Int)).toNat = 256 * d + c := by
    rw [BitVec.toNat_or, BitVec.toNat_ofInt, BitVec.toNat_ofInt, e1, e2, e3]
  have e4 : bits BinOp.or IntKind.u64 ((d : Int) * 256) (c : Int) = IntKind.u64.wrap ((BitVec.ofInt 64 ((d : Int) * 256) ||| BitVec.ofInt 64 (c : Int)).toNat : Int) := rfl
  rw [e4, e, IntKind.wrap_u64]; omega

set_option maxHeartbeats 1000000 in
theorem takeWord_any (l : List UInt8) (w : World) (hl : 8 ≤ l.length) :
    Calls Try.prog 39 #[.string (txt l)] w fun e w' => e = .returned (.tuple #[.int .u64 (decBE (l.take 8) : Nat), .string (txt (l.drop 8)), .bool true]) ∧ Below w.heap.size w w' := by
  have hsize := txt_size l
  go_enter Try.func39, Try.ntmps39
  go_wp2
  go_loopw [5, 10] (fun u i wr => ∃ k : Nat, k ≤ 8 ∧ i = .int .i64 k ∧ u = .int .u64 (decBE (l.take k) : Nat) ∧ wr = w) (fun _ i _ => 8 - (intOf i).toNat)
  case atStart => exact ⟨0, by omega, rfl, rfl, rfl⟩
  case round =>
    obtain ⟨k, hk, rfl, rfl, rfl⟩ := hrel
    by_cases hlt : k < 8
    · have hlt' : k < l.length := by omega
      have hb := (l[k]).toNat_lt
      have hd := decBE_lt (l.take k)
      rw [List.length_take, Nat.min_eq_left (by omega)] at hd
      have hp : 256 ^ k ≤ 256 ^ 7 := Nat.pow_le_pow_right (by omega) (by omega)
      have hd' : decBE (l.take k) < 72057594037927936 := by omega
      clear hd hp
      have hget : ∀ h, (txt l)[k]'h = l[k] := fun h => rfl
      have hso := shl_or _ _ hd' hb
      have hnx := dec_next l k hlt'
      go_wp2
      exact ⟨⟨k + 1, by omega, by go_num, by rw [hnx]; exact congrArg (Value.int IntKind.u64) hso, trivial⟩, by simp [intOf]; omega⟩
    · have hcut : ∀ W : World, (Instr.slice 9 (.string (txt l)) (some (.int .i64 8)) none none).run Try.prog W = .ok (.string (txt (l.drop 8))) W := fun W => by
        rw [cut_from _ _ W (by omega) (by omega)]; rfl
      go_wp2_with fail
      go_region
      go_wp2
      go_returns
      obtain rfl : k = 8 := by omega
      exact ⟨rfl, (Below.refl _ _).drew⟩

set_option maxHeartbeats 1000000 in
theorem takeWord_few (l : List UInt8) (w : World) (hl : l.length < 8) :
    Calls Try.prog 39 #[.string (txt l)] w fun e w' => e = .returned (.tuple #[.int .u64 0, .string ⟨#[]⟩, .bool false]) ∧ Below w.heap.size w w' := by
  have hsize := txt_size l
  go_enter Try.func39, Try.ntmps39
  go_wp2
  go_returns
  exact ⟨rfl, Below.refl _ _⟩

set_option maxHeartbeats 1000000 in
theorem takeTruth_nil (w : World) :
    Calls Try.prog 40 #[.string (txt [])] w fun e w' => e = .returned (takeA noV [] false) ∧ Below w.heap.size w w' := by
  have he : (txt []).toList.isEmpty = true := by rw [ByteArray.toList_eq]; rfl
  go_enter Try.func40, Try.ntmps40
  go_wp2
  refine bodyPost_ret (v := takeA noV [] false) (by simp [takeA, vA, noV, results, Try.results40, go_sem]; rfl) rfl ⟨rfl, by go_grown⟩

set_option maxHeartbeats 1000000 in
theorem takeTruth_any (c : UInt8) (r : List UInt8) (w : World) (hl : r.length < 9223372036854775806) :
    Calls Try.prog 40 #[.string (txt (c :: r))] w fun e w' => e = .returned (takeA ⟨2, c.toNat, txt []⟩ r true) ∧ Below w.heap.size w w' := by
  have he : (txt (c :: r)).toList.isEmpty = false := by rw [ByteArray.toList_eq]; rfl
  have hz : (txt (c :: r)).size = r.length + 1 := by rw [txt_size]; rfl
  have hget : ∀ h, (txt (c :: r))[0]'h = c := fun h => rfl
  have hb := c.toNat_lt
  have hw0 : IntKind.i64.wrap (c.toNat : Int) = (c.toNat : Int) := IntWalk.i64_in _ (by omega)
  have hcut : ∀ W : World, (Instr.slice 9 (.string (txt (c :: r))) (some (.int .i64 1)) none none).run Try.prog W = .ok (.string (txt r)) W := fun W => by
    rw [cut_from _ _ W (by omega) (by rw [List.length_cons]; omega)]; rfl
  have hpos : (0 : Int) < (r.length : Int) + 1 := by omega
  go_enter Try.func40, Try.ntmps40
  go_wp2_with fail
  go_region
  go_wp2
  exact bodyPost_ret (v := takeA ⟨2, c.toNat, txt []⟩ r true) (by simp [takeA, vA, results, Try.results40, go_sem]; rfl) rfl ⟨rfl, by go_grown⟩

set_option maxHeartbeats 1000000 in
theorem takeCounted_nil (w : World) :
    Calls Try.prog 41 #[.string (txt [])] w fun e w' => e = .returned (takeA noV [] false) ∧ Below w.heap.size w w' := by
  have he : (txt []).toList.isEmpty = true := by rw [ByteArray.toList_eq]; rfl
  go_enter Try.func41, Try.ntmps41
  go_wp2
  refine bodyPost_ret (v := takeA noV [] false) (by simp [takeA, vA, noV, results, Try.results41, go_sem]; rfl) rfl ⟨rfl, by go_grown⟩

set_option maxHeartbeats 1000000 in
theorem takeCounted_any (c : UInt8) (r : List UInt8) (w : World) (hl : r.length < 9223372036854775806) :
    Calls Try.prog 41 #[.string (txt (c :: r))] w fun e w' => e = .returned (if r.length < c.toNat then takeA noV [] false else takeA ⟨3, 0, txt (r.take c.toNat)⟩ (r.drop c.toNat) true) ∧ Below w.heap.size w w' := by
  have he : (txt (c :: r)).toList.isEmpty = false := by rw [ByteArray.toList_eq]; rfl
  have hz : (txt (c :: r)).size = r.length + 1 := by rw [txt_size]; rfl
  have hzr : (txt r).size = r.length := txt_size r
  have hget : ∀ h, (txt (c :: r))[0]'h = c := fun h => rfl
  have hb := c.toNat_lt
  have hw0 : IntKind.i64.wrap (c.toNat : Int) = (c.toNat : Int) := IntWalk.i64_in _ (by omega)
  have hcut : ∀ W : World, (Instr.slice 9 (.string (txt (c :: r))) (some (.int .i64 1)) none none).run Try.prog W = .ok (.string (txt r)) W := fun W => by
    rw [cut_from _ _ W (by omega) (by rw [List.length_cons]; omega)]; rfl
  have hpos : (0 : Int) < (r.length : Int) + 1 := by omega
  by_cases hlt : r.length < c.toNat
  · rw [if_pos hlt]
    go_enter Try.func41, Try.ntmps41
    go_wp2_with fail
    go_region
    go_wp2
    exact bodyPost_ret (v := takeA noV [] false) (by simp [takeA, vA, noV, results, Try.results41, go_sem]; rfl) rfl ⟨rfl, by go_grown⟩
  · rw [if_neg hlt]
    have hge : (c.toNat : Int) ≤ (r.length : Int) := by omega
    have hge0 : (0 : Int) ≤ (c.toNat : Int) := by omega
    have hc1 : ∀ W : World, (Instr.slice 9 (.string (txt r)) none (some (.int .i64 (c.toNat : Int))) none).run Try.prog W = .ok (.string (txt (r.take c.toNat))) W := fun W => by
      rw [run_slice_string_h W 9 (txt r) Try.underlying9 .i64 (c.toNat : Int) (by omega) (by omega), txt_cut, Int.toNat_natCast]; rfl
    have hc2 : ∀ W : World, (Instr.slice 9 (.string (txt r)) (some (.int .i64 (c.toNat : Int))) none none).run Try.prog W = .ok (.string (txt (r.drop c.toNat))) W := fun W => by
      rw [cut_from _ _ W (by omega) (by omega), Int.toNat_natCast]
    go_enter Try.func41, Try.ntmps41
    go_wp2_with fail
    go_region
    go_wp2_with fail
    go_region
    go_wp2
    exact bodyPost_ret (v := takeA ⟨3, 0, txt (r.take c.toNat)⟩ (r.drop c.toNat) true) (by simp [takeA, vA, results, Try.results41, go_sem]) rfl ⟨rfl, by go_grown⟩

/-- What a function that takes a value must do: dec tells it; or what it takes may not be. -/
def Taken (dec : List UInt8 → Option (Val × Nat)) (s : List UInt8) (v : Val) (rest : List UInt8) (ok : Bool) : Prop :=
  v.s.size ≤ maxLen ∧ ((dec s = none ∧ (ok = false ∨ chk v.k v.n v.s ≠ 0)) ∨ ∃ m, dec s = some (v, m) ∧ ok = true ∧ rest = s.drop m)
theorem taken_not {dec : List UInt8 → Option (Val × Nat)} {s : List UInt8} (k n : Int) (rest : List UInt8) (h : dec s = none) : Taken dec s ⟨k, n, txt []⟩ rest false := ⟨Nat.zero_le _, .inl ⟨h, .inl rfl⟩⟩
theorem taken_is {dec : List UInt8 → Option (Val × Nat)} {s rest : List UInt8} {v : Val} {m : Nat} (hv : v.s.size ≤ maxLen) (h : dec s = some (v, m)) (hr : rest = s.drop m) : Taken dec s v rest true := ⟨hv, .inr ⟨m, h, rfl, hr⟩⟩
theorem taken_bad {dec : List UInt8 → Option (Val × Nat)} {s rest : List UInt8} {v : Val} {ok : Bool} (hv : v.s.size ≤ maxLen) (h : dec s = none) (hc : chk v.k v.n v.s ≠ 0) : Taken dec s v rest ok := ⟨hv, .inl ⟨h, .inr hc⟩⟩

theorem taken_truth {dec : List UInt8 → Option (Val × Nat)} {s rest : List UInt8} (c : UInt8) (h1 : c.toNat ≤ 1 → dec s = some (⟨2, c.toNat, txt []⟩, 2)) (h2 : ¬ c.toNat ≤ 1 → dec s = none) (hr : rest = s.drop 2) : Taken dec s ⟨2, c.toNat, txt []⟩ rest true := by
  by_cases hc : c.toNat ≤ 1
  · exact taken_is (Nat.zero_le _) (h1 hc) hr
  · exact taken_bad (Nat.zero_le _) (h2 hc) (by unfold chk; simp; omega)

theorem taken_counted (c : UInt8) (r : List UInt8) (h : c.toNat ≤ r.length) : Taken rowD (3 :: c :: r) ⟨3, 0, txt (r.take c.toNat)⟩ (r.drop c.toNat) true := by
  have hb := c.toNat_lt
  have hsz : (txt (r.take c.toNat)).size = c.toNat := by rw [txt_size, List.length_take]; omega
  by_cases hc : c.toNat ≤ 64
  · refine taken_is (m := 2 + c.toNat) (by show (txt (r.take c.toNat)).size ≤ maxLen; rw [hsz]; unfold maxLen; omega) ((rowD_text c r).trans (if_pos ⟨hc, h⟩)) ?_
    rw [show 2 + c.toNat = c.toNat + 1 + 1 by omega, List.drop_succ_cons, List.drop_succ_cons]
  · refine taken_bad (by show (txt (r.take c.toNat)).size ≤ maxLen; rw [hsz]; unfold maxLen; omega) ((rowD_text c r).trans (if_neg (by omega))) ?_
    show chk 3 0 (txt (r.take c.toNat)) ≠ 0
    unfold chk
    rw [hsz]; simp; omega
set_option maxHeartbeats 4000000 in
theorem takePlain_any (b : UInt8) (r : List UInt8) (w : World) (hl : r.length ≤ 140737488351232) :
    Calls Try.prog 25 #[.string (txt (b :: r))] w fun e w' => (∃ v rest ok, e = .returned (takeA v rest ok) ∧ Taken rowD (b :: r) v rest ok) ∧ Below w.heap.size w w' := by
  have hz : (txt (b :: r)).size = r.length + 1 := by rw [txt_size]; rfl
  have hzr : (txt r).size = r.length := txt_size r
  have hget : ∀ h, (txt (b :: r))[0]'h = b := fun h => rfl
  have hb := b.toNat_lt
  have hw0 : IntKind.i64.wrap (b.toNat : Int) = (b.toNat : Int) := IntWalk.i64_in _ (by omega)
  have hcut : ∀ W : World, (Instr.slice 9 (.string (txt (b :: r))) (some (.int .i64 1)) none none).run Try.prog W = .ok (.string (txt r)) W := fun W => by
    rw [cut_from _ _ W (by omega) (by rw [List.length_cons]; omega)]; rfl
  have hpos : (0 : Int) < (r.length : Int) + 1 := by omega
  by_cases b0 : b = 0
  · subst b0
    go_enter Try.func25, Try.ntmps25
    go_wp2_with fail
    go_region
    go_wp2
    exact bodyPost_ret (v := takeA noV r true) (by simp [takeA, vA, noV, results, Try.results25, go_sem]) rfl ⟨⟨_, _, _, rfl, taken_is (Nat.zero_le _) (rowD_none r) rfl⟩, by go_grown⟩
  by_cases b1 : b = 1
  · subst b1
    by_cases h8 : 8 ≤ r.length
    · have hl8 : (r.take 8).length = 8 := by rw [List.length_take]; omega
      have hw : wrap64 (decBE (r.take 8) : Int) = sn64 (decBE (r.take 8)) := wrap64_s64 _ (by have := decBE_lt (r.take 8); rwa [hl8] at this)
      go_enter Try.func25, Try.ntmps25
      go_wp2_with fail
      go_region
      go_wp2_with (go_at_call 39; go_must (refine (takeWord_any r _ h8).mono ?_; rintro e w1 ⟨rfl, hbn⟩; obtain ⟨hc, hf⟩ := below_cells hbn; have hz2 : w.heap.size < w1.heap.size := (by have := hbn.size; (try simp at this); omega); have c0 : w1.cell? ⟨w.heap.size, 0, none⟩ = some (.int .i64 0) := (by go_cell); have c1 : w1.cell? ⟨w.heap.size, 1, none⟩ = some (.int .i64 0) := (by go_cell); have c2 : w1.cell? ⟨w.heap.size, 2, none⟩ = some (.string ⟨#[]⟩) := (by go_cell); clear hc))
      exact bodyPost_ret (v := takeA ⟨1, sn64 (decBE (r.take 8)), txt []⟩ (r.drop 8) true) (by simp [takeA, vA, results, Try.results25, go_sem, c0, c1, c2] <;> rfl) rfl ⟨⟨_, _, _, rfl, taken_is (Nat.zero_le _) ((rowD_int r).trans (if_pos h8)) rfl⟩, Below.setCell (Below.setCell (Below.setCell (below_through hbn (by simp) (by go_grown)) (by simp) _) (by simp) _) (by simp) _⟩
    · have h8' : r.length < 8 := by omega
      go_enter Try.func25, Try.ntmps25
      go_wp2_with fail
      go_region
      go_wp2_with (go_at_call 39; go_must (refine (takeWord_few r _ h8').mono ?_; rintro e w1 ⟨rfl, hbn⟩; obtain ⟨hc, hf⟩ := below_cells hbn; have hz2 : w.heap.size < w1.heap.size := (by have := hbn.size; (try simp at this); omega); have c0 : w1.cell? ⟨w.heap.size, 0, none⟩ = some (.int .i64 0) := (by go_cell); have c1 : w1.cell? ⟨w.heap.size, 1, none⟩ = some (.int .i64 0) := (by go_cell); have c2 : w1.cell? ⟨w.heap.size, 2, none⟩ = some (.string ⟨#[]⟩) := (by go_cell); clear hc))
      exact bodyPost_ret (v := takeA ⟨1, 0, txt []⟩ [] false) (by simp [takeA, vA, results, Try.results25, go_sem, c0, c1, c2] <;> rfl) rfl ⟨⟨_, _, _, rfl, taken_not 1 0 [] ((rowD_int r).trans (if_neg h8))⟩, Below.setCell (Below.setCell (Below.setCell (below_through hbn (by simp) (by go_grown)) (by simp) _) (by simp) _) (by simp) _⟩
  by_cases b2 : b = 2
  · subst b2
    cases r with
    | nil =>
      have C0 : ∀ W, Calls Try.prog 40 #[.string (txt [])] W fun e w' => e = .returned (.tuple #[.agg #[.int .i64 0, .int .i64 0, .string ⟨#[]⟩], .string ⟨#[]⟩, .bool false]) ∧ Below W.heap.size W w' := fun W => takeTruth_nil W
      go_enter Try.func25, Try.ntmps25
      go_wp2_with fail
      go_region
      go_wp2_with (go_at_call 40; go_must (refine (C0 _).mono ?_; rintro e w1 ⟨rfl, hbn⟩; obtain ⟨hc, hf⟩ := below_cells hbn; have hz2 : w.heap.size < w1.heap.size := (by have := hbn.size; (try simp at this); omega); have c0 : w1.cell? ⟨w.heap.size, 0, none⟩ = some (.int .i64 0) := (by go_cell); have c1 : w1.cell? ⟨w.heap.size, 1, none⟩ = some (.int .i64 0) := (by go_cell); have c2 : w1.cell? ⟨w.heap.size, 2, none⟩ = some (.string ⟨#[]⟩) := (by go_cell); clear hc))
      exact bodyPost_ret (v := takeA noV [] false) (by simp [takeA, vA, noV, results, Try.results25, go_sem, c0, c1, c2] <;> rfl) rfl ⟨⟨_, _, _, rfl, taken_not 0 0 [] rfl⟩, Below.setCell (Below.setCell (Below.setCell (below_through hbn (by simp) (by go_grown)) (by simp) _) (by simp) _) (by simp) _⟩
    | cons c r =>
      have hlc : r.length < 9223372036854775806 := by rw [List.length_cons] at hl; omega
      have C0 : ∀ W, Calls Try.prog 40 #[.string (txt (c :: r))] W fun e w' => e = .returned (.tuple #[.agg #[.int .i64 2, .int .i64 (c.toNat : Int), .string ⟨#[]⟩], .string (txt r), .bool true]) ∧ Below W.heap.size W w' := fun W => takeTruth_any c r W hlc
      go_enter Try.func25, Try.ntmps25
      go_wp2_with fail
      go_region
      go_wp2_with (go_at_call 40; go_must (refine (C0 _).mono ?_; rintro e w1 ⟨rfl, hbn⟩; obtain ⟨hc, hf⟩ := below_cells hbn; have hz2 : w.heap.size < w1.heap.size := (by have := hbn.size; (try simp at this); omega); have c0 : w1.cell? ⟨w.heap.size, 0, none⟩ = some (.int .i64 0) := (by go_cell); have c1 : w1.cell? ⟨w.heap.size, 1, none⟩ = some (.int .i64 0) := (by go_cell); have c2 : w1.cell? ⟨w.heap.size, 2, none⟩ = some (.string ⟨#[]⟩) := (by go_cell); clear hc))
      exact bodyPost_ret (v := takeA ⟨2, c.toNat, txt []⟩ r true) (by simp [takeA, vA, results, Try.results25, go_sem, c0, c1, c2] <;> rfl) rfl ⟨⟨_, _, _, rfl, taken_truth c (fun h => (rowD_bool c r).trans (if_pos h)) (fun h => (rowD_bool c r).trans (if_neg h)) rfl⟩, Below.setCell (Below.setCell (Below.setCell (below_through hbn (by simp) (by go_grown)) (by simp) _) (by simp) _) (by simp) _⟩
  by_cases b3 : b = 3
  · subst b3
    cases r with
    | nil =>
      have C0 : ∀ W, Calls Try.prog 41 #[.string (txt [])] W fun e w' => e = .returned (.tuple #[.agg #[.int .i64 0, .int .i64 0, .string ⟨#[]⟩], .string ⟨#[]⟩, .bool false]) ∧ Below W.heap.size W w' := fun W => takeCounted_nil W
      go_enter Try.func25, Try.ntmps25
      go_wp2_with fail
      go_region
      go_wp2_with (go_at_call 41; go_must (refine (C0 _).mono ?_; rintro e w1 ⟨rfl, hbn⟩; obtain ⟨hc, hf⟩ := below_cells hbn; have hz2 : w.heap.size < w1.heap.size := (by have := hbn.size; (try simp at this); omega); have c0 : w1.cell? ⟨w.heap.size, 0, none⟩ = some (.int .i64 0) := (by go_cell); have c1 : w1.cell? ⟨w.heap.size, 1, none⟩ = some (.int .i64 0) := (by go_cell); have c2 : w1.cell? ⟨w.heap.size, 2, none⟩ = some (.string ⟨#[]⟩) := (by go_cell); clear hc))
      exact bodyPost_ret (v := takeA noV [] false) (by simp [takeA, vA, noV, results, Try.results25, go_sem, c0, c1, c2] <;> rfl) rfl ⟨⟨_, _, _, rfl, taken_not 0 0 [] rfl⟩, Below.setCell (Below.setCell (Below.setCell (below_through hbn (by simp) (by go_grown)) (by simp) _) (by simp) _) (by simp) _⟩
    | cons c r =>
      have hlc : r.length < 9223372036854775806 := by rw [List.length_cons] at hl; omega
      have hct := c.toNat_lt
      by_cases hlt : r.length < c.toNat
      · have C : ∀ W, Calls Try.prog 41 #[.string (txt (c :: r))] W fun e w' => e = .returned (takeA noV [] false) ∧ Below W.heap.size W w' := fun W => by
          have h := takeCounted_any c r W hlc
          rwa [if_pos hlt] at h
        have C0 : ∀ W, Calls Try.prog 41 #[.string (txt (c :: r))] W fun e w' => e = .returned (.tuple #[.agg #[.int .i64 0, .int .i64 0, .string ⟨#[]⟩], .string ⟨#[]⟩, .bool false]) ∧ Below W.heap.size W w' := fun W => C W
        clear C
        go_enter Try.func25, Try.ntmps25
        go_wp2_with fail
        go_region
        go_wp2_with (go_at_call 41; go_must (refine (C0 _).mono ?_; rintro e w1 ⟨rfl, hbn⟩; obtain ⟨hc, hf⟩ := below_cells hbn; have hz2 : w.heap.size < w1.heap.size := (by have := hbn.size; (try simp at this); omega); have c0 : w1.cell? ⟨w.heap.size, 0, none⟩ = some (.int .i64 0) := (by go_cell); have c1 : w1.cell? ⟨w.heap.size, 1, none⟩ = some (.int .i64 0) := (by go_cell); have c2 : w1.cell? ⟨w.heap.size, 2, none⟩ = some (.string ⟨#[]⟩) := (by go_cell); clear hc))
        exact bodyPost_ret (v := takeA noV [] false) (by simp [takeA, vA, noV, results, Try.results25, go_sem, c0, c1, c2] <;> rfl) rfl ⟨⟨_, _, _, rfl, taken_not 0 0 [] ((rowD_text c r).trans (if_neg (by omega)))⟩, Below.setCell (Below.setCell (Below.setCell (below_through hbn (by simp) (by go_grown)) (by simp) _) (by simp) _) (by simp) _⟩
      · have C : ∀ W, Calls Try.prog 41 #[.string (txt (c :: r))] W fun e w' => e = .returned (takeA ⟨3, 0, txt (r.take c.toNat)⟩ (r.drop c.toNat) true) ∧ Below W.heap.size W w' := fun W => by
          have h := takeCounted_any c r W hlc
          rwa [if_neg hlt] at h
        have C0 : ∀ W, Calls Try.prog 41 #[.string (txt (c :: r))] W fun e w' => e = .returned (.tuple #[.agg #[.int .i64 3, .int .i64 0, .string (txt (r.take c.toNat))], .string (txt (r.drop c.toNat)), .bool true]) ∧ Below W.heap.size W w' := fun W => C W
        clear C
        go_enter Try.func25, Try.ntmps25
        go_wp2_with fail
        go_region
        go_wp2_with (go_at_call 41; go_must (refine (C0 _).mono ?_; rintro e w1 ⟨rfl, hbn⟩; obtain ⟨hc, hf⟩ := below_cells hbn; have hz2 : w.heap.size < w1.heap.size := (by have := hbn.size; (try simp at this); omega); have c0 : w1.cell? ⟨w.heap.size, 0, none⟩ = some (.int .i64 0) := (by go_cell); have c1 : w1.cell? ⟨w.heap.size, 1, none⟩ = some (.int .i64 0) := (by go_cell); have c2 : w1.cell? ⟨w.heap.size, 2, none⟩ = some (.string ⟨#[]⟩) := (by go_cell); clear hc))
        exact bodyPost_ret (v := takeA ⟨3, 0, txt (r.take c.toNat)⟩ (r.drop c.toNat) true) (by simp [takeA, vA, results, Try.results25, go_sem, c0, c1, c2] <;> rfl) rfl ⟨⟨_, _, _, rfl, taken_counted c r (by omega)⟩, Below.setCell (Below.setCell (Below.setCell (below_through hbn (by simp) (by go_grown)) (by simp) _) (by simp) _) (by simp) _⟩
  have hb0 : ¬ b.toNat = 0 := fun e => b0 (UInt8.toNat_inj.1 e)
  have hb1 : ¬ b.toNat = 1 := fun e => b1 (UInt8.toNat_inj.1 e)
  have hb2 : ¬ b.toNat = 2 := fun e => b2 (UInt8.toNat_inj.1 e)
  have hb3 : ¬ b.toNat = 3 := fun e => b3 (UInt8.toNat_inj.1 e)
  go_enter Try.func25, Try.ntmps25
  go_wp2_with fail
  go_region
  go_wp2
  exact bodyPost_ret (v := takeA noV [] false) (by simp [takeA, vA, noV, results, Try.results25, go_sem]; rfl) rfl ⟨⟨_, _, _, rfl, taken_not 0 0 [] (rowD_else r b0 b1 b2 b3)⟩, by go_grown⟩
end Go.Proofs.Ytblleknmofbhiaa
