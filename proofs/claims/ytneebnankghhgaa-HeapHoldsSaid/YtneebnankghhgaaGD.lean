/- Several of my texts laid together, each as it was: Qpe, Qpf, Qpg, Qp, Qq. Conditions: each names its own. -/
import Derived.Test.YtneebnankghhgaaQpd
import Derived.Test.YtneebnankghhgaaGC
import Derived.Lib.LazyBuf
import Derived.OwnWalk
import Derived.Laws.BytesArg
/- The project's page: numbers in two bytes, written and read; bytes that lie in a block, one after another: plain laws, and contracts of the calls. Conditions: each names its own. -/
namespace Go.Proofs.Ytneebnankghhgaa
open Go.RowKit

/-! ### A list laid over another, plainly -/
def putL : List UInt8 → Nat → List UInt8 → List UInt8
  | X, _, [] => X
  | X, o, b :: l => putL (X.set o b) (o + 1) l
theorem putL_len : ∀ (l X : List UInt8) (o : Nat), (putL X o l).length = X.length
  | [], _, _ => rfl
  | b :: l, X, o => by rw [putL, putL_len l, List.length_set]
theorem putL_mid : ∀ (l A Y C : List UInt8), Y.length = l.length → putL (A ++ (Y ++ C)) A.length l = A ++ (l ++ C)
  | [], A, Y, C, h => by
    obtain rfl : Y = [] := List.length_eq_zero_iff.1 (by simpa using h)
    rfl
  | b :: l, A, [], C, h => by simp at h
  | b :: l, A, y :: Y, C, h => by
    have hs : (A ++ (y :: Y ++ C)).set A.length b = (A ++ [b]) ++ (Y ++ C) := by
      rw [List.set_append_right _ _ (Nat.le_refl _), Nat.sub_self]; simp
    rw [putL, hs]
    have h2 := putL_mid l (A ++ [b]) Y C (by simpa using h)
    rw [List.length_append] at h2
    rw [show A.length + 1 = A.length + [b].length from rfl, h2]
    simp
theorem putL_at {l A Y C : List UInt8} {o : Nat} (ho : o = A.length) (h : Y.length = l.length) : putL (A ++ (Y ++ C)) o l = A ++ (l ++ C) := by
  subst ho; exact putL_mid l A Y C h
theorem putL_two (X : List UInt8) (o n : Nat) : putL X o (twoB n) = (X.set o (UInt8.ofNat (n / 256))).set (o + 1) (UInt8.ofNat (n % 256)) := rfl

/-! ### A page's bytes, slot by slot, plainly -/
def midP (p : Pg) (i : Nat) : List UInt8 := twoB p.length ++ headsP 0 (p.take i) ++ List.replicate (1024 - (2 + 4 * i + (dataP (p.take i)).length)) 0 ++ dataP (p.take i)
theorem rep_split {k a b : Nat} (h : k = a + b) : List.replicate k (0 : UInt8) = List.replicate a 0 ++ List.replicate b 0 := by rw [h, List.replicate_append_replicate]
theorem midP_zero (p : Pg) : putL (List.replicate 1024 0) 0 (twoB p.length) = midP p 0 := by
  have h := putL_mid (twoB p.length) [] (List.replicate 2 0) (List.replicate 1022 0) rfl
  rw [← rep_split (show 1024 = 2 + 1022 from rfl)] at h
  unfold midP
  rw [List.take_zero]
  show _ = twoB p.length ++ [] ++ List.replicate (1024 - (2 + 4 * 0 + ([] : List UInt8).length)) 0 ++ []
  rw [List.append_nil, List.append_nil]
  exact h
theorem midP_all (p : Pg) : midP p p.length = bytesP p := by
  unfold midP bytesP
  rw [List.take_length]
theorem heads_take {p : Pg} {i : Nat} (h : i < p.length) : headsP 0 (p.take (i + 1)) = headsP 0 (p.take i) ++ (twoB (if (p[i]).1 then 1024 - ((dataP (p.take i)).length + (p[i]).2.length) else 0) ++ twoB (p[i]).2.length) := by
  rw [List.take_succ_eq_append_getElem h, headsP_split, headsP]
  simp [headsP]
theorem data_take {p : Pg} {i : Nat} (h : i < p.length) : dataP (p.take (i + 1)) = (p[i]).2 ++ dataP (p.take i) := by
  rw [List.take_succ_eq_append_getElem h, dataP_append]
  simp [dataP]
theorem sizeP_take_le (p : Pg) (i : Nat) : 4 + 4 * p.length + (dataP (p.take i)).length ≤ sizeP p := by
  have h1 := sizeP_data p
  have h2 : dataP p = dataP (p.drop i) ++ dataP (p.take i) := by
    conv => lhs; rw [← List.take_append_drop i p]
    exact dataP_append _ _
  rw [h2, List.length_append] at h1
  omega
theorem midP_skip {p : Pg} {i : Nat} (h : i < p.length) (hs : sizeP p ≤ 1024) (hu : p[i] = (false, [])) : midP p (i + 1) = midP p i := by
  have h1 := sizeP_take_le p (i + 1)
  have hd : dataP (p.take (i + 1)) = dataP (p.take i) := by rw [data_take h, hu]; rfl
  unfold midP
  rw [hd] at h1 ⊢
  rw [heads_take h, hu]
  have hk : 1024 - (2 + 4 * i + (dataP (p.take i)).length) = 4 + (1024 - (2 + 4 * (i + 1) + (dataP (p.take i)).length)) := by omega
  rw [rep_split hk]
  have h4 : List.replicate 4 (0 : UInt8) = twoB 0 ++ twoB 0 := rfl
  rw [h4]
  simp [List.append_assoc]
/-- The used slot's bytes go over, and its two numbers. -/
theorem midP_used {p : Pg} {i : Nat} {d : List UInt8} {D : Nat} (h : i < p.length) (hs : sizeP p ≤ 1024) (hu : p[i] = (true, d)) (hD : (dataP (p.take i)).length = D) :
    d.length + D + 2 + 4 * (i + 1) ≤ 1024 ∧ putL (putL (putL (midP p i) (1024 - D - d.length) d) (2 + 4 * i) (twoB (1024 - D - d.length))) (4 + 4 * i) (twoB d.length) = midP p (i + 1) := by
  have h1 := sizeP_take_le p (i + 1)
  have hd : dataP (p.take (i + 1)) = d ++ dataP (p.take i) := by rw [data_take h, hu]
  have hb : d.length + D + 2 + 4 * (i + 1) ≤ 1024 := by
    rw [hd, List.length_append, hD] at h1
    omega
  refine ⟨hb, ?_⟩
  have hl1 : (twoB p.length ++ headsP 0 (p.take i)).length = 2 + 4 * i := by
    rw [List.length_append, headsP_len, List.length_take]; simp [twoB]; omega
  obtain ⟨H, hH⟩ : ∃ H, twoB p.length ++ headsP 0 (p.take i) = H := ⟨_, rfl⟩
  rw [hH] at hl1
  obtain ⟨E, hE⟩ : ∃ E, dataP (p.take i) = E := ⟨_, rfl⟩
  rw [hE] at hD hd
  obtain ⟨m, hm⟩ : ∃ m, 1024 - (2 + 4 * (i + 1) + (d.length + D)) = m := ⟨_, rfl⟩
  have e0 : midP p i = (H ++ (List.replicate 4 0 ++ List.replicate m 0)) ++ (List.replicate d.length 0 ++ E) := by
    unfold midP
    rw [hH, hE, hD, rep_split (show 1024 - (2 + 4 * i + D) = (4 + m) + d.length by omega), rep_split (show 4 + m = 4 + m from rfl)]
    simp only [List.append_assoc]
  have e1 : putL (midP p i) (1024 - D - d.length) d = (H ++ (List.replicate 4 0 ++ List.replicate m 0)) ++ (d ++ E) := by
    rw [e0]
    exact putL_at (by simp [hl1]; omega) (by simp)
  have e2 : putL (putL (midP p i) (1024 - D - d.length) d) (2 + 4 * i) (twoB (1024 - D - d.length)) = H ++ (twoB (1024 - D - d.length) ++ (List.replicate 2 0 ++ (List.replicate m 0 ++ (d ++ E)))) := by
    rw [e1, show List.replicate 4 (0 : UInt8) = List.replicate 2 0 ++ List.replicate 2 0 from rfl]
    have := putL_at (l := twoB (1024 - D - d.length)) (A := H) (Y := List.replicate 2 0) (C := List.replicate 2 0 ++ (List.replicate m 0 ++ (d ++ E))) (o := 2 + 4 * i) hl1.symm rfl
    rw [← this]
    simp [List.append_assoc]
  have e3 : putL (putL (putL (midP p i) (1024 - D - d.length) d) (2 + 4 * i) (twoB (1024 - D - d.length))) (4 + 4 * i) (twoB d.length) = (H ++ twoB (1024 - D - d.length)) ++ (twoB d.length ++ (List.replicate m 0 ++ (d ++ E))) := by
    rw [e2]
    have := putL_at (l := twoB d.length) (A := H ++ twoB (1024 - D - d.length)) (Y := List.replicate 2 0) (C := List.replicate m 0 ++ (d ++ E)) (o := 4 + 4 * i) (by rw [List.length_append, hl1]; simp [twoB]; omega) rfl
    rw [← this]
    simp [List.append_assoc]
  rw [e3]
  unfold midP
  rw [heads_take h, hu, hd, List.length_append, hE, hD]
  have hx : 1024 - (D + d.length) = 1024 - D - d.length := by omega
  have hy : 1024 - (2 + 4 * (i + 1) + (d.length + D)) = m := hm
  simp only [if_true]
  rw [hx, hy, ← hH]
  simp [List.append_assoc]

/-! ### Bytes in memory -/
/-- Bytes that lie in a block of their own, from its first cell on. -/
structure BytAt (w : World) (B : Nat) (X : List UInt8) : Prop where
  cell : ∀ j (h : j < X.length), w.cell? ⟨B, j, none⟩ = some (.int .u8 ((X[j]).toNat : Int))
  frz : ∀ j, j < X.length → w.frozen? ⟨B, j, none⟩ = false
  lt : B < w.heap.size
theorem BytAt.later {w w' : World} {B : Nat} {X : List UInt8} (h : BytAt w B X) (hb : Below w.heap.size w w') : BytAt w' B X :=
  ⟨fun j hj => cell_later hb (h.cell j hj), fun j hj => (hb.frozen (p := ⟨B, j, none⟩) h.lt).trans (h.frz j hj), Nat.lt_of_lt_of_le h.lt hb.size⟩
theorem BytAt.drew {w : World} {B : Nat} {X : List UInt8} (h : BytAt w B X) : BytAt w.drew B X := ⟨h.cell, h.frz, h.lt⟩
theorem BytAt.set {w : World} {B : Nat} {X : List UInt8} (h : BytAt w B X) (k : Nat) (u : UInt8) : BytAt (w.setCell ⟨B, k, none⟩ (.int .u8 (u.toNat : Int))) B (X.set k u) := by
  refine ⟨fun j hj => ?_, fun j hj => ?_, by simpa using h.lt⟩
  · rw [List.length_set] at hj
    rw [List.getElem_set]
    by_cases e : k = j
    · subst e
      rw [if_pos rfl]
      exact World.cell?_setCell_same _ _ _ (h.cell k hj)
    · rw [if_neg e, World.cell?_setCell_other _ _ _ _ (fun e' => e (by simpa using congrArg Addr.off e'))]
      exact h.cell j hj
  · rw [List.length_set] at hj
    rw [World.frozen?_setCell]
    exact h.frz j hj
theorem BytAt.puts {B : Nat} : ∀ (l X : List UInt8) (o : Nat) {w : World}, BytAt w B X → BytAt (w.setCells B o (l.map fun x => Value.int .u8 (x.toNat : Int))) B (putL X o l)
  | [], _, _, _, h => h
  | b :: l, X, o, _, h => BytAt.puts l (X.set o b) (o + 1) (h.set o b)
/-- All but block B is as it was. -/
structure Only (B : Nat) (w w' : World) : Prop where
  below : ∀ base, base ≤ B → Below base w w'
  cell : ∀ b o, b ≠ B → w'.cell? ⟨b, o, none⟩ = w.cell? ⟨b, o, none⟩
  frz : ∀ b o, b ≠ B → w'.frozen? ⟨b, o, none⟩ = w.frozen? ⟨b, o, none⟩
  size : w'.heap.size = w.heap.size
theorem Only.refl (B : Nat) (w : World) : Only B w w := ⟨fun _ _ => Below.refl _ _, fun _ _ _ => rfl, fun _ _ _ => rfl, rfl⟩
theorem Only.trans {B : Nat} {a b c : World} (h : Only B a b) (k : Only B b c) : Only B a c :=
  ⟨fun base hb => (h.below base hb).trans (k.below base hb), fun x o hx => (k.cell x o hx).trans (h.cell x o hx), fun x o hx => (k.frz x o hx).trans (h.frz x o hx), k.size.trans h.size⟩
theorem Only.drew (B : Nat) (w : World) : Only B w w.drew := ⟨fun _ _ => Below.drew (Below.refl _ _), fun _ _ _ => rfl, fun _ _ _ => rfl, rfl⟩
theorem Only.set (B o : Nat) (u : Value) (w : World) : Only B w (w.setCell ⟨B, o, none⟩ u) :=
  ⟨fun _ hb => (Below.refl _ _).setCell (p := ⟨B, o, none⟩) hb u, fun b o' hb => World.cell?_setCell_other _ _ _ _ (fun e => hb (by simpa using (congrArg Addr.block e).symm)), fun _ _ _ => World.frozen?_setCell _ _ _ _, by simp⟩
theorem Only.puts {B : Nat} : ∀ (l : List Value) (o : Nat) (w : World), Only B w (w.setCells B o l)
  | [], _, w => Only.refl B w
  | v :: l, o, w => (Only.set B o v w).trans (Only.puts l (o + 1) _)
theorem Only.var {B b : Nat} {w w' : World} {v : Value} (h : Only B w w') (hv : VarAt w b v) (hb : b ≠ B) : VarAt w' b v := ⟨(h.cell b 0 hb).trans hv.cell, (h.frz b 0 hb).trans hv.frz⟩

/-! ### Where a slot's two numbers stand; a number written, and read -/
theorem or_i64 (d c : Nat) (hd : d < 256) (hc : c < 256) : bits BinOp.or IntKind.i64 ((d : Int) * 256) (c : Int) = ((256 * d + c : Nat) : Int) := by
  have e1 : ((d : Int) * 256 % ((2 ^ 64 : Nat) : Int)).toNat = d * 256 := by omega
  have e2 : ((c : Int) % ((2 ^ 64 : Nat) : Int)).toNat = c := by omega
  have e3 : d * 256 ||| c = 256 * d + c := by
    have h := Nat.shiftLeft_add_eq_or_of_lt (b := c) (i := 8) hc d
    rw [Nat.shiftLeft_eq, show (2 : Nat) ^ 8 = 256 from rfl] at h
    omega
  have e : (BitVec.ofInt 64 ((d : Int) * 256) ||| BitVec.ofInt 64 (c : Int)).toNat = 256 * d + c := by
    rw [BitVec.toNat_or, BitVec.toNat_ofInt, BitVec.toNat_ofInt, e1, e2, e3]
  have e4 : bits BinOp.or IntKind.i64 ((d : Int) * 256) (c : Int) = IntKind.i64.wrap ((BitVec.ofInt 64 ((d : Int) * 256) ||| BitVec.ofInt 64 (c : Int)).toNat : Int) := rfl
  rw [e4, e]
  exact IntWalk.i64_in _ (by omega)
end Go.Proofs.Ytneebnankghhgaa

/- The project's page: its bytes: a contract of the call, in whatever memory. Conditions: the slots' cells are known. -/
namespace Go.Proofs.Ytneebnankghhgaa
open Go.RowKit

theorem info_u8 : (Try.prog.info? 5).map (fun i => (i.zero, i.size, i.bytes)) = some (some (.int .u8 0), 1, 1) := by kernel_rfl
theorem made_at (n j : Nat) (h : j < n) : (madeCells (Value.int .u8 0).cells n).toList[j]? = some (.int .u8 0) := by
  show (madeCells #[Value.int .u8 0] n).toList[j]? = _
  rw [toList_madeCells_one]
  simp [h]
theorem made_bytes {w : World} {base B n : Nat} (h : w.ownsRow base 5 1 (.slice (some ⟨B, 0, none⟩) n n) n (madeCells (Value.int .u8 0).cells (n * 1)).toList) : BytAt w B (List.replicate n 0) := by
  refine ⟨fun j hj => ?_, fun j _ => h.frozenAt j, (h.lt B rfl).2⟩
  rw [List.length_replicate] at hj
  rw [h.cellAt j (by omega), Nat.mul_one, made_at n j hj, List.getElem_replicate]
  rfl
theorem BytAt.back {w : World} {B : Nat} {X : List UInt8} (h : BytAt w B X) (c : Nat) : (convert 67 9 (.slice (some ⟨B, 0, none⟩) X.length c)).run Try.prog w = .ok (.string (txt X)) w := by
  refine run_convert_bytes_back (P := Try.prog) w 67 9 5 ⟨B, 0, none⟩ c X Try.underlying67 Try.underlying5 Try.underlying9 (fun j hj => ?_)
  rw [WideShapes.add_plain, Nat.zero_add]
  exact h.cell j hj
/-- A text copied over bytes, from place o on (or from nowhere, if it has none). -/
theorem copy_run (B o o' n : Nat) (d X : List UInt8) (w : World) (h : BytAt w B X) (hl : X.length = o + n) (hd : d.length ≤ n) (ho : d.length = 0 ∨ o' = o) (c : Nat) (ty : TypeId) :
    (Builtin.copy_ #[67, 9] ty #[.slice (some ⟨B, o', none⟩) n c, .string (txt d)]).run Try.prog w = .ok (.int .i64 (d.length : Int)) (w.setCells B o' (d.map fun x => Value.int .u8 (x.toNat : Int))) := by
  have hz : (txt d).size = d.length := txt_size d
  have hsz : ∀ w, (Go.sizeOf 5).run Try.prog w = .ok 1 w := fun w => by
    obtain ⟨i0, hi, hz0, hz1, hz2⟩ := info_parts info_u8
    simp [Go.sizeOf, typeInfo, hi, hz1]
  have hr := run_copy_string (P := Try.prog) w 67 9 ty 5 B o' n c (txt d) Try.underlying67 hsz (by omega) (fun j hj => by
    rw [h.cell (o' + j) (by omega)]; rfl) (fun j hj => h.frz (o' + j) (by omega))
  rw [hr, hz]
  rfl
theorem copied_bytes {B o o' : Nat} {d X : List UInt8} {w : World} (h : BytAt w B X) (ho : d.length = 0 ∨ o' = o) : BytAt (w.setCells B o' (d.map fun x => Value.int .u8 (x.toNat : Int))) B (putL X o d) := by
  rcases ho with ho | rfl
  · obtain rfl := List.length_eq_zero_iff.1 ho
    exact h
  · exact h.puts d X o'

/-- b[k:] of a block of n bytes: at its very end Go keeps the old address. -/
theorem slice_from (B k n len : Nat) (hk : k + n ≤ len) : ∃ o', (n = 0 ∨ o' = k) ∧ ∀ W : World, (Instr.slice 67 (.slice (some ⟨B, 0, none⟩) len len) (some (.int .i64 (k : Int))) none none).run Try.prog W = .ok (.slice (some ⟨B, o', none⟩) (len - k) (len - k)) W := by
  obtain ⟨i0, hi, hz0, hz1, hz2⟩ := info_parts info_u8
  by_cases h : k = len
  · refine ⟨0, .inl (by omega), fun W => ?_⟩
    rw [run_slice_l W 67 (some ⟨B, 0, none⟩) len len Try.underlying67 .i64 (k : Int) (by omega) (by omega)]
    simp [go_sem, Result.andThen, sliced, h]
  · refine ⟨k, .inr rfl, fun W => ?_⟩
    rw [run_slice_l W 67 (some ⟨B, 0, none⟩) len len Try.underlying67 .i64 (k : Int) (by omega) (by omega)]
    have hne : ¬ len = k := fun e => h e.symm
    simp [go_sem, Result.andThen, sliced, hne]

end Go.Proofs.Ytneebnankghhgaa

/- The project's page: reading it from its bytes: a contract of the call, in whatever memory. Conditions: the bytes are a string's. -/
namespace Go.Proofs.Ytneebnankghhgaa
open Go.RowKit

theorem made_slots (n : Nat) : (madeCells (Value.agg #[.bool false, .string ⟨#[]⟩]).cells (n * 2)).toList = slotCells (List.replicate n noS) := by
  show (madeCells #[Value.bool false, Value.string ⟨#[]⟩] (n * 2)).toList = _
  refine List.ext_getElem? fun j => ?_
  by_cases hj : j < n * 2
  · have hk : j / 2 < (List.replicate n noS).length := by rw [List.length_replicate]; omega
    obtain ⟨h0, h1⟩ := slotCells_at (List.replicate n noS) (j / 2) hk
    rw [List.getElem_replicate] at h0 h1
    have e : (madeCells #[Value.bool false, Value.string ⟨#[]⟩] (n * 2)).toList[j]? = some (#[Value.bool false, Value.string ⟨#[]⟩][j % 2]!) := by
      simp [madeCells, hj]
    rw [e]
    rcases (by omega : j % 2 = 0 ∨ j % 2 = 1) with hm | hm
    · rw [show j / 2 * 2 = j by omega] at h0
      rw [hm, h0]; rfl
    · rw [show j / 2 * 2 + 1 = j by omega] at h1
      rw [hm, h1]; rfl
  · rw [List.getElem?_eq_none (by simp [madeCells]; omega), List.getElem?_eq_none (by rw [slotCells_len, List.length_replicate]; omega)]
theorem own_made {w : World} {base B n : Nat} (h : w.ownsRow base 74 2 (.slice (some ⟨B, 0, none⟩) n n) n (madeCells (Value.agg #[.bool false, .string ⟨#[]⟩]).cells (n * 2)).toList) : OwnS w base (.slice (some ⟨B, 0, none⟩) n n) (List.replicate n noS) := by
  rw [made_slots] at h
  refine ⟨?_⟩
  rw [List.length_replicate]
  exact h
theorem fill_next {Q : Pg} {n i : Nat} (t : Slot) (hQ : Q.length = i) (hi : i < n) : (Q ++ List.replicate (n - i) noS).set i t = (Q ++ [t]) ++ List.replicate (n - (i + 1)) noS := by
  rw [List.set_append_right _ _ (by omega), hQ, Nat.sub_self, show n - i = (n - (i + 1)) + 1 by omega, List.replicate_succ, List.set_cons_zero]
  simp
theorem fill_skip {Q : Pg} {n i : Nat} (hi : i < n) : Q ++ List.replicate (n - i) noS = (Q ++ [noS]) ++ List.replicate (n - (i + 1)) noS := by
  rw [show n - i = (n - (i + 1)) + 1 by omega, List.replicate_succ]
  simp
theorem fill_len {Q : Pg} {n i : Nat} (hQ : Q.length = i) (hi : i ≤ n) : (Q ++ List.replicate (n - i) noS).length = n := by
  rw [List.length_append, List.length_replicate]; omega
theorem ret_page {a : Option Addr} {m n c : Nat} {er : Int} (h : m = n) : Ending.returned (.tuple #[.agg #[.slice a m c], .int .i64 er]) = .returned (.tuple #[.agg #[.slice a n c], .int .i64 er]) := by rw [h]
theorem numAt_lt (s : List UInt8) (o : Nat) : numAt s o < 65536 := by
  have h0 := (s.getD o 0).toNat_lt
  have h1 := (s.getD (o + 1) 0).toNat_lt
  unfold numAt
  omega

end Go.Proofs.Ytneebnankghhgaa

/- The project's layer 5 (page): all of its contracts, in one. -/

/- What the laws of layer 5 call of their own: a page in new memory; the document's example, whatever the memory. Conditions: the slots' cells are known, they are not too many. -/
namespace Go.Proofs.Ytneebnankghhgaa
open Go.RowKit

/-- A page whose slots' cells are known. (A structure: nothing parts it.) -/
structure PgAt (w : World) (a : Option Addr) (c : Nat) (p : Pg) : Prop where
  out : SlotsAt w a p
  cap : p.length ≤ c
  len : p.length * 24 ≤ 140737488351232
  small : slotsIn p
theorem PgAt.later {w w' : World} {a : Option Addr} {c : Nat} {p : Pg} (h : PgAt w a c p) (hb : Below w.heap.size w w') : PgAt w' a c p := ⟨h.out.later hb, h.cap, h.len, h.small⟩
theorem PgAt.drew {w : World} {a : Option Addr} {c : Nat} {p : Pg} (h : PgAt w a c p) : PgAt w.drew a c p := ⟨h.out, h.cap, h.len, h.small⟩
theorem PgAt.alloc {w : World} {a : Option Addr} {c : Nat} {p : Pg} (h : PgAt w a c p) (o : Obj) : PgAt (w.alloc o) a c p := h.later ((Below.refl _ _).alloc (Nat.le_refl _) _)
/-- The slots don't lie in block B. -/
def Far (a : Option Addr) (p : Pg) (B : Nat) : Prop := p ≠ [] → ∀ b off, a = some ⟨b, off, none⟩ → b ≠ B
theorem far_old {w : World} {a : Option Addr} {p : Pg} {B : Nat} (h : SlotsAt w a p) (hB : w.heap.size ≤ B) : Far a p B := fun hn b off e => by
  obtain ⟨b', off', e', hc⟩ := h hn
  rw [e] at e'
  obtain ⟨rfl, rfl⟩ : b = b' ∧ off = off' := by simpa using e'
  have h0 : 0 < p.length := by
    rcases Nat.eq_zero_or_pos p.length with h | h
    · exact absurd (List.length_eq_zero_iff.1 h) hn
    · exact h
  have := World.block_lt_of_cell? _ _ (hc 0 h0).1
  have : b < w.heap.size := this
  omega
theorem far_away {w : World} {a a' : Option Addr} {p q : Pg} {B : Nat} (h : Away w a p a' q) (hf : Far a p B) (hB : B < w.heap.size) : Far a' q B := fun hn b off e => by
  rcases h with ⟨rfl, rfl⟩ | h
  · exact hf hn b off e
  · have := h b off e; omega
theorem SlotsAt.setCell {w : World} {a : Option Addr} {p : Pg} (h : SlotsAt w a p) (B o : Nat) (u : Value) (hf : Far a p B) : SlotsAt (w.setCell ⟨B, o, none⟩ u) a p := fun hn => by
  obtain ⟨b, off, e, hc⟩ := h hn
  have hb := hf hn b off e
  refine ⟨b, off, e, fun i hi => ?_⟩
  rw [World.cell?_setCell_other _ _ _ _ (fun e => hb (by simpa using (congrArg Addr.block e).symm)), World.cell?_setCell_other _ _ _ _ (fun e => hb (by simpa using (congrArg Addr.block e).symm))]
  exact hc i hi
theorem PgAt.setCell {w : World} {a : Option Addr} {c : Nat} {p : Pg} (h : PgAt w a c p) (B o : Nat) (u : Value) (hf : Far a p B) : PgAt (w.setCell ⟨B, o, none⟩ u) a c p := ⟨h.out.setCell B o u hf, h.cap, h.len, h.small⟩
def fineP (p : Pg) : Prop := p.length * 24 ≤ 140737488351232 ∧ slotsIn p
theorem fine_len {p : Pg} (h : fineP p) : p.length ≤ maxLen := by have := h.1; unfold maxLen; omega
theorem right_fine {p : Pg} (h : RightP p) : fineP p := ⟨by have := h.len; omega, fun s hs => by have := (h.slots s hs).2; unfold maxLen; omega⟩
theorem put_fine {p : Pg} (h : fineP p) (d : List UInt8) : fineP (putP p d) := by
  unfold putP
  split
  · rename_i hf
    have hf := (fitsB_iff p _).1 hf
    exact right_fine (putR_right hf.1 hf)
  · exact h
theorem setP_right {p : Pg} {i : Int} {d : List UInt8} (h0 : getE p i = 0) (hr : roomB p i d = true) : RightP (p.set i.toNat (true, d)) := by
  rcases getE_cases p i with ⟨h, _⟩ | ⟨h, k, rfl, hk, hpk, _⟩
  · exact absurd h0 h
  · rw [Int.toNat_natCast]
    unfold roomB at hr
    rw [Bool.and_eq_true, decide_eq_true_eq, decide_eq_true_eq] at hr
    refine set_right ((rightB_iff p).1 h) hk hr.1 ?_
    rw [hpk]; exact hr.2
theorem set_fine {p : Pg} (h : fineP p) (i : Int) (d : List UInt8) : fineP (setP p i d) := by
  unfold setP
  split
  · rename_i hh; exact right_fine (setP_right hh.1 hh.2)
  · exact h
theorem trimP_mem : ∀ (p : Pg) (s : Slot), s ∈ trimP p → s ∈ p
  | [], s, h => h
  | t :: p, s, h => by
    unfold trimP at h
    split at h
    · split at h
      · rcases List.mem_singleton.1 h with rfl; simp
      · exact absurd h (by simp)
    · rename_i e
      rcases List.mem_cons.1 h with rfl | h
      · simp
      · exact List.mem_cons_of_mem _ (trimP_mem p s (by rw [e]; exact h))
theorem cut_fine {p : Pg} (h : fineP p) (i : Int) : fineP (cutP p i) := by
  unfold cutP
  split
  · unfold cutR
    refine ⟨?_, fun s hs => ?_⟩
    · have := trimP_le (p.set i.toNat noS)
      rw [List.length_set] at this
      have := h.1
      omega
    · rcases List.mem_or_eq_of_mem_set (trimP_mem _ _ hs) with h' | rfl
      · exact h.2 s h'
      · unfold maxLen noS; simp
  · exact h
theorem read_fine (s : List UInt8) : fineP (readQ s) := by
  unfold readQ
  cases h : readP s with
  | none => exact ⟨by simp, fun s hs => absurd hs (by simp)⟩
  | some p => exact right_fine (readP_bytes h).1

theorem ex1 : putP [] [97, 98] = [(true, [97, 98])] ∧ putI [] [97, 98] = 0 ∧ putE [] [97, 98] = 0 := by decide +kernel
theorem ex2 : putP [(true, [97, 98])] [99] = [(true, [97, 98]), (true, [99])] ∧ putI [(true, [97, 98])] [99] = 1 ∧ putE [(true, [97, 98])] [99] = 0 := by decide +kernel
theorem ex3 : cutP [(true, [97, 98]), (true, [99])] 0 = [noS, (true, [99])] ∧ getE [(true, [97, 98]), (true, [99])] 0 = 0 := by decide +kernel
theorem ex4 : bytE [noS, (true, [99])] = 0 ∧ (bytD [noS, (true, [99])]).length = 1024 ∧ (bytD [noS, (true, [99])]).take 10 = [0, 2, 0, 0, 0, 0, 3, 255, 0, 1] := by decide +kernel
theorem ex5 : sizeW [(true, [97, 98]), (true, [99])] = 15 := by decide +kernel
end Go.Proofs.Ytneebnankghhgaa
