/- The project's page: numbers in two bytes, written and read; bytes that lie in a block, one after another: plain laws, and contracts of the calls. Conditions: each names its own. -/
import Derived.Test.YtnneeojgakjalaaQpd
import Derived.Test.YtnneeojgakjalaaQk
import Derived.Lib.LazyBuf
namespace Go.Proofs.Ytnneeojgakjalaa
open Go.RowKit

/-! ### A list laid over another, plainly -/
def putL : List UInt8 → Nat → List UInt8 → List UInt8
  | X, _, [] => X
  | X, o, b :: l => putL (X.set o b) (o + 1) l
theorem putL_len : ∀ (l X : List UInt8) (o : Nat), (putL X o l).length = X.length
  | [], _, _ => rfl
  | b :: l, X, o => by rw [putL, putL_len l, List.length_set]
theorem putL_mid : ∀ (l A Y C : List UInt8), Y.length = l.length → putL (A ++ (Y ++ C)) A.length l = A ++ (l ++ C)
  | [], A, Y, C, h => by
    obtain rfl : Y = [] := List.length_eq_zero_iff.1 (by simpa using h)
    rfl
  | b :: l, A, [], C, h => by simp at h
  | b :: l, A, y :: Y, C, h => by
    have hs : (A ++ (y :: Y ++ C)).set A.length b = (A ++ [b]) ++ (Y ++ C) := by
      rw [List.set_append_right _ _ (Nat.le_refl _), Nat.sub_self]; simp
    rw [putL, hs]
    have h2 := putL_mid l (A ++ [b]) Y C (by simpa using h)
    rw [List.length_append] at h2
    rw [show A.length + 1 = A.length + [b].length from rfl, h2]
    simp
theorem putL_at {l A Y C : List UInt8} {o : Nat} (ho : o = A.length) (h : Y.length = l.length) : putL (A ++ (Y ++ C)) o l = A ++ (l ++ C) := by
  subst ho; exact putL_mid l A Y C h
theorem putL_two (X : List UInt8) (o n : Nat) : putL X o (twoB n) = (X.set o (UInt8.ofNat (n / 256))).set (o + 1) (UInt8.ofNat (n % 256)) := rfl

/-! ### A page's bytes, slot by slot, plainly -/
def midP (p : Pg) (i : Nat) : List UInt8 := twoB p.length ++ headsP 0 (p.take i) ++ List.replicate (1024 - (2 + 4 * i + (dataP (p.take i)).length)) 0 ++ dataP (p.take i)
theorem rep_split {k a b : Nat} (h : k = a + b) : List.replicate k (0 : UInt8) = List.replicate a 0 ++ List.replicate b 0 := by rw [h, List.replicate_append_replicate]
theorem midP_zero (p : Pg) : putL (List.replicate 1024 0) 0 (twoB p.length) = midP p 0 := by
  have h := putL_mid (twoB p.length) [] (List.replicate 2 0) (List.replicate 1022 0) rfl
  rw [← rep_split (show 1024 = 2 + 1022 from rfl)] at h
  unfold midP
  rw [List.take_zero]
  show _ = twoB p.length ++ [] ++ List.replicate (1024 - (2 + 4 * 0 + ([] : List UInt8).length)) 0 ++ []
  rw [List.append_nil, List.append_nil]
  exact h
theorem midP_all (p : Pg) : midP p p.length = bytesP p := by
  unfold midP bytesP
  rw [List.take_length]
theorem heads_take {p : Pg} {i : Nat} (h : i < p.length) : headsP 0 (p.take (i + 1)) = headsP 0 (p.take i) ++ (twoB (if (p[i]).1 then 1024 - ((dataP (p.take i)).length + (p[i]).2.length) else 0) ++ twoB (p[i]).2.length) := by
  rw [List.take_succ_eq_append_getElem h, headsP_split, headsP]
  simp [headsP]
theorem data_take {p : Pg} {i : Nat} (h : i < p.length) : dataP (p.take (i + 1)) = (p[i]).2 ++ dataP (p.take i) := by
  rw [List.take_succ_eq_append_getElem h, dataP_append]
  simp [dataP]
theorem sizeP_take_le (p : Pg) (i : Nat) : 4 + 4 * p.length + (dataP (p.take i)).length ≤ sizeP p := by
  have h1 := sizeP_data p
  have h2 : dataP p = dataP (p.drop i) ++ dataP (p.take i) := by
    conv => lhs; rw [← List.take_append_drop i p]
    exact dataP_append _ _
  rw [h2, List.length_append] at h1
  omega
theorem midP_skip {p : Pg} {i : Nat} (h : i < p.length) (hs : sizeP p ≤ 1024) (hu : p[i] = (false, [])) : midP p (i + 1) = midP p i := by
  have h1 := sizeP_take_le p (i + 1)
  have hd : dataP (p.take (i + 1)) = dataP (p.take i) := by rw [data_take h, hu]; rfl
  unfold midP
  rw [hd] at h1 ⊢
  rw [heads_take h, hu]
  have hk : 1024 - (2 + 4 * i + (dataP (p.take i)).length) = 4 + (1024 - (2 + 4 * (i + 1) + (dataP (p.take i)).length)) := by omega
  rw [rep_split hk]
  have h4 : List.replicate 4 (0 : UInt8) = twoB 0 ++ twoB 0 := rfl
  rw [h4]
  simp [List.append_assoc]
/-- The used slot's bytes go over, and its two numbers. -/
theorem midP_used {p : Pg} {i : Nat} {d : List UInt8} {D : Nat} (h : i < p.length) (hs : sizeP p ≤ 1024) (hu : p[i] = (true, d)) (hD : (dataP (p.take i)).length = D) :
    d.length + D + 2 + 4 * (i + 1) ≤ 1024 ∧ putL (putL (putL (midP p i) (1024 - D - d.length) d) (2 + 4 * i) (twoB (1024 - D - d.length))) (4 + 4 * i) (twoB d.length) = midP p (i + 1) := by
  have h1 := sizeP_take_le p (i + 1)
  have hd : dataP (p.take (i + 1)) = d ++ dataP (p.take i) := by rw [data_take h, hu]
  have hb : d.length + D + 2 + 4 * (i + 1) ≤ 1024 := by
    rw [hd, List.length_append, hD] at h1
    omega
  refine ⟨hb, ?_⟩
  have hl1 : (twoB p.length ++ headsP 0 (p.take i)).length = 2 + 4 * i := by
    rw [List.length_append, headsP_len, List.length_take]; simp [twoB]; omega
  obtain ⟨H, hH⟩ : ∃ H, twoB p.length ++ headsP 0 (p.take i) = H := ⟨_, rfl⟩
  rw [hH] at hl1
  obtain ⟨E, hE⟩ : ∃ E, dataP (p.take i) = E := ⟨_, rfl⟩
  rw [hE] at hD hd
  obtain ⟨m, hm⟩ : ∃ m, 1024 - (2 + 4 * (i + 1) + (d.length + D)) = m := ⟨_, rfl⟩
  have e0 : midP p i = (H ++ (List.replicate 4 0 ++ List.replicate m 0)) ++ (List.replicate d.length 0 ++ E) := by
    unfold midP
    rw [hH, hE, hD, rep_split (show 1024 - (2 + 4 * i + D) = (4 + m) + d.length by omega), rep_split (show 4 + m = 4 + m from rfl)]
    simp only [List.append_assoc]
  have e1 : putL (midP p i) (1024 - D - d.length) d = (H ++ (List.replicate 4 0 ++ List.replicate m 0)) ++ (d ++ E) := by
    rw [e0]
    exact putL_at (by simp [hl1]; omega) (by simp)
  have e2 : putL (putL (midP p i) (1024 - D - d.length) d) (2 + 4 * i) (twoB (1024 - D - d.length)) = H ++ (twoB (1024 - D - d.length) ++ (List.replicate 2 0 ++ (List.replicate m 0 ++ (d ++ E)))) := by
    rw [e1, show List.replicate 4 (0 : UInt8) = List.replicate 2 0 ++ List.replicate 2 0 from rfl]
    have := putL_at (l := twoB (1024 - D - d.length)) (A := H) (Y := List.replicate 2 0) (C := List.replicate 2 0 ++ (List.replicate m 0 ++ (d ++ E))) (o := 2 + 4 * i) hl1.symm rfl
    rw [← this]
    simp [List.append_assoc]
  have e3 : putL (putL (putL (midP p i) (1024 - D - d.length) d) (2 + 4 * i) (twoB (1024 - D - d.length))) (4 + 4 * i) (twoB d.length) = (H ++ twoB (1024 - D - d.length)) ++ (twoB d.length ++ (List.replicate m 0 ++ (d ++ E))) := by
    rw [e2]
    have := putL_at (l := twoB d.length) (A := H ++ twoB (1024 - D - d.length)) (Y := List.replicate 2 0) (C := List.replicate m 0 ++ (d ++ E)) (o := 4 + 4 * i) (by rw [List.length_append, hl1]; simp [twoB]; omega) rfl
    rw [← this]
    simp [List.append_assoc]
  rw [e3]
  unfold midP
  rw [heads_take h, hu, hd, List.length_append, hE, hD]
  have hx : 1024 - (D + d.length) = 1024 - D - d.length := by omega
  have hy : 1024 - (2 + 4 * (i + 1) + (d.length + D)) = m := hm
  simp only [if_true]
  rw [hx, hy, ← hH]
  simp [List.append_assoc]

/-! ### Bytes in memory -/
/-- Bytes that lie in a block of their own, from its first cell on. -/
structure BytAt (w : World) (B : Nat) (X : List UInt8) : Prop where
  cell : ∀ j (h : j < X.length), w.cell? ⟨B, j, none⟩ = some (.int .u8 ((X[j]).toNat : Int))
  frz : ∀ j, j < X.length → w.frozen? ⟨B, j, none⟩ = false
  lt : B < w.heap.size
theorem BytAt.later {w w' : World} {B : Nat} {X : List UInt8} (h : BytAt w B X) (hb : Below w.heap.size w w') : BytAt w' B X :=
  ⟨fun j hj => cell_later hb (h.cell j hj), fun j hj => (hb.frozen (p := ⟨B, j, none⟩) h.lt).trans (h.frz j hj), Nat.lt_of_lt_of_le h.lt hb.size⟩
theorem BytAt.drew {w : World} {B : Nat} {X : List UInt8} (h : BytAt w B X) : BytAt w.drew B X := ⟨h.cell, h.frz, h.lt⟩
theorem BytAt.set {w : World} {B : Nat} {X : List UInt8} (h : BytAt w B X) (k : Nat) (u : UInt8) : BytAt (w.setCell ⟨B, k, none⟩ (.int .u8 (u.toNat : Int))) B (X.set k u) := by
  refine ⟨fun j hj => ?_, fun j hj => ?_, by simpa using h.lt⟩
  · rw [List.length_set] at hj
    rw [List.getElem_set]
    by_cases e : k = j
    · subst e
      rw [if_pos rfl]
      exact World.cell?_setCell_same _ _ _ (h.cell k hj)
    · rw [if_neg e, World.cell?_setCell_other _ _ _ _ (fun e' => e (by simpa using congrArg Addr.off e'))]
      exact h.cell j hj
  · rw [List.length_set] at hj
    rw [World.frozen?_setCell]
    exact h.frz j hj
theorem BytAt.puts {B : Nat} : ∀ (l X : List UInt8) (o : Nat) {w : World}, BytAt w B X → BytAt (w.setCells B o (l.map fun x => Value.int .u8 (x.toNat : Int))) B (putL X o l)
  | [], _, _, _, h => h
  | b :: l, X, o, _, h => BytAt.puts l (X.set o b) (o + 1) (h.set o b)
/-- All but block B is as it was. -/
structure Only (B : Nat) (w w' : World) : Prop where
  below : ∀ base, base ≤ B → Below base w w'
  cell : ∀ b o, b ≠ B → w'.cell? ⟨b, o, none⟩ = w.cell? ⟨b, o, none⟩
  frz : ∀ b o, b ≠ B → w'.frozen? ⟨b, o, none⟩ = w.frozen? ⟨b, o, none⟩
  size : w'.heap.size = w.heap.size
theorem Only.refl (B : Nat) (w : World) : Only B w w := ⟨fun _ _ => Below.refl _ _, fun _ _ _ => rfl, fun _ _ _ => rfl, rfl⟩
theorem Only.trans {B : Nat} {a b c : World} (h : Only B a b) (k : Only B b c) : Only B a c :=
  ⟨fun base hb => (h.below base hb).trans (k.below base hb), fun x o hx => (k.cell x o hx).trans (h.cell x o hx), fun x o hx => (k.frz x o hx).trans (h.frz x o hx), k.size.trans h.size⟩
theorem Only.drew (B : Nat) (w : World) : Only B w w.drew := ⟨fun _ _ => Below.drew (Below.refl _ _), fun _ _ _ => rfl, fun _ _ _ => rfl, rfl⟩
theorem Only.set (B o : Nat) (u : Value) (w : World) : Only B w (w.setCell ⟨B, o, none⟩ u) :=
  ⟨fun _ hb => (Below.refl _ _).setCell (p := ⟨B, o, none⟩) hb u, fun b o' hb => World.cell?_setCell_other _ _ _ _ (fun e => hb (by simpa using (congrArg Addr.block e).symm)), fun _ _ _ => World.frozen?_setCell _ _ _ _, by simp⟩
theorem Only.puts {B : Nat} : ∀ (l : List Value) (o : Nat) (w : World), Only B w (w.setCells B o l)
  | [], _, w => Only.refl B w
  | v :: l, o, w => (Only.set B o v w).trans (Only.puts l (o + 1) _)
theorem Only.var {B b : Nat} {w w' : World} {v : Value} (h : Only B w w') (hv : VarAt w b v) (hb : b ≠ B) : VarAt w' b v := ⟨(h.cell b 0 hb).trans hv.cell, (h.frz b 0 hb).trans hv.frz⟩

/-! ### Where a slot's two numbers stand; a number written, and read -/
theorem or_i64 (d c : Nat) (hd : d < 256) (hc : c < 256) : bits BinOp.or IntKind.i64 ((d : Int) * 256) (c : Int) = ((256 * d + c : Nat) : Int) := by
  have e1 : ((d : Int) * 256 % ((2 ^ 64 : Nat) : Int)).toNat = d * 256 := by omega
  have e2 : ((c : Int) % ((2 ^ 64 : Nat) : Int)).toNat = c := by omega
  have e3 : d * 256 ||| c = 256 * d + c := by
    have h := Nat.shiftLeft_add_eq_or_of_lt (b := c) (i := 8) hc d
    rw [Nat.shiftLeft_eq, show (2 : Nat) ^ 8 = 256 from rfl] at h
    omega
  have e : (BitVec.ofInt 64 ((d : Int) * 256) ||| BitVec.ofInt 64 (c : Int)).toNat = 256 * d + c := by
    rw [BitVec.toNat_or, BitVec.toNat_ofInt, BitVec.toNat_ofInt, e1, e2, e3]
  have e4 : bits BinOp.or IntKind.i64 ((d : Int) * 256) (c : Int) = IntKind.i64.wrap ((BitVec.ofInt 64 ((d : Int) * 256) ||| BitVec.ofInt 64 (c : Int)).toNat : Int) := rfl
  rw [e4, e]
  exact IntWalk.i64_in _ (by omega)
end Go.Proofs.Ytnneeojgakjalaa
