/- The document's example (layer 17): the law's awake: the contract of the call. Conditions: none. -/
import Derived.Test.YtadlelhdjakmmaaN18
namespace Go.Proofs.Ytadlelhdjakmmaa
open Go.RowKit

abbrev sT : ByteArray := ⟨#[116]⟩
abbrev sU : ByteArray := ⟨#[117]⟩
abbrev sV : ByteArray := ⟨#[118]⟩
abbrev sA : ByteArray := ⟨#[97]⟩
def exD : List Gn := [(sV, [sU, sT]), (sT, []), (sU, [sT])]
theorem ex_order : orderM exD = ([sT, sU, sV], 0) := by decide +kernel
theorem ex_below : belowM exD sV = ([sT, sU], 0) := by decide +kernel
theorem ex_above : aboveG exD sT = [sU, sV] := by decide +kernel
theorem ex_check : checkG [(sA, [sA])] = 20 := by decide +kernel
theorem strs_new (w : World) (L : List ByteArray) (ty : TypeId) (hs : ∀ s ∈ L, s.size ≤ maxLen) : StrsA (w.alloc (.cells (strs L).toArray ty)) (some ⟨w.heap.size, 0, none⟩) L := ⟨fun _ => ⟨w.heap.size, 0, rfl, fun i hi => by
  have := (VarB.new w (strs L) ty).cell i (u := .string L[i]) (by simp [strs, hi])
  rw [Nat.zero_add]
  exact this⟩, hs⟩
def exL (b1 b2 : Nat) : List Nn := [⟨sV, some ⟨b1, 0, none⟩, 2, [sU, sT]⟩, ⟨sT, none, 0, []⟩, ⟨sU, some ⟨b2, 0, none⟩, 1, [sT]⟩]
theorem nodes_new (w : World) (l : List Nn) (ty : TypeId) (ho : ∀ x ∈ l, NodeOk w x) (hf : l.length ≤ 3518437208883) : NodesAt (w.alloc (.cells (cellsNn l).toArray ty)) (some ⟨w.heap.size, 0, none⟩) l.length l := by
  refine ⟨⟨fun i hi => ⟨w.heap.size, 0, rfl, by simp, fun j v hv => ?_⟩⟩, fun x hx => (ho x hx).later ((Below.refl _ _).alloc (Nat.le_refl _) _), hf, Nat.le_refl _⟩
  have hi' : i < l.length := by simpa using hi
  obtain ⟨c0, c1⟩ := cellsNn_at l i hi'
  have V := VarB.new w (cellsNn l) ty
  match j, hv with
  | 0, hv =>
    have hv' : Value.string l[i].s = v := by simpa [Nn.cells] using hv
    have := V.cell _ c0
    rw [hv'] at this
    simpa using this
  | 1, hv =>
    have hv' : Value.slice l[i].a l[i].rs.length l[i].c = v := by simpa [Nn.cells] using hv
    have := V.cell _ c1
    rw [hv'] at this
    simpa using this
  | j + 2, hv => simp [Nn.cells] at hv
theorem small1 : sT.size ≤ maxLen ∧ sU.size ≤ maxLen ∧ sV.size ≤ maxLen ∧ sA.size ≤ maxLen := by decide
theorem same_new (L : List ByteArray) (a : Option Addr) (c : Nat) (W : World) (h : StrsA W a L) (hl : L.length ≤ 100) (hs : ∀ s ∈ L, s.size ≤ maxLen) :
    Calls Try.prog 15 #[.slice a L.length c, .slice (some ⟨W.heap.size, 0, none⟩) L.length L.length] (W.alloc (.cells (strs L).toArray 9)) fun e w' => e = .returned (.bool true) ∧ Below W.heap.size W w' := by
  have hb : Below W.heap.size W (W.alloc (.cells (strs L).toArray 9)) := (Below.refl _ _).alloc (Nat.le_refl _) _
  refine (lawSame_any a _ c L.length L L _ (h.later hb) (strs_new W L 9 hs) (by omega) (by omega)).mono ?_
  rintro e w' ⟨rfl, hb2⟩
  exact ⟨by rw [decide_eq_true rfl], below_through hb2 hb.size hb⟩
theorem same_tuv (a : Option Addr) (c : Nat) (W : World) (h : StrsA W a [sT, sU, sV]) : Calls Try.prog 15 #[.slice a 3 c, .slice (some ⟨W.heap.size, 0, none⟩) 3 3] (W.alloc (.cells #[.string ⟨#[116]⟩, .string ⟨#[117]⟩, .string ⟨#[118]⟩] 9)) fun e w' => e = .returned (.bool true) ∧ Below W.heap.size W w' := same_new [sT, sU, sV] a c W h (by decide) (by decide)
theorem same_tu (a : Option Addr) (c : Nat) (W : World) (h : StrsA W a [sT, sU]) : Calls Try.prog 15 #[.slice a 2 c, .slice (some ⟨W.heap.size, 0, none⟩) 2 2] (W.alloc (.cells #[.string ⟨#[116]⟩, .string ⟨#[117]⟩] 9)) fun e w' => e = .returned (.bool true) ∧ Below W.heap.size W w' := same_new [sT, sU] a c W h (by decide) (by decide)
theorem same_uv (a : Option Addr) (c : Nat) (W : World) (h : StrsA W a [sU, sV]) : Calls Try.prog 15 #[.slice a 2 c, .slice (some ⟨W.heap.size, 0, none⟩) 2 2] (W.alloc (.cells #[.string ⟨#[117]⟩, .string ⟨#[118]⟩] 9)) fun e w' => e = .returned (.bool true) ∧ Below W.heap.size W w' := same_new [sU, sV] a c W h (by decide) (by decide)
theorem check_new (W : World) : Calls Try.prog 9 #[.slice (some ⟨W.heap.size + 1, 0, none⟩) 1 1] ((W.alloc (.cells #[.string ⟨#[97]⟩] 9)).alloc (.cells #[.string ⟨#[97]⟩, .slice (some ⟨W.heap.size, 0, none⟩) 1 1] 35)) fun e w' => e = .returned (.int .i64 20) ∧ Below W.heap.size W w' := by
  have hb1 : Below W.heap.size W (W.alloc (.cells #[.string ⟨#[97]⟩] 9)) := (Below.refl _ _).alloc (Nat.le_refl _) _
  have S1 : StrsA (W.alloc (.cells #[.string ⟨#[97]⟩] 9)) (some ⟨W.heap.size, 0, none⟩) [sA] := strs_new W [sA] 9 (by decide)
  have hz : (W.alloc (.cells #[.string ⟨#[97]⟩] 9)).heap.size = W.heap.size + 1 := World.size_alloc _ _
  generalize W.alloc (.cells #[.string ⟨#[97]⟩] 9) = W1 at *
  have hb2 : Below W1.heap.size W1 (W1.alloc (.cells #[.string ⟨#[97]⟩, .slice (some ⟨W.heap.size, 0, none⟩) 1 1] 35)) := (Below.refl _ _).alloc (Nat.le_refl _) _
  have hN : NodesAt (W1.alloc (.cells #[.string ⟨#[97]⟩, .slice (some ⟨W.heap.size, 0, none⟩) 1 1] 35)) (some ⟨W1.heap.size, 0, none⟩) 1 [⟨sA, some ⟨W.heap.size, 0, none⟩, 1, [sA]⟩] :=
    nodes_new W1 [⟨sA, some ⟨W.heap.size, 0, none⟩, 1, [sA]⟩] 35 (fun x hx => by
      obtain rfl := List.mem_singleton.1 hx
      exact ⟨S1, Nat.le_refl _, show 1 ≤ 8796093022208 by decide, small1.2.2.2⟩) (show 1 ≤ 3518437208883 by decide)
  have C := check_any _ _ _ _ hN
  rw [show dat [⟨sA, some ⟨W.heap.size, 0, none⟩, 1, [sA]⟩] = [(sA, [sA])] from rfl, ex_check, hz] at C
  refine Calls.mono C ?_
  rintro e w' ⟨rfl, hb3⟩
  exact ⟨rfl, below_through (below_through hb3 hb2.size hb2) hb1.size hb1⟩
set_option maxHeartbeats 8000000 in
set_option maxRecDepth 1000000 in
theorem awake17_any (w : World) : Calls Try.prog 8 #[] w fun e w' => e = .returned (.bool true) ∧ Below w.heap.size w w' := by
  obtain ⟨w1, hw1⟩ : ∃ W, w.alloc (.cells #[.string ⟨#[117]⟩, .string ⟨#[116]⟩] 9) = W := ⟨_, rfl⟩
  obtain ⟨b1, hb1⟩ : ∃ b, w.heap.size = b := ⟨_, rfl⟩
  have hz1 : w1.heap.size = b1 + 1 := by rw [← hw1, ← hb1]; simp
  have hB1 : Below w.heap.size w w1 := by rw [← hw1]; exact (Below.refl _ _).alloc (Nat.le_refl _) _
  have S1 : StrsA w1 (some ⟨b1, 0, none⟩) [sU, sT] := by rw [← hw1, ← hb1]; exact strs_new w [sU, sT] 9 (by decide)
  obtain ⟨w2, hw2⟩ : ∃ W, w1.alloc (.cells #[.string ⟨#[116]⟩] 9) = W := ⟨_, rfl⟩
  have hz2 : w2.heap.size = b1 + 1 + 1 := by rw [← hw2, World.size_alloc, hz1]
  have hB2 : Below w1.heap.size w1 w2 := by rw [← hw2]; exact (Below.refl _ _).alloc (Nat.le_refl _) _
  have S2 : StrsA w2 (some ⟨b1 + 1, 0, none⟩) [sT] := by rw [← hw2, ← hz1]; exact strs_new w1 [sT] 9 (by decide)
  obtain ⟨w3, hw3⟩ : ∃ W, w2.alloc (.cells #[.string ⟨#[118]⟩, .slice (some ⟨b1, 0, none⟩) 2 2, .string ⟨#[116]⟩, .slice none 0 0, .string ⟨#[117]⟩, .slice (some ⟨b1 + 1, 0, none⟩) 1 1] 35) = W := ⟨_, rfl⟩
  have hB3 : Below w2.heap.size w2 w3 := by rw [← hw3]; exact (Below.refl _ _).alloc (Nat.le_refl _) _
  have hN : NodesAt w3 (some ⟨b1 + 1 + 1, 0, none⟩) 3 (exL b1 (b1 + 1)) := by
    rw [← hw3, ← hz2]
    refine nodes_new w2 (exL b1 (b1 + 1)) 35 (fun x hx => ?_) (show 3 ≤ 3518437208883 by decide)
    simp only [exL, List.mem_cons, List.not_mem_nil, or_false] at hx
    rcases hx with rfl | rfl | rfl
    · exact ⟨S1.later hB2, Nat.le_refl _, show 2 ≤ 8796093022208 by decide, small1.2.2.1⟩
    · exact ⟨StrsA.nil _ _, Nat.le_refl _, show 0 ≤ 8796093022208 by decide, small1.1⟩
    · exact ⟨S2, Nat.le_refl _, show 1 ≤ 8796093022208 by decide, small1.2.1⟩
  have hBw : Below w.heap.size w w3 := below_through (below_through hB3 hB2.size hB2) hB1.size hB1
  have e0 : dat (exL b1 (b1 + 1)) = exD := rfl
  have C1 := order_any _ _ _ w3 hN
  rw [e0, ex_order] at C1
  have HN := hid0 hN
  have C2 := hid0 (fun (W : World) (hW : Below w3.heap.size w3 W) => below_any _ _ _ sV W (HN.out.later hW) small1.2.2.1)
  have C3 := hid0 (fun (W : World) (hW : Below w3.heap.size w3 W) => above_any _ _ _ sT W (HN.out.later hW) (show 3 ≤ 8000000 by decide))
  rw [e0, ex_below] at C2
  rw [e0, ex_above] at C3
  rw [show (exL b1 (b1 + 1)).length = 3 from rfl] at C1 C2 C3
  have HBW := hid0 hBw
  clear hN hB1 hB2 hB3 S1 S2 e0 hBw
  go_enter Try.func8, Try.ntmps8
  go_wp2_with (first | (go_at_call 10; go_must ((with_reducible refine C1.mono ?_); rintro e w4 ⟨⟨va, rfl, hSa⟩, hb4⟩; (obtain ⟨aa, ca, rfl, hca, hAa⟩ := (hSa.sl (by decide)).out); (have HA := hid0 hAa); (have HB4 := hid0 hb4); rw [show [sT, sU, sV].length = 3 from rfl]; clear hSa hAa hca hb4 C1)) | (go_at_call 12; go_must ((with_reducible refine (C2.out _ HB4.out).mono ?_); rintro e w5 ⟨⟨vb, rfl, hSb⟩, hb5⟩; (obtain ⟨ab, cb, rfl, hcb, hAb⟩ := (hSb.sl (by decide)).out); (have HA := hid0 (HA.out.later hb5)); (have HAB := hid0 hAb); (have HB5 := hid0 (below_through hb5 HB4.out.size HB4.out)); rw [show [sT, sU].length = 2 from rfl]; clear hSb hAb hcb hb5 C2)) | (go_at_call 15; go_must (first | ((with_reducible refine (same_tuv aa ca _ HA.out).mono ?_); rintro e w6 ⟨rfl, hb6⟩; (have HB6 := hid0 (below_through hb6 HB5.out.size HB5.out)); (have HAB := hid0 (HAB.out.later hb6)); clear hb6) | ((with_reducible refine (same_tu ab cb _ HAB.out).mono ?_); rintro e w7 ⟨rfl, hb7⟩; (have HB7 := hid0 (below_through hb7 HB6.out.size HB6.out)); clear hb7) | ((with_reducible refine (same_uv av cv _ HAV.out).mono ?_); rintro e w9 ⟨rfl, hb9⟩; (have HB9 := hid0 (below_through hb9 HB8.out.size HB8.out)); clear hb9))) | (go_at_call 16; go_must ((with_reducible refine (C3.out _ HB7.out).mono ?_); rintro e w8 ⟨⟨v8, rfl, hS8⟩, hb8⟩; (obtain ⟨av, cv, rfl, hcv, hAv⟩ := hS8.out); (have HAV := hid0 hAv); (have HB8 := hid0 (below_through hb8 HB7.out.size HB7.out)); rw [show [sU, sV].length = 2 from rfl]; clear hS8 hAv hcv hb8)) | (go_at_call 9; go_must ((with_reducible refine (check_new w9).mono ?_); rintro e w10 ⟨rfl, hb10⟩; (have HB10 := hid0 (below_through hb10 HB9.out.size HB9.out)); clear hb10)) | fail)
  go_ret
  exact ⟨rfl, below_through HB10.out HBW.out.size HBW.out⟩
end Go.Proofs.Ytadlelhdjakmmaa
