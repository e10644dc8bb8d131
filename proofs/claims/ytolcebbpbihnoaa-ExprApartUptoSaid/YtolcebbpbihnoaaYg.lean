/- The project's stand: contracts of the calls, in whatever memory. Conditions: a condition's and a row's cells are known. -/
import Derived.Test.YtolcebbpbihnoaaYf
import Derived.Test.YtolcebbpbihnoaaTc
import Derived.Test.YtolcebbpbihnoaaTb
namespace Go.Proofs.Ytolcebbpbihnoaa
open Go.RowKit

structure HoOk (n : Nat) : Prop where
  out : ∀ (t : Tx) (a : Option Addr) (cc : Nat) (row : List Val) (w : World), TxAt w n t → RowIn w a row → Calls Try.prog 14 #[t.val, .slice a row.length cc] w (IntAns (hoT row t) w)
structure IntHalf (f : Nat) (w : World) (u v : Value) (r : Int) : Prop where
  out : ∀ W, Below w.heap.size w W → Calls Try.prog f #[u, v] W (IntAns r W)
theorem HoOk.half {n : Nat} (H : HoOk n) {t : Tx} {a : Option Addr} {cc : Nat} {row : List Val} {w : World} (ht : TxAt w n t) (hr : RowIn w a row) : IntHalf 14 w t.val (.slice a row.length cc) (hoT row t) :=
  ⟨fun W hb => H.out t a cc row W (ht.later hb) (hr.later hb)⟩
def ints (l : List Int) : List Value := l.map (Value.int .i64)
theorem ints_len (l : List Int) : (ints l).length = l.length := by simp [ints]
theorem ints_snoc (l : List Int) (x : Int) : ints (l ++ [x]) = ints l ++ [.int .i64 x] := by simp [ints]
theorem ints_owned {B n : Nat} {w : World} {v : Value} {l : List Int} (h : w.ownsRow B 3 1 v n (ints l)) (hn : l.length = n) : ∃ a c, v = .slice a l.length c ∧ l.length ≤ c ∧ IntsAt w a l := by
  subst hn
  have h0 := h
  obtain ⟨_, hcase⟩ := h
  rcases hcase with ⟨rfl, hl⟩ | ⟨g, cap', cur, rfl, hg, hh, hn, hcap, hsz, htake⟩
  · exact ⟨none, 0, by rw [hl], by omega, fun hne => absurd (List.length_eq_zero_iff.1 hl) hne⟩
  · refine ⟨some ⟨g, 0, none⟩, cap', rfl, hn, fun _ => ⟨g, 0, rfl, fun i hi => ?_⟩⟩
    have := h0.cellAt i (by omega)
    rw [Nat.zero_add, this]
    simp [ints, hi]
theorem hoL_len (row : List Val) (l : List Tx) : (hoL row l).length = l.length := by rw [hoL_map]; simp
theorem hoL_take (row : List Val) (l : List Tx) (j : Nat) (h : j < l.length) : hoL row (l.take (j + 1)) = hoL row (l.take j) ++ [hoT row l[j]] := by
  rw [hoL_map, hoL_map, List.take_succ_eq_append_getElem h, List.map_append]; rfl
theorem own_below {w w' : World} {base n k : Nat} {ty : TypeId} {v : Value} {X : List Value} (h : w.ownsRow base ty k v n X) (hb : Below w.heap.size w w') : w'.ownsRow base ty k v n X :=
  h.kept (row := none) ⟨hb.os, hb.tape, hb.output, hb.size, fun i hi _ => hb.block i hi⟩ (by cases v.ownBlock <;> simp)
theorem own_next {w w1 w2 : World} {v v' : Value} {o : Obj} {n m k : Nat} {ty : TypeId} {X Y : List Value} (hnx : Below w.heap.size w w1) (hown : w1.ownsRow w.heap.size ty k v n X) (hown' : w2.ownsRow w.heap.size ty k v' m Y) (hgrow : (w1.alloc o).grownBy w2 v.ownBlock) :
    w2.ownsRow w.heap.size ty k v' m Y ∧ Below w.heap.size w w2 :=
  ⟨hown', (hnx.alloc hnx.size o).grown hgrow (by have := hnx.size; simp; omega) (fun j hj => (hown.lt j hj).1)⟩
set_option maxHeartbeats 8000000 in
set_option maxRecDepth 1000000 in
theorem stand1_step {n : Nat} (IH : HoOk n) (t : Tx) (a : Option Addr) (cc : Nat) (row : List Val) (b0 : Nat) (w : World) (ht : TxAt w n t) (hr : RowIn w a row) (hc : w.cell? ⟨b0, 0, none⟩ = some (.slice a row.length cc)) :
    Calls Try.prog 57 #[t.val, .pointer (some ⟨b0, 0, none⟩)] w (IntAns (hoT row t) w) := by
  have H := IH.half (cc := cc) ht hr
  clear IH ht hr
  generalize hoT row t = x at H
  obtain ⟨k, op, ⟨kl, al, vl, pl, cl, yl⟩, ⟨kr, ar, vr, pr, cr, yr⟩, p, c, ys⟩ := t
  have z0 := World.block_lt_of_cell? w _ hc
  have V := VarB.new w [.int .i64 k, .int .i64 op, .int .i64 kl, .int .i64 al, .int .i64 vl.k, .int .i64 vl.n, .string vl.s, .slice pl yl.length cl, .int .i64 kr, .int .i64 ar, .int .i64 vr.k, .int .i64 vr.n, .string vr.s, .slice pr yr.length cr, .slice p ys.length c] 38
  have a0 := V.cell 0 rfl
  have a1 := V.cell 1 rfl
  have a2 := V.cell 2 rfl
  have a3 := V.cell 3 rfl
  have a4 := V.cell 4 rfl
  have a5 := V.cell 5 rfl
  have a6 := V.cell 6 rfl
  have a7 := V.cell 7 rfl
  have a8 := V.cell 8 rfl
  have a9 := V.cell 9 rfl
  have a10 := V.cell 10 rfl
  have a11 := V.cell 11 rfl
  have a12 := V.cell 12 rfl
  have a13 := V.cell 13 rfl
  have a14 := V.cell 14 rfl
  clear V
  show Calls Try.prog 57 #[.agg #[.int .i64 k, .int .i64 op, .int .i64 kl, .int .i64 al, .int .i64 vl.k, .int .i64 vl.n, .string vl.s, .slice pl yl.length cl, .int .i64 kr, .int .i64 ar, .int .i64 vr.k, .int .i64 vr.n, .string vr.s, .slice pr yr.length cr, .slice p ys.length c], .pointer (some ⟨b0, 0, none⟩)] w (IntAns x w)
  go_enter Try.func57, Try.ntmps57
  go_wp2_with (go_at_call 14; refine (H.out _ (by go_grown)).mono ?_; rintro e w1 ⟨rfl, hb1⟩)
  go_ret
  exact IntAns.of rfl (below_through hb1 (by simp) (by go_grown))
set_option maxHeartbeats 8000000 in
set_option maxRecDepth 1000000 in
theorem eachH_step {n : Nat} (IH : HoOk n) (p : Option Addr) (c : Nat) (ys : List Tx) (a : Option Addr) (cc : Nat) (row : List Val) (b0 : Nat) (w : World) (hk : TxOk w p c ys) (hA : ∀ x ∈ ys, TxAt w n x) (hr : RowIn w a row) (hc : w.cell? ⟨b0, 0, none⟩ = some (.slice a row.length cc)) :
    Calls Try.prog 56 #[.slice p ys.length c, .func (.func 57) #[] #[.pointer (some ⟨b0, 0, none⟩)]] w fun e w' => (∃ a' c', e = .returned (.slice a' (hoL row ys).length c') ∧ IntsAt w' a' (hoL row ys)) ∧ Below w.heap.size w w' := by
  obtain ⟨i0, hi, hz0, hz1, hz2⟩ := info_parts infoI
  have H : ∀ j (hj : j < ys.length), IntHalf 57 w (ys[j]).val (.pointer (some ⟨b0, 0, none⟩)) (hoT row ys[j]) := fun j hj => ⟨fun W hb => stand1_step IH _ a cc row b0 W ((hA _ (List.getElem_mem hj)).later hb) (hr.later hb) (cell_later hb hc)⟩
  have HH := hid0 H
  have HK := hid0 hk
  have hroom := hk.room
  clear IH hA hr hc H hk
  have hlen : ∀ k, k ≤ ys.length → (hoL row (ys.take k)).length = k := fun k hk => by rw [hoL_len, List.length_take]; omega
  have HL := hid0 hlen
  clear hlen
  go_enter Try.func56, Try.ntmps56
  go_wp2_with fail
  go_at_call 69
  refine (growI_any ys.length _ (by omega)).mono ?_
  rintro e w0 ⟨⟨v0, rfl, O0⟩, hb0⟩
  have O0 := hid0 O0
  go_wp2_with fail
  go_loopw [5, 13] (fun v i wr => ∃ k : Nat, k ≤ ys.length ∧ i = .int .i64 k ∧ wr.ownsRow w.heap.size 3 1 v k (ints (hoL row (ys.take k))) ∧ Below w.heap.size w wr) (fun _ i _ => ys.length - (intOf i).toNat)
  case atStart => exact ⟨0, Nat.zero_le _, rfl, by simpa [hoL, ints] using O0.out, hb0⟩
  case round =>
    obtain ⟨k, hk, rfl, hown, hnx⟩ := hrel
    have hsz := hnx.size
    by_cases hlt : k < ys.length
    · have H := (HH.out k hlt)
      have HT := hid0 (hoL_take row ys k hlt)
      obtain ⟨b, o, rfl, hb, hX⟩ := HK.out.arg k hlt
      generalize hy : ys[k] = t at H hX HT
      clear hy
      generalize hoT row t = x at H HT
      obtain ⟨kt, op, ⟨kl, al, vl, pl, cl, yl⟩, ⟨kr, ar, vr, pr, cr, yr⟩, pt, ct, yt⟩ := t
      have hb' : b < wr.heap.size := by omega
      have q0 := cell_later hnx (rng hX 0 rfl)
      have q1 := cell_later hnx (rng hX 1 rfl)
      have q2 := cell_later hnx (rng hX 2 rfl)
      have q3 := cell_later hnx (rng hX 3 rfl)
      have q4 := cell_later hnx (rng hX 4 rfl)
      have q5 := cell_later hnx (rng hX 5 rfl)
      have q6 := cell_later hnx (rng hX 6 rfl)
      have q7 := cell_later hnx (rng hX 7 rfl)
      have q8 := cell_later hnx (rng hX 8 rfl)
      have q9 := cell_later hnx (rng hX 9 rfl)
      have q10 := cell_later hnx (rng hX 10 rfl)
      have q11 := cell_later hnx (rng hX 11 rfl)
      have q12 := cell_later hnx (rng hX 12 rfl)
      have q13 := cell_later hnx (rng hX 13 rfl)
      have q14 := cell_later hnx (rng hX 14 rfl)
      simp only [Nat.add_zero] at q0
      clear hX
      have hO := hid0 hown
      clear hown
      go_wp2_with fail
      go_at_call 57
      refine (H.out _ (hnx.alloc hsz _)).mono ?_
      rintro e w3 ⟨rfl, hb3⟩
      have hown := own_below (hO.out.alloc _) hb3
      have hb3' := hb3
      rw [World.size_alloc] at hb3'
      have hnx3 : Below w.heap.size w w3 := below_through hb3 (by simp; omega) (hnx.alloc hsz _)
      have hs3 := hnx3.size
      clear hb3 hb3' q0 q1 q2 q3 q4 q5 q6 q7 q8 q9 q10 q11 q12 q13 q14
      go_wp2_with (at_builtin; refine wpList_append_own _ rfl _ _ 33 rfl w.heap.size 3 i0 (.int .i64 0) 1 8 Try.underlying33 hi hz0 hz1 hz2 rfl (by decide) _ _ _ rfl (hown.alloc _) ⟨w3.heap.size, 0, none⟩ 1 1 [.int .i64 x] rfl rfl ?c1 ?c2 ?c3 ?c4 ?c5 ?_)
      case c1 =>
        intro j u hj
        match j, hj with
        | 0, hj => simp at hj; subst hj; simp [Addr.add]
      case c2 => intro u hu; simp at hu; subst hu; rfl
      case c3 => unfold maxLen; omega
      case c4 => omega
      case c5 => simp; omega
      intro v' w4 hown' hgrow _
      have R := own_next hnx3 hown hown' hgrow
      rw [← ints_snoc, ← HT.out] at R
      have R1 := hid0 R.1
      have R2 := R.2
      clear R hown' hgrow hown hnx3 hnx hO
      go_wp2_with fail
      exact ⟨⟨k + 1, by omega, by go_num, R1.out, R2⟩, by simp [intOf]; omega⟩
    · obtain rfl : k = ys.length := by omega
      rw [List.take_length] at hown
      obtain ⟨a', c', rfl, hc', hR⟩ := ints_owned hown (hoL_len row ys)
      rw [hoL_len]
      have hR := hid0 hR
      clear hown
      go_wp2_with fail
      go_ret
      exact ⟨⟨a', c', by rw [hoL_len]; rfl, hR.out⟩, hnx⟩
set_option maxHeartbeats 8000000 in
set_option maxRecDepth 1000000 in
theorem stand_step {n : Nat} (IH : HoOk n) (p : Option Addr) (c : Nat) (ys : List Tx) (a : Option Addr) (cc : Nat) (row : List Val) (w : World) (hk : TxOk w p c ys) (hA : ∀ x ∈ ys, TxAt w n x) (hr : RowIn w a row) :
    Calls Try.prog 35 #[.slice p ys.length c, .slice a row.length cc] w fun e w' => (∃ a' c', e = .returned (.slice a' (hoL row ys).length c') ∧ IntsAt w' a' (hoL row ys)) ∧ Below w.heap.size w w' := by
  have hmf : ∀ (fn : Fn) (first cap : Array Value) (w : World), (Instr.makeFunc fn first cap).run Try.prog w = .ok (.func fn first cap) w := fun _ _ _ _ => rfl
  have V := VarB.new w [.slice a row.length cc] 27
  have hB : Below w.heap.size w (w.alloc (.cells #[.slice a row.length cc] 27)) := (Below.refl _ _).alloc (Nat.le_refl _) _
  have H := eachH_step IH p c ys a cc row w.heap.size _ ⟨hk.c, hk.room, hk.row.later hB⟩ (fun x hx => (hA x hx).later hB) (hr.later hB) (V.cell 0 rfl)
  have H := hid0 H
  clear V hB hk hA hr IH
  go_enter Try.func35, Try.ntmps35
  go_wp2_with fail
  go_at_call 56
  refine H.out.mono ?_
  rintro e w1 ⟨⟨a', c', rfl, hI⟩, hb1⟩
  have hI := hid0 hI
  go_wp2_with fail
  go_ret
  exact ⟨⟨a', c', rfl, hI.out⟩, below_through hb1 (by simp) ((Below.refl _ _).alloc (Nat.le_refl _) _)⟩
structure StandHalf (w : World) (u v : Value) (L : List Int) : Prop where
  out : ∀ W, Below w.heap.size w W → Calls Try.prog 35 #[u, v] W fun e w' => (∃ a' c', e = .returned (.slice a' L.length c') ∧ IntsAt w' a' L) ∧ Below W.heap.size W w'
theorem range_mid {w : World} {b o : Nat} {xs ys zs : List Value} (h : w.rangeAt b o (xs ++ (ys ++ zs))) : w.rangeAt b (o + xs.length) ys := fun j v hv => by
  have hj : j < ys.length := by
    rcases Nat.lt_or_ge j ys.length with h | h
    · exact h
    · rw [List.getElem?_eq_none h] at hv; cases hv
  rw [Nat.add_assoc]
  exact h (xs.length + j) v (by rw [List.getElem?_append_right (by omega), show xs.length + j - xs.length = j by omega, List.getElem?_append_left hj]; exact hv)
/-- A box, and what was there. -/
structure BoxS (w0 : World) (B : Nat) (us : List Value) (w : World) : Prop where
  a : VarB w B us
  b : Below w0.heap.size w0 w
theorem BoxS.drew {w0 w : World} {B : Nat} {us : List Value} (h : BoxS w0 B us w) : BoxS w0 B us w.drew := ⟨h.a.drew, Below.drew h.b⟩
theorem BoxS.below {w0 w w1 : World} {B : Nat} {us : List Value} (h : BoxS w0 B us w) (hb : Below w.heap.size w w1) : BoxS w0 B us w1 := ⟨h.a.below hb, below_through hb h.b.size h.b⟩
end Go.Proofs.Ytolcebbpbihnoaa
