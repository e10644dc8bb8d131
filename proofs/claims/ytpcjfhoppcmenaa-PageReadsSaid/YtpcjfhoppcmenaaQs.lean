/- The walks of the laws PageBytes, PageReads: each returns true, and below the heap's end memory is as it was. Conditions: the slots' cells are known (what came in reads so). -/
import Derived.Test.YtpcjfhoppcmenaaQq
namespace Go.Proofs.Ytpcjfhoppcmenaa
open Go.RowKit

theorem byt_right {p : Pg} (h : rightB p = true) : bytD p = bytesP p ∧ bytE p = 0 := by unfold bytD bytE; rw [h]; exact ⟨rfl, rfl⟩
theorem byt_wrong {p : Pg} (h : rightB p = false) : bytD p = [] ∧ bytE p = 1 := by unfold bytD bytE; rw [h]; exact ⟨rfl, rfl⟩
theorem read_empty : readQ [] = [] ∧ readE [] = 2 := read_none (read_long (by simp))

set_option maxHeartbeats 4000000 in
theorem lawPageBytes (a : Option Addr) (c : Nat) (p : Pg) (w : World) (h : PgAt w a c p) :
    Calls Try.prog 7 #[.agg #[.slice a p.length c]] w fun e w' => e = .returned (.bool true) ∧ Below w.heap.size w w' := by
  have hlm : p.length ≤ maxLen := by have := h.len; unfold maxLen; omega
  have v0 := (VarAt.new w (.slice a p.length c) 24).cell
  have hP0 := h.alloc (Obj.cells #[.slice a p.length c] 24)
  have hB0 : Below w.heap.size w (w.alloc (Obj.cells #[.slice a p.length c] 24)) := (Below.refl _ _).alloc (Nat.le_refl _) _
  have C1 := fun W (hp : PgAt W a c p) => pgBytes_any a c p W hp.out hp.cap hp.len hp.small
  have C2 := fun W (hp : PgAt W a c p) => refBytes_any a c p W hp.out hlm hp.small
  clear h
  obtain ⟨X, hX⟩ : ∃ X, bytD p = X := ⟨_, rfl⟩
  obtain ⟨er, her⟩ : ∃ er, bytE p = er := ⟨_, rfl⟩
  rw [hX, her] at C1 C2
  have hxx := txt_toList X
  have hxl : X.length ≤ maxLen := by
    rw [← hX]
    cases hr : rightB p with
    | true => rw [(byt_right hr).1, bytesP_len ((rightB_iff p).1 hr).size]; unfold maxLen; omega
    | false => rw [(byt_wrong hr).1]; unfold maxLen; simp
  have C3 := fun W => pgRead_any X W hxl
  unfold PgAns at C3
  have HX := hid0 hX
  have HE := hid0 her
  clear hX her hxl
  go_enter Try.func7, Try.ntmps7
  go_wp2_with fail
  refine (C1 _ hP0).mono ?_
  rintro e w1 ⟨rfl, hb1⟩
  have hB1 := below_through hb1 hB0.size hB0
  have hP1 := hP0.later hb1
  have v1 := cell_later hb1 v0
  clear C1 hP0 v0 hb1 hB0
  go_wp2_with fail
  refine (C2 _ hP1).mono ?_
  rintro e w2 ⟨rfl, hb2⟩
  have hB2 := below_through hb2 hB1.size hB1
  have hP2 := hP1.later hb2
  have v2 := cell_later hb2 v1
  clear C2 hP1 v1 hb2 hB1
  go_wp2_with fail
  refine (C3 _).mono ?_
  rintro e w3 ⟨⟨a3, c3, q3, rfl, hc3, hq3, hqe3, _⟩, hb3⟩
  have hB3 := below_through hb3 hB2.size hB2
  have hP3 := hP2.later hb3
  have v3 := cell_later hb3 v2
  have hz3 := hB3.size
  have HQ := hid0 hqe3
  have HQ3 := hid0 hq3
  clear C3 hP2 v2 hb3 hB2 hqe3 hq3
  have hB4 := hB3.alloc hz3 (Obj.cells #[.slice a3 q3.length c3] 24)
  have hP4 := hP3.alloc (Obj.cells #[.slice a3 q3.length c3] 24)
  have hQ4 := hid0 (HQ3.out.later ((Below.refl _ _).alloc (Nat.le_refl _) (Obj.cells #[.slice a3 q3.length c3] 24)))
  have u4 := (VarAt.new w3 (.slice a3 q3.length c3) 24).cell
  have v4 := cell_later ((Below.refl w3.heap.size w3).alloc (Nat.le_refl _) (Obj.cells #[.slice a3 q3.length c3] 24)) v3
  clear hB3 hP3 HQ3 v3
  go_wp2_with fail
  refine (awake_any _).mono ?_
  rintro e w5 ⟨rfl, hb5⟩
  have hB5 := below_through hb5 hB4.size hB4
  have hP5 := hP4.later hb5
  have hQ5 := hid0 (hQ4.out.later hb5)
  have u5 := cell_later hb5 u4
  have v5 := cell_later hb5 v4
  clear hB4 hP4 hQ4 u4 v4 hb5
  cases hr : rightB p with
  | false =>
    have e1 : er = 1 := by rw [← HE.out]; exact (byt_wrong hr).2
    subst e1
    clear hr
    go_wp2
    go_ret
    exact ⟨rfl, hB5⟩
  | true =>
    have e1 : er = 0 := by rw [← HE.out]; exact (byt_right hr).2
    have e2 : X = bytesP p := by rw [← HX.out]; exact (byt_right hr).1
    obtain ⟨r1, r2⟩ := read_some (read_back ((rightB_iff p).1 hr))
    rw [← e2] at r1 r2
    have e3 : q3 = p := by rw [HQ.out, r1]
    subst e1
    obtain rfl := e3.symm
    have hxl : (txt X).size = 1024 := by rw [txt_size, e2, bytesP_len ((rightB_iff p).1 hr).size]
    have C6 := refSame_any a a3 c c3 p w5 hP5.out hQ5.out hlm
    rw [r2]
    clear r1 r2 e2 hr hP5 hQ5 HQ
    go_wp2_with fail
    refine C6.mono ?_
    rintro e w6 ⟨rfl, hb6⟩
    have hB6 := below_through hb6 hB5.size hB5
    clear C6 hB5 hb6
    go_wp2
    go_ret
    exact ⟨rfl, hB6⟩

set_option maxHeartbeats 4000000 in
theorem lawPageReads (s : List UInt8) (w : World) (hs : s.length ≤ maxLen) :
    Calls Try.prog 8 #[.string (txt s)] w fun e w' => e = .returned (.bool true) ∧ Below w.heap.size w w' := by
  have C1 := pgRead_any s w hs
  have C2 := fun W => refRead_any s W
  obtain ⟨Q, hQ⟩ : ∃ Q, readQ s = Q := ⟨_, rfl⟩
  obtain ⟨er, her⟩ : ∃ er, readE s = er := ⟨_, rfl⟩
  have hf := read_fine s
  rw [hQ] at hf
  have hlm : Q.length ≤ maxLen := by have := hf.1; unfold maxLen; omega
  rw [hQ, her] at C1
  simp only [hQ, her] at C2
  unfold PgAns at C1 C2
  have HQ := hid0 hQ
  have HE := hid0 her
  have hss := txt_toList s
  clear hQ her
  go_enter Try.func8, Try.ntmps8
  go_wp2_with fail
  refine C1.mono ?_
  rintro e w1 ⟨⟨a1, c1, q1, rfl, hc1, hq1, hqe1, _⟩, hb1⟩
  obtain rfl := hqe1.symm
  have hz1 := hb1.size
  have hP1 : PgAt w1 a1 c1 Q := ⟨hq1, hc1, hf.1, hf.2⟩
  have hB2 := hb1.alloc hz1 (Obj.cells #[.slice a1 Q.length c1] 24)
  have hP2 := hP1.alloc (Obj.cells #[.slice a1 Q.length c1] 24)
  have v2 := (VarAt.new w1 (.slice a1 Q.length c1) 24).cell
  clear C1 hb1 hP1 hq1
  go_wp2_with fail
  refine (C2 _).mono ?_
  rintro e w3 ⟨⟨a3, c3, q3, rfl, hc3, hq3, hqe3, _⟩, hb3⟩
  obtain rfl := hqe3.symm
  have hB3 := below_through hb3 hB2.size hB2
  have hP3 := hP2.later hb3
  have v3 := cell_later hb3 v2
  have hz3 := hB3.size
  have hR3 : PgAt w3 a3 c3 Q := ⟨hq3, hc3, hf.1, hf.2⟩
  clear C2 hb3 hB2 hP2 v2 hq3 hc3
  have hB4 := hB3.alloc hz3 (Obj.cells #[.slice a3 Q.length c3] 24)
  have hP4 := hP3.alloc (Obj.cells #[.slice a3 Q.length c3] 24)
  have hR4 := hR3.alloc (Obj.cells #[.slice a3 Q.length c3] 24)
  have u4 := (VarAt.new w3 (.slice a3 Q.length c3) 24).cell
  have v4 := fun o => cell_later ((Below.refl w3.heap.size w3).alloc (Nat.le_refl _) o) v3
  have C3 := pgBytes_any a1 c1 Q _ hP4.out hP4.cap hP4.len hP4.small
  obtain ⟨X, hX⟩ : ∃ X, bytD Q = X := ⟨_, rfl⟩
  obtain ⟨ex, hex⟩ : ∃ ex, bytE Q = ex := ⟨_, rfl⟩
  rw [hX, hex] at C3
  have HX := hid0 hX
  have HEX := hid0 hex
  clear hB3 hP3 hR3 hX hex
  go_wp2_with fail
  refine C3.mono ?_
  rintro e w5 ⟨rfl, hb5⟩
  have hB5 := below_through hb5 hB4.size hB4
  have hP5 := hP4.later hb5
  have hR5 := hR4.later hb5
  have u5 := cell_later hb5 u4
  have v5 := cell_later hb5 (v4 _)
  clear C3 hB4 hP4 hR4 u4 v4 hb5
  go_wp2_with fail
  refine (awake_any _).mono ?_
  rintro e w6 ⟨rfl, hb6⟩
  have hB6 := below_through hb6 hB5.size hB5
  have hP6 := hP5.later hb6
  have hR6 := hR5.later hb6
  have u6 := cell_later hb6 u5
  have v6 := cell_later hb6 v5
  clear hB5 hP5 hR5 u5 v5 hb6
  have C6 := refSame_any a1 a3 c1 c3 Q w6 hP6.out hR6.out hlm
  go_wp2_with fail
  refine C6.mono ?_
  rintro e w7 ⟨rfl, hb7⟩
  have hB7 := below_through hb7 hB6.size hB6
  clear C6 hB6 hP6 hR6 u6 v6 hb7
  cases hr : readP s with
  | none =>
    have e1 : er = 2 := by rw [← HE.out]; exact (read_none hr).2
    subst e1
    clear hr
    go_wp2
    go_ret
    exact ⟨rfl, hB7⟩
  | some p' =>
    obtain ⟨r1, r2⟩ := read_some hr
    obtain ⟨r3, r4⟩ := readP_bytes hr
    have e1 : er = 0 := by rw [← HE.out]; exact r2
    have e2 : Q = p' := by rw [← HQ.out]; exact r1
    obtain ⟨b1, b2⟩ := byt_right ((rightB_iff _).2 r3)
    have e3 : X = s := by rw [← HX.out, e2, b1, r4]
    have e4 : ex = 0 := by rw [← HEX.out, e2, b2]
    subst e1
    obtain rfl := e3.symm
    subst e4
    clear hr r1 r2 r3 r4 e2 b1 b2
    go_wp2
    go_ret
    exact ⟨rfl, hB7⟩
end Go.Proofs.Ytpcjfhoppcmenaa
