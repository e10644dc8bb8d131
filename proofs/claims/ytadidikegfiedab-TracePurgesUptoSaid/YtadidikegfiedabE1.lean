/- Several of my texts laid together, each as it was: T9, T19. Conditions: each names its own. -/
import Derived.Test.YtadidikegfiedabC4
import Derived.Test.YtadidikegfiedabC9
import Derived.Test.YtadidikegfiedabB6
/- A log, the bag at each time, and up to when the log was purged, plainly: what changes make of them, what a purge does; what came and went behind a time brings the rows from then to now. Nothing of any program here. Conditions: each lemma names its own. -/
namespace Go.Proofs.Ytadidikegfiedab
open Go.RowKit

theorem len_abs : ∀ {B : List Pair}, Rises B → (B.length : Int) ≤ absS B
  | [], _ => Int.le_refl _
  | x :: B, h => by
    have := len_abs h.2.2
    have := h.1
    rw [List.length_cons, absS]; push_cast
    split <;> omega
/-- The bags at the times, from the first one on. -/
structure InvT (i : Nat) (L : List Dat) (Bs : List (List Pair)) (low : Nat) : Prop where
  len : Bs.length = i + 1
  lo : low ≤ i
  right : rightD 0 L = true
  last : ∀ x ∈ L, x.1 ≤ i
  few : L.length ≤ 4000 * i
  rises : ∀ k (h : k < Bs.length), Rises Bs[k]
  small : ∀ k (h : k < Bs.length), absS Bs[k] ≤ 4000 * k
  sum : ∀ k (h : k < Bs.length) (_ : low ≤ k) (r : List Val), sumOf r Bs[k] + sumOf r ((keepD k L).map pairD) = sumOf r (Bs[i]'(by omega))
theorem InvT.start : InvT 0 [] [[]] 0 := ⟨rfl, Nat.le_refl _, rfl, fun _ h => absurd h (by simp), Nat.zero_le _, fun k h => by
  obtain rfl : k = 0 := by simp at h; omega
  exact trivial, fun k h => by
  obtain rfl : k = 0 := by simp at h; omega
  exact Int.le_refl _, fun k h _ r => by
  obtain rfl : k = 0 := by simp at h; omega
  rfl⟩
theorem InvT.lastD {i : Nat} {L : List Dat} {Bs : List (List Pair)} {low : Nat} (h : InvT i L Bs low) : lastD 0 L ≤ i := by
  by_cases hn : L = []
  · subst hn; exact Int.natCast_nonneg _
  · rw [lastD_at 0 L hn]; exact h.last _ (List.getElem_mem _)
theorem InvT.add {i : Nat} {L : List Dat} {Bs : List (List Pair)} {low : Nat} (h : InvT i L Bs low) {R B : List Pair} (hR : absS R ≤ 4000) (hB : B = ofB ((Bs[i]'(by have := h.len; omega)) ++ R)) :
    InvT (i + 1) (L ++ entsD ((i + 1 : Nat) : Int) R) (Bs ++ [B]) low := by
  have hlen := h.len
  have hlo := h.lo
  have hl := entsD_len ((i + 1 : Nat) : Int) R
  have hfew := h.few
  have hsm := h.small i (by omega)
  have hlastD := h.lastD
  have old : ∀ k (h1 : k < (Bs ++ [B]).length) (h2 : k < Bs.length), (Bs ++ [B])[k] = Bs[k] := fun k h1 h2 => List.getElem_append_left h2
  have new : ∀ k (h1 : k < (Bs ++ [B]).length), k = i + 1 → (Bs ++ [B])[k] = B := fun k h1 e => by
    subst e
    rw [List.getElem_append_right (by omega)]
    simp [hlen]
  have hBr : Rises B := by rw [hB]; exact rises_ofB _
  have hBs : absS B ≤ absS (Bs[i]'(by omega)) + absS R := by
    rw [hB, ← absS_append]; exact absS_ofB _
  have hsum : ∀ r, sumOf r B = sumOf r (Bs[i]'(by omega)) + sumOf r R := fun r => by rw [hB, sumOf_ofB, sumOf_append]
  refine ⟨by simp [hlen], by omega, right_add R h.right (by push_cast; omega), fun x hx => ?_, by rw [List.length_append]; omega, fun k hk => ?_, fun k hk => ?_, fun k hk hlk r => ?_⟩
  · rcases List.mem_append.1 hx with hx | hx
    · have := h.last x hx; push_cast; omega
    · have := (entsD_mem hx).1; omega
  · by_cases h2 : k < Bs.length
    · rw [old k hk h2]; exact h.rises k h2
    · rw [new k hk (by simp at hk; omega)]; exact hBr
  · by_cases h2 : k < Bs.length
    · rw [old k hk h2]; exact h.small k h2
    · have hk1 : k = i + 1 := by simp at hk; omega
      rw [new k hk hk1, hk1]; push_cast; omega
  · rw [new (i + 1) (by simp; omega) rfl, keepD_append, List.map_append, sumOf_append, hsum r]
    by_cases h2 : k < Bs.length
    · rw [old k hk h2, keepD_all (L := entsD ((i + 1 : Nat) : Int) R) (fun x hx => by rw [(entsD_mem hx).1]; push_cast; omega), sumOf_ents]
      have := h.sum k h2 hlk r
      omega
    · have hk1 : k = i + 1 := by simp at hk; omega
      rw [new k hk hk1, hsum r, hk1, keepD_none (L := L) (fun x hx => by have := h.last x hx; push_cast; omega), keepD_none (L := entsD ((i + 1 : Nat) : Int) R) (fun x hx => by rw [(entsD_mem hx).1]; exact Int.le_refl _)]
      simp [sumOf]
theorem InvT.purge {i : Nat} {L : List Dat} {Bs : List (List Pair)} {low : Nat} (h : InvT i L Bs low) {p : Nat} (hp : p ≤ i) : InvT i (keepD p L) Bs (max low p) := by
  have hlo := h.lo
  have hfew := h.few
  refine ⟨h.len, by omega, right_keep _ h.right, fun x hx => h.last x (List.mem_filter.1 hx).1, Nat.le_trans (List.length_filter_le ..) hfew, h.rises, h.small, fun k hk hlk r => ?_⟩
  rw [keepD_keep, if_neg (by omega)]
  exact h.sum k hk (by omega) r
/-- What came and went behind a time brings the rows from then to now. -/
theorem InvT.means {i : Nat} {L : List Dat} {Bs : List (List Pair)} {low : Nat} (h : InvT i L Bs low) {k : Nat} (hk : k < Bs.length) (hl : low ≤ k) :
    ofB (Bs[k] ++ ofB ((keepD k L).map pairD)) = Bs[i]'(by have := h.len; omega) :=
  (ofB_is (h.rises i (by have := h.len; omega)) (fun r => by rw [sumOf_append, sumOf_ofB]; exact (h.sum k hk hl r).symm)).symm
theorem InvT.plain {i : Nat} {L : List Dat} {Bs : List (List Pair)} {low : Nat} (h : InvT i L Bs low) : ∀ x ∈ L, x.2.1 = 1 ∨ x.2.1 = -1 := fun x hx => (okD_lt (((rightD_iff 0 L).1 h.right).2.1 x hx)).2
theorem keep_abs {k : Int} {L : List Dat} (h : ∀ x ∈ L, x.2.1 = 1 ∨ x.2.1 = -1) : absS ((keepD k L).map pairD) ≤ L.length := by
  rw [absS_ents (keepD k L) (fun x hx => h x (List.mem_filter.1 hx).1)]
  have := List.length_filter_le (fun x : Dat => decide (k < x.1)) L
  unfold keepD; omega
end Go.Proofs.Ytadidikegfiedab

/- TraceSizes: the law's call, in whatever memory: it is true. Conditions: the log's and the changes' cells are known; the log is not too long. -/
namespace Go.Proofs.Ytadidikegfiedab
open Go.RowKit

structure SZ (w : World) (b2 : Nat) (us : List Value) (W : World) : Prop where
  v2 : VarB W b2 us
  b : Below w.heap.size w W
theorem SZ.below {w : World} {b2 : Nat} {us : List Value} {W W' : World} (h : SZ w b2 us W) (hb : Below W.heap.size W W') : SZ w b2 us W' := ⟨h.v2.below hb, below_through hb h.b.size h.b⟩
structure SZ6 (w : World) (b2 b6 : Nat) (us vs : List Value) (a : Option Addr) (F : List Ent) (W : World) : Prop where
  z : SZ w b2 us W
  v6 : VarB W b6 vs
  f : EntsAt W a F
theorem SZ6.below {w : World} {b2 b6 : Nat} {us vs : List Value} {a : Option Addr} {F : List Ent} {W W' : World} (h : SZ6 w b2 b6 us vs a F W) (hb : Below W.heap.size W W') : SZ6 w b2 b6 us vs a F W' := ⟨h.z.below hb, h.v6.below hb, h.f.later hb⟩
theorem rises_adj16 : ∀ {L : List Pair}, (∀ x ∈ L, x.2 ≠ 0) → (∀ i (h : i + 1 < L.length), rowsV (L[i]).1 (L[i + 1]).1 < 0) → Rises L
  | [], _, _ => trivial
  | [x], h0, _ => ⟨h0 x (by simp), fun y hy => absurd hy (by simp), trivial⟩
  | x :: y :: L, h0, h => by
    have hR : Rises (y :: L) := rises_adj16 (fun z hz => h0 z (List.mem_cons_of_mem _ hz)) (fun i hi => h (i + 1) (by simp at hi ⊢; omega))
    have hxy : rowsV x.1 y.1 < 0 := h 0 (by simp)
    refine ⟨h0 x (by simp), fun z hz => ?_, hR⟩
    rcases List.mem_cons.1 hz with rfl | hz
    · exact hxy
    · exact rowsV_lt_trans hxy (hR.2.1 z hz)
theorem rightE_rises {E : List Elem} (h : rightE E = true) : Rises (E.map pr) := by
  refine rises_adj16 (fun x hx => ?_) (fun i hi => ?_)
  · obtain ⟨e, he, rfl⟩ := List.mem_map.1 hx
    exact rightE_nz h e he
  · have hi' : i + 1 < E.length := by simpa using hi
    have h4 := List.all_eq_true.1 h (i + 1) (List.mem_range.2 hi')
    rw [rightAt_get hi', Bool.and_eq_true] at h4
    have h5 := h4.2
    rw [upAt_get (by omega)] at h5
    simpa [pr] using h5
theorem since_sizes {f : Int} {D : List Dat} {ch : List Pair} {la : Int} (h : rightD f D = true) (hl : lastD f D = la) (hc : Rises ch) : sinceM f (D ++ entsD (la + 1) ch) la = (ch, true) := by
  obtain ⟨h0, h1, h2⟩ := (rightD_iff f D).1 h
  have hf := lastD_from (f := f) (fun x hx => (okD_lt (h1 x hx)).1)
  unfold sinceM
  rw [if_pos ⟨right_add ch h (by omega), by omega⟩, keepD_append, keepD_none (L := D) (fun x hx => by have := lastD_le (f := f) h2 x hx; omega), keepD_all (L := entsD (la + 1) ch) (fun x hx => by rw [(entsD_mem hx).1]; omega), List.nil_append, ofB_ents _ hc]
set_option maxHeartbeats 8000000 in
set_option maxRecDepth 1000000 in
theorem lawTraceSizes (f : Int) (a : Option Addr) (c : Nat) (L : List Ent) (a2 : Option Addr) (c2 : Nat) (E : List Elem) (w : World) (hL : EntsAt w a L) (hE : ElemsI w a2 c2 E) (hfew : L.length ≤ 500000) (hs : ∀ e ∈ L, in64 e.s) (hf : in64 f) :
    Calls Try.prog 5 #[.agg #[.int .i64 f, .slice a L.length c], .slice a2 E.length c2] w fun e w' => e = .returned (.bool true) ∧ Below w.heap.size w w' := by
  have hS : SZ w w.heap.size [.int .i64 f, .slice a L.length c] (w.alloc (Obj.cells #[.int .i64 f, .slice a L.length c] 25)) := ⟨VarB.new w [.int .i64 f, .slice a L.length c] 25, (Below.refl _ _).alloc (Nat.le_refl _) _⟩
  have CA := hid0 awake16_any
  have CR := hid0 (fun W (hW : Below w.heap.size w W) => trRight_any f a c L W (hL.later hW) (by omega))
  have CB := hid0 (fun W (hW : Below w.heap.size w W) => refBagRight_all a2 c2 E W (hE.later hW))
  have CAdd := hid0 (fun (scn : Int) W (hW : Below w.heap.size w W) => trAdd_any f a c L scn a2 c2 E W (hL.later hW) (hE.later hW) (by omega))
  have HL := hid0 hL
  have HE := hid0 hE
  have HFW := hid0 hfew
  have hla : in64 (lastD f (L.map dat)) := by
    by_cases hn : L = []
    · subst hn; exact hf
    · rw [lastD_at f (L.map dat) (by simpa using hn)]
      simp only [List.getElem_map]
      exact hs _ (List.getElem_mem _)
  have hlast : lastD f (L.map dat) = if h : L = [] then f else (L[L.length - 1]'(by have := List.length_pos_iff.2 h; omega)).s := by
    split
    · rename_i hn; subst hn; rfl
    · rename_i hn
      rw [lastD_at f (L.map dat) (by simpa using hn)]
      simp only [List.getElem_map, List.length_map]
      rfl
  obtain ⟨la, hlaa⟩ : ∃ la, lastD f (L.map dat) = la := ⟨_, rfl⟩
  rw [hlaa] at hla hlast
  have HLA := hid0 hlaa
  have HLO : Hid (-9223372036854775808 ≤ la) := hid0 (by unfold in64 at hla; omega)
  obtain ⟨D, hD⟩ : ∃ D, L.map dat = D := ⟨_, rfl⟩
  have HD := hid0 hD
  rw [hD] at CR CAdd HLA
  obtain ⟨n, hn⟩ : ∃ n, L.length = n := ⟨_, rfl⟩
  obtain ⟨m, hm⟩ : ∃ m, E.length = m := ⟨_, rfl⟩
  have HN := hid0 hn
  have HM := hid0 hm
  have hmf : m ≤ 4398046511104 := by rw [← hm]; exact hE.few
  rw [hn] at CR CAdd hS hfew ⊢
  rw [hm] at CB CAdd ⊢
  have HLAST := hid0 hlast
  clear hs hf hla hlaa hD hm hn hlast hL hE
  have v0 := hS.v2.cell 0 rfl
  have v1 := hS.v2.cell 1 rfl
  go_enter Try.func5, Try.ntmps5
  go_wp2_with fail
  generalize w.alloc (Obj.cells #[.int .i64 f, .slice a n c] 25) = w1 at *
  refine Calls.mono (CR.out _ hS.b) ?_
  rintro e w2 ⟨rfl, hb2⟩
  have hS := hS.below hb2
  have v0 := hS.v2.cell 0 rfl
  have v1 := hS.v2.cell 1 rfl
  clear hb2
  obtain ⟨rd, hrd⟩ : ∃ rd, rightD f D = rd := ⟨_, rfl⟩
  rw [hrd]
  cases rd with
  | false =>
    have HS := hid0 hS
    clear hS
    go_wp2_with (first | (go_at_call 11; go_must (refine (CA.out _).mono ?_; rintro e w9 ⟨rfl, hb9⟩)) | fail)
    go_ret
    exact ⟨rfl, below_through hb9 HS.out.b.size HS.out.b⟩
  | true =>
    have HRD := hid0 hrd
    have HS := hid0 hS
    clear hS hrd
    go_wp2_with fail
    refine Calls.mono (CB.out _ HS.out.b) ?_
    rintro e w3 ⟨rfl, hb3⟩
    have HS := hid0 (HS.out.below hb3)
    have v0 := HS.out.v2.cell 0 rfl
    have v1 := HS.out.v2.cell 1 rfl
    clear hb3
    obtain ⟨rb, hrb⟩ : ∃ rb, rightE E = rb := ⟨_, rfl⟩
    rw [hrb]
    cases rb with
    | false =>
      go_wp2_with (first | (go_at_call 11; go_must (refine (CA.out _).mono ?_; rintro e w9 ⟨rfl, hb9⟩)) | fail)
      go_ret
      exact ⟨rfl, below_through hb9 HS.out.b.size HS.out.b⟩
    | true =>
      have HRB := hid0 hrb
      have HAM := hid0 (show addM f D (la + 1) E = (if 4000 < absS (E.map pr) then (D, 3) else (D ++ entsD (la + 1) (E.map pr), 0)) by unfold addM; rw [if_pos ⟨HRD.out, HRB.out, by rw [HLA.out]; omega⟩])
      clear hrb
      by_cases hne : L = []
      · have hlast := HLAST.out
        rw [dif_pos hne] at hlast
        have hz : ¬ (0 : Int) < (n : Int) := by rw [← HN.out, hne]; simp
        rw [hlast] at HLA HAM HLO
        clear hne HLAST hlast
        by_cases hbig : 4611686018427387904 < f
        · have hd : decide (4611686018427387904 < f) = true := by simpa using hbig
          go_wp2_with (first | (go_at_call 11; go_must (refine (CA.out _).mono ?_; rintro e w9 ⟨rfl, hb9⟩)) | fail)
          go_ret
          exact ⟨rfl, below_through hb9 HS.out.b.size HS.out.b⟩
        · have hd : decide (4611686018427387904 < f) = false := by simpa using hbig
          have hlo := HLO.out
          have hw1 : IntKind.i64.wrap (f + 1) = f + 1 := IntWalk.i64_in _ (by omega)
          have v0 := HS.out.v2.cell 0 rfl
          have v1 := HS.out.v2.cell 1 rfl
          go_wp2_with fail
          refine Calls.mono (CAdd.out (f + 1) _ HS.out.b) ?_
          rw [HAM.out]
          by_cases hmany : 4000 < absS (E.map pr)
          · rw [if_pos hmany]
            rintro e w5 ⟨v5, F5, rfl, hM5, hF5⟩
            have hF5 : F5.map dat = D := hF5
            have HS5 := hid0 (HS.out.below (hM5.b.mono HS.out.b.size |> fun _ => hM5.b))
            have hF5l : F5.length = n := by have := congrArg List.length hF5; rw [List.length_map] at this; rw [this, ← HD.out, List.length_map, HN.out]
            obtain ⟨a5, c5, rfl, _, hE5⟩ := hM5.ents
            rw [hF5l]
            have hV6 := VarB.new w5 [.int .i64 f, .slice a5 n c5] 25
            have hE5 := hE5.later ((Below.refl _ _).alloc (Nat.le_refl _) (Obj.cells #[.int .i64 f, .slice a5 n c5] 25))
            have hS5 := HS5.out.below ((Below.refl _ _).alloc (Nat.le_refl _) (Obj.cells #[.int .i64 f, .slice a5 n c5] 25))
            clear hd hw1 hmany hM5 HS5 v0 v1
            go_wp2_with fail
            generalize w5.alloc (Obj.cells #[.int .i64 f, .slice a5 n c5] 25) = w6 at *
            refine Calls.mono (CA.out _) ?_
            rintro e w7 ⟨rfl, hb7⟩
            have hS5 := hS5.below hb7
            have hV6 := hV6.below hb7
            have hE5 := hE5.later hb7
            have v0 := hS5.v2.cell 0 rfl
            have v1 := hS5.v2.cell 1 rfl
            have u0 := hV6.cell 0 rfl
            have u1 := hV6.cell 1 rfl
            have CS : Calls Try.prog 14 #[.agg #[.int .i64 f, .slice a5 n c5], .agg #[.int .i64 f, .slice a n c]] w7 fun e w' => e = .returned (.bool true) ∧ Below w7.heap.size w7 w' := by
              have h := refSameN_any f a5 a c5 c F5 L w7 hE5 (HL.out.later hS5.b) (by rw [hF5l]; have := HFW.out; have := HN.out; omega) (by rw [hF5, HD.out])
              rwa [hF5l, HN.out] at h
            have HS5 := hid0 hS5
            clear hS5 hV6 hE5 hF5 hF5l hb7
            go_wp2_with fail
            refine Calls.mono CS ?_
            rintro e w8 ⟨rfl, hb8⟩
            go_wp2_with fail
            go_ret
            exact ⟨rfl, below_through hb8 HS5.out.b.size HS5.out.b⟩
          · rw [if_neg hmany]
            rintro e w5 ⟨v5, F5, rfl, hM5, hF5⟩
            have hF5 : F5.map dat = D ++ entsD (f + 1) (E.map pr) := hF5
            have HS5 := hid0 (HS.out.below hM5.b)
            have hsm : absS (E.map pr) ≤ 4000 := by omega
            have hab := absS_nonneg (E.map pr)
            have hF5l : (F5.length : Int) = n + absS (E.map pr) := by
              have h1 := congrArg List.length hF5
              rw [List.length_map, List.length_append] at h1
              have h2 := entsD_len (f + 1) (E.map pr)
              have h3 : D.length = n := by rw [← HD.out, List.length_map, HN.out]
              omega
            obtain ⟨n5, hn5⟩ : ∃ n5, F5.length = n5 := ⟨_, rfl⟩
            obtain ⟨a5, c5, rfl, _, hE5⟩ := hM5.ents
            rw [hn5] at hF5l ⊢
            have HN5 := hid0 hn5
            have hV6 := VarB.new w5 [.int .i64 f, .slice a5 n5 c5] 25
            have hE5 := hE5.later ((Below.refl _ _).alloc (Nat.le_refl _) (Obj.cells #[.int .i64 f, .slice a5 n5 c5] 25))
            have hS5 := HS5.out.below ((Below.refl _ _).alloc (Nat.le_refl _) (Obj.cells #[.int .i64 f, .slice a5 n5 c5] 25))
            have HF5 := hid0 hF5
            have HF5L := hid0 hF5l
            have HAB := hid0 (And.intro hab hsm)
            clear hd hw1 hmany hM5 HS5 v0 v1 hF5 hF5l hn5 hab hsm
            go_wp2_with fail
            generalize w5.alloc (Obj.cells #[.int .i64 f, .slice a5 n5 c5] 25) = w6 at *
            generalize w5.heap.size = b6 at *
            have HS6 := hid0 (show SZ6 w w.heap.size b6 [.int .i64 f, .slice a n c] [.int .i64 f, .slice a5 n5 c5] a5 F5 w6 from ⟨hS5, hV6, hE5⟩)
            clear hS5 hV6 hE5
            go_loopw [8, 9] (fun nv iv wr => ∃ i : Nat, i ≤ m ∧ nv = .int .i64 (absS ((E.map pr).take i)) ∧ iv = .int .i64 i ∧ Below w6.heap.size w6 wr) (fun _ iv _ => m - (intOf iv).toNat)
            case atStart => exact ⟨0, Nat.zero_le _, rfl, rfl, Below.refl _ _⟩
            case round =>
              obtain ⟨i, hi, rfl, rfl, hB⟩ := hrel
              have hBw := below_through hB HS6.out.z.b.size HS6.out.z.b
              by_cases hlt : i < m
              · have hiE : i < E.length := by rw [HM.out]; exact hlt
                obtain ⟨b1, o1, rfl, hc1⟩ := (HE.out.at_.1.later hBw) (by intro e; rw [e] at hiE; exact absurd hiE (by simp))
                have q1 := (hc1 i hiE).2
                have hin := rightE_small HRB.out _ (List.getElem_mem hiE)
                have HSx := hid0 (show absS ((E.map pr).take (i + 1)) = absS ((E.map pr).take i) + max E[i].n (-E[i].n) by
                  rw [List.take_succ_eq_append_getElem (by simpa using hiE), abs_snoc, Int.max_def]
                  simp only [List.getElem_map]
                  show _ + (if E[i].n < 0 then -E[i].n else E[i].n) = _
                  split <;> split <;> omega)
                have hlt1 := abs_take_le (E.map pr) i
                have hlt0 := absS_nonneg ((E.map pr).take i)
                have hsm := HAB.out
                clear hc1 hBw
                generalize E[i] = x at q1 hin HSx
                generalize absS ((E.map pr).take i) = s at HSx hlt1 hlt0 ⊢
                have hw2 : IntKind.i64.wrap (-x.n) = -x.n := IntWalk.i64_in _ (by omega)
                have hw3 : ∀ t : Int, -1099511627776 ≤ t ∧ t ≤ 1099511627776 → IntKind.i64.wrap (s + t) = s + t := fun t ht => IntWalk.i64_in _ (by omega)
                have hw4 : IntKind.i64.wrap (s + max x.n (-x.n)) = s + max x.n (-x.n) := hw3 _ (by rw [Int.max_def]; split <;> omega)
                have hw5 := hw3 x.n (by omega)
                have hw6 := hw3 (-x.n) (by omega)
                have hBd := hid0 hB
                clear hw3 hsm hlt1 hlt0 hB
                go_wp2_with fail
                have q1 : wr.drew.cell? _ = _ := q1
                have hBd := hid0 (Below.drew hBd.out)
                refine wp_region_held_drew (S := (fun W => Below wr.drew.heap.size wr.drew W)) (by kernel_rfl) (Below.refl _ _) (fun hHeld => ?_)
                have hB0 : Below wr.drew.heap.size wr.drew wr.drew := Below.refl _ _
                generalize wr.drew = W0 at q1 hB0 hHeld hBd ⊢
                refine wpAnyH_take (i := 0) (v := ?_) rfl (by kernel_rfl) (by kernel_rfl) (by kernel_rfl) (fun _ _ _ h => h) (Or.inl ⟨by rfl, ?_⟩) (by assumption) ?_
                rotate_left
                · (intro wx hSw; have qq := cell_later hSw q1; go_simp; (try with_reducible rfl); (try omega))
                (try simp only [Act.put, List.setIfInBounds_toArray, List.set_cons_zero, List.set_cons_succ, List.getElem_toArray, List.getElem_cons_zero])
                refine wpAnyH_take (i := 1) (v := ?_) rfl (by kernel_rfl) (by kernel_rfl) (by kernel_rfl) (fun _ _ _ h => h) (Or.inl ⟨by rfl, ?_⟩) (by assumption) ?_
                rotate_left
                · (intro wx hSw; have qq := cell_later hSw q1; go_simp; (try with_reducible rfl); (try omega))
                (try simp only [Act.put, List.setIfInBounds_toArray, List.set_cons_zero, List.set_cons_succ, List.getElem_toArray, List.getElem_cons_zero, List.getElem_cons_succ])
                refine wpAnyH_take (i := 2) (v := ?_) rfl (by kernel_rfl) (by kernel_rfl) (by kernel_rfl) (fun _ _ _ h => h) (Or.inl ⟨by rfl, ?_⟩) (by assumption) ?_
                rotate_left
                · (intro wx hSw; have qq := cell_later hSw q1; go_simp; (try with_reducible rfl); (try omega))
                (try simp only [Act.put, List.setIfInBounds_toArray, List.set_cons_zero, List.set_cons_succ, List.getElem_toArray, List.getElem_cons_zero, List.getElem_cons_succ])
                refine wpAnyH_take (i := 3) (v := ?_) rfl (by kernel_rfl) (by kernel_rfl) (by kernel_rfl) (fun _ _ _ h => h) (Or.inl ⟨by rfl, ?_⟩) (by assumption) ?_
                rotate_left
                · (intro wx hSw; have qq := cell_later hSw q1; go_simp; (try with_reducible rfl); (try omega))
                (try simp only [Act.put, List.setIfInBounds_toArray, List.set_cons_zero, List.set_cons_succ, List.getElem_toArray, List.getElem_cons_zero, List.getElem_cons_succ])
                refine wpAnyH_take (i := 4) (v := ?_) rfl (by kernel_rfl) (by kernel_rfl) (by kernel_rfl) (fun _ _ _ h => h) (Or.inl ⟨by rfl, ?_⟩) (by assumption) ?_
                rotate_left
                · (intro wx hSw; have qq := cell_later hSw q1; go_simp; (try with_reducible rfl); (try omega))
                (try simp only [Act.put, List.setIfInBounds_toArray, List.set_cons_zero, List.set_cons_succ, List.getElem_toArray, List.getElem_cons_zero, List.getElem_cons_succ])
                refine wpAnyH_take (i := 5) (v := ?_) rfl (by kernel_rfl) (by kernel_rfl) (by kernel_rfl) (fun _ _ _ h => h) (Or.inl ⟨by rfl, ?_⟩) (by assumption) ?_
                rotate_left
                · (intro wx hSw; have qq := cell_later hSw q1; go_simp; (try with_reducible rfl); (try omega))
                (try simp only [Act.put, List.setIfInBounds_toArray, List.set_cons_zero, List.set_cons_succ, List.getElem_toArray, List.getElem_cons_zero, List.getElem_cons_succ])
                refine wpAnyH_take (i := 6) (v := ?_) rfl (by kernel_rfl) (by kernel_rfl) (by kernel_rfl) (fun _ _ _ h => h) (Or.inl ⟨by rfl, ?_⟩) (by assumption) ?_
                rotate_left
                · (intro wx hSw; have qq := cell_later hSw q1; go_simp; (try with_reducible rfl); (try omega))
                (try simp only [Act.put, List.setIfInBounds_toArray, List.set_cons_zero, List.set_cons_succ, List.getElem_toArray, List.getElem_cons_zero, List.getElem_cons_succ])
                refine wpAnyH_take (i := 7) (v := ?_) rfl (by kernel_rfl) (by kernel_rfl) (by kernel_rfl) (fun _ _ _ h => h) (Or.inl ⟨by rfl, ?_⟩) (by assumption) ?_
                rotate_left
                · (intro wx hSw; have qq := cell_later hSw q1; go_simp; (try with_reducible rfl); (try omega))
                (try simp only [Act.put, List.setIfInBounds_toArray, List.set_cons_zero, List.set_cons_succ, List.getElem_toArray, List.getElem_cons_zero, List.getElem_cons_succ])
                refine wpAnyH_take (i := 8) (v := ?_) rfl (by kernel_rfl) (by kernel_rfl) (by kernel_rfl) (fun _ _ _ h => h) (Or.inl ⟨by rfl, ?_⟩) (by assumption) ?_
                rotate_left
                · (intro wx hSw; have qq := cell_later hSw q1; go_simp; (try with_reducible rfl); (try omega))
                (try simp only [Act.put, List.setIfInBounds_toArray, List.set_cons_zero, List.set_cons_succ, List.getElem_toArray, List.getElem_cons_zero, List.getElem_cons_succ])
                refine wpAnyH_take (i := 9) (v := ?_) rfl (by kernel_rfl) (by kernel_rfl) (by kernel_rfl) (fun _ _ _ h => h) (Or.inl ⟨by rfl, ?_⟩) (by assumption) ?_
                rotate_left
                · (intro wx hSw; have qq := cell_later hSw q1; go_simp; (try with_reducible rfl); (try omega))
                (try simp only [Act.put, List.setIfInBounds_toArray, List.set_cons_zero, List.set_cons_succ, List.getElem_toArray, List.getElem_cons_zero, List.getElem_cons_succ])
                refine wpAnyH_take (i := 10) (v := ?_) rfl (by kernel_rfl) (by kernel_rfl) (by kernel_rfl) (fun _ _ _ h => h) (Or.inl ⟨by rfl, ?_⟩) (by assumption) ?_
                rotate_left
                · (intro wx hSw; have qq := cell_later hSw q1; go_simp; (try with_reducible rfl); (try omega))
                (try simp only [Act.put, List.setIfInBounds_toArray, List.set_cons_zero, List.set_cons_succ, List.getElem_toArray, List.getElem_cons_zero, List.getElem_cons_succ])
                refine wpAnyH_take (i := 11) (v := ?_) rfl (by kernel_rfl) (by kernel_rfl) (by kernel_rfl) (fun _ _ _ h => h) (Or.inl ⟨by rfl, ?_⟩) (by assumption) ?_
                rotate_left
                · (intro wx hSw; have qq := cell_later hSw q1; go_simp; (try with_reducible rfl); (try omega))
                (try simp only [Act.put, List.setIfInBounds_toArray, List.set_cons_zero, List.set_cons_succ, List.getElem_toArray, List.getElem_cons_zero, List.getElem_cons_succ])
                refine wpAnyH_take (i := 12) (v := ?_) rfl (by kernel_rfl) (by kernel_rfl) (by kernel_rfl) (fun _ _ _ h => h) (Or.inl ⟨by rfl, ?_⟩) (by assumption) ?_
                rotate_left
                · (intro wx hSw; have qq := cell_later hSw q1; go_simp; (try with_reducible rfl); (try omega))
                (try simp only [Act.put, List.setIfInBounds_toArray, List.set_cons_zero, List.set_cons_succ, List.getElem_toArray, List.getElem_cons_zero, List.getElem_cons_succ])
                refine wpAnyH_take (i := 13) (v := ?_) rfl (by kernel_rfl) (by kernel_rfl) (by kernel_rfl) (fun _ _ _ h => h) (Or.inl ⟨by rfl, ?_⟩) (by assumption) ?_
                rotate_left
                · (intro wx hSw; have qq := cell_later hSw q1; go_simp; (try with_reducible rfl); (try omega))
                (try simp only [Act.put, List.setIfInBounds_toArray, List.set_cons_zero, List.set_cons_succ, List.getElem_toArray, List.getElem_cons_zero, List.getElem_cons_succ])
                refine wpAnyH_take (i := 14) (v := ?_) rfl (by kernel_rfl) (by kernel_rfl) (by kernel_rfl) (fun _ _ _ h => h) (Or.inl ⟨by rfl, ?_⟩) (by assumption) ?_
                rotate_left
                · (intro wx hSw; have qq := cell_later hSw q1; go_simp; (try with_reducible rfl); (try omega))
                (try simp only [Act.put, List.setIfInBounds_toArray, List.set_cons_zero, List.set_cons_succ, List.getElem_toArray, List.getElem_cons_zero, List.getElem_cons_succ])
                refine wpAnyH_done (by kernel_rfl) ?_ _
                go_wp2
                exact ⟨⟨i + 1, by omega, by rw [HSx.out], by go_num, hBd.out⟩, by simp [intOf]; omega⟩
              · have e : (E.map pr).take i = E.map pr := List.take_of_length_le (by rw [List.length_map, HM.out]; omega)
                rw [e]
                obtain ⟨S, hS⟩ : ∃ S, absS (E.map pr) = S := ⟨_, rfl⟩
                have h5l := HF5L.out
                have hab := HAB.out
                rw [hS] at h5l hab
                rw [hS]
                have hlen8 : E.length ≤ 4000 := by
                  have := len_abs (rightE_rises HRB.out)
                  rw [List.length_map] at this
                  have := HAB.out
                  omega
                have HADD := hid0 (show wrap64 (n5 : Int) = (n5 : Int) by unfold wrap64; omega)
                have HADD2 := hid0 (show (n : Int) + S = (n5 : Int) from h5l.symm)
                have H6 := hid0 (HS6.out.below hB)
                have u0 := H6.out.v6.cell 0 rfl
                have u1 := H6.out.v6.cell 1 rfl
                have CSn := hid0 (fun W (hS : SZ6 w w.heap.size b6 [.int .i64 f, .slice a n c] [.int .i64 f, .slice a5 n5 c5] a5 F5 W) => (show Calls Try.prog 8 #[.agg #[.int .i64 f, .slice a5 n5 c5], .int .i64 f] W (SinceAns W (E.map pr, true)) from by
                  have h := trSince_any f a5 c5 F5 f W hS.f (by rw [HN5.out]; omega)
                  rwa [HN5.out, HF5.out, since_sizes HRD.out HLA.out (rightE_rises HRB.out)] at h))
                have CRt := hid0 (fun W (hS : SZ6 w w.heap.size b6 [.int .i64 f, .slice a n c] [.int .i64 f, .slice a5 n5 c5] a5 F5 W) => (show Calls Try.prog 7 #[.agg #[.int .i64 f, .slice a5 n5 c5]] W (fun e w' => e = .returned (.bool true) ∧ Below W.heap.size W w') from by
                  have h := trRight_any f a5 c5 F5 W hS.f (by rw [HN5.out]; omega)
                  rwa [HN5.out, HF5.out, right_add (E.map pr) HRD.out (by rw [HLA.out]; omega)] at h))
                have hEb := hid0 (fun W (hW : Below w.heap.size w W) => HE.out.at_.later hW)
                have HL8 := hid0 hlen8
                clear hB h5l hab hlen8 e
                go_wp2_with fail
                refine Calls.mono (CSn.out _ H6.out) ?_
                rintro e w7 ⟨⟨a8, c8, E8, rfl, hc8, hE8, hm8⟩, hb7⟩
                have H7 := hid0 (H6.out.below hb7)
                have HE8 := hid0 hE8
                have HM8 := hid0 hm8
                obtain ⟨n8, hn8⟩ : ∃ n8, E8.length = n8 := ⟨_, rfl⟩
                have HN8 := hid0 hn8
                rw [hn8]
                clear hb7 H6 hc8 hE8 hm8 u0 u1 hn8
                go_wp2_with fail
                refine Calls.mono (CA.out _) ?_
                rintro e w8 ⟨rfl, hb8⟩
                have H8 := hid0 (H7.out.below hb8)
                have HE8 := hid0 (HE8.out.later hb8)
                have u0 := H8.out.v6.cell 0 rfl
                have u1 := H8.out.v6.cell 1 rfl
                have v0 := H8.out.z.v2.cell 0 rfl
                have v1 := H8.out.z.v2.cell 1 rfl
                clear hb8 H7
                have hadd := HADD.out
                have hadd2 := HADD2.out
                go_wp2_with fail
                clear hadd hadd2
                refine Calls.mono (CRt.out _ H8.out) ?_
                rintro e w9 ⟨rfl, hb9⟩
                have H9 := hid0 (H8.out.below hb9)
                have HE9 := hid0 (HE8.out.later hb9)
                have CSm : Calls Try.prog 9 #[.slice a8 n8 c8, .slice a2 m c2] w9 fun e w' => e = .returned (.bool true) ∧ Below w9.heap.size w9 w' := by
                  have h := refSame_any a8 a2 c8 c2 E8 E w9 HE9.out (hEb.out _ H9.out.z.b) (by have := congrArg List.length HM8.out; rw [List.length_map, List.length_map] at this; have := HL8.out; omega) HM8.out
                  rwa [HN8.out, HM.out] at h
                clear hb9 H8 HE8 u0 u1 v0 v1
                go_wp2_with fail
                refine Calls.mono CSm ?_
                rintro e w10 ⟨rfl, hb10⟩
                go_wp2_with fail
                go_ret
                exact ⟨rfl, below_through hb10 H9.out.z.b.size H9.out.z.b⟩
      · have hnp := List.length_pos_iff.2 hne
        have hlast := HLAST.out
        rw [dif_neg hne] at hlast
        obtain ⟨b0, o0, rfl, hc0⟩ := (HL.out.1.later HS.out.b) hne
        have q0 := (hc0 (L.length - 1) (by omega)).1
        rw [← hlast, HN.out] at q0
        rw [HN.out] at hnp
        have hz : (0 : Int) < (n : Int) := by omega
        clear hlast hc0 hne HLAST
        by_cases hbig : 4611686018427387904 < la
        · have hd : decide (4611686018427387904 < la) = true := by simpa using hbig
          go_wp2_with (first | (go_at_call 11; go_must (refine (CA.out _).mono ?_; rintro e w9 ⟨rfl, hb9⟩)) | fail)
          go_ret
          exact ⟨rfl, below_through hb9 HS.out.b.size HS.out.b⟩
        · have hd : decide (4611686018427387904 < la) = false := by simpa using hbig
          have hlo := HLO.out
          have hw1 : IntKind.i64.wrap (la + 1) = la + 1 := IntWalk.i64_in _ (by omega)
          have v0 := HS.out.v2.cell 0 rfl
          have v1 := HS.out.v2.cell 1 rfl
          go_wp2_with fail
          refine Calls.mono (CAdd.out (la + 1) _ HS.out.b) ?_
          rw [HAM.out]
          by_cases hmany : 4000 < absS (E.map pr)
          · rw [if_pos hmany]
            rintro e w5 ⟨v5, F5, rfl, hM5, hF5⟩
            have hF5 : F5.map dat = D := hF5
            have HS5 := hid0 (HS.out.below (hM5.b.mono HS.out.b.size |> fun _ => hM5.b))
            have hF5l : F5.length = n := by have := congrArg List.length hF5; rw [List.length_map] at this; rw [this, ← HD.out, List.length_map, HN.out]
            obtain ⟨a5, c5, rfl, _, hE5⟩ := hM5.ents
            rw [hF5l]
            have hV6 := VarB.new w5 [.int .i64 f, .slice a5 n c5] 25
            have hE5 := hE5.later ((Below.refl _ _).alloc (Nat.le_refl _) (Obj.cells #[.int .i64 f, .slice a5 n c5] 25))
            have hS5 := HS5.out.below ((Below.refl _ _).alloc (Nat.le_refl _) (Obj.cells #[.int .i64 f, .slice a5 n c5] 25))
            clear hd hw1 hmany hM5 HS5 v0 v1
            go_wp2_with fail
            generalize w5.alloc (Obj.cells #[.int .i64 f, .slice a5 n c5] 25) = w6 at *
            refine Calls.mono (CA.out _) ?_
            rintro e w7 ⟨rfl, hb7⟩
            have hS5 := hS5.below hb7
            have hV6 := hV6.below hb7
            have hE5 := hE5.later hb7
            have v0 := hS5.v2.cell 0 rfl
            have v1 := hS5.v2.cell 1 rfl
            have u0 := hV6.cell 0 rfl
            have u1 := hV6.cell 1 rfl
            have CS : Calls Try.prog 14 #[.agg #[.int .i64 f, .slice a5 n c5], .agg #[.int .i64 f, .slice (some ⟨b0, o0, none⟩) n c]] w7 fun e w' => e = .returned (.bool true) ∧ Below w7.heap.size w7 w' := by
              have h := refSameN_any f a5 (some ⟨b0, o0, none⟩) c5 c F5 L w7 hE5 (HL.out.later hS5.b) (by rw [hF5l]; have := HFW.out; have := HN.out; omega) (by rw [hF5, HD.out])
              rwa [hF5l, HN.out] at h
            have HS5 := hid0 hS5
            clear hS5 hV6 hE5 hF5 hF5l hb7
            go_wp2_with fail
            refine Calls.mono CS ?_
            rintro e w8 ⟨rfl, hb8⟩
            go_wp2_with fail
            go_ret
            exact ⟨rfl, below_through hb8 HS5.out.b.size HS5.out.b⟩
          · rw [if_neg hmany]
            rintro e w5 ⟨v5, F5, rfl, hM5, hF5⟩
            have hF5 : F5.map dat = D ++ entsD (la + 1) (E.map pr) := hF5
            have HS5 := hid0 (HS.out.below hM5.b)
            have hsm : absS (E.map pr) ≤ 4000 := by omega
            have hab := absS_nonneg (E.map pr)
            have hF5l : (F5.length : Int) = n + absS (E.map pr) := by
              have h1 := congrArg List.length hF5
              rw [List.length_map, List.length_append] at h1
              have h2 := entsD_len (la + 1) (E.map pr)
              have h3 : D.length = n := by rw [← HD.out, List.length_map, HN.out]
              omega
            obtain ⟨n5, hn5⟩ : ∃ n5, F5.length = n5 := ⟨_, rfl⟩
            obtain ⟨a5, c5, rfl, _, hE5⟩ := hM5.ents
            rw [hn5] at hF5l ⊢
            have HN5 := hid0 hn5
            have hV6 := VarB.new w5 [.int .i64 f, .slice a5 n5 c5] 25
            have hE5 := hE5.later ((Below.refl _ _).alloc (Nat.le_refl _) (Obj.cells #[.int .i64 f, .slice a5 n5 c5] 25))
            have hS5 := HS5.out.below ((Below.refl _ _).alloc (Nat.le_refl _) (Obj.cells #[.int .i64 f, .slice a5 n5 c5] 25))
            have HF5 := hid0 hF5
            have HF5L := hid0 hF5l
            have HAB := hid0 (And.intro hab hsm)
            clear hd hw1 hmany hM5 HS5 v0 v1 hF5 hF5l hn5 hab hsm
            go_wp2_with fail
            generalize w5.alloc (Obj.cells #[.int .i64 f, .slice a5 n5 c5] 25) = w6 at *
            generalize w5.heap.size = b6 at *
            have HS6 := hid0 (show SZ6 w w.heap.size b6 [.int .i64 f, .slice (some ⟨b0, o0, none⟩) n c] [.int .i64 f, .slice a5 n5 c5] a5 F5 w6 from ⟨hS5, hV6, hE5⟩)
            clear hS5 hV6 hE5
            go_loopw [8, 9] (fun nv iv wr => ∃ i : Nat, i ≤ m ∧ nv = .int .i64 (absS ((E.map pr).take i)) ∧ iv = .int .i64 i ∧ Below w6.heap.size w6 wr) (fun _ iv _ => m - (intOf iv).toNat)
            case atStart => exact ⟨0, Nat.zero_le _, rfl, rfl, Below.refl _ _⟩
            case round =>
              obtain ⟨i, hi, rfl, rfl, hB⟩ := hrel
              have hBw := below_through hB HS6.out.z.b.size HS6.out.z.b
              by_cases hlt : i < m
              · have hiE : i < E.length := by rw [HM.out]; exact hlt
                obtain ⟨b1, o1, rfl, hc1⟩ := (HE.out.at_.1.later hBw) (by intro e; rw [e] at hiE; exact absurd hiE (by simp))
                have q1 := (hc1 i hiE).2
                have hin := rightE_small HRB.out _ (List.getElem_mem hiE)
                have HSx := hid0 (show absS ((E.map pr).take (i + 1)) = absS ((E.map pr).take i) + max E[i].n (-E[i].n) by
                  rw [List.take_succ_eq_append_getElem (by simpa using hiE), abs_snoc, Int.max_def]
                  simp only [List.getElem_map]
                  show _ + (if E[i].n < 0 then -E[i].n else E[i].n) = _
                  split <;> split <;> omega)
                have hlt1 := abs_take_le (E.map pr) i
                have hlt0 := absS_nonneg ((E.map pr).take i)
                have hsm := HAB.out
                clear hc1 hBw
                generalize E[i] = x at q1 hin HSx
                generalize absS ((E.map pr).take i) = s at HSx hlt1 hlt0 ⊢
                have hw2 : IntKind.i64.wrap (-x.n) = -x.n := IntWalk.i64_in _ (by omega)
                have hw3 : ∀ t : Int, -1099511627776 ≤ t ∧ t ≤ 1099511627776 → IntKind.i64.wrap (s + t) = s + t := fun t ht => IntWalk.i64_in _ (by omega)
                have hw4 : IntKind.i64.wrap (s + max x.n (-x.n)) = s + max x.n (-x.n) := hw3 _ (by rw [Int.max_def]; split <;> omega)
                have hw5 := hw3 x.n (by omega)
                have hw6 := hw3 (-x.n) (by omega)
                have hBd := hid0 hB
                clear hw3 hsm hlt1 hlt0 hB
                go_wp2_with fail
                have q1 : wr.drew.cell? _ = _ := q1
                have hBd := hid0 (Below.drew hBd.out)
                refine wp_region_held_drew (S := (fun W => Below wr.drew.heap.size wr.drew W)) (by kernel_rfl) (Below.refl _ _) (fun hHeld => ?_)
                have hB0 : Below wr.drew.heap.size wr.drew wr.drew := Below.refl _ _
                generalize wr.drew = W0 at q1 hB0 hHeld hBd ⊢
                refine wpAnyH_take (i := 0) (v := ?_) rfl (by kernel_rfl) (by kernel_rfl) (by kernel_rfl) (fun _ _ _ h => h) (Or.inl ⟨by rfl, ?_⟩) (by assumption) ?_
                rotate_left
                · (intro wx hSw; have qq := cell_later hSw q1; go_simp; (try with_reducible rfl); (try omega))
                (try simp only [Act.put, List.setIfInBounds_toArray, List.set_cons_zero, List.set_cons_succ, List.getElem_toArray, List.getElem_cons_zero])
                refine wpAnyH_take (i := 1) (v := ?_) rfl (by kernel_rfl) (by kernel_rfl) (by kernel_rfl) (fun _ _ _ h => h) (Or.inl ⟨by rfl, ?_⟩) (by assumption) ?_
                rotate_left
                · (intro wx hSw; have qq := cell_later hSw q1; go_simp; (try with_reducible rfl); (try omega))
                (try simp only [Act.put, List.setIfInBounds_toArray, List.set_cons_zero, List.set_cons_succ, List.getElem_toArray, List.getElem_cons_zero, List.getElem_cons_succ])
                refine wpAnyH_take (i := 2) (v := ?_) rfl (by kernel_rfl) (by kernel_rfl) (by kernel_rfl) (fun _ _ _ h => h) (Or.inl ⟨by rfl, ?_⟩) (by assumption) ?_
                rotate_left
                · (intro wx hSw; have qq := cell_later hSw q1; go_simp; (try with_reducible rfl); (try omega))
                (try simp only [Act.put, List.setIfInBounds_toArray, List.set_cons_zero, List.set_cons_succ, List.getElem_toArray, List.getElem_cons_zero, List.getElem_cons_succ])
                refine wpAnyH_take (i := 3) (v := ?_) rfl (by kernel_rfl) (by kernel_rfl) (by kernel_rfl) (fun _ _ _ h => h) (Or.inl ⟨by rfl, ?_⟩) (by assumption) ?_
                rotate_left
                · (intro wx hSw; have qq := cell_later hSw q1; go_simp; (try with_reducible rfl); (try omega))
                (try simp only [Act.put, List.setIfInBounds_toArray, List.set_cons_zero, List.set_cons_succ, List.getElem_toArray, List.getElem_cons_zero, List.getElem_cons_succ])
                refine wpAnyH_take (i := 4) (v := ?_) rfl (by kernel_rfl) (by kernel_rfl) (by kernel_rfl) (fun _ _ _ h => h) (Or.inl ⟨by rfl, ?_⟩) (by assumption) ?_
                rotate_left
                · (intro wx hSw; have qq := cell_later hSw q1; go_simp; (try with_reducible rfl); (try omega))
                (try simp only [Act.put, List.setIfInBounds_toArray, List.set_cons_zero, List.set_cons_succ, List.getElem_toArray, List.getElem_cons_zero, List.getElem_cons_succ])
                refine wpAnyH_take (i := 5) (v := ?_) rfl (by kernel_rfl) (by kernel_rfl) (by kernel_rfl) (fun _ _ _ h => h) (Or.inl ⟨by rfl, ?_⟩) (by assumption) ?_
                rotate_left
                · (intro wx hSw; have qq := cell_later hSw q1; go_simp; (try with_reducible rfl); (try omega))
                (try simp only [Act.put, List.setIfInBounds_toArray, List.set_cons_zero, List.set_cons_succ, List.getElem_toArray, List.getElem_cons_zero, List.getElem_cons_succ])
                refine wpAnyH_take (i := 6) (v := ?_) rfl (by kernel_rfl) (by kernel_rfl) (by kernel_rfl) (fun _ _ _ h => h) (Or.inl ⟨by rfl, ?_⟩) (by assumption) ?_
                rotate_left
                · (intro wx hSw; have qq := cell_later hSw q1; go_simp; (try with_reducible rfl); (try omega))
                (try simp only [Act.put, List.setIfInBounds_toArray, List.set_cons_zero, List.set_cons_succ, List.getElem_toArray, List.getElem_cons_zero, List.getElem_cons_succ])
                refine wpAnyH_take (i := 7) (v := ?_) rfl (by kernel_rfl) (by kernel_rfl) (by kernel_rfl) (fun _ _ _ h => h) (Or.inl ⟨by rfl, ?_⟩) (by assumption) ?_
                rotate_left
                · (intro wx hSw; have qq := cell_later hSw q1; go_simp; (try with_reducible rfl); (try omega))
                (try simp only [Act.put, List.setIfInBounds_toArray, List.set_cons_zero, List.set_cons_succ, List.getElem_toArray, List.getElem_cons_zero, List.getElem_cons_succ])
                refine wpAnyH_take (i := 8) (v := ?_) rfl (by kernel_rfl) (by kernel_rfl) (by kernel_rfl) (fun _ _ _ h => h) (Or.inl ⟨by rfl, ?_⟩) (by assumption) ?_
                rotate_left
                · (intro wx hSw; have qq := cell_later hSw q1; go_simp; (try with_reducible rfl); (try omega))
                (try simp only [Act.put, List.setIfInBounds_toArray, List.set_cons_zero, List.set_cons_succ, List.getElem_toArray, List.getElem_cons_zero, List.getElem_cons_succ])
                refine wpAnyH_take (i := 9) (v := ?_) rfl (by kernel_rfl) (by kernel_rfl) (by kernel_rfl) (fun _ _ _ h => h) (Or.inl ⟨by rfl, ?_⟩) (by assumption) ?_
                rotate_left
                · (intro wx hSw; have qq := cell_later hSw q1; go_simp; (try with_reducible rfl); (try omega))
                (try simp only [Act.put, List.setIfInBounds_toArray, List.set_cons_zero, List.set_cons_succ, List.getElem_toArray, List.getElem_cons_zero, List.getElem_cons_succ])
                refine wpAnyH_take (i := 10) (v := ?_) rfl (by kernel_rfl) (by kernel_rfl) (by kernel_rfl) (fun _ _ _ h => h) (Or.inl ⟨by rfl, ?_⟩) (by assumption) ?_
                rotate_left
                · (intro wx hSw; have qq := cell_later hSw q1; go_simp; (try with_reducible rfl); (try omega))
                (try simp only [Act.put, List.setIfInBounds_toArray, List.set_cons_zero, List.set_cons_succ, List.getElem_toArray, List.getElem_cons_zero, List.getElem_cons_succ])
                refine wpAnyH_take (i := 11) (v := ?_) rfl (by kernel_rfl) (by kernel_rfl) (by kernel_rfl) (fun _ _ _ h => h) (Or.inl ⟨by rfl, ?_⟩) (by assumption) ?_
                rotate_left
                · (intro wx hSw; have qq := cell_later hSw q1; go_simp; (try with_reducible rfl); (try omega))
                (try simp only [Act.put, List.setIfInBounds_toArray, List.set_cons_zero, List.set_cons_succ, List.getElem_toArray, List.getElem_cons_zero, List.getElem_cons_succ])
                refine wpAnyH_take (i := 12) (v := ?_) rfl (by kernel_rfl) (by kernel_rfl) (by kernel_rfl) (fun _ _ _ h => h) (Or.inl ⟨by rfl, ?_⟩) (by assumption) ?_
                rotate_left
                · (intro wx hSw; have qq := cell_later hSw q1; go_simp; (try with_reducible rfl); (try omega))
                (try simp only [Act.put, List.setIfInBounds_toArray, List.set_cons_zero, List.set_cons_succ, List.getElem_toArray, List.getElem_cons_zero, List.getElem_cons_succ])
                refine wpAnyH_take (i := 13) (v := ?_) rfl (by kernel_rfl) (by kernel_rfl) (by kernel_rfl) (fun _ _ _ h => h) (Or.inl ⟨by rfl, ?_⟩) (by assumption) ?_
                rotate_left
                · (intro wx hSw; have qq := cell_later hSw q1; go_simp; (try with_reducible rfl); (try omega))
                (try simp only [Act.put, List.setIfInBounds_toArray, List.set_cons_zero, List.set_cons_succ, List.getElem_toArray, List.getElem_cons_zero, List.getElem_cons_succ])
                refine wpAnyH_take (i := 14) (v := ?_) rfl (by kernel_rfl) (by kernel_rfl) (by kernel_rfl) (fun _ _ _ h => h) (Or.inl ⟨by rfl, ?_⟩) (by assumption) ?_
                rotate_left
                · (intro wx hSw; have qq := cell_later hSw q1; go_simp; (try with_reducible rfl); (try omega))
                (try simp only [Act.put, List.setIfInBounds_toArray, List.set_cons_zero, List.set_cons_succ, List.getElem_toArray, List.getElem_cons_zero, List.getElem_cons_succ])
                refine wpAnyH_done (by kernel_rfl) ?_ _
                go_wp2
                exact ⟨⟨i + 1, by omega, by rw [HSx.out], by go_num, hBd.out⟩, by simp [intOf]; omega⟩
              · have e : (E.map pr).take i = E.map pr := List.take_of_length_le (by rw [List.length_map, HM.out]; omega)
                rw [e]
                obtain ⟨S, hS⟩ : ∃ S, absS (E.map pr) = S := ⟨_, rfl⟩
                have h5l := HF5L.out
                have hab := HAB.out
                rw [hS] at h5l hab
                rw [hS]
                have hlen8 : E.length ≤ 4000 := by
                  have := len_abs (rightE_rises HRB.out)
                  rw [List.length_map] at this
                  have := HAB.out
                  omega
                have HADD := hid0 (show wrap64 (n5 : Int) = (n5 : Int) by unfold wrap64; omega)
                have HADD2 := hid0 (show (n : Int) + S = (n5 : Int) from h5l.symm)
                have H6 := hid0 (HS6.out.below hB)
                have u0 := H6.out.v6.cell 0 rfl
                have u1 := H6.out.v6.cell 1 rfl
                have CSn := hid0 (fun W (hS : SZ6 w w.heap.size b6 [.int .i64 f, .slice (some ⟨b0, o0, none⟩) n c] [.int .i64 f, .slice a5 n5 c5] a5 F5 W) => (show Calls Try.prog 8 #[.agg #[.int .i64 f, .slice a5 n5 c5], .int .i64 la] W (SinceAns W (E.map pr, true)) from by
                  have h := trSince_any f a5 c5 F5 la W hS.f (by rw [HN5.out]; omega)
                  rwa [HN5.out, HF5.out, since_sizes HRD.out HLA.out (rightE_rises HRB.out)] at h))
                have CRt := hid0 (fun W (hS : SZ6 w w.heap.size b6 [.int .i64 f, .slice (some ⟨b0, o0, none⟩) n c] [.int .i64 f, .slice a5 n5 c5] a5 F5 W) => (show Calls Try.prog 7 #[.agg #[.int .i64 f, .slice a5 n5 c5]] W (fun e w' => e = .returned (.bool true) ∧ Below W.heap.size W w') from by
                  have h := trRight_any f a5 c5 F5 W hS.f (by rw [HN5.out]; omega)
                  rwa [HN5.out, HF5.out, right_add (E.map pr) HRD.out (by rw [HLA.out]; omega)] at h))
                have hEb := hid0 (fun W (hW : Below w.heap.size w W) => HE.out.at_.later hW)
                have HL8 := hid0 hlen8
                clear hB h5l hab hlen8 e
                go_wp2_with fail
                refine Calls.mono (CSn.out _ H6.out) ?_
                rintro e w7 ⟨⟨a8, c8, E8, rfl, hc8, hE8, hm8⟩, hb7⟩
                have H7 := hid0 (H6.out.below hb7)
                have HE8 := hid0 hE8
                have HM8 := hid0 hm8
                obtain ⟨n8, hn8⟩ : ∃ n8, E8.length = n8 := ⟨_, rfl⟩
                have HN8 := hid0 hn8
                rw [hn8]
                clear hb7 H6 hc8 hE8 hm8 u0 u1 hn8
                go_wp2_with fail
                refine Calls.mono (CA.out _) ?_
                rintro e w8 ⟨rfl, hb8⟩
                have H8 := hid0 (H7.out.below hb8)
                have HE8 := hid0 (HE8.out.later hb8)
                have u0 := H8.out.v6.cell 0 rfl
                have u1 := H8.out.v6.cell 1 rfl
                have v0 := H8.out.z.v2.cell 0 rfl
                have v1 := H8.out.z.v2.cell 1 rfl
                clear hb8 H7
                have hadd := HADD.out
                have hadd2 := HADD2.out
                go_wp2_with fail
                clear hadd hadd2
                refine Calls.mono (CRt.out _ H8.out) ?_
                rintro e w9 ⟨rfl, hb9⟩
                have H9 := hid0 (H8.out.below hb9)
                have HE9 := hid0 (HE8.out.later hb9)
                have CSm : Calls Try.prog 9 #[.slice a8 n8 c8, .slice a2 m c2] w9 fun e w' => e = .returned (.bool true) ∧ Below w9.heap.size w9 w' := by
                  have h := refSame_any a8 a2 c8 c2 E8 E w9 HE9.out (hEb.out _ H9.out.z.b) (by have := congrArg List.length HM8.out; rw [List.length_map, List.length_map] at this; have := HL8.out; omega) HM8.out
                  rwa [HN8.out, HM.out] at h
                clear hb9 H8 HE8 u0 u1 v0 v1
                go_wp2_with fail
                refine Calls.mono CSm ?_
                rintro e w10 ⟨rfl, hb10⟩
                go_wp2_with fail
                go_ret
                exact ⟨rfl, below_through hb10 H9.out.z.b.size H9.out.z.b⟩
end Go.Proofs.Ytadidikegfiedab
