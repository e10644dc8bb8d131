/- Several of my texts laid together, each as it was: Sc, Sd. Conditions: each names its own. -/
import Derived.Test.YtneebnankghhgabG1
import Derived.BigQuiet
import Derived.Deep.QuietTactic
import Derived.Lib.AppendZerosOnto
import Derived.Lib.Walk
/- Go's binary search over a list of texts that rises: the first place that isn't below, and whether the text is there: a contract of the call, in whatever memory. Conditions: the list's cells are known; it rises. -/
namespace Go.Proofs.Ytneebnankghhgab
open Go.RowKit

theorem bl_eq : ∀ (x y : List UInt8), Op.bytesLess x y = decide (x < y)
  | [], [] => by simp [Op.bytesLess]
  | _ :: _, [] => by simp [Op.bytesLess]
  | [], _ :: _ => by simp [Op.bytesLess]
  | a :: x, b :: y => by
    rw [Op.bytesLess, bl_eq x y]
    simp only [List.cons_lt_cons_iff]
    by_cases h1 : a < b <;> by_cases h2 : a = b <;> by_cases h3 : x < y <;> simp [h1, h2, h3]
theorem less_key (x y : Key) : Op.bytesLess (txt x).toList (txt y).toList = decide (x < y) := by
  rw [bl_eq, ByteArray.toList_eq, ByteArray.toList_eq]; rfl
theorem txt_inj {x y : Key} (h : txt x = txt y) : x = y := by
  have := congrArg (fun s : ByteArray => s.data.toList) h
  exact this

theorem isNaN_any (s : ByteArray) (w : World) : Calls Try.prog 83 #[.string s] w fun e w' => e = .returned (.bool false) ∧ w = w' := by
  go_enter Try.func83, Try.ntmps83
  go_wp2
  go_ret
  exact ⟨rfl, rfl⟩
theorem isNaN2_any (s : ByteArray) (w : World) : Calls Try.prog 64 #[.string s] w fun e w' => e = .returned (.bool false) ∧ w = w' := by
  go_enter Try.func64, Try.ntmps64
  go_wp2
  go_ret
  exact ⟨rfl, rfl⟩
set_option maxHeartbeats 400000 in
theorem less_any (x y : Key) (w : World) : Calls Try.prog 63 #[.string (txt x), .string (txt y)] w fun e w' => e = .returned (.bool (decide (x < y))) ∧ w = w' := by
  have hl := hid0 (less_key x y)
  go_enter Try.func63, Try.ntmps63
  go_wp2_with (go_at_call 83; refine (isNaN_any _ _).mono ?_; rintro e w' ⟨rfl, rfl⟩)
  go_ret
  exact ⟨ret_bool hl.out, rfl⟩

def HasI (ks : List Key) (k : Key) (e : Ending) : Prop := e = .returned (.tuple #[.int .i64 (pl k ks : Nat), .bool (hasK k ks)])
set_option maxHeartbeats 2000000 in
theorem search_any (P : Nat → Prop) (a : Option Addr) (n c : Nat) (ks : List Key) (k : Key) (w : World) (h : Sl 1 sk P w (.slice a n c) ks) (hs : ks.Pairwise (· < ·)) (hn : n ≤ 1000) :
    Calls Try.prog 41 #[.slice a n c, .string (txt k)] w fun e w' => HasI ks k e ∧ w = w' := by
  have A := hid0 h
  have HS := hid0 hs
  have HN := hid0 h.len.1
  clear h hs
  go_enter Try.func41, Try.ntmps41
  go_wp2
  go_loopw [7, 8] (fun iv jv wr => ∃ i j : Nat, i ≤ j ∧ j ≤ n ∧ iv = .int .i64 i ∧ jv = .int .i64 j ∧ Hid ((∀ q (h : q < ks.length), q < i → ks[q] < k) ∧ (∀ q (h : q < ks.length), j ≤ q → ¬ ks[q] < k)) ∧ w = wr) (fun iv jv _ => (intOf jv).toNat - (intOf iv).toNat)
  case atStart => exact ⟨0, n, Nat.zero_le _, Nat.le_refl _, rfl, rfl, hid0 ⟨fun q h hq => absurd hq (Nat.not_lt_zero _), fun q h hq => by have := HN.out; omega⟩, rfl⟩
  case round =>
    obtain ⟨i, j, hij, hj, rfl, rfl, I, rfl⟩ := hrel
    by_cases hlt : i < j
    · have hm : (i + j) / 2 < ks.length := by have := HN.out; omega
      obtain ⟨m, hmm⟩ : ∃ m, (i + j) / 2 = m := ⟨_, rfl⟩
      rw [hmm] at hm
      have hmi : i ≤ m := by omega
      have hmj : m < j := by omega
      obtain ⟨b, o, rfl, _, q0⟩ := A.out.one (List.getElem?_eq_getElem hm)
      have hmn : (m : Int) < (n : Int) := by have := HN.out; omega
      have hsum : ((i : Int) + (j : Int)) / 2 = (m : Int) := by omega
      obtain ⟨x, hx⟩ : ∃ x, ks[m] = x := ⟨_, rfl⟩
      rw [hx] at q0
      have CL := less_any x k w
      have hii : (i : Int) < (j : Int) := by omega
      have HM := hid0 hmm
      have HX := hid0 hx
      by_cases hk : x < k
      · have hd : decide (x < k) = true := by simpa using hk
        rw [hd] at CL
        have I2 : Hid ((∀ q (h : q < ks.length), q < m + 1 → ks[q] < k) ∧ (∀ q (h : q < ks.length), j ≤ q → ¬ ks[q] < k)) := hid0 ⟨fun q h hq => by
          rcases Nat.lt_or_ge q m with g | g
          · exact k_trans (List.pairwise_iff_getElem.1 HS.out _ _ h hm g) (by rw [hx]; exact hk)
          · obtain rfl : q = m := by omega
            rw [hx]; exact hk, I.out.2⟩
        clear hk hd hx hmm I
        go_wp2_with (go_at_call 63; refine CL.mono ?_; rintro e w' ⟨rfl, rfl⟩)
        exact ⟨⟨m + 1, j, by omega, hj, by go_num, rfl, I2, trivial⟩, by simp [intOf]; omega⟩
      · have hd : decide (x < k) = false := by simpa using hk
        rw [hd] at CL
        have I2 : Hid ((∀ q (h : q < ks.length), q < i → ks[q] < k) ∧ (∀ q (h : q < ks.length), m ≤ q → ¬ ks[q] < k)) := hid0 ⟨I.out.1, fun q h hq => by
          rcases Nat.lt_or_ge m q with g | g
          · intro hqk
            exact hk (by rw [← hx]; exact k_trans (List.pairwise_iff_getElem.1 HS.out _ _ hm h g) hqk)
          · obtain rfl : q = m := by omega
            rw [hx]; exact hk⟩
        clear hk hd hx hmm I
        go_wp2_with (go_at_call 63; refine CL.mono ?_; rintro e w' ⟨rfl, rfl⟩)
        exact ⟨⟨i, m, hmi, by omega, rfl, rfl, I2, trivial⟩, by simp [intOf]; omega⟩
    · obtain rfl : i = j := by omega
      have hil : i ≤ ks.length := by have := HN.out; omega
      have hp : pl k ks = i := pl_of hil I.out.1 (fun h => I.out.2 i h (Nat.le_refl _))
      have hii : ¬ (i : Int) < (i : Int) := by omega
      by_cases hin : i < ks.length
      · obtain ⟨b, o, rfl, _, q0⟩ := A.out.one (List.getElem?_eq_getElem hin)
        obtain ⟨x, hx⟩ : ∃ x, ks[i] = x := ⟨_, rfl⟩
        rw [hx] at q0
        have hin2 : (i : Int) < (n : Int) := by have := HN.out; omega
        have dn : decide ((i : Int) < (n : Int)) = true := by simpa using hin2
        by_cases hxk : x = k
        · have hh : hasK k ks = true := by unfold hasK; rw [hp, List.getElem?_eq_getElem hin, hx, hxk]; simp
          have HR := hid0 (And.intro hp hh)
          subst hxk
          clear hx hp hh I hin hil
          go_wp2_with fail
          go_ret2
          exact ⟨by unfold HasI; rw [HR.out.1, HR.out.2]; rfl, rfl⟩
        · have hh : hasK k ks = false := by unfold hasK; rw [hp, List.getElem?_eq_getElem hin, hx]; simpa using hxk
          have HR := hid0 (And.intro hp hh)
          have hne : ¬ (txt x).toList = (txt k).toList := fun e => hxk (by rw [ByteArray.toList_eq, ByteArray.toList_eq] at e; exact e)
          have hbe : ((txt x).toList == (txt k).toList) = false := by simpa using hne
          clear hx hp hh I hin hil hne
          go_wp2_with (go_at_call 64; refine (isNaN2_any _ _).mono ?_; rintro e w' ⟨rfl, rfl⟩)
          go_ret2
          exact ⟨by unfold HasI; rw [HR.out.1, HR.out.2]; rfl, rfl⟩
      · have hin2 : ¬ (i : Int) < (n : Int) := by have := HN.out; omega
        have dn : decide ((i : Int) < (n : Int)) = false := by simpa using hin2
        have hh : hasK k ks = false := by unfold hasK; rw [hp, List.getElem?_eq_none (by omega)]; simp
        have HR := hid0 (And.intro hp hh)
        clear hp hh I hin hil
        go_wp2_with fail
        go_ret2
        exact ⟨by unfold HasI; rw [HR.out.1, HR.out.2]; rfl, rfl⟩
end Go.Proofs.Ytneebnankghhgab

/- Go's slices.Grow of nothing, and slices.Concat: all the elements in new memory, one behind the other: contracts of the calls, in whatever memory. Conditions: the slices' cells are known; 1000 elements at most. -/
namespace Go.Proofs.Ytneebnankghhgab
open Go.RowKit

theorem run_append_nil7 {P : Program} (w : World) (t ty e : TypeId) (i : TypeInfo) (ht : P.underlying t = some (.slice e)) (hi : P.info? e = some i) (b : Option Addr) (n c c' : Nat) (hn : n ≤ c) :
    (Builtin.append_ #[t, t] ty #[.slice b n c, .slice none 0 c']).run P w = .ok (.slice b n c) w := by
  cases b <;> simp [Builtin.append_, run_underlying ht, sizeOf, typeInfo, hi, Builtin.lenOf, Builtin.firstCells, storeCells, hn]
theorem flatten_take {α : Type} {Ls : List (List α)} {i : Nat} {l : List α} (h : Ls[i]? = some l) : (Ls.take (i + 1)).flatten = (Ls.take i).flatten ++ l := by
  obtain ⟨hi, e⟩ := List.getElem?_eq_some_iff.1 h
  rw [List.take_succ_eq_append_getElem hi, e]; simp
theorem flatten_le {α : Type} (Ls : List (List α)) (i : Nat) : (Ls.take i).flatten.length ≤ Ls.flatten.length := by
  conv => rhs; rw [← List.take_append_drop i Ls, List.flatten_append, List.length_append]
  omega
theorem flatten_next {α : Type} {Ls : List (List α)} {i : Nat} {l : List α} (h : Ls[i]? = some l) : (Ls.take i).flatten.length + l.length ≤ Ls.flatten.length := by
  have := flatten_le Ls (i + 1)
  rw [flatten_take h, List.length_append] at this
  exact this
/-- What the instances keep: an int, a pair, a list. -/
def vI (x : Int) : Value := .int .i64 x
def eI (x : Int) : List Value := [.int .i64 x]
theorem eI_len (x : Int) : (eI x).length = 1 := rfl
def vP (x : Int × Key) : Value := .agg #[.int .i64 x.1, .string (txt x.2)]
def eP (x : Int × Key) : List Value := [.int .i64 x.1, .string (txt x.2)]
theorem eP_len (x : Int × Key) : (eP x).length = 2 := rfl
def vL (b : Nat) : Value := .slice (some ⟨b, 0, none⟩) 1 1
def eL (b : Nat) : List Value := [.slice (some ⟨b, 0, none⟩) 1 1]
theorem eL_len (x : Nat) : (eL x).length = 1 := rfl
theorem sk_cell (x : Key) : ∀ u ∈ sk x, u.oneCell' = true := by intro u hu; simp [sk] at hu; subst hu; rfl
theorem pk_cell (x : Nat) : ∀ u ∈ pk x, u.oneCell' = true := by intro u hu; simp [pk] at hu; subst hu; rfl
theorem eI_cell (x : Int) : ∀ u ∈ eI x, u.oneCell' = true := by intro u hu; simp [eI] at hu; subst hu; rfl
theorem eP_cell (x : Int × Key) : ∀ u ∈ eP x, u.oneCell' = true := by intro u hu; simp [eP] at hu; rcases hu with rfl | rfl <;> rfl
theorem eL_cell (x : Nat) : ∀ u ∈ eL x, u.oneCell' = true := by intro u hu; simp [eL] at hu; subst hu; rfl
theorem Sl.ofI {P : Nat → Prop} {w : World} {B : Nat} {x : Int} (h : ArgsAt w B (eI x)) (hP : P B) : Sl 1 eI P w (.slice (some ⟨B, 0, none⟩) 1 1) [x] := Sl.fresh (e1 := vI) (l := [x]) h hP 1 1 rfl (Nat.le_refl _)
theorem Sl.ofL {P : Nat → Prop} {w : World} {B : Nat} {x : Nat} (h : ArgsAt w B (eL x)) (hP : P B) : Sl 1 eL P w (.slice (some ⟨B, 0, none⟩) 1 1) [x] := Sl.fresh (e1 := vL) (l := [x]) h hP 1 1 rfl (Nat.le_refl _)
theorem Sl.ofP {P : Nat → Prop} {w : World} {B : Nat} {x : Int × Key} (h : ArgsAt w B (eP x)) (hP : P B) : Sl 2 eP P w (.slice (some ⟨B, 0, none⟩) 1 1) [x] :=
  ⟨_, 1, rfl, Nat.le_refl _, fun _ => ⟨B, 0, rfl, hP, fun i y hy j u hu => by
    cases i with
    | zero =>
      cases hy
      have := h.out j u hu
      simpa using this
    | succ i => simp at hy⟩⟩
theorem cells_one {β : Type} {ec : β → List Value} (h : ∀ x, ∀ u ∈ ec x, u.oneCell' = true) (l : List β) : ∀ u ∈ l.flatMap ec, u.oneCell' = true := by
  intro u hu
  obtain ⟨x, _, hu⟩ := List.mem_flatMap.1 hu
  exact h x u hu
theorem own_shape {w : World} {base n k : Nat} {e : TypeId} {v : Value} {xs : List Value} (h : w.ownsRow base e k v n xs) : ∃ a c, v = .slice a n c ∧ n ≤ c := by
  rcases h.2 with ⟨rfl, rfl⟩ | ⟨g, cap, cur, rfl, _, _, h1, _⟩
  · exact ⟨_, _, rfl, Nat.le_refl _⟩
  · exact ⟨_, _, rfl, h1⟩

/-! ### string -/
theorem infoS : (Try.prog.info? 9).map (fun i => (i.zero, i.size, i.bytes)) = some (some (.string ⟨#[]⟩), 1, 16) := by kernel_rfl
set_option maxHeartbeats 1000000 in
theorem growS_any (n : Nat) (w : World) (hn : n ≤ 1000) :
    Calls Try.prog 89 #[.slice none 0 0, .int .i64 (n : Int)] w fun e w' => (∃ v, e = .returned v ∧ w'.ownsRow w.heap.size 9 1 v 0 []) ∧ Below w.heap.size w w' := by
  obtain ⟨i0, hi, hz0, hz1, hz2⟩ := info_parts infoS
  by_cases h0 : n = 0
  · subst h0
    go_enter Try.func89, Try.ntmps89
    go_wp2
    go_ret
    exact ⟨⟨_, rfl, World.ownsRow_nil _ _ _ _⟩, Below.refl _ _⟩
  · have h1 : ¬ ((n : Int) < 0) := by omega
    have h4 : (0 : Int) < (n : Int) := by omega
    have hrz : ∀ ty, (Builtin.append_ #[46, 3] ty #[.slice none 0 0, .int .i64 (n : Int)]).run Try.prog w =
        .ok (.slice (some ⟨w.heap.size, 0, none⟩) n (grownCap w n 0 9)) (w.drew.alloc (.cells ((([] : List Value).toArray ++ Builtin.zeroCells (Value.cells (.string ⟨#[]⟩)) n) ++ Builtin.zeroCells (Value.cells (.string ⟨#[]⟩)) (grownCap w n 0 9 - n)) 9)) := fun ty => by
      have h := Lib.run_append_grow_zeros w 46 3 ty 9 i0 (.string ⟨#[]⟩) .i64 .i64 Try.underlying46 Try.underlying3 hi hz0 none 0 0 [] (run_firstCells_none w.drew i0.size 0 0 0) n (by omega) (by rw [hz1]; decide) (by omega) (by omega)
        (by rw [hz2]; omega)
        (by rw [Nat.zero_add]; exact growslice_fits (by omega) (by rw [hz2]; omega))
      rw [Nat.zero_add] at h
      exact h
    have hGn : n ≤ grownCap w n 0 9 := grownCap_ge w _ _ _
    have hGm := grownCap_le_maxLen w n 0 9 (by unfold maxLen; omega)
    obtain ⟨G, hG⟩ : ∃ G, grownCap w n 0 9 = G := ⟨_, rfl⟩
    rw [hG] at hrz hGn hGm
    obtain ⟨cells, hcells⟩ : ∃ cells, (([] : List Value).toArray ++ Builtin.zeroCells (Value.cells (.string ⟨#[]⟩)) n) ++ Builtin.zeroCells (Value.cells (.string ⟨#[]⟩)) (G - n) = cells := ⟨_, rfl⟩
    rw [hcells] at hrz
    have hGM := hid0 hGm
    unfold maxLen at hGm
    have hown := World.ownsRow_made (e := 9) (size := 1) (base := w.heap.size) w cells G (Nat.le_refl _) hGM.out (by rw [← hcells]; simp [Builtin.zeroCells, Value.cells]; try omega)
    have HO := hid0 hown
    clear hG hown hcells hi hz0 hz1 hz2
    go_enter Try.func89, Try.ntmps89
    go_wp2_with (at_builtin; refine Lib.wpList_append_run _ rfl _ _ _ _ rfl _ _ rfl rfl _ _ (hrz _) ?_)
    all_goals (go_ret; exact ⟨⟨_, rfl, HO.out⟩, Below.drew ((Below.refl _ _).alloc (Nat.le_refl _) _)⟩)
set_option maxHeartbeats 4000000 in
theorem concS_any (P : Nat → Prop) (B m : Nat) (vs : List Value) (Ls : List (List (Key))) (w : World) (hA : ArgsAt w B vs) (hm : vs.length = m) (hl : Ls.length = m) (hS : ∀ (j : Nat) (v : Value) (l : List (Key)), vs[j]? = some v → Ls[j]? = some l → Sl 1 sk P w v l) (hm1 : m ≤ 100) (hsum : Ls.flatten.length ≤ 1000) :
    Calls Try.prog 75 #[.slice (some ⟨B, 0, none⟩) m m] w fun e w' => (∃ v, e = .returned v ∧ Sl 1 sk (fun b => w.heap.size ≤ b) w' v Ls.flatten) ∧ Below w.heap.size w w' := by
  have HA := hid0 hA
  have HS := hid0 hS
  have HM := hid0 (And.intro hm hl)
  clear hA hS hm hl
  go_enter Try.func75, Try.ntmps75
  go_wp2_with fail
  go_loopw [3, 11] (fun sv iv wr => ∃ i s : Nat, i ≤ m ∧ iv = .int .i64 i ∧ sv = .int .i64 s ∧ s ≤ 1000 ∧ Hid (s = (Ls.take i).flatten.length) ∧ w = wr) (fun _ iv _ => m - (intOf iv).toNat)
  case atStart => exact ⟨0, 0, Nat.zero_le _, rfl, rfl, by omega, hid0 (by simp), rfl⟩
  case round =>
    obtain ⟨i, s, hi, rfl, rfl, hs1, I, rfl⟩ := hrel
    by_cases hlt : i < m
    · have hv : i < vs.length := by have := HM.out.1; omega
      have hL : i < Ls.length := by have := HM.out.2; omega
      obtain ⟨a, c, hve, hc, -⟩ := (HS.out i _ _ (List.getElem?_eq_getElem hv) (List.getElem?_eq_getElem hL)).out
      have q0 := HA.out.out i _ (List.getElem?_eq_getElem hv)
      rw [hve] at q0
      obtain ⟨n, hn⟩ : ∃ n, Ls[i].length = n := ⟨_, rfl⟩
      rw [hn] at q0
      have hii : (i : Int) < (m : Int) := by omega
      have hnx := flatten_next (List.getElem?_eq_getElem hL)
      have hsn : s + n ≤ 1000 := by have := I.out; omega
      have I2 : Hid (s + n = (Ls.take (i + 1)).flatten.length) := hid0 (by rw [flatten_take (List.getElem?_eq_getElem hL), List.length_append, ← I.out, hn])
      have hs0 : ¬ (s : Int) + (n : Int) < 0 := by omega
      clear hve hc hn hv hL hnx I
      go_wp2_with fail
      exact ⟨⟨i + 1, s + n, by omega, by go_num, by go_num, hsn, I2, trivial⟩, by simp [intOf]; omega⟩
    · obtain rfl : i = m := by omega
      have hii : ¬ (i : Int) < (i : Int) := by omega
      have CG := growS_any s w hs1
      have HI := hid0 (show s = Ls.flatten.length by rw [I.out, List.take_of_length_le (by rw [HM.out.2]; exact Nat.le_refl _)])
      clear I
      go_wp2_with fail
      refine CG.mono ?_
      rintro e w1 ⟨⟨v1, rfl, O1⟩, hb1⟩
      have HO1 := hid0 O1
      clear CG O1
      go_wp2_with fail
      go_loopw [6, 27] (fun vv jv wr => ∃ j N : Nat, j ≤ i ∧ jv = .int .i64 j ∧ Hid (N = (Ls.take j).flatten.length) ∧ Hid (wr.ownsRow w.heap.size 9 1 vv N ((Ls.take j).flatten.flatMap sk)) ∧ Below w.heap.size w wr) (fun _ jv _ => i - (intOf jv).toNat)
      case atStart => exact ⟨0, 0, Nat.zero_le _, rfl, hid0 (by simp), hid0 (by simpa using HO1.out), hb1⟩
      case round =>
        obtain ⟨j, N, hj, rfl, HN, OW, hB⟩ := hrel
        by_cases hlt2 : j < i
        · have hv : j < vs.length := by have := HM.out.1; omega
          have hL : j < Ls.length := by have := HM.out.2; omega
          have hsl := HS.out j _ _ (List.getElem?_eq_getElem hv) (List.getElem?_eq_getElem hL)
          have hsl2 := hsl.later hB
          obtain ⟨a, c, hve, hc, hca⟩ := hsl2.out
          have q0 := cell_later hB (HA.out.out j _ (List.getElem?_eq_getElem hv))
          rw [hve] at q0 hsl2
          obtain ⟨n, hn⟩ : ∃ n, Ls[j].length = n := ⟨_, rfl⟩
          rw [hn] at q0 hsl2
          have hji : (j : Int) < (i : Int) := by omega
          have hnx := flatten_next (List.getElem?_eq_getElem hL)
          have hft := flatten_take (List.getElem?_eq_getElem hL)
          have hsz := hB.size
          obtain ⟨l, hll⟩ : ∃ l, Ls[j] = l := ⟨_, rfl⟩
          rw [hll] at hn hft hsl2 hnx hca
          clear hll hsl
          cases a with
          | none =>
            obtain rfl : l = [] := by
              rcases l with _ | ⟨x, l⟩
              · rfl
              · obtain ⟨b, o, e, _⟩ := hca (by simp)
                cases e
            obtain rfl : n = 0 := by simpa using hn.symm
            obtain ⟨va, vc, rfl, hvc⟩ := own_shape OW.out
            have OW2 : Hid (wr.ownsRow w.heap.size 9 1 (.slice va N vc) N ((Ls.take (j + 1)).flatten.flatMap sk)) := hid0 (by
              rw [hft, List.append_nil]; exact OW.out)
            have HN2 : Hid (N = (Ls.take (j + 1)).flatten.length) := hid0 (by rw [hft, List.append_nil]; exact HN.out)
            obtain ⟨i0, hi0, hz0, hz1, hz2⟩ := info_parts infoS
            have hap : ∀ W ty, (Builtin.append_ #[46, 46] ty #[.slice va N vc, .slice none 0 c]).run Try.prog W = .ok (.slice va N vc) W := fun W ty => run_append_nil7 W _ _ _ _ Try.underlying46 hi0 va N vc c hvc
            clear hca hft hnx hsl2 OW HN hn hi0 hz0 hz1 hz2 hve hc hv hL
            go_wp2_with (at_builtin; refine Lib.wpList_append_run _ rfl _ _ _ _ rfl _ _ rfl rfl _ _ (hap _ _) ?_)
            exact ⟨⟨j + 1, N, by omega, by go_num, HN2, OW2, hB⟩, by simp [intOf]; omega⟩
          | some ad =>
            have hnews := hsl2.news sk_len
            have hcn := hid0 hnews
            have hnl : (l.flatMap sk).length = n * 1 := by rw [flat_len sk_len, hn]
            obtain ⟨i0, hi0, hz0, hz1, hz2⟩ := info_parts infoS
            have HFT := hid0 hft
            have HL2 := hid0 hn
            have hNn : N + n ≤ 1000 := by have := HN.out; omega
            have HN2 : Hid (N + n = (Ls.take (j + 1)).flatten.length) := hid0 (by rw [hft, List.length_append, ← HN.out, hn])
            clear hnews hca hft hsl2 hn hve hc hv hL
            go_wp2_with (at_builtin; refine wpList_append_own _ rfl _ _ 46 rfl w.heap.size 9 i0 (.string ⟨#[]⟩) 1 16 Try.underlying46 hi0 hz0 hz1 hz2 rfl (by decide) _ _ _ rfl OW.out ad n c (l.flatMap sk) rfl hnl hcn.out (cells_one sk_cell l) ?c3 ?c4 hsz ?_)
            case c3 => unfold maxLen; omega
            case c4 => omega
            intro v' w3 hown hgrow _
            have hB3 : Below w.heap.size w w3 := hB.grown hgrow hsz (fun q hq => (OW.out.lt q hq).1)
            have OW2 : Hid (w3.ownsRow w.heap.size 9 1 v' (N + n) ((Ls.take (j + 1)).flatten.flatMap sk)) := hid0 (by
              rw [HFT.out, List.flatMap_append]; exact hown)
            clear hown hgrow OW
            go_wp2_with fail
            exact ⟨⟨j + 1, N + n, by omega, by go_num, HN2, OW2, hB3⟩, by simp [intOf]; omega⟩
        · obtain rfl : j = i := by omega
          have hjj : ¬ (j : Int) < (j : Int) := by omega
          obtain ⟨va, vc, rfl, hvc⟩ := own_shape OW.out
          have hall : Ls.take j = Ls := List.take_of_length_le (by rw [HM.out.2]; exact Nat.le_refl _)
          rw [hall] at OW HN
          have hfin := hid0 (Sl.of_own sk_len OW.out HN.out)
          clear hall OW hvc HN
          go_wp2_with fail
          go_ret
          exact ⟨⟨_, rfl, hfin.out⟩, hB⟩

/-! ### int -/
theorem infoVI : (Try.prog.info? 3).map (fun i => (i.zero, i.size, i.bytes)) = some (some (.int .i64 0), 1, 8) := by kernel_rfl
set_option maxHeartbeats 1000000 in
theorem growVI_any (n : Nat) (w : World) (hn : n ≤ 1000) :
    Calls Try.prog 94 #[.slice none 0 0, .int .i64 (n : Int)] w fun e w' => (∃ v, e = .returned v ∧ w'.ownsRow w.heap.size 3 1 v 0 []) ∧ Below w.heap.size w w' := by
  obtain ⟨i0, hi, hz0, hz1, hz2⟩ := info_parts infoVI
  by_cases h0 : n = 0
  · subst h0
    go_enter Try.func94, Try.ntmps94
    go_wp2
    go_ret
    exact ⟨⟨_, rfl, World.ownsRow_nil _ _ _ _⟩, Below.refl _ _⟩
  · have h1 : ¬ ((n : Int) < 0) := by omega
    have h4 : (0 : Int) < (n : Int) := by omega
    have hrz : ∀ ty, (Builtin.append_ #[37, 3] ty #[.slice none 0 0, .int .i64 (n : Int)]).run Try.prog w =
        .ok (.slice (some ⟨w.heap.size, 0, none⟩) n (grownCap w n 0 3)) (w.drew.alloc (.cells ((([] : List Value).toArray ++ Builtin.zeroCells (Value.cells (.int .i64 0)) n) ++ Builtin.zeroCells (Value.cells (.int .i64 0)) (grownCap w n 0 3 - n)) 3)) := fun ty => by
      have h := Lib.run_append_grow_zeros w 37 3 ty 3 i0 (.int .i64 0) .i64 .i64 Try.underlying37 Try.underlying3 hi hz0 none 0 0 [] (run_firstCells_none w.drew i0.size 0 0 0) n (by omega) (by rw [hz1]; decide) (by omega) (by omega)
        (by rw [hz2]; omega)
        (by rw [Nat.zero_add]; exact growslice_fits (by omega) (by rw [hz2]; omega))
      rw [Nat.zero_add] at h
      exact h
    have hGn : n ≤ grownCap w n 0 3 := grownCap_ge w _ _ _
    have hGm := grownCap_le_maxLen w n 0 3 (by unfold maxLen; omega)
    obtain ⟨G, hG⟩ : ∃ G, grownCap w n 0 3 = G := ⟨_, rfl⟩
    rw [hG] at hrz hGn hGm
    obtain ⟨cells, hcells⟩ : ∃ cells, (([] : List Value).toArray ++ Builtin.zeroCells (Value.cells (.int .i64 0)) n) ++ Builtin.zeroCells (Value.cells (.int .i64 0)) (G - n) = cells := ⟨_, rfl⟩
    rw [hcells] at hrz
    have hGM := hid0 hGm
    unfold maxLen at hGm
    have hown := World.ownsRow_made (e := 3) (size := 1) (base := w.heap.size) w cells G (Nat.le_refl _) hGM.out (by rw [← hcells]; simp [Builtin.zeroCells, Value.cells]; try omega)
    have HO := hid0 hown
    clear hG hown hcells hi hz0 hz1 hz2
    go_enter Try.func94, Try.ntmps94
    go_wp2_with (at_builtin; refine Lib.wpList_append_run _ rfl _ _ _ _ rfl _ _ rfl rfl _ _ (hrz _) ?_)
    all_goals (go_ret; exact ⟨⟨_, rfl, HO.out⟩, Below.drew ((Below.refl _ _).alloc (Nat.le_refl _) _)⟩)
set_option maxHeartbeats 4000000 in
theorem concVI_any (P : Nat → Prop) (B m : Nat) (vs : List Value) (Ls : List (List (Int))) (w : World) (hA : ArgsAt w B vs) (hm : vs.length = m) (hl : Ls.length = m) (hS : ∀ (j : Nat) (v : Value) (l : List (Int)), vs[j]? = some v → Ls[j]? = some l → Sl 1 eI P w v l) (hm1 : m ≤ 100) (hsum : Ls.flatten.length ≤ 1000) :
    Calls Try.prog 86 #[.slice (some ⟨B, 0, none⟩) m m] w fun e w' => (∃ v, e = .returned v ∧ Sl 1 eI (fun b => w.heap.size ≤ b) w' v Ls.flatten) ∧ Below w.heap.size w w' := by
  have HA := hid0 hA
  have HS := hid0 hS
  have HM := hid0 (And.intro hm hl)
  clear hA hS hm hl
  go_enter Try.func86, Try.ntmps86
  go_wp2_with fail
  go_loopw [3, 11] (fun sv iv wr => ∃ i s : Nat, i ≤ m ∧ iv = .int .i64 i ∧ sv = .int .i64 s ∧ s ≤ 1000 ∧ Hid (s = (Ls.take i).flatten.length) ∧ w = wr) (fun _ iv _ => m - (intOf iv).toNat)
  case atStart => exact ⟨0, 0, Nat.zero_le _, rfl, rfl, by omega, hid0 (by simp), rfl⟩
  case round =>
    obtain ⟨i, s, hi, rfl, rfl, hs1, I, rfl⟩ := hrel
    by_cases hlt : i < m
    · have hv : i < vs.length := by have := HM.out.1; omega
      have hL : i < Ls.length := by have := HM.out.2; omega
      obtain ⟨a, c, hve, hc, -⟩ := (HS.out i _ _ (List.getElem?_eq_getElem hv) (List.getElem?_eq_getElem hL)).out
      have q0 := HA.out.out i _ (List.getElem?_eq_getElem hv)
      rw [hve] at q0
      obtain ⟨n, hn⟩ : ∃ n, Ls[i].length = n := ⟨_, rfl⟩
      rw [hn] at q0
      have hii : (i : Int) < (m : Int) := by omega
      have hnx := flatten_next (List.getElem?_eq_getElem hL)
      have hsn : s + n ≤ 1000 := by have := I.out; omega
      have I2 : Hid (s + n = (Ls.take (i + 1)).flatten.length) := hid0 (by rw [flatten_take (List.getElem?_eq_getElem hL), List.length_append, ← I.out, hn])
      have hs0 : ¬ (s : Int) + (n : Int) < 0 := by omega
      clear hve hc hn hv hL hnx I
      go_wp2_with fail
      exact ⟨⟨i + 1, s + n, by omega, by go_num, by go_num, hsn, I2, trivial⟩, by simp [intOf]; omega⟩
    · obtain rfl : i = m := by omega
      have hii : ¬ (i : Int) < (i : Int) := by omega
      have CG := growVI_any s w hs1
      have HI := hid0 (show s = Ls.flatten.length by rw [I.out, List.take_of_length_le (by rw [HM.out.2]; exact Nat.le_refl _)])
      clear I
      go_wp2_with fail
      refine CG.mono ?_
      rintro e w1 ⟨⟨v1, rfl, O1⟩, hb1⟩
      have HO1 := hid0 O1
      clear CG O1
      go_wp2_with fail
      go_loopw [6, 27] (fun vv jv wr => ∃ j N : Nat, j ≤ i ∧ jv = .int .i64 j ∧ Hid (N = (Ls.take j).flatten.length) ∧ Hid (wr.ownsRow w.heap.size 3 1 vv N ((Ls.take j).flatten.flatMap eI)) ∧ Below w.heap.size w wr) (fun _ jv _ => i - (intOf jv).toNat)
      case atStart => exact ⟨0, 0, Nat.zero_le _, rfl, hid0 (by simp), hid0 (by simpa using HO1.out), hb1⟩
      case round =>
        obtain ⟨j, N, hj, rfl, HN, OW, hB⟩ := hrel
        by_cases hlt2 : j < i
        · have hv : j < vs.length := by have := HM.out.1; omega
          have hL : j < Ls.length := by have := HM.out.2; omega
          have hsl := HS.out j _ _ (List.getElem?_eq_getElem hv) (List.getElem?_eq_getElem hL)
          have hsl2 := hsl.later hB
          obtain ⟨a, c, hve, hc, hca⟩ := hsl2.out
          have q0 := cell_later hB (HA.out.out j _ (List.getElem?_eq_getElem hv))
          rw [hve] at q0 hsl2
          obtain ⟨n, hn⟩ : ∃ n, Ls[j].length = n := ⟨_, rfl⟩
          rw [hn] at q0 hsl2
          have hji : (j : Int) < (i : Int) := by omega
          have hnx := flatten_next (List.getElem?_eq_getElem hL)
          have hft := flatten_take (List.getElem?_eq_getElem hL)
          have hsz := hB.size
          obtain ⟨l, hll⟩ : ∃ l, Ls[j] = l := ⟨_, rfl⟩
          rw [hll] at hn hft hsl2 hnx hca
          clear hll hsl
          cases a with
          | none =>
            obtain rfl : l = [] := by
              rcases l with _ | ⟨x, l⟩
              · rfl
              · obtain ⟨b, o, e, _⟩ := hca (by simp)
                cases e
            obtain rfl : n = 0 := by simpa using hn.symm
            obtain ⟨va, vc, rfl, hvc⟩ := own_shape OW.out
            have OW2 : Hid (wr.ownsRow w.heap.size 3 1 (.slice va N vc) N ((Ls.take (j + 1)).flatten.flatMap eI)) := hid0 (by
              rw [hft, List.append_nil]; exact OW.out)
            have HN2 : Hid (N = (Ls.take (j + 1)).flatten.length) := hid0 (by rw [hft, List.append_nil]; exact HN.out)
            obtain ⟨i0, hi0, hz0, hz1, hz2⟩ := info_parts infoVI
            have hap : ∀ W ty, (Builtin.append_ #[37, 37] ty #[.slice va N vc, .slice none 0 c]).run Try.prog W = .ok (.slice va N vc) W := fun W ty => run_append_nil7 W _ _ _ _ Try.underlying37 hi0 va N vc c hvc
            clear hca hft hnx hsl2 OW HN hn hi0 hz0 hz1 hz2 hve hc hv hL
            go_wp2_with (at_builtin; refine Lib.wpList_append_run _ rfl _ _ _ _ rfl _ _ rfl rfl _ _ (hap _ _) ?_)
            exact ⟨⟨j + 1, N, by omega, by go_num, HN2, OW2, hB⟩, by simp [intOf]; omega⟩
          | some ad =>
            have hnews := hsl2.news eI_len
            have hcn := hid0 hnews
            have hnl : (l.flatMap eI).length = n * 1 := by rw [flat_len eI_len, hn]
            obtain ⟨i0, hi0, hz0, hz1, hz2⟩ := info_parts infoVI
            have HFT := hid0 hft
            have HL2 := hid0 hn
            have hNn : N + n ≤ 1000 := by have := HN.out; omega
            have HN2 : Hid (N + n = (Ls.take (j + 1)).flatten.length) := hid0 (by rw [hft, List.length_append, ← HN.out, hn])
            clear hnews hca hft hsl2 hn hve hc hv hL
            go_wp2_with (at_builtin; refine wpList_append_own _ rfl _ _ 37 rfl w.heap.size 3 i0 (.int .i64 0) 1 8 Try.underlying37 hi0 hz0 hz1 hz2 rfl (by decide) _ _ _ rfl OW.out ad n c (l.flatMap eI) rfl hnl hcn.out (cells_one eI_cell l) ?c3 ?c4 hsz ?_)
            case c3 => unfold maxLen; omega
            case c4 => omega
            intro v' w3 hown hgrow _
            have hB3 : Below w.heap.size w w3 := hB.grown hgrow hsz (fun q hq => (OW.out.lt q hq).1)
            have OW2 : Hid (w3.ownsRow w.heap.size 3 1 v' (N + n) ((Ls.take (j + 1)).flatten.flatMap eI)) := hid0 (by
              rw [HFT.out, List.flatMap_append]; exact hown)
            clear hown hgrow OW
            go_wp2_with fail
            exact ⟨⟨j + 1, N + n, by omega, by go_num, HN2, OW2, hB3⟩, by simp [intOf]; omega⟩
        · obtain rfl : j = i := by omega
          have hjj : ¬ (j : Int) < (j : Int) := by omega
          obtain ⟨va, vc, rfl, hvc⟩ := own_shape OW.out
          have hall : Ls.take j = Ls := List.take_of_length_le (by rw [HM.out.2]; exact Nat.le_refl _)
          rw [hall] at OW HN
          have hfin := hid0 (Sl.of_own eI_len OW.out HN.out)
          clear hall OW hvc HN
          go_wp2_with fail
          go_ret
          exact ⟨⟨_, rfl, hfin.out⟩, hB⟩

/-! ### *belvedere/tree.node[int] -/
theorem infoNI : (Try.prog.info? 84).map (fun i => (i.zero, i.size, i.bytes)) = some (some (.pointer none), 1, 8) := by kernel_rfl
set_option maxHeartbeats 1000000 in
theorem growNI_any (n : Nat) (w : World) (hn : n ≤ 1000) :
    Calls Try.prog 95 #[.slice none 0 0, .int .i64 (n : Int)] w fun e w' => (∃ v, e = .returned v ∧ w'.ownsRow w.heap.size 84 1 v 0 []) ∧ Below w.heap.size w w' := by
  obtain ⟨i0, hi, hz0, hz1, hz2⟩ := info_parts infoNI
  by_cases h0 : n = 0
  · subst h0
    go_enter Try.func95, Try.ntmps95
    go_wp2
    go_ret
    exact ⟨⟨_, rfl, World.ownsRow_nil _ _ _ _⟩, Below.refl _ _⟩
  · have h1 : ¬ ((n : Int) < 0) := by omega
    have h4 : (0 : Int) < (n : Int) := by omega
    have hrz : ∀ ty, (Builtin.append_ #[87, 3] ty #[.slice none 0 0, .int .i64 (n : Int)]).run Try.prog w =
        .ok (.slice (some ⟨w.heap.size, 0, none⟩) n (grownCap w n 0 84)) (w.drew.alloc (.cells ((([] : List Value).toArray ++ Builtin.zeroCells (Value.cells (.pointer none)) n) ++ Builtin.zeroCells (Value.cells (.pointer none)) (grownCap w n 0 84 - n)) 84)) := fun ty => by
      have h := Lib.run_append_grow_zeros w 87 3 ty 84 i0 (.pointer none) .i64 .i64 Try.underlying87 Try.underlying3 hi hz0 none 0 0 [] (run_firstCells_none w.drew i0.size 0 0 0) n (by omega) (by rw [hz1]; decide) (by omega) (by omega)
        (by rw [hz2]; omega)
        (by rw [Nat.zero_add]; exact growslice_fits (by omega) (by rw [hz2]; omega))
      rw [Nat.zero_add] at h
      exact h
    have hGn : n ≤ grownCap w n 0 84 := grownCap_ge w _ _ _
    have hGm := grownCap_le_maxLen w n 0 84 (by unfold maxLen; omega)
    obtain ⟨G, hG⟩ : ∃ G, grownCap w n 0 84 = G := ⟨_, rfl⟩
    rw [hG] at hrz hGn hGm
    obtain ⟨cells, hcells⟩ : ∃ cells, (([] : List Value).toArray ++ Builtin.zeroCells (Value.cells (.pointer none)) n) ++ Builtin.zeroCells (Value.cells (.pointer none)) (G - n) = cells := ⟨_, rfl⟩
    rw [hcells] at hrz
    have hGM := hid0 hGm
    unfold maxLen at hGm
    have hown := World.ownsRow_made (e := 84) (size := 1) (base := w.heap.size) w cells G (Nat.le_refl _) hGM.out (by rw [← hcells]; simp [Builtin.zeroCells, Value.cells]; try omega)
    have HO := hid0 hown
    clear hG hown hcells hi hz0 hz1 hz2
    go_enter Try.func95, Try.ntmps95
    go_wp2_with (at_builtin; refine Lib.wpList_append_run _ rfl _ _ _ _ rfl _ _ rfl rfl _ _ (hrz _) ?_)
    all_goals (go_ret; exact ⟨⟨_, rfl, HO.out⟩, Below.drew ((Below.refl _ _).alloc (Nat.le_refl _) _)⟩)
set_option maxHeartbeats 4000000 in
theorem concNI_any (P : Nat → Prop) (B m : Nat) (vs : List Value) (Ls : List (List (Nat))) (w : World) (hA : ArgsAt w B vs) (hm : vs.length = m) (hl : Ls.length = m) (hS : ∀ (j : Nat) (v : Value) (l : List (Nat)), vs[j]? = some v → Ls[j]? = some l → Sl 1 pk P w v l) (hm1 : m ≤ 100) (hsum : Ls.flatten.length ≤ 1000) :
    Calls Try.prog 87 #[.slice (some ⟨B, 0, none⟩) m m] w fun e w' => (∃ v, e = .returned v ∧ Sl 1 pk (fun b => w.heap.size ≤ b) w' v Ls.flatten) ∧ Below w.heap.size w w' := by
  have HA := hid0 hA
  have HS := hid0 hS
  have HM := hid0 (And.intro hm hl)
  clear hA hS hm hl
  go_enter Try.func87, Try.ntmps87
  go_wp2_with fail
  go_loopw [3, 11] (fun sv iv wr => ∃ i s : Nat, i ≤ m ∧ iv = .int .i64 i ∧ sv = .int .i64 s ∧ s ≤ 1000 ∧ Hid (s = (Ls.take i).flatten.length) ∧ w = wr) (fun _ iv _ => m - (intOf iv).toNat)
  case atStart => exact ⟨0, 0, Nat.zero_le _, rfl, rfl, by omega, hid0 (by simp), rfl⟩
  case round =>
    obtain ⟨i, s, hi, rfl, rfl, hs1, I, rfl⟩ := hrel
    by_cases hlt : i < m
    · have hv : i < vs.length := by have := HM.out.1; omega
      have hL : i < Ls.length := by have := HM.out.2; omega
      obtain ⟨a, c, hve, hc, -⟩ := (HS.out i _ _ (List.getElem?_eq_getElem hv) (List.getElem?_eq_getElem hL)).out
      have q0 := HA.out.out i _ (List.getElem?_eq_getElem hv)
      rw [hve] at q0
      obtain ⟨n, hn⟩ : ∃ n, Ls[i].length = n := ⟨_, rfl⟩
      rw [hn] at q0
      have hii : (i : Int) < (m : Int) := by omega
      have hnx := flatten_next (List.getElem?_eq_getElem hL)
      have hsn : s + n ≤ 1000 := by have := I.out; omega
      have I2 : Hid (s + n = (Ls.take (i + 1)).flatten.length) := hid0 (by rw [flatten_take (List.getElem?_eq_getElem hL), List.length_append, ← I.out, hn])
      have hs0 : ¬ (s : Int) + (n : Int) < 0 := by omega
      clear hve hc hn hv hL hnx I
      go_wp2_with fail
      exact ⟨⟨i + 1, s + n, by omega, by go_num, by go_num, hsn, I2, trivial⟩, by simp [intOf]; omega⟩
    · obtain rfl : i = m := by omega
      have hii : ¬ (i : Int) < (i : Int) := by omega
      have CG := growNI_any s w hs1
      have HI := hid0 (show s = Ls.flatten.length by rw [I.out, List.take_of_length_le (by rw [HM.out.2]; exact Nat.le_refl _)])
      clear I
      go_wp2_with fail
      refine CG.mono ?_
      rintro e w1 ⟨⟨v1, rfl, O1⟩, hb1⟩
      have HO1 := hid0 O1
      clear CG O1
      go_wp2_with fail
      go_loopw [6, 27] (fun vv jv wr => ∃ j N : Nat, j ≤ i ∧ jv = .int .i64 j ∧ Hid (N = (Ls.take j).flatten.length) ∧ Hid (wr.ownsRow w.heap.size 84 1 vv N ((Ls.take j).flatten.flatMap pk)) ∧ Below w.heap.size w wr) (fun _ jv _ => i - (intOf jv).toNat)
      case atStart => exact ⟨0, 0, Nat.zero_le _, rfl, hid0 (by simp), hid0 (by simpa using HO1.out), hb1⟩
      case round =>
        obtain ⟨j, N, hj, rfl, HN, OW, hB⟩ := hrel
        by_cases hlt2 : j < i
        · have hv : j < vs.length := by have := HM.out.1; omega
          have hL : j < Ls.length := by have := HM.out.2; omega
          have hsl := HS.out j _ _ (List.getElem?_eq_getElem hv) (List.getElem?_eq_getElem hL)
          have hsl2 := hsl.later hB
          obtain ⟨a, c, hve, hc, hca⟩ := hsl2.out
          have q0 := cell_later hB (HA.out.out j _ (List.getElem?_eq_getElem hv))
          rw [hve] at q0 hsl2
          obtain ⟨n, hn⟩ : ∃ n, Ls[j].length = n := ⟨_, rfl⟩
          rw [hn] at q0 hsl2
          have hji : (j : Int) < (i : Int) := by omega
          have hnx := flatten_next (List.getElem?_eq_getElem hL)
          have hft := flatten_take (List.getElem?_eq_getElem hL)
          have hsz := hB.size
          obtain ⟨l, hll⟩ : ∃ l, Ls[j] = l := ⟨_, rfl⟩
          rw [hll] at hn hft hsl2 hnx hca
          clear hll hsl
          cases a with
          | none =>
            obtain rfl : l = [] := by
              rcases l with _ | ⟨x, l⟩
              · rfl
              · obtain ⟨b, o, e, _⟩ := hca (by simp)
                cases e
            obtain rfl : n = 0 := by simpa using hn.symm
            obtain ⟨va, vc, rfl, hvc⟩ := own_shape OW.out
            have OW2 : Hid (wr.ownsRow w.heap.size 84 1 (.slice va N vc) N ((Ls.take (j + 1)).flatten.flatMap pk)) := hid0 (by
              rw [hft, List.append_nil]; exact OW.out)
            have HN2 : Hid (N = (Ls.take (j + 1)).flatten.length) := hid0 (by rw [hft, List.append_nil]; exact HN.out)
            obtain ⟨i0, hi0, hz0, hz1, hz2⟩ := info_parts infoNI
            have hap : ∀ W ty, (Builtin.append_ #[87, 87] ty #[.slice va N vc, .slice none 0 c]).run Try.prog W = .ok (.slice va N vc) W := fun W ty => run_append_nil7 W _ _ _ _ Try.underlying87 hi0 va N vc c hvc
            clear hca hft hnx hsl2 OW HN hn hi0 hz0 hz1 hz2 hve hc hv hL
            go_wp2_with (at_builtin; refine Lib.wpList_append_run _ rfl _ _ _ _ rfl _ _ rfl rfl _ _ (hap _ _) ?_)
            exact ⟨⟨j + 1, N, by omega, by go_num, HN2, OW2, hB⟩, by simp [intOf]; omega⟩
          | some ad =>
            have hnews := hsl2.news pk_len
            have hcn := hid0 hnews
            have hnl : (l.flatMap pk).length = n * 1 := by rw [flat_len pk_len, hn]
            obtain ⟨i0, hi0, hz0, hz1, hz2⟩ := info_parts infoNI
            have HFT := hid0 hft
            have HL2 := hid0 hn
            have hNn : N + n ≤ 1000 := by have := HN.out; omega
            have HN2 : Hid (N + n = (Ls.take (j + 1)).flatten.length) := hid0 (by rw [hft, List.length_append, ← HN.out, hn])
            clear hnews hca hft hsl2 hn hve hc hv hL
            go_wp2_with (at_builtin; refine wpList_append_own _ rfl _ _ 87 rfl w.heap.size 84 i0 (.pointer none) 1 8 Try.underlying87 hi0 hz0 hz1 hz2 rfl (by decide) _ _ _ rfl OW.out ad n c (l.flatMap pk) rfl hnl hcn.out (cells_one pk_cell l) ?c3 ?c4 hsz ?_)
            case c3 => unfold maxLen; omega
            case c4 => omega
            intro v' w3 hown hgrow _
            have hB3 : Below w.heap.size w w3 := hB.grown hgrow hsz (fun q hq => (OW.out.lt q hq).1)
            have OW2 : Hid (w3.ownsRow w.heap.size 84 1 v' (N + n) ((Ls.take (j + 1)).flatten.flatMap pk)) := hid0 (by
              rw [HFT.out, List.flatMap_append]; exact hown)
            clear hown hgrow OW
            go_wp2_with fail
            exact ⟨⟨j + 1, N + n, by omega, by go_num, HN2, OW2, hB3⟩, by simp [intOf]; omega⟩
        · obtain rfl : j = i := by omega
          have hjj : ¬ (j : Int) < (j : Int) := by omega
          obtain ⟨va, vc, rfl, hvc⟩ := own_shape OW.out
          have hall : Ls.take j = Ls := List.take_of_length_le (by rw [HM.out.2]; exact Nat.le_refl _)
          rw [hall] at OW HN
          have hfin := hid0 (Sl.of_own pk_len OW.out HN.out)
          clear hall OW hvc HN
          go_wp2_with fail
          go_ret
          exact ⟨⟨_, rfl, hfin.out⟩, hB⟩

/-! ### belvedere/belvederelaw07.Pair -/
theorem infoVP : (Try.prog.info? 33).map (fun i => (i.zero, i.size, i.bytes)) = some (some (.agg #[.int .i64 0, .string ⟨#[]⟩]), 2, 24) := by kernel_rfl
set_option maxHeartbeats 1000000 in
theorem growVP_any (n : Nat) (w : World) (hn : n ≤ 1000) :
    Calls Try.prog 90 #[.slice none 0 0, .int .i64 (n : Int)] w fun e w' => (∃ v, e = .returned v ∧ w'.ownsRow w.heap.size 33 2 v 0 []) ∧ Below w.heap.size w w' := by
  obtain ⟨i0, hi, hz0, hz1, hz2⟩ := info_parts infoVP
  by_cases h0 : n = 0
  · subst h0
    go_enter Try.func90, Try.ntmps90
    go_wp2
    go_ret
    exact ⟨⟨_, rfl, World.ownsRow_nil _ _ _ _⟩, Below.refl _ _⟩
  · have h1 : ¬ ((n : Int) < 0) := by omega
    have h4 : (0 : Int) < (n : Int) := by omega
    have hrz : ∀ ty, (Builtin.append_ #[60, 3] ty #[.slice none 0 0, .int .i64 (n : Int)]).run Try.prog w =
        .ok (.slice (some ⟨w.heap.size, 0, none⟩) n (grownCap w n 0 33)) (w.drew.alloc (.cells ((([] : List Value).toArray ++ Builtin.zeroCells (Value.cells (.agg #[.int .i64 0, .string ⟨#[]⟩])) n) ++ Builtin.zeroCells (Value.cells (.agg #[.int .i64 0, .string ⟨#[]⟩])) (grownCap w n 0 33 - n)) 33)) := fun ty => by
      have h := Lib.run_append_grow_zeros w 60 3 ty 33 i0 (.agg #[.int .i64 0, .string ⟨#[]⟩]) .i64 .i64 Try.underlying60 Try.underlying3 hi hz0 none 0 0 [] (run_firstCells_none w.drew i0.size 0 0 0) n (by omega) (by rw [hz1]; decide) (by omega) (by omega)
        (by rw [hz2]; omega)
        (by rw [Nat.zero_add]; exact growslice_fits (by omega) (by rw [hz2]; omega))
      rw [Nat.zero_add] at h
      exact h
    have hGn : n ≤ grownCap w n 0 33 := grownCap_ge w _ _ _
    have hGm := grownCap_le_maxLen w n 0 33 (by unfold maxLen; omega)
    obtain ⟨G, hG⟩ : ∃ G, grownCap w n 0 33 = G := ⟨_, rfl⟩
    rw [hG] at hrz hGn hGm
    obtain ⟨cells, hcells⟩ : ∃ cells, (([] : List Value).toArray ++ Builtin.zeroCells (Value.cells (.agg #[.int .i64 0, .string ⟨#[]⟩])) n) ++ Builtin.zeroCells (Value.cells (.agg #[.int .i64 0, .string ⟨#[]⟩])) (G - n) = cells := ⟨_, rfl⟩
    rw [hcells] at hrz
    have hGM := hid0 hGm
    unfold maxLen at hGm
    have hown := World.ownsRow_made (e := 33) (size := 2) (base := w.heap.size) w cells G (Nat.le_refl _) hGM.out (by rw [← hcells]; simp [Builtin.zeroCells, Value.cells]; try omega)
    have HO := hid0 hown
    clear hG hown hcells hi hz0 hz1 hz2
    go_enter Try.func90, Try.ntmps90
    go_wp2_with (at_builtin; refine Lib.wpList_append_run _ rfl _ _ _ _ rfl _ _ rfl rfl _ _ (hrz _) ?_)
    all_goals (go_ret; exact ⟨⟨_, rfl, HO.out⟩, Below.drew ((Below.refl _ _).alloc (Nat.le_refl _) _)⟩)
set_option maxHeartbeats 4000000 in
theorem concVP_any (P : Nat → Prop) (B m : Nat) (vs : List Value) (Ls : List (List (Int × Key))) (w : World) (hA : ArgsAt w B vs) (hm : vs.length = m) (hl : Ls.length = m) (hS : ∀ (j : Nat) (v : Value) (l : List (Int × Key)), vs[j]? = some v → Ls[j]? = some l → Sl 2 eP P w v l) (hm1 : m ≤ 100) (hsum : Ls.flatten.length ≤ 1000) :
    Calls Try.prog 76 #[.slice (some ⟨B, 0, none⟩) m m] w fun e w' => (∃ v, e = .returned v ∧ Sl 2 eP (fun b => w.heap.size ≤ b) w' v Ls.flatten) ∧ Below w.heap.size w w' := by
  have HA := hid0 hA
  have HS := hid0 hS
  have HM := hid0 (And.intro hm hl)
  clear hA hS hm hl
  go_enter Try.func76, Try.ntmps76
  go_wp2_with fail
  go_loopw [3, 11] (fun sv iv wr => ∃ i s : Nat, i ≤ m ∧ iv = .int .i64 i ∧ sv = .int .i64 s ∧ s ≤ 1000 ∧ Hid (s = (Ls.take i).flatten.length) ∧ w = wr) (fun _ iv _ => m - (intOf iv).toNat)
  case atStart => exact ⟨0, 0, Nat.zero_le _, rfl, rfl, by omega, hid0 (by simp), rfl⟩
  case round =>
    obtain ⟨i, s, hi, rfl, rfl, hs1, I, rfl⟩ := hrel
    by_cases hlt : i < m
    · have hv : i < vs.length := by have := HM.out.1; omega
      have hL : i < Ls.length := by have := HM.out.2; omega
      obtain ⟨a, c, hve, hc, -⟩ := (HS.out i _ _ (List.getElem?_eq_getElem hv) (List.getElem?_eq_getElem hL)).out
      have q0 := HA.out.out i _ (List.getElem?_eq_getElem hv)
      rw [hve] at q0
      obtain ⟨n, hn⟩ : ∃ n, Ls[i].length = n := ⟨_, rfl⟩
      rw [hn] at q0
      have hii : (i : Int) < (m : Int) := by omega
      have hnx := flatten_next (List.getElem?_eq_getElem hL)
      have hsn : s + n ≤ 1000 := by have := I.out; omega
      have I2 : Hid (s + n = (Ls.take (i + 1)).flatten.length) := hid0 (by rw [flatten_take (List.getElem?_eq_getElem hL), List.length_append, ← I.out, hn])
      have hs0 : ¬ (s : Int) + (n : Int) < 0 := by omega
      clear hve hc hn hv hL hnx I
      go_wp2_with fail
      exact ⟨⟨i + 1, s + n, by omega, by go_num, by go_num, hsn, I2, trivial⟩, by simp [intOf]; omega⟩
    · obtain rfl : i = m := by omega
      have hii : ¬ (i : Int) < (i : Int) := by omega
      have CG := growVP_any s w hs1
      have HI := hid0 (show s = Ls.flatten.length by rw [I.out, List.take_of_length_le (by rw [HM.out.2]; exact Nat.le_refl _)])
      clear I
      go_wp2_with fail
      refine CG.mono ?_
      rintro e w1 ⟨⟨v1, rfl, O1⟩, hb1⟩
      have HO1 := hid0 O1
      clear CG O1
      go_wp2_with fail
      go_loopw [6, 27] (fun vv jv wr => ∃ j N : Nat, j ≤ i ∧ jv = .int .i64 j ∧ Hid (N = (Ls.take j).flatten.length) ∧ Hid (wr.ownsRow w.heap.size 33 2 vv N ((Ls.take j).flatten.flatMap eP)) ∧ Below w.heap.size w wr) (fun _ jv _ => i - (intOf jv).toNat)
      case atStart => exact ⟨0, 0, Nat.zero_le _, rfl, hid0 (by simp), hid0 (by simpa using HO1.out), hb1⟩
      case round =>
        obtain ⟨j, N, hj, rfl, HN, OW, hB⟩ := hrel
        by_cases hlt2 : j < i
        · have hv : j < vs.length := by have := HM.out.1; omega
          have hL : j < Ls.length := by have := HM.out.2; omega
          have hsl := HS.out j _ _ (List.getElem?_eq_getElem hv) (List.getElem?_eq_getElem hL)
          have hsl2 := hsl.later hB
          obtain ⟨a, c, hve, hc, hca⟩ := hsl2.out
          have q0 := cell_later hB (HA.out.out j _ (List.getElem?_eq_getElem hv))
          rw [hve] at q0 hsl2
          obtain ⟨n, hn⟩ : ∃ n, Ls[j].length = n := ⟨_, rfl⟩
          rw [hn] at q0 hsl2
          have hji : (j : Int) < (i : Int) := by omega
          have hnx := flatten_next (List.getElem?_eq_getElem hL)
          have hft := flatten_take (List.getElem?_eq_getElem hL)
          have hsz := hB.size
          obtain ⟨l, hll⟩ : ∃ l, Ls[j] = l := ⟨_, rfl⟩
          rw [hll] at hn hft hsl2 hnx hca
          clear hll hsl
          cases a with
          | none =>
            obtain rfl : l = [] := by
              rcases l with _ | ⟨x, l⟩
              · rfl
              · obtain ⟨b, o, e, _⟩ := hca (by simp)
                cases e
            obtain rfl : n = 0 := by simpa using hn.symm
            obtain ⟨va, vc, rfl, hvc⟩ := own_shape OW.out
            have OW2 : Hid (wr.ownsRow w.heap.size 33 2 (.slice va N vc) N ((Ls.take (j + 1)).flatten.flatMap eP)) := hid0 (by
              rw [hft, List.append_nil]; exact OW.out)
            have HN2 : Hid (N = (Ls.take (j + 1)).flatten.length) := hid0 (by rw [hft, List.append_nil]; exact HN.out)
            obtain ⟨i0, hi0, hz0, hz1, hz2⟩ := info_parts infoVP
            have hap : ∀ W ty, (Builtin.append_ #[60, 60] ty #[.slice va N vc, .slice none 0 c]).run Try.prog W = .ok (.slice va N vc) W := fun W ty => run_append_nil7 W _ _ _ _ Try.underlying60 hi0 va N vc c hvc
            clear hca hft hnx hsl2 OW HN hn hi0 hz0 hz1 hz2 hve hc hv hL
            go_wp2_with (at_builtin; refine Lib.wpList_append_run _ rfl _ _ _ _ rfl _ _ rfl rfl _ _ (hap _ _) ?_)
            exact ⟨⟨j + 1, N, by omega, by go_num, HN2, OW2, hB⟩, by simp [intOf]; omega⟩
          | some ad =>
            have hnews := hsl2.news eP_len
            have hcn := hid0 hnews
            have hnl : (l.flatMap eP).length = n * 2 := by rw [flat_len eP_len, hn]
            obtain ⟨i0, hi0, hz0, hz1, hz2⟩ := info_parts infoVP
            have HFT := hid0 hft
            have HL2 := hid0 hn
            have hNn : N + n ≤ 1000 := by have := HN.out; omega
            have HN2 : Hid (N + n = (Ls.take (j + 1)).flatten.length) := hid0 (by rw [hft, List.length_append, ← HN.out, hn])
            clear hnews hca hft hsl2 hn hve hc hv hL
            go_wp2_with (at_builtin; refine wpList_append_own _ rfl _ _ 60 rfl w.heap.size 33 i0 (.agg #[.int .i64 0, .string ⟨#[]⟩]) 2 24 Try.underlying60 hi0 hz0 hz1 hz2 rfl (by decide) _ _ _ rfl OW.out ad n c (l.flatMap eP) rfl hnl hcn.out (cells_one eP_cell l) ?c3 ?c4 hsz ?_)
            case c3 => unfold maxLen; omega
            case c4 => omega
            intro v' w3 hown hgrow _
            have hB3 : Below w.heap.size w w3 := hB.grown hgrow hsz (fun q hq => (OW.out.lt q hq).1)
            have OW2 : Hid (w3.ownsRow w.heap.size 33 2 v' (N + n) ((Ls.take (j + 1)).flatten.flatMap eP)) := hid0 (by
              rw [HFT.out, List.flatMap_append]; exact hown)
            clear hown hgrow OW
            go_wp2_with fail
            exact ⟨⟨j + 1, N + n, by omega, by go_num, HN2, OW2, hB3⟩, by simp [intOf]; omega⟩
        · obtain rfl : j = i := by omega
          have hjj : ¬ (j : Int) < (j : Int) := by omega
          obtain ⟨va, vc, rfl, hvc⟩ := own_shape OW.out
          have hall : Ls.take j = Ls := List.take_of_length_le (by rw [HM.out.2]; exact Nat.le_refl _)
          rw [hall] at OW HN
          have hfin := hid0 (Sl.of_own eP_len OW.out HN.out)
          clear hall OW hvc HN
          go_wp2_with fail
          go_ret
          exact ⟨⟨_, rfl, hfin.out⟩, hB⟩

/-! ### *belvedere/tree.node[belvedere/belvederelaw07.Pair] -/
theorem infoNP : (Try.prog.info? 59).map (fun i => (i.zero, i.size, i.bytes)) = some (some (.pointer none), 1, 8) := by kernel_rfl
set_option maxHeartbeats 1000000 in
theorem growNP_any (n : Nat) (w : World) (hn : n ≤ 1000) :
    Calls Try.prog 91 #[.slice none 0 0, .int .i64 (n : Int)] w fun e w' => (∃ v, e = .returned v ∧ w'.ownsRow w.heap.size 59 1 v 0 []) ∧ Below w.heap.size w w' := by
  obtain ⟨i0, hi, hz0, hz1, hz2⟩ := info_parts infoNP
  by_cases h0 : n = 0
  · subst h0
    go_enter Try.func91, Try.ntmps91
    go_wp2
    go_ret
    exact ⟨⟨_, rfl, World.ownsRow_nil _ _ _ _⟩, Below.refl _ _⟩
  · have h1 : ¬ ((n : Int) < 0) := by omega
    have h4 : (0 : Int) < (n : Int) := by omega
    have hrz : ∀ ty, (Builtin.append_ #[61, 3] ty #[.slice none 0 0, .int .i64 (n : Int)]).run Try.prog w =
        .ok (.slice (some ⟨w.heap.size, 0, none⟩) n (grownCap w n 0 59)) (w.drew.alloc (.cells ((([] : List Value).toArray ++ Builtin.zeroCells (Value.cells (.pointer none)) n) ++ Builtin.zeroCells (Value.cells (.pointer none)) (grownCap w n 0 59 - n)) 59)) := fun ty => by
      have h := Lib.run_append_grow_zeros w 61 3 ty 59 i0 (.pointer none) .i64 .i64 Try.underlying61 Try.underlying3 hi hz0 none 0 0 [] (run_firstCells_none w.drew i0.size 0 0 0) n (by omega) (by rw [hz1]; decide) (by omega) (by omega)
        (by rw [hz2]; omega)
        (by rw [Nat.zero_add]; exact growslice_fits (by omega) (by rw [hz2]; omega))
      rw [Nat.zero_add] at h
      exact h
    have hGn : n ≤ grownCap w n 0 59 := grownCap_ge w _ _ _
    have hGm := grownCap_le_maxLen w n 0 59 (by unfold maxLen; omega)
    obtain ⟨G, hG⟩ : ∃ G, grownCap w n 0 59 = G := ⟨_, rfl⟩
    rw [hG] at hrz hGn hGm
    obtain ⟨cells, hcells⟩ : ∃ cells, (([] : List Value).toArray ++ Builtin.zeroCells (Value.cells (.pointer none)) n) ++ Builtin.zeroCells (Value.cells (.pointer none)) (G - n) = cells := ⟨_, rfl⟩
    rw [hcells] at hrz
    have hGM := hid0 hGm
    unfold maxLen at hGm
    have hown := World.ownsRow_made (e := 59) (size := 1) (base := w.heap.size) w cells G (Nat.le_refl _) hGM.out (by rw [← hcells]; simp [Builtin.zeroCells, Value.cells]; try omega)
    have HO := hid0 hown
    clear hG hown hcells hi hz0 hz1 hz2
    go_enter Try.func91, Try.ntmps91
    go_wp2_with (at_builtin; refine Lib.wpList_append_run _ rfl _ _ _ _ rfl _ _ rfl rfl _ _ (hrz _) ?_)
    all_goals (go_ret; exact ⟨⟨_, rfl, HO.out⟩, Below.drew ((Below.refl _ _).alloc (Nat.le_refl _) _)⟩)
set_option maxHeartbeats 4000000 in
theorem concNP_any (P : Nat → Prop) (B m : Nat) (vs : List Value) (Ls : List (List (Nat))) (w : World) (hA : ArgsAt w B vs) (hm : vs.length = m) (hl : Ls.length = m) (hS : ∀ (j : Nat) (v : Value) (l : List (Nat)), vs[j]? = some v → Ls[j]? = some l → Sl 1 pk P w v l) (hm1 : m ≤ 100) (hsum : Ls.flatten.length ≤ 1000) :
    Calls Try.prog 77 #[.slice (some ⟨B, 0, none⟩) m m] w fun e w' => (∃ v, e = .returned v ∧ Sl 1 pk (fun b => w.heap.size ≤ b) w' v Ls.flatten) ∧ Below w.heap.size w w' := by
  have HA := hid0 hA
  have HS := hid0 hS
  have HM := hid0 (And.intro hm hl)
  clear hA hS hm hl
  go_enter Try.func77, Try.ntmps77
  go_wp2_with fail
  go_loopw [3, 11] (fun sv iv wr => ∃ i s : Nat, i ≤ m ∧ iv = .int .i64 i ∧ sv = .int .i64 s ∧ s ≤ 1000 ∧ Hid (s = (Ls.take i).flatten.length) ∧ w = wr) (fun _ iv _ => m - (intOf iv).toNat)
  case atStart => exact ⟨0, 0, Nat.zero_le _, rfl, rfl, by omega, hid0 (by simp), rfl⟩
  case round =>
    obtain ⟨i, s, hi, rfl, rfl, hs1, I, rfl⟩ := hrel
    by_cases hlt : i < m
    · have hv : i < vs.length := by have := HM.out.1; omega
      have hL : i < Ls.length := by have := HM.out.2; omega
      obtain ⟨a, c, hve, hc, -⟩ := (HS.out i _ _ (List.getElem?_eq_getElem hv) (List.getElem?_eq_getElem hL)).out
      have q0 := HA.out.out i _ (List.getElem?_eq_getElem hv)
      rw [hve] at q0
      obtain ⟨n, hn⟩ : ∃ n, Ls[i].length = n := ⟨_, rfl⟩
      rw [hn] at q0
      have hii : (i : Int) < (m : Int) := by omega
      have hnx := flatten_next (List.getElem?_eq_getElem hL)
      have hsn : s + n ≤ 1000 := by have := I.out; omega
      have I2 : Hid (s + n = (Ls.take (i + 1)).flatten.length) := hid0 (by rw [flatten_take (List.getElem?_eq_getElem hL), List.length_append, ← I.out, hn])
      have hs0 : ¬ (s : Int) + (n : Int) < 0 := by omega
      clear hve hc hn hv hL hnx I
      go_wp2_with fail
      exact ⟨⟨i + 1, s + n, by omega, by go_num, by go_num, hsn, I2, trivial⟩, by simp [intOf]; omega⟩
    · obtain rfl : i = m := by omega
      have hii : ¬ (i : Int) < (i : Int) := by omega
      have CG := growNP_any s w hs1
      have HI := hid0 (show s = Ls.flatten.length by rw [I.out, List.take_of_length_le (by rw [HM.out.2]; exact Nat.le_refl _)])
      clear I
      go_wp2_with fail
      refine CG.mono ?_
      rintro e w1 ⟨⟨v1, rfl, O1⟩, hb1⟩
      have HO1 := hid0 O1
      clear CG O1
      go_wp2_with fail
      go_loopw [6, 27] (fun vv jv wr => ∃ j N : Nat, j ≤ i ∧ jv = .int .i64 j ∧ Hid (N = (Ls.take j).flatten.length) ∧ Hid (wr.ownsRow w.heap.size 59 1 vv N ((Ls.take j).flatten.flatMap pk)) ∧ Below w.heap.size w wr) (fun _ jv _ => i - (intOf jv).toNat)
      case atStart => exact ⟨0, 0, Nat.zero_le _, rfl, hid0 (by simp), hid0 (by simpa using HO1.out), hb1⟩
      case round =>
        obtain ⟨j, N, hj, rfl, HN, OW, hB⟩ := hrel
        by_cases hlt2 : j < i
        · have hv : j < vs.length := by have := HM.out.1; omega
          have hL : j < Ls.length := by have := HM.out.2; omega
          have hsl := HS.out j _ _ (List.getElem?_eq_getElem hv) (List.getElem?_eq_getElem hL)
          have hsl2 := hsl.later hB
          obtain ⟨a, c, hve, hc, hca⟩ := hsl2.out
          have q0 := cell_later hB (HA.out.out j _ (List.getElem?_eq_getElem hv))
          rw [hve] at q0 hsl2
          obtain ⟨n, hn⟩ : ∃ n, Ls[j].length = n := ⟨_, rfl⟩
          rw [hn] at q0 hsl2
          have hji : (j : Int) < (i : Int) := by omega
          have hnx := flatten_next (List.getElem?_eq_getElem hL)
          have hft := flatten_take (List.getElem?_eq_getElem hL)
          have hsz := hB.size
          obtain ⟨l, hll⟩ : ∃ l, Ls[j] = l := ⟨_, rfl⟩
          rw [hll] at hn hft hsl2 hnx hca
          clear hll hsl
          cases a with
          | none =>
            obtain rfl : l = [] := by
              rcases l with _ | ⟨x, l⟩
              · rfl
              · obtain ⟨b, o, e, _⟩ := hca (by simp)
                cases e
            obtain rfl : n = 0 := by simpa using hn.symm
            obtain ⟨va, vc, rfl, hvc⟩ := own_shape OW.out
            have OW2 : Hid (wr.ownsRow w.heap.size 59 1 (.slice va N vc) N ((Ls.take (j + 1)).flatten.flatMap pk)) := hid0 (by
              rw [hft, List.append_nil]; exact OW.out)
            have HN2 : Hid (N = (Ls.take (j + 1)).flatten.length) := hid0 (by rw [hft, List.append_nil]; exact HN.out)
            obtain ⟨i0, hi0, hz0, hz1, hz2⟩ := info_parts infoNP
            have hap : ∀ W ty, (Builtin.append_ #[61, 61] ty #[.slice va N vc, .slice none 0 c]).run Try.prog W = .ok (.slice va N vc) W := fun W ty => run_append_nil7 W _ _ _ _ Try.underlying61 hi0 va N vc c hvc
            clear hca hft hnx hsl2 OW HN hn hi0 hz0 hz1 hz2 hve hc hv hL
            go_wp2_with (at_builtin; refine Lib.wpList_append_run _ rfl _ _ _ _ rfl _ _ rfl rfl _ _ (hap _ _) ?_)
            exact ⟨⟨j + 1, N, by omega, by go_num, HN2, OW2, hB⟩, by simp [intOf]; omega⟩
          | some ad =>
            have hnews := hsl2.news pk_len
            have hcn := hid0 hnews
            have hnl : (l.flatMap pk).length = n * 1 := by rw [flat_len pk_len, hn]
            obtain ⟨i0, hi0, hz0, hz1, hz2⟩ := info_parts infoNP
            have HFT := hid0 hft
            have HL2 := hid0 hn
            have hNn : N + n ≤ 1000 := by have := HN.out; omega
            have HN2 : Hid (N + n = (Ls.take (j + 1)).flatten.length) := hid0 (by rw [hft, List.length_append, ← HN.out, hn])
            clear hnews hca hft hsl2 hn hve hc hv hL
            go_wp2_with (at_builtin; refine wpList_append_own _ rfl _ _ 61 rfl w.heap.size 59 i0 (.pointer none) 1 8 Try.underlying61 hi0 hz0 hz1 hz2 rfl (by decide) _ _ _ rfl OW.out ad n c (l.flatMap pk) rfl hnl hcn.out (cells_one pk_cell l) ?c3 ?c4 hsz ?_)
            case c3 => unfold maxLen; omega
            case c4 => omega
            intro v' w3 hown hgrow _
            have hB3 : Below w.heap.size w w3 := hB.grown hgrow hsz (fun q hq => (OW.out.lt q hq).1)
            have OW2 : Hid (w3.ownsRow w.heap.size 59 1 v' (N + n) ((Ls.take (j + 1)).flatten.flatMap pk)) := hid0 (by
              rw [HFT.out, List.flatMap_append]; exact hown)
            clear hown hgrow OW
            go_wp2_with fail
            exact ⟨⟨j + 1, N + n, by omega, by go_num, HN2, OW2, hB3⟩, by simp [intOf]; omega⟩
        · obtain rfl : j = i := by omega
          have hjj : ¬ (j : Int) < (j : Int) := by omega
          obtain ⟨va, vc, rfl, hvc⟩ := own_shape OW.out
          have hall : Ls.take j = Ls := List.take_of_length_le (by rw [HM.out.2]; exact Nat.le_refl _)
          rw [hall] at OW HN
          have hfin := hid0 (Sl.of_own pk_len OW.out HN.out)
          clear hall OW hvc HN
          go_wp2_with fail
          go_ret
          exact ⟨⟨_, rfl, hfin.out⟩, hB⟩

/-! ### []int -/
theorem infoVL : (Try.prog.info? 37).map (fun i => (i.zero, i.size, i.bytes)) = some (some (.slice none 0 0), 1, 24) := by kernel_rfl
set_option maxHeartbeats 1000000 in
theorem growVL_any (n : Nat) (w : World) (hn : n ≤ 1000) :
    Calls Try.prog 92 #[.slice none 0 0, .int .i64 (n : Int)] w fun e w' => (∃ v, e = .returned v ∧ w'.ownsRow w.heap.size 37 1 v 0 []) ∧ Below w.heap.size w w' := by
  obtain ⟨i0, hi, hz0, hz1, hz2⟩ := info_parts infoVL
  by_cases h0 : n = 0
  · subst h0
    go_enter Try.func92, Try.ntmps92
    go_wp2
    go_ret
    exact ⟨⟨_, rfl, World.ownsRow_nil _ _ _ _⟩, Below.refl _ _⟩
  · have h1 : ¬ ((n : Int) < 0) := by omega
    have h4 : (0 : Int) < (n : Int) := by omega
    have hrz : ∀ ty, (Builtin.append_ #[67, 3] ty #[.slice none 0 0, .int .i64 (n : Int)]).run Try.prog w =
        .ok (.slice (some ⟨w.heap.size, 0, none⟩) n (grownCap w n 0 37)) (w.drew.alloc (.cells ((([] : List Value).toArray ++ Builtin.zeroCells (Value.cells (.slice none 0 0)) n) ++ Builtin.zeroCells (Value.cells (.slice none 0 0)) (grownCap w n 0 37 - n)) 37)) := fun ty => by
      have h := Lib.run_append_grow_zeros w 67 3 ty 37 i0 (.slice none 0 0) .i64 .i64 Try.underlying67 Try.underlying3 hi hz0 none 0 0 [] (run_firstCells_none w.drew i0.size 0 0 0) n (by omega) (by rw [hz1]; decide) (by omega) (by omega)
        (by rw [hz2]; omega)
        (by rw [Nat.zero_add]; exact growslice_fits (by omega) (by rw [hz2]; omega))
      rw [Nat.zero_add] at h
      exact h
    have hGn : n ≤ grownCap w n 0 37 := grownCap_ge w _ _ _
    have hGm := grownCap_le_maxLen w n 0 37 (by unfold maxLen; omega)
    obtain ⟨G, hG⟩ : ∃ G, grownCap w n 0 37 = G := ⟨_, rfl⟩
    rw [hG] at hrz hGn hGm
    obtain ⟨cells, hcells⟩ : ∃ cells, (([] : List Value).toArray ++ Builtin.zeroCells (Value.cells (.slice none 0 0)) n) ++ Builtin.zeroCells (Value.cells (.slice none 0 0)) (G - n) = cells := ⟨_, rfl⟩
    rw [hcells] at hrz
    have hGM := hid0 hGm
    unfold maxLen at hGm
    have hown := World.ownsRow_made (e := 37) (size := 1) (base := w.heap.size) w cells G (Nat.le_refl _) hGM.out (by rw [← hcells]; simp [Builtin.zeroCells, Value.cells]; try omega)
    have HO := hid0 hown
    clear hG hown hcells hi hz0 hz1 hz2
    go_enter Try.func92, Try.ntmps92
    go_wp2_with (at_builtin; refine Lib.wpList_append_run _ rfl _ _ _ _ rfl _ _ rfl rfl _ _ (hrz _) ?_)
    all_goals (go_ret; exact ⟨⟨_, rfl, HO.out⟩, Below.drew ((Below.refl _ _).alloc (Nat.le_refl _) _)⟩)
set_option maxHeartbeats 4000000 in
theorem concVL_any (P : Nat → Prop) (B m : Nat) (vs : List Value) (Ls : List (List (Nat))) (w : World) (hA : ArgsAt w B vs) (hm : vs.length = m) (hl : Ls.length = m) (hS : ∀ (j : Nat) (v : Value) (l : List (Nat)), vs[j]? = some v → Ls[j]? = some l → Sl 1 eL P w v l) (hm1 : m ≤ 100) (hsum : Ls.flatten.length ≤ 1000) :
    Calls Try.prog 78 #[.slice (some ⟨B, 0, none⟩) m m] w fun e w' => (∃ v, e = .returned v ∧ Sl 1 eL (fun b => w.heap.size ≤ b) w' v Ls.flatten) ∧ Below w.heap.size w w' := by
  have HA := hid0 hA
  have HS := hid0 hS
  have HM := hid0 (And.intro hm hl)
  clear hA hS hm hl
  go_enter Try.func78, Try.ntmps78
  go_wp2_with fail
  go_loopw [3, 11] (fun sv iv wr => ∃ i s : Nat, i ≤ m ∧ iv = .int .i64 i ∧ sv = .int .i64 s ∧ s ≤ 1000 ∧ Hid (s = (Ls.take i).flatten.length) ∧ w = wr) (fun _ iv _ => m - (intOf iv).toNat)
  case atStart => exact ⟨0, 0, Nat.zero_le _, rfl, rfl, by omega, hid0 (by simp), rfl⟩
  case round =>
    obtain ⟨i, s, hi, rfl, rfl, hs1, I, rfl⟩ := hrel
    by_cases hlt : i < m
    · have hv : i < vs.length := by have := HM.out.1; omega
      have hL : i < Ls.length := by have := HM.out.2; omega
      obtain ⟨a, c, hve, hc, -⟩ := (HS.out i _ _ (List.getElem?_eq_getElem hv) (List.getElem?_eq_getElem hL)).out
      have q0 := HA.out.out i _ (List.getElem?_eq_getElem hv)
      rw [hve] at q0
      obtain ⟨n, hn⟩ : ∃ n, Ls[i].length = n := ⟨_, rfl⟩
      rw [hn] at q0
      have hii : (i : Int) < (m : Int) := by omega
      have hnx := flatten_next (List.getElem?_eq_getElem hL)
      have hsn : s + n ≤ 1000 := by have := I.out; omega
      have I2 : Hid (s + n = (Ls.take (i + 1)).flatten.length) := hid0 (by rw [flatten_take (List.getElem?_eq_getElem hL), List.length_append, ← I.out, hn])
      have hs0 : ¬ (s : Int) + (n : Int) < 0 := by omega
      clear hve hc hn hv hL hnx I
      go_wp2_with fail
      exact ⟨⟨i + 1, s + n, by omega, by go_num, by go_num, hsn, I2, trivial⟩, by simp [intOf]; omega⟩
    · obtain rfl : i = m := by omega
      have hii : ¬ (i : Int) < (i : Int) := by omega
      have CG := growVL_any s w hs1
      have HI := hid0 (show s = Ls.flatten.length by rw [I.out, List.take_of_length_le (by rw [HM.out.2]; exact Nat.le_refl _)])
      clear I
      go_wp2_with fail
      refine CG.mono ?_
      rintro e w1 ⟨⟨v1, rfl, O1⟩, hb1⟩
      have HO1 := hid0 O1
      clear CG O1
      go_wp2_with fail
      go_loopw [6, 27] (fun vv jv wr => ∃ j N : Nat, j ≤ i ∧ jv = .int .i64 j ∧ Hid (N = (Ls.take j).flatten.length) ∧ Hid (wr.ownsRow w.heap.size 37 1 vv N ((Ls.take j).flatten.flatMap eL)) ∧ Below w.heap.size w wr) (fun _ jv _ => i - (intOf jv).toNat)
      case atStart => exact ⟨0, 0, Nat.zero_le _, rfl, hid0 (by simp), hid0 (by simpa using HO1.out), hb1⟩
      case round =>
        obtain ⟨j, N, hj, rfl, HN, OW, hB⟩ := hrel
        by_cases hlt2 : j < i
        · have hv : j < vs.length := by have := HM.out.1; omega
          have hL : j < Ls.length := by have := HM.out.2; omega
          have hsl := HS.out j _ _ (List.getElem?_eq_getElem hv) (List.getElem?_eq_getElem hL)
          have hsl2 := hsl.later hB
          obtain ⟨a, c, hve, hc, hca⟩ := hsl2.out
          have q0 := cell_later hB (HA.out.out j _ (List.getElem?_eq_getElem hv))
          rw [hve] at q0 hsl2
          obtain ⟨n, hn⟩ : ∃ n, Ls[j].length = n := ⟨_, rfl⟩
          rw [hn] at q0 hsl2
          have hji : (j : Int) < (i : Int) := by omega
          have hnx := flatten_next (List.getElem?_eq_getElem hL)
          have hft := flatten_take (List.getElem?_eq_getElem hL)
          have hsz := hB.size
          obtain ⟨l, hll⟩ : ∃ l, Ls[j] = l := ⟨_, rfl⟩
          rw [hll] at hn hft hsl2 hnx hca
          clear hll hsl
          cases a with
          | none =>
            obtain rfl : l = [] := by
              rcases l with _ | ⟨x, l⟩
              · rfl
              · obtain ⟨b, o, e, _⟩ := hca (by simp)
                cases e
            obtain rfl : n = 0 := by simpa using hn.symm
            obtain ⟨va, vc, rfl, hvc⟩ := own_shape OW.out
            have OW2 : Hid (wr.ownsRow w.heap.size 37 1 (.slice va N vc) N ((Ls.take (j + 1)).flatten.flatMap eL)) := hid0 (by
              rw [hft, List.append_nil]; exact OW.out)
            have HN2 : Hid (N = (Ls.take (j + 1)).flatten.length) := hid0 (by rw [hft, List.append_nil]; exact HN.out)
            obtain ⟨i0, hi0, hz0, hz1, hz2⟩ := info_parts infoVL
            have hap : ∀ W ty, (Builtin.append_ #[67, 67] ty #[.slice va N vc, .slice none 0 c]).run Try.prog W = .ok (.slice va N vc) W := fun W ty => run_append_nil7 W _ _ _ _ Try.underlying67 hi0 va N vc c hvc
            clear hca hft hnx hsl2 OW HN hn hi0 hz0 hz1 hz2 hve hc hv hL
            go_wp2_with (at_builtin; refine Lib.wpList_append_run _ rfl _ _ _ _ rfl _ _ rfl rfl _ _ (hap _ _) ?_)
            exact ⟨⟨j + 1, N, by omega, by go_num, HN2, OW2, hB⟩, by simp [intOf]; omega⟩
          | some ad =>
            have hnews := hsl2.news eL_len
            have hcn := hid0 hnews
            have hnl : (l.flatMap eL).length = n * 1 := by rw [flat_len eL_len, hn]
            obtain ⟨i0, hi0, hz0, hz1, hz2⟩ := info_parts infoVL
            have HFT := hid0 hft
            have HL2 := hid0 hn
            have hNn : N + n ≤ 1000 := by have := HN.out; omega
            have HN2 : Hid (N + n = (Ls.take (j + 1)).flatten.length) := hid0 (by rw [hft, List.length_append, ← HN.out, hn])
            clear hnews hca hft hsl2 hn hve hc hv hL
            go_wp2_with (at_builtin; refine wpList_append_own _ rfl _ _ 67 rfl w.heap.size 37 i0 (.slice none 0 0) 1 24 Try.underlying67 hi0 hz0 hz1 hz2 rfl (by decide) _ _ _ rfl OW.out ad n c (l.flatMap eL) rfl hnl hcn.out (cells_one eL_cell l) ?c3 ?c4 hsz ?_)
            case c3 => unfold maxLen; omega
            case c4 => omega
            intro v' w3 hown hgrow _
            have hB3 : Below w.heap.size w w3 := hB.grown hgrow hsz (fun q hq => (OW.out.lt q hq).1)
            have OW2 : Hid (w3.ownsRow w.heap.size 37 1 v' (N + n) ((Ls.take (j + 1)).flatten.flatMap eL)) := hid0 (by
              rw [HFT.out, List.flatMap_append]; exact hown)
            clear hown hgrow OW
            go_wp2_with fail
            exact ⟨⟨j + 1, N + n, by omega, by go_num, HN2, OW2, hB3⟩, by simp [intOf]; omega⟩
        · obtain rfl : j = i := by omega
          have hjj : ¬ (j : Int) < (j : Int) := by omega
          obtain ⟨va, vc, rfl, hvc⟩ := own_shape OW.out
          have hall : Ls.take j = Ls := List.take_of_length_le (by rw [HM.out.2]; exact Nat.le_refl _)
          rw [hall] at OW HN
          have hfin := hid0 (Sl.of_own eL_len OW.out HN.out)
          clear hall OW hvc HN
          go_wp2_with fail
          go_ret
          exact ⟨⟨_, rfl, hfin.out⟩, hB⟩

/-! ### *belvedere/tree.node[[]int] -/
theorem infoNL : (Try.prog.info? 66).map (fun i => (i.zero, i.size, i.bytes)) = some (some (.pointer none), 1, 8) := by kernel_rfl
set_option maxHeartbeats 1000000 in
theorem growNL_any (n : Nat) (w : World) (hn : n ≤ 1000) :
    Calls Try.prog 93 #[.slice none 0 0, .int .i64 (n : Int)] w fun e w' => (∃ v, e = .returned v ∧ w'.ownsRow w.heap.size 66 1 v 0 []) ∧ Below w.heap.size w w' := by
  obtain ⟨i0, hi, hz0, hz1, hz2⟩ := info_parts infoNL
  by_cases h0 : n = 0
  · subst h0
    go_enter Try.func93, Try.ntmps93
    go_wp2
    go_ret
    exact ⟨⟨_, rfl, World.ownsRow_nil _ _ _ _⟩, Below.refl _ _⟩
  · have h1 : ¬ ((n : Int) < 0) := by omega
    have h4 : (0 : Int) < (n : Int) := by omega
    have hrz : ∀ ty, (Builtin.append_ #[68, 3] ty #[.slice none 0 0, .int .i64 (n : Int)]).run Try.prog w =
        .ok (.slice (some ⟨w.heap.size, 0, none⟩) n (grownCap w n 0 66)) (w.drew.alloc (.cells ((([] : List Value).toArray ++ Builtin.zeroCells (Value.cells (.pointer none)) n) ++ Builtin.zeroCells (Value.cells (.pointer none)) (grownCap w n 0 66 - n)) 66)) := fun ty => by
      have h := Lib.run_append_grow_zeros w 68 3 ty 66 i0 (.pointer none) .i64 .i64 Try.underlying68 Try.underlying3 hi hz0 none 0 0 [] (run_firstCells_none w.drew i0.size 0 0 0) n (by omega) (by rw [hz1]; decide) (by omega) (by omega)
        (by rw [hz2]; omega)
        (by rw [Nat.zero_add]; exact growslice_fits (by omega) (by rw [hz2]; omega))
      rw [Nat.zero_add] at h
      exact h
    have hGn : n ≤ grownCap w n 0 66 := grownCap_ge w _ _ _
    have hGm := grownCap_le_maxLen w n 0 66 (by unfold maxLen; omega)
    obtain ⟨G, hG⟩ : ∃ G, grownCap w n 0 66 = G := ⟨_, rfl⟩
    rw [hG] at hrz hGn hGm
    obtain ⟨cells, hcells⟩ : ∃ cells, (([] : List Value).toArray ++ Builtin.zeroCells (Value.cells (.pointer none)) n) ++ Builtin.zeroCells (Value.cells (.pointer none)) (G - n) = cells := ⟨_, rfl⟩
    rw [hcells] at hrz
    have hGM := hid0 hGm
    unfold maxLen at hGm
    have hown := World.ownsRow_made (e := 66) (size := 1) (base := w.heap.size) w cells G (Nat.le_refl _) hGM.out (by rw [← hcells]; simp [Builtin.zeroCells, Value.cells]; try omega)
    have HO := hid0 hown
    clear hG hown hcells hi hz0 hz1 hz2
    go_enter Try.func93, Try.ntmps93
    go_wp2_with (at_builtin; refine Lib.wpList_append_run _ rfl _ _ _ _ rfl _ _ rfl rfl _ _ (hrz _) ?_)
    all_goals (go_ret; exact ⟨⟨_, rfl, HO.out⟩, Below.drew ((Below.refl _ _).alloc (Nat.le_refl _) _)⟩)
set_option maxHeartbeats 4000000 in
theorem concNL_any (P : Nat → Prop) (B m : Nat) (vs : List Value) (Ls : List (List (Nat))) (w : World) (hA : ArgsAt w B vs) (hm : vs.length = m) (hl : Ls.length = m) (hS : ∀ (j : Nat) (v : Value) (l : List (Nat)), vs[j]? = some v → Ls[j]? = some l → Sl 1 pk P w v l) (hm1 : m ≤ 100) (hsum : Ls.flatten.length ≤ 1000) :
    Calls Try.prog 79 #[.slice (some ⟨B, 0, none⟩) m m] w fun e w' => (∃ v, e = .returned v ∧ Sl 1 pk (fun b => w.heap.size ≤ b) w' v Ls.flatten) ∧ Below w.heap.size w w' := by
  have HA := hid0 hA
  have HS := hid0 hS
  have HM := hid0 (And.intro hm hl)
  clear hA hS hm hl
  go_enter Try.func79, Try.ntmps79
  go_wp2_with fail
  go_loopw [3, 11] (fun sv iv wr => ∃ i s : Nat, i ≤ m ∧ iv = .int .i64 i ∧ sv = .int .i64 s ∧ s ≤ 1000 ∧ Hid (s = (Ls.take i).flatten.length) ∧ w = wr) (fun _ iv _ => m - (intOf iv).toNat)
  case atStart => exact ⟨0, 0, Nat.zero_le _, rfl, rfl, by omega, hid0 (by simp), rfl⟩
  case round =>
    obtain ⟨i, s, hi, rfl, rfl, hs1, I, rfl⟩ := hrel
    by_cases hlt : i < m
    · have hv : i < vs.length := by have := HM.out.1; omega
      have hL : i < Ls.length := by have := HM.out.2; omega
      obtain ⟨a, c, hve, hc, -⟩ := (HS.out i _ _ (List.getElem?_eq_getElem hv) (List.getElem?_eq_getElem hL)).out
      have q0 := HA.out.out i _ (List.getElem?_eq_getElem hv)
      rw [hve] at q0
      obtain ⟨n, hn⟩ : ∃ n, Ls[i].length = n := ⟨_, rfl⟩
      rw [hn] at q0
      have hii : (i : Int) < (m : Int) := by omega
      have hnx := flatten_next (List.getElem?_eq_getElem hL)
      have hsn : s + n ≤ 1000 := by have := I.out; omega
      have I2 : Hid (s + n = (Ls.take (i + 1)).flatten.length) := hid0 (by rw [flatten_take (List.getElem?_eq_getElem hL), List.length_append, ← I.out, hn])
      have hs0 : ¬ (s : Int) + (n : Int) < 0 := by omega
      clear hve hc hn hv hL hnx I
      go_wp2_with fail
      exact ⟨⟨i + 1, s + n, by omega, by go_num, by go_num, hsn, I2, trivial⟩, by simp [intOf]; omega⟩
    · obtain rfl : i = m := by omega
      have hii : ¬ (i : Int) < (i : Int) := by omega
      have CG := growNL_any s w hs1
      have HI := hid0 (show s = Ls.flatten.length by rw [I.out, List.take_of_length_le (by rw [HM.out.2]; exact Nat.le_refl _)])
      clear I
      go_wp2_with fail
      refine CG.mono ?_
      rintro e w1 ⟨⟨v1, rfl, O1⟩, hb1⟩
      have HO1 := hid0 O1
      clear CG O1
      go_wp2_with fail
      go_loopw [6, 27] (fun vv jv wr => ∃ j N : Nat, j ≤ i ∧ jv = .int .i64 j ∧ Hid (N = (Ls.take j).flatten.length) ∧ Hid (wr.ownsRow w.heap.size 66 1 vv N ((Ls.take j).flatten.flatMap pk)) ∧ Below w.heap.size w wr) (fun _ jv _ => i - (intOf jv).toNat)
      case atStart => exact ⟨0, 0, Nat.zero_le _, rfl, hid0 (by simp), hid0 (by simpa using HO1.out), hb1⟩
      case round =>
        obtain ⟨j, N, hj, rfl, HN, OW, hB⟩ := hrel
        by_cases hlt2 : j < i
        · have hv : j < vs.length := by have := HM.out.1; omega
          have hL : j < Ls.length := by have := HM.out.2; omega
          have hsl := HS.out j _ _ (List.getElem?_eq_getElem hv) (List.getElem?_eq_getElem hL)
          have hsl2 := hsl.later hB
          obtain ⟨a, c, hve, hc, hca⟩ := hsl2.out
          have q0 := cell_later hB (HA.out.out j _ (List.getElem?_eq_getElem hv))
          rw [hve] at q0 hsl2
          obtain ⟨n, hn⟩ : ∃ n, Ls[j].length = n := ⟨_, rfl⟩
          rw [hn] at q0 hsl2
          have hji : (j : Int) < (i : Int) := by omega
          have hnx := flatten_next (List.getElem?_eq_getElem hL)
          have hft := flatten_take (List.getElem?_eq_getElem hL)
          have hsz := hB.size
          obtain ⟨l, hll⟩ : ∃ l, Ls[j] = l := ⟨_, rfl⟩
          rw [hll] at hn hft hsl2 hnx hca
          clear hll hsl
          cases a with
          | none =>
            obtain rfl : l = [] := by
              rcases l with _ | ⟨x, l⟩
              · rfl
              · obtain ⟨b, o, e, _⟩ := hca (by simp)
                cases e
            obtain rfl : n = 0 := by simpa using hn.symm
            obtain ⟨va, vc, rfl, hvc⟩ := own_shape OW.out
            have OW2 : Hid (wr.ownsRow w.heap.size 66 1 (.slice va N vc) N ((Ls.take (j + 1)).flatten.flatMap pk)) := hid0 (by
              rw [hft, List.append_nil]; exact OW.out)
            have HN2 : Hid (N = (Ls.take (j + 1)).flatten.length) := hid0 (by rw [hft, List.append_nil]; exact HN.out)
            obtain ⟨i0, hi0, hz0, hz1, hz2⟩ := info_parts infoNL
            have hap : ∀ W ty, (Builtin.append_ #[68, 68] ty #[.slice va N vc, .slice none 0 c]).run Try.prog W = .ok (.slice va N vc) W := fun W ty => run_append_nil7 W _ _ _ _ Try.underlying68 hi0 va N vc c hvc
            clear hca hft hnx hsl2 OW HN hn hi0 hz0 hz1 hz2 hve hc hv hL
            go_wp2_with (at_builtin; refine Lib.wpList_append_run _ rfl _ _ _ _ rfl _ _ rfl rfl _ _ (hap _ _) ?_)
            exact ⟨⟨j + 1, N, by omega, by go_num, HN2, OW2, hB⟩, by simp [intOf]; omega⟩
          | some ad =>
            have hnews := hsl2.news pk_len
            have hcn := hid0 hnews
            have hnl : (l.flatMap pk).length = n * 1 := by rw [flat_len pk_len, hn]
            obtain ⟨i0, hi0, hz0, hz1, hz2⟩ := info_parts infoNL
            have HFT := hid0 hft
            have HL2 := hid0 hn
            have hNn : N + n ≤ 1000 := by have := HN.out; omega
            have HN2 : Hid (N + n = (Ls.take (j + 1)).flatten.length) := hid0 (by rw [hft, List.length_append, ← HN.out, hn])
            clear hnews hca hft hsl2 hn hve hc hv hL
            go_wp2_with (at_builtin; refine wpList_append_own _ rfl _ _ 68 rfl w.heap.size 66 i0 (.pointer none) 1 8 Try.underlying68 hi0 hz0 hz1 hz2 rfl (by decide) _ _ _ rfl OW.out ad n c (l.flatMap pk) rfl hnl hcn.out (cells_one pk_cell l) ?c3 ?c4 hsz ?_)
            case c3 => unfold maxLen; omega
            case c4 => omega
            intro v' w3 hown hgrow _
            have hB3 : Below w.heap.size w w3 := hB.grown hgrow hsz (fun q hq => (OW.out.lt q hq).1)
            have OW2 : Hid (w3.ownsRow w.heap.size 66 1 v' (N + n) ((Ls.take (j + 1)).flatten.flatMap pk)) := hid0 (by
              rw [HFT.out, List.flatMap_append]; exact hown)
            clear hown hgrow OW
            go_wp2_with fail
            exact ⟨⟨j + 1, N + n, by omega, by go_num, HN2, OW2, hB3⟩, by simp [intOf]; omega⟩
        · obtain rfl : j = i := by omega
          have hjj : ¬ (j : Int) < (j : Int) := by omega
          obtain ⟨va, vc, rfl, hvc⟩ := own_shape OW.out
          have hall : Ls.take j = Ls := List.take_of_length_le (by rw [HM.out.2]; exact Nat.le_refl _)
          rw [hall] at OW HN
          have hfin := hid0 (Sl.of_own pk_len OW.out HN.out)
          clear hall OW hvc HN
          go_wp2_with fail
          go_ret
          exact ⟨⟨_, rfl, hfin.out⟩, hB⟩
end Go.Proofs.Ytneebnankghhgab
