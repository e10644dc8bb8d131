/- Several of my texts laid together, each as it was: XD, XM, XG. Conditions: each names its own. -/
import Derived.Test.YtfdkajefcplfjaaGreatH8
import Derived.Test.YtfdkajefcplfjaaGreatH3
import Derived.Test.YtfdkajefcplfjaaGreatH1
import Derived.Test.YtfdkajefcplfjaaGreatH2
import Derived.Test.YtfdkajefcplfjaaGreatShelf
/- What a plan tells, plainly, as the project reckons it: the rows side by side, those that are kept, groups, what is told of them. Nothing of any program here. Conditions: each lemma names its own. -/
namespace Go.Proofs.YtfdkajefcplfjaaGreat
open Go.RowKit

def rowsN (l : List Nx) (s : List UInt8) : List Pair := match findN l s with
  | some x => x.E.map pr
  | none => []
def pairsB (A B : List Pair) : List Pair := A.flatMap fun x => B.map fun y => (x.1 ++ y.1, x.2 * y.2)
def oneB : List Pair := [([], 1)]
def prodB (l : List Nx) (fs : List ByteArray) : List Pair := fs.foldl (fun R s => pairsB R (rowsN l s.data.toList)) oneB
def sideB (l : List Nx) (p : Px) : List Pair := if costF l p.fs = 0 then [] else prodB l p.fs
def keepT (t : Tx) (x : Pair) : Bool := decide (hoT x.1 t = 2)
def keptB (l : List Nx) (p : Px) : List Pair := (sideB l p).filter (keepT p.wh)
theorem pairsB_snoc (A B : List Pair) (x : Pair) : pairsB (A ++ [x]) B = pairsB A B ++ B.map fun y => (x.1 ++ y.1, x.2 * y.2) := by unfold pairsB; rw [List.flatMap_append]; simp
theorem pairsB_len (A B : List Pair) : (pairsB A B).length = A.length * B.length := by
  induction A with
  | nil => simp [pairsB]
  | cons x A ih =>
    have : pairsB (x :: A) B = (B.map fun y => (x.1 ++ y.1, x.2 * y.2)) ++ pairsB A B := by simp [pairsB]
    rw [this, List.length_append, ih, List.length_map, List.length_cons, Nat.succ_mul]; omega
theorem prodB_snoc (l : List Nx) (fs : List ByteArray) (s : ByteArray) : prodB l (fs ++ [s]) = pairsB (prodB l fs) (rowsN l s.data.toList) := by unfold prodB; rw [List.foldl_append]; rfl

/-! ### Errors: the graver one -/
def graverM (a b : Int) : Int := if a = 0 ∨ b = 8 then b else a
def foldG (L : List Int) : Int := L.foldl graverM 0
theorem foldG_snoc (L : List Int) (x : Int) : foldG (L ++ [x]) = graverM (foldG L) x := by unfold foldG; rw [List.foldl_append]; rfl

/-! ### What an out tells of a group -/
def numV (n : Int) : Val := ⟨1, n, ⟨#[]⟩⟩
def headR (L : List Pair) : List Val := (L.headD ([], 0)).1
def headV (r : List Val) : Val := r.headD zV
def valsL (e : Cx) (L : List Pair) : List Pair := L.filterMap fun x => if (evC x.1 e).1.k = 0 then none else some ([(evC x.1 e).1], x.2)
def errL (e : Cx) (L : List Pair) : Int := foldG (L.map fun x => (evC x.1 e).2)
theorem valsL_snoc (e : Cx) (L : List Pair) (x : Pair) : valsL e (L ++ [x]) = valsL e L ++ (if (evC x.1 e).1.k = 0 then [] else [([(evC x.1 e).1], x.2)]) := by
  unfold valsL
  rw [List.filterMap_append]
  congr 1
  by_cases h : (evC x.1 e).1.k = 0
  · simp [h]
  · simp [h]
theorem errL_snoc (e : Cx) (L : List Pair) (x : Pair) : errL e (L ++ [x]) = graverM (errL e L) (evC x.1 e).2 := by
  unfold errL; rw [List.map_append]; exact foldG_snoc _ _
def sumN : List Pair → Int
  | [] => 0
  | x :: L => (headV x.1).n * x.2 + sumN L
theorem sumN_snoc : ∀ (L : List Pair) (x : Pair), sumN (L ++ [x]) = sumN L + (headV x.1).n * x.2
  | [], x => by simp [sumN]
  | y :: L, x => by rw [List.cons_append, sumN, sumN, sumN_snoc L x]; omega
def numsB (L : List Pair) : Bool := L.all fun x => decide ((headV x.1).k = 1)
def sumM (L : List Pair) : Val × Int := if numsB L = true then (if -9223372036854775808 ≤ sumN L ∧ sumN L ≤ 9223372036854775807 then (numV (sumN L), 0) else (zV, 12)) else (zV, 8)
def aggM (g : Int) (L : List Pair) : Val × Int :=
  if g = 2 then (numV (countB L), 0) else if g = 6 then sumM L else if L = [] then (zV, 0) else if g = 3 then sumM L
  else if g = 4 then (headV (headR L), 0) else (headV ((L.getLastD ([], 0)).1), 0)
def outM (o : Ox) (L : List Pair) : Val × Int :=
  if o.g = 0 then evC (headR L) o.e else if o.g = 1 then (numV (countB L), 0)
  else ((aggM o.g (ofB (valsL o.e L))).1, graverM (errL o.e L) (aggM o.g (ofB (valsL o.e L))).2)
def rowM (os : List Ox) (L : List Pair) : List Val := os.map fun o => (outM o L).1
def errM (os : List Ox) (L : List Pair) : Int := foldG (os.map fun o => (outM o L).2)
theorem rowM_snoc (os : List Ox) (o : Ox) (L : List Pair) : rowM (os ++ [o]) L = rowM os L ++ [(outM o L).1] := by simp [rowM]
theorem errM_snoc (os : List Ox) (o : Ox) (L : List Pair) : errM (os ++ [o]) L = graverM (errM os L) (outM o L).2 := by
  unfold errM; rw [List.map_append]; exact foldG_snoc _ _

/-! ### Groups -/
abbrev Grp := List Pair × Int
def keyV (gs : List Int) (r : List Val) : List Val := gs.map fun k => (r[k.toNat]?).getD zV
/-- Rows that lie beside one another and are alike at those places, together. -/
def runsM (gs : List Int) : List Pair → List (List Pair)
  | [] => []
  | x :: L => match runsM gs L with
    | (y :: g) :: R => if rowsV (keyV gs x.1) (keyV gs y.1) = 0 then (x :: y :: g) :: R else [x] :: (y :: g) :: R
    | _ => [[x]]
def leG (gs : List Int) (x y : Pair) : Bool := decide (rowsV (keyV gs x.1) (keyV gs y.1) ≤ 0)
def sortG (gs : List Int) (K : List Pair) : List Pair := K.mergeSort (leG gs)
def groupsM (p : Px) (K : List Pair) : List Grp :=
  if groupedB p = true then (if p.gs = [] then [(K, 1)] else (runsM p.gs (sortG p.gs K)).map fun g => (g, 1)) else K.map fun x => ([x], x.2)
def onceB (L : List Pair) : List Pair := (L.filter fun x => decide (0 < x.2)).map fun x => (x.1, 1)
def toldL (p : Px) (G : List Grp) : List Pair := G.map fun g => (rowM p.os g.1, g.2)
def toldE (p : Px) (G : List Grp) : Int := foldG (G.map fun g => errM p.os g.1)
theorem toldL_snoc (p : Px) (G : List Grp) (g : Grp) : toldL p (G ++ [g]) = toldL p G ++ [(rowM p.os g.1, g.2)] := by simp [toldL]
theorem toldE_snoc (p : Px) (G : List Grp) (g : Grp) : toldE p (G ++ [g]) = graverM (toldE p G) (errM p.os g.1) := by
  unfold toldE; rw [List.map_append]; exact foldG_snoc _ _
def toldM (p : Px) (K : List Pair) : List Pair := if p.d = true then onceB (ofB (toldL p (groupsM p K))) else toldL p (groupsM p K)
def allL (l : List Nx) (ps : List Px) : List Pair := ps.flatMap fun p => toldM p (keptB l p)
def allE (l : List Nx) (ps : List Px) : Int := foldG (ps.map fun p => toldE p (groupsM p (keptB l p)))
theorem allL_snoc (l : List Nx) (ps : List Px) (p : Px) : allL l (ps ++ [p]) = allL l ps ++ toldM p (keptB l p) := by simp [allL]
theorem allE_snoc (l : List Nx) (ps : List Px) (p : Px) : allE l (ps ++ [p]) = graverM (allE l ps) (toldE p (groupsM p (keptB l p))) := by
  unfold allE; rw [List.map_append]; exact foldG_snoc _ _
end Go.Proofs.YtfdkajefcplfjaaGreat

/- The project's number, graver error, total in two words: contracts of the calls, in whatever memory. Conditions: numbers that a program can hold. -/
namespace Go.Proofs.YtfdkajefcplfjaaGreat
open Go.RowKit

theorem numberP_any (n : Int) (w : World) :
    Calls Tryz.prog 313 #[.int .i64 n] w fun e w' => e = .returned (.agg #[.int .i64 1, .int .i64 n, .string ⟨#[]⟩]) ∧ Below w.heap.size w w' := by
  go_enter Tryz.func313, Tryz.ntmps313
  go_wp2
  exact end_blk (VarB.new w [.int .i64 1, .int .i64 n, .string ⟨#[]⟩] 41) rfl rfl _ Tryz.underlying41 rfl infoV rfl ⟨rfl, (Below.refl _ _).alloc (Nat.le_refl _) _⟩
theorem graver_any (a b : Int) (w : World) :
    Calls Tryz.prog 254 #[.int .i64 a, .int .i64 b] w fun e w' => e = .returned (.int .i64 (graverM a b)) ∧ w' = w := by
  obtain ⟨R, hR⟩ : ∃ R, graverM a b = R := ⟨_, rfl⟩
  have HR := hid0 hR
  rw [hR]
  clear hR
  by_cases h : a = 0
  · subst h
    go_enter Tryz.func254, Tryz.ntmps254
    go_wp2
    go_ret
    exact ⟨ret_i64 (by rw [← HR.out]; simp [graverM]), rfl⟩
  · have h1 : (a == 0) = false := by simpa using h
    by_cases h2 : b = 8
    · subst h2
      go_enter Tryz.func254, Tryz.ntmps254
      go_wp2
      go_ret
      exact ⟨ret_i64 (by rw [← HR.out]; simp [graverM]), rfl⟩
    · have h3 : (b == 8) = false := by simpa using h2
      go_enter Tryz.func254, Tryz.ntmps254
      go_wp2
      go_ret
      exact ⟨ret_i64 (by rw [← HR.out]; simp [graverM, h, h2]), rfl⟩
set_option maxHeartbeats 400000 in
theorem narrowT_any (x : Int) (w : World) (h : small x) :
    Calls Tryz.prog 321 #[.agg #[.int .u64 (wH x : Nat), .int .u64 (wL x : Nat)]] w fun e w' => e = .returned (.tuple #[.int .i64 (if inR x then x else 0), .bool (inR x)]) ∧ Below w.heap.size w w' := by
  have ht := narrow_test x h
  go_enter Tryz.func321, Tryz.ntmps321
  cases hi : inR x
  all_goals
    rw [hi] at ht
    go_wp2
    go_returns
    refine ⟨ret_nb ?_ rfl, by go_grown⟩
  · rfl
  · exact narrow_value x hi
theorem infoTot : (Tryz.prog.info? 307).map (·.size) = some 2 := by kernel_rfl
/-- A product's words. -/
theorem wL_prod (x y : Nat) (hx : x < 18446744073709551616) (hy : y < 18446744073709551616) (s : Bool) : x * y % 18446744073709551616 = wL ((x : Int) * y - (if s then 18446744073709551616 * (y : Int) else 0)) := by
  have h : x * y ≤ 18446744073709551615 * 18446744073709551615 := Nat.mul_le_mul (by omega) (by omega)
  rw [← Int.natCast_mul]
  generalize x * y = m at *
  cases s
  · unfold wL; simp only [Bool.false_eq_true, if_false]; omega
  · unfold wL; simp only [if_true]; omega
theorem wH_pos (x y : Nat) (hx : x < 18446744073709551616) (hy : y < 18446744073709551616) : x * y / 18446744073709551616 = wH ((x : Int) * y) := by
  rw [← Int.natCast_mul]; exact wH_mul x y hx hy
theorem wH_neg (x y : Nat) (hx : x < 18446744073709551616) (hy : y < 18446744073709551616) : IntKind.u64.wrap (((x * y / 18446744073709551616 : Nat) : Int) - (y : Int)) = ((wH ((x : Int) * y - 18446744073709551616 * (y : Int)) : Nat) : Int) := by
  have h : x * y ≤ 18446744073709551615 * 18446744073709551615 := Nat.mul_le_mul (by omega) (by omega)
  rw [← Int.natCast_mul, IntKind.wrap_u64]
  generalize x * y = m at *
  unfold wH; omega
set_option maxHeartbeats 1000000 in
theorem plusT_any (S n m : Int) (w : World) (hn : in64 n) (hm : 0 ≤ m ∧ m ≤ 9223372036854775807) :
    Calls Tryz.prog 320 #[.agg #[.int .u64 (wH S : Nat), .int .u64 (wL S : Nat)], .int .i64 n, .int .i64 m] w fun e w' => e = .returned (.agg #[.int .u64 (wH (S + n * m) : Nat), .int .u64 (wL (S + n * m) : Nat)]) ∧ Below w.heap.size w w' := by
  obtain ⟨hn1, hn2⟩ := hn
  obtain ⟨hm1, hm2⟩ := hm
  obtain ⟨y, rfl⟩ : ∃ y : Nat, m = y := ⟨m.toNat, by omega⟩
  have hwy : IntKind.u64.wrap (y : Int) = (y : Int) := by rw [IntKind.wrap_u64]; omega
  have h1 := add_low S (n * y)
  obtain ⟨c2, h2⟩ : ∃ c : World → Int, ∀ w, (callFunc 242 #[.int .u64 (wH S : Nat), .int .u64 (wH (n * y) : Nat), .int .u64 (carry S (n * y) : Nat)]).run Tryz.prog w = .ok (.value (.tuple #[.int .u64 (wH (S + n * y) : Nat), .int .u64 (c w)])) w :=
    ⟨fun w => (add_high S (n * y) w).choose, fun w => (add_high S (n * y) w).choose_spec⟩
  by_cases hs : n < 0
  · obtain ⟨x, hx⟩ : ∃ x : Nat, n + 18446744073709551616 = x := ⟨(n + 18446744073709551616).toNat, by omega⟩
    have hwx : IntKind.u64.wrap n = (x : Int) := by rw [IntKind.wrap_u64]; omega
    have hM := Tryz.bits_Mul64 x y (by omega) (by omega)
    have hp : n * (y : Int) = (x : Int) * y - 18446744073709551616 * (y : Int) := by rw [← hx, Int.add_mul]; omega
    have e1 := wL_prod x y (by omega) (by omega) true
    have e2 := wH_neg x y (by omega) (by omega)
    simp only [if_true] at e1
    rw [← hp] at e1 e2
    rw [e1] at hM
    generalize x * y / 18446744073709551616 = q at hM e2
    have HM := hid0 hM
    generalize n * (y : Int) = z at *
    clear hM hp e1
    go_enter Tryz.func320, Tryz.ntmps320
    go_wp2_with (go_at_call 216; refine (HM.out _).mono ?_; rintro e w' ⟨rfl, hw⟩; rw [hw])
    exact end_blk (VarB.two (w := w) [.int .u64 (wH S : Nat), .int .u64 (wL S : Nat)] [.int .u64 (wH (S + z) : Nat), .int .u64 (wL (S + z) : Nat)] 307 307).2 rfl rfl _ Tryz.underlying307 rfl infoTot rfl ⟨rfl, ((Below.refl w.heap.size w).alloc (Nat.le_refl _) _).alloc (by simp) _⟩
  · obtain ⟨x, rfl⟩ : ∃ x : Nat, n = x := ⟨n.toNat, by omega⟩
    have hwx : IntKind.u64.wrap (x : Int) = (x : Int) := by rw [IntKind.wrap_u64]; omega
    have hM := Tryz.bits_Mul64 x y (by omega) (by omega)
    have e1 := wL_prod x y (by omega) (by omega) false
    have e2 := wH_pos x y (by omega) (by omega)
    simp only [Bool.false_eq_true, if_false, Int.sub_zero] at e1
    rw [e1, e2] at hM
    have HM := hid0 hM
    generalize (x : Int) * (y : Int) = z at *
    clear hM e1 e2
    go_enter Tryz.func320, Tryz.ntmps320
    go_wp2_with (go_at_call 216; refine (HM.out _).mono ?_; rintro e w' ⟨rfl, hw⟩; rw [hw])
    exact end_blk (VarB.two (w := w) [.int .u64 (wH S : Nat), .int .u64 (wL S : Nat)] [.int .u64 (wH (S + z) : Nat), .int .u64 (wL (S + z) : Nat)] 307 307).2 rfl rfl _ Tryz.underlying307 rfl infoTot rfl ⟨rfl, ((Below.refl w.heap.size w).alloc (Nat.le_refl _) _).alloc (by simp) _⟩
end Go.Proofs.YtfdkajefcplfjaaGreat

/- A part's rows side by side, plainly: how many they are. Nothing of any program here. Conditions: the sources are ready and not too great. -/
namespace Go.Proofs.YtfdkajefcplfjaaGreat
open Go.RowKit

/-! ### Plainly: how many rows lie side by side -/
/-- Rows that are there, each no longer than m, c of them in all. -/
structure PB (L : List Pair) (m : Nat) (c : Int) : Prop where
  pos : ∀ x ∈ L, 1 ≤ x.2 ∧ x.1.length ≤ m
  sum : absS L = c
theorem absS_pos : ∀ {L : List Pair}, (∀ x ∈ L, 1 ≤ x.2) → (L.length : Int) ≤ absS L
  | [], _ => by simp [absS]
  | x :: L, h => by
    have h1 := h x (by simp)
    have h2 := absS_pos (L := L) (fun y hy => h y (by simp [hy]))
    unfold absS
    rw [if_neg (by omega), List.length_cons]
    omega
theorem PB.len {L : List Pair} {m : Nat} {c : Int} (h : PB L m c) : (L.length : Int) ≤ c := by
  have := absS_pos (fun x hx => (h.pos x hx).1)
  rw [h.sum] at this
  exact this
theorem PB.num {L : List Pair} {m : Nat} {c : Int} (h : PB L m c) {x : Pair} (hx : x ∈ L) : 1 ≤ x.2 ∧ x.2 ≤ c := by
  have := absS_mem hx
  rw [h.sum] at this
  exact ⟨(h.pos x hx).1, this.2⟩
theorem absS_times (r : List Val) {n : Int} (hn : 1 ≤ n) : ∀ {B : List Pair}, (∀ y ∈ B, 1 ≤ y.2) → absS (B.map fun y => (r ++ y.1, n * y.2)) = n * absS B
  | [], _ => by simp [absS]
  | y :: B, h => by
    have h1 := h y (by simp)
    have h2 := absS_times r hn (B := B) (fun z hz => h z (by simp [hz]))
    have h3 : 0 ≤ n * y.2 := Int.mul_nonneg (by omega) (by omega)
    rw [List.map_cons, absS, absS, if_neg (by show ¬ n * y.2 < 0; omega), if_neg (by omega), h2, Int.mul_add]
theorem absS_pairs {B : List Pair} (hB : ∀ y ∈ B, 1 ≤ y.2) : ∀ {A : List Pair}, (∀ x ∈ A, 1 ≤ x.2) → absS (pairsB A B) = absS A * absS B
  | [], _ => by simp [pairsB, absS]
  | x :: A, h => by
    have h1 := h x (by simp)
    have h2 := absS_pairs hB (A := A) (fun z hz => h z (by simp [hz]))
    have e : pairsB (x :: A) B = (B.map fun y => (x.1 ++ y.1, x.2 * y.2)) ++ pairsB A B := by simp [pairsB]
    rw [e, absS_append, h2, absS_times x.1 h1 hB, absS, if_neg (by omega), Int.add_mul]
theorem PB.pairs {A B : List Pair} {m k : Nat} {c d : Int} (hA : PB A m c) (hB : PB B k d) : PB (pairsB A B) (m + k) (c * d) := by
  refine ⟨fun x hx => ?_, by rw [absS_pairs (fun y hy => (hB.pos y hy).1) (fun y hy => (hA.pos y hy).1), hA.sum, hB.sum]⟩
  unfold pairsB at hx
  obtain ⟨a, ha, hx⟩ := List.mem_flatMap.1 hx
  obtain ⟨b, hb, rfl⟩ := List.mem_map.1 hx
  have h1 := hA.pos a ha
  have h2 := hB.pos b hb
  have h3 : 1 * 1 ≤ a.2 * b.2 := Int.mul_le_mul h1.1 h2.1 (by omega) (by omega)
  exact ⟨by show 1 ≤ a.2 * b.2; omega, by show (a.1 ++ b.1).length ≤ _; rw [List.length_append]; omega⟩
theorem size_is' : ∀ (L : List Pair) (n : Int), (∀ x ∈ L, 1 ≤ x.2) → 0 ≤ n → n ≤ maxMany → L.foldl (fun n x => addMany n (max x.2 0)) n = min (n + absS L) maxMany
  | [], n, _, h0, h1 => by simp only [List.foldl_nil, absS]; omega
  | x :: L, n, h, h0, h1 => by
    have hx := h x (by simp)
    have hn := addMany_in (m := max x.2 0) ⟨h0, h1⟩ (by omega)
    have ha := absS_nonneg L
    rw [List.foldl_cons, size_is' L _ (fun y hy => h y (by simp [hy])) hn.1 hn.2, absS, if_neg (by omega)]
    unfold addMany
    omega
theorem size_is {L : List Pair} (h : ∀ x ∈ L, 1 ≤ x.2) : sizeB L = min (absS L) maxMany := by
  have := size_is' L 0 h (by omega) (by unfold maxMany; omega)
  unfold sizeB
  rw [this]
  omega
/-- A part's sources, where they are ready and not too great. -/
structure Cheap (l : List Nx) (fs : List ByteArray) : Prop where
  ok : ∀ s ∈ fs, ∃ x, findN l s.data.toList = some x ∧ ∀ e ∈ x.E, 1 ≤ e.n ∧ e.r.length ≤ 8 ∧ e.r ≠ []
  few : fs.length ≤ 3
  cost : costF l fs ≤ 2000
theorem costF_at {l : List Nx} {fs : List ByteArray} {i : Nat} (h : i < fs.length) : costF l (fs.take (i + 1)) = timesM (costF l (fs.take i)) (sizeN l fs[i].data.toList) := by
  rw [List.take_succ_eq_append_getElem h, costF_snoc]
theorem cost_step {l : List Nx} {fs : List ByteArray} {i : Nat} (h : i < fs.length) (hp : 0 < costF l (fs.take (i + 1))) :
    0 < costF l (fs.take i) ∧ costF l (fs.take i) ≤ costF l (fs.take (i + 1)) ∧ 0 < sizeN l fs[i].data.toList := by
  have h1 := costF_in l (fs.take i)
  have h2 := sizeN_in l fs[i].data.toList
  rw [costF_at h] at hp ⊢
  generalize costF l (fs.take i) = a at *
  generalize sizeN l fs[i].data.toList = b at *
  unfold timesM at *
  have ha : 0 < a := by
    rcases Int.lt_or_le 0 a with h | h
    · exact h
    · obtain rfl : a = 0 := by omega
      rw [Int.zero_mul] at hp; unfold maxMany at hp; omega
  have hb : 0 < b := by
    rcases Int.lt_or_le 0 b with h | h
    · exact h
    · obtain rfl : b = 0 := by omega
      rw [Int.mul_zero] at hp; unfold maxMany at hp; omega
  have h3 : a * 1 ≤ a * b := Int.mul_le_mul_of_nonneg_left (by omega) (by omega)
  exact ⟨ha, by omega, hb⟩
theorem cost_prefix {l : List Nx} {fs : List ByteArray} (hp : 0 < costF l fs) : ∀ (k i : Nat), i + k = fs.length → 0 < costF l (fs.take i) ∧ costF l (fs.take i) ≤ costF l fs
  | 0, i, h => by rw [List.take_of_length_le (by omega)]; exact ⟨hp, Int.le_refl _⟩
  | k + 1, i, h => by
    have h1 := cost_prefix hp k (i + 1) (by omega)
    have h2 := cost_step (by omega) h1.1
    exact ⟨h2.1, by omega⟩
theorem cheap_at {l : List Nx} {fs : List ByteArray} (hC : Cheap l fs) (hp : 0 < costF l fs) {i : Nat} (h : i < fs.length) {x : Nx} (hx : findN l fs[i].data.toList = some x) : PB (x.E.map pr) 8 (sizeN l fs[i].data.toList) ∧ 0 < costF l (fs.take i) ∧ costF l (fs.take i) ≤ 2000 ∧ sizeN l fs[i].data.toList ≤ 2000 ∧ costF l (fs.take (i + 1)) = costF l (fs.take i) * sizeN l fs[i].data.toList ∧ 0 < sizeN l fs[i].data.toList ∧ costF l (fs.take i) * sizeN l fs[i].data.toList ≤ 2000 := by
  obtain ⟨x', hx', hE⟩ := hC.ok _ (List.getElem_mem h)
  rw [hx] at hx'
  obtain rfl : x = x' := by simpa using hx'
  have h1 := cost_prefix hp (fs.length - (i + 1)) (i + 1) (by omega)
  have h2 := cost_prefix hp (fs.length - i) i (by omega)
  have h3 := cost_step h h1.1
  have hc := hC.cost
  have hcost := costF_at (l := l) h
  have hpos : ∀ y ∈ x.E.map pr, 1 ≤ y.2 ∧ y.1.length ≤ 8 := fun y hy => by
    obtain ⟨e, he, rfl⟩ := List.mem_map.1 hy
    exact ⟨(hE e he).1, (hE e he).2.1⟩
  have hs : sizeN l fs[i].data.toList = sizeB (x.E.map pr) := by unfold sizeN; rw [hx]
  have hz := size_is (fun y hy => (hpos y hy).1)
  rw [← hs] at hz
  rw [hcost] at h1 ⊢
  generalize sizeN l fs[i].data.toList = b at *
  generalize costF l (fs.take i) = a at *
  generalize hQ : absS (x.E.map pr) = q at hz
  have h4 : 1 * b ≤ a * b := Int.mul_le_mul_of_nonneg_right (by omega) (by omega)
  unfold timesM maxMany at *
  have hq : q = b := by omega
  exact ⟨⟨hpos, by rw [hQ, hq]⟩, by omega, by omega, by omega, by omega, by omega, by omega⟩
theorem prod_pb {l : List Nx} {fs : List ByteArray} (hC : Cheap l fs) (hp : 0 < costF l fs) : ∀ i, i ≤ fs.length → PB (prodB l (fs.take i)) (8 * i) (costF l (fs.take i))
  | 0, _ => ⟨fun x hx => by simp [prodB, oneB] at hx; subst hx; simp, by simp [prodB, oneB, absS, costF]⟩
  | i + 1, h => by
    have ih := prod_pb hC hp i (by omega)
    obtain ⟨x, hx, _⟩ := hC.ok _ (List.getElem_mem (show i < fs.length by omega))
    obtain ⟨h1, h2, h3, h4, h5, _⟩ := cheap_at hC hp (show i < fs.length by omega) hx
    have e : prodB l (fs.take (i + 1)) = pairsB (prodB l (fs.take i)) (x.E.map pr) := by
      rw [List.take_succ_eq_append_getElem (show i < fs.length by omega), prodB_snoc]
      unfold rowsN; rw [hx]
    rw [e, h5]
    exact ih.pairs h1
end Go.Proofs.YtfdkajefcplfjaaGreat
