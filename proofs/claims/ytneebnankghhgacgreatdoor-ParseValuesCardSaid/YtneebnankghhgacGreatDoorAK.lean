/- Several of my texts laid together, each as it was: Ak, Al. Conditions: each names its own. -/
import Derived.Test.YtneebnankghhgacGreatDoorWQ
import Derived.Test.YtneebnankghhgacGreatDoorIA
import Derived.Test.YtneebnankghhgacGreatDoorGD
/- Rows of values as they are written in a command that inserts them, plainly: the parser's plain model reads them as these rows. Nothing of any program here: lemmas on lists. Conditions: each lemma names its own. -/
namespace Go.Proofs.YtneebnankghhgacGreatDoor
open Go.RowKit

theorem wd_at {l X : List Wd} {x : Wd} {i e : Nat} (h : l.drop i = x :: X) : wdP l ⟨i, e⟩ = x := by
  have h1 : l[i]? = some x := by rw [← List.head?_drop, h]; rfl
  show l.getD i noW = x
  rw [List.getD_eq_getElem?_getD, h1]; rfl
theorem dr_app {l A X : List Wd} {i : Nat} (h : l.drop i = A ++ X) : l.drop (i + A.length) = X := by
  rw [← List.drop_drop, h, List.drop_left]
theorem dr_one {l X : List Wd} {x : Wd} {i : Nat} (h : l.drop i = x :: X) : l.drop (i + 1) = X := dr_app (A := [x]) h
theorem is_at {l X : List Wd} {x : Wd} {i e : Nat} (h : l.drop i = x :: X) (s : List UInt8) : isP l s ⟨i, e⟩ = isW x s := by
  unfold isP; rw [wd_at h]
theorem need_at {l X : List Wd} {x : Wd} {i e : Nat} {s : List UInt8} (h : l.drop i = x :: X) (hx : isW x s = true) : need1 l s ⟨i, e⟩ = ⟨i + 1, e⟩ := by
  unfold need1; rw [is_at h, hx]; rfl

/-- A value's leaves. -/
def vLf (v : Val) : List Lf := [.v (.int .i64 v.k), .v (.int .i64 v.n), .v (.string v.s)]
structure ValOk (v : Val) : Prop where
  c : chk v.k v.n v.s = 0
  n1 : -9223372036854775808 ≤ v.n
  n2 : v.n ≤ 9223372036854775807
theorem txt_data (s : ByteArray) : txt s.data.toList = s := by cases s; simp [txt]
theorem no_text {s : ByteArray} (h : s.toList = []) : s = txt [] := by
  rw [ByteArray.toList_eq] at h
  exact WideShapes.bytes_inj (h.trans (by simp [txt]))
theorem isW_num (m : Nat) (s : List UInt8) : isW ⟨2, [], m, 0⟩ s = false := rfl
theorem isW_txt (x s : List UInt8) : isW ⟨3, x, 0, 0⟩ s = false := rfl
theorem ifF {α : Type} (a b : α) : (if false = true then a else b) = b := rfl
theorem value_at {l X : List Wd} {v : Val} {i : Nat} (hv : ValOk v) (h : l.drop i = sgW (sgVal v) ++ X) : valueP l ⟨i, 0⟩ = (vLf v, ⟨i + (sgW (sgVal v)).length, 0⟩) := by
  obtain ⟨k, n, s⟩ := v
  have hc := hv.c
  have n1 := hv.n1
  have n2 := hv.n2
  clear hv
  simp only at hc n1 n2
  unfold sgVal at h ⊢
  simp only at h ⊢
  by_cases h1 : k = 1
  · subst h1
    rw [if_pos rfl] at h ⊢
    have hs : s = txt [] := no_text (by
      unfold chk at hc; simp only [if_pos] at hc
      by_cases e : s.toList = []
      · exact e
      · simp [e] at hc)
    subst hs
    by_cases hn : n < 0
    · rw [if_pos hn] at h ⊢
      have h' : l.drop i = wdS 45 :: (⟨2, [], (-n).toNat, 0⟩ : Wd) :: X := by simpa [sgW, sgOne] using h
      have g := dr_one h'
      have w0 := wd_at (e := 0) h'
      unfold valueP
      rw [is_at h', is_at h', is_at h', w0]
      rw [show isW (wdS 45) [110, 117, 108, 108] = false by decide, show isW (wdS 45) [116, 114, 117, 101] = false by decide, show isW (wdS 45) [102, 97, 108, 115, 101] = false by decide, ifF, ifF, ifF, if_neg (show ¬ (wdS 45).k = 3 by decide)]
      unfold numberP
      have ht : takeP l [45] ⟨i, 0⟩ = (true, ⟨i + 1, 0⟩) := by unfold takeP; rw [is_at h']; rfl
      rw [ht]
      unfold numP
      rw [wd_at g]
      simp only [sgW, sgOne]
      rw [if_neg (by simp)]
      have e1 : -((-n).toNat : Int) = n := by omega
      simp only [if_true]
      rw [e1]
      rfl
    · rw [if_neg hn] at h ⊢
      have h' : l.drop i = (⟨2, [], n.toNat, 0⟩ : Wd) :: X := by simpa [sgW] using h
      have w0 := wd_at (e := 0) h'
      unfold valueP
      rw [is_at h', is_at h', is_at h', w0, isW_num, isW_num, isW_num, ifF, ifF, ifF, if_neg (show ¬ (⟨2, [], n.toNat, 0⟩ : Wd).k = 3 by simp)]
      unfold numberP
      have ht : takeP l [45] ⟨i, 0⟩ = (false, ⟨i, 0⟩) := by unfold takeP; rw [is_at h']; rfl
      rw [ht]
      unfold numP
      rw [w0]
      simp only [sgW]
      rw [if_neg (by simp; omega)]
      simp [vLf, iL, sL, List.filterMap]
      omega
  rw [if_neg h1] at h ⊢
  by_cases h2 : k = 2
  · subst h2
    rw [if_pos rfl] at h ⊢
    have hh : s.toList = [] ∧ (n = 0 ∨ n = 1) := by
      unfold chk at hc
      rw [if_neg (by decide), if_neg (by decide), if_pos rfl] at hc
      by_cases e : s.toList = [] ∧ (n = 0 ∨ n = 1)
      · exact e
      · rw [if_neg e] at hc; exact absurd hc (by decide)
    obtain ⟨hs, hn⟩ := hh
    have hs := no_text hs
    subst hs
    have h' : l.drop i = wdN (truthB (n == 1)) :: X := by simpa [sgW] using h
    unfold valueP
    rw [is_at h', is_at h', is_at h']
    rcases hn with rfl | rfl
    · rw [if_neg (by decide), if_neg (by decide), if_pos (by decide)]
      simp [vLf, iL, sL, sgW, List.filterMap]
    · rw [if_neg (by decide), if_pos (by decide)]
      simp [vLf, iL, sL, sgW, List.filterMap]
  rw [if_neg h2] at h ⊢
  by_cases h3 : k = 3
  · subst h3
    rw [if_pos rfl] at h ⊢
    have hh : n = 0 ∧ s.size ≤ 64 := by
      unfold chk at hc
      rw [if_neg (by decide), if_neg (by decide), if_neg (by decide), if_pos rfl] at hc
      by_cases e : n = 0
      · rw [if_pos e] at hc
        by_cases e2 : s.size ≤ 64
        · exact ⟨e, e2⟩
        · rw [if_neg e2] at hc; exact absurd hc (by decide)
      · rw [if_neg e] at hc; exact absurd hc (by decide)
    obtain ⟨rfl, hs⟩ := hh
    have h' : l.drop i = (⟨3, s.data.toList, 0, 0⟩ : Wd) :: X := by simpa [sgW] using h
    have w0 := wd_at (e := 0) h'
    unfold valueP
    rw [is_at h', is_at h', is_at h', w0, isW_txt, isW_txt, isW_txt, ifF, ifF, ifF, if_pos rfl]
    unfold textP
    rw [w0]
    have hl : s.data.toList.length = s.size := by simp only [ByteArray.size, Array.length_toList]
    simp only
    rw [if_neg (by omega)]
    simp [vLf, iL, sL, sgW, List.filterMap, txt_data]
  rw [if_neg h3] at h ⊢
  have hh : k = 0 ∧ n = 0 ∧ s.toList = [] := by
    unfold chk at hc
    by_cases e : k = 0
    · rw [if_pos e] at hc
      by_cases e2 : n = 0 ∧ s.toList = []
      · exact ⟨e, e2⟩
      · rw [if_neg e2] at hc; exact absurd hc (by decide)
    · rw [if_neg e, if_neg h1, if_neg h2, if_neg h3] at hc; exact absurd hc (by decide)
  obtain ⟨rfl, rfl, hs⟩ := hh
  have hs := no_text hs
  subst hs
  have h' : l.drop i = wdN nullB :: X := h
  unfold valueP
  rw [is_at h', if_pos (by decide)]
  simp [vLf, zV, iL, sL, sgW, List.filterMap]

/-! ### A row, rows -/
def sgVals : List Val → List Sg
  | [] => []
  | v :: r => sgOne 44 :: sgBl :: (sgVal v ++ sgVals r)
def sgRow : List Val → List Sg
  | [] => [sgOne 41]
  | v :: r => sgOne 40 :: (sgVal v ++ (sgVals r ++ [sgOne 41]))
def sgRows : List (List Val) → List Sg
  | [] => []
  | r :: R => sgOne 44 :: sgBl :: (sgRow r ++ sgRows R)
def insB8 : List UInt8 := [105, 110, 115, 101, 114, 116]
def intB8 : List UInt8 := [105, 110, 116, 111]
def valB8 : List UInt8 := [118, 97, 108, 117, 101, 115]
def sgName (s : List UInt8) : Sg := (s, some (wdN s))
def sgHead : List Sg := [sgName insB8, sgBl, sgName intB8, sgBl, sgName [116], sgBl, sgName valB8, sgBl]
def sgAll : List (List Val) → List Sg
  | [] => sgHead
  | r :: R => sgHead ++ (sgRow r ++ sgRows R)
theorem sgW_one (c : UInt8) (S : List Sg) : sgW (sgOne c :: S) = wdS c :: sgW S := rfl
theorem sgW_bl (S : List Sg) : sgW (sgBl :: S) = sgW S := rfl
theorem more_vals {l X : List Wd} {x : Wd} (hx : isW x [44] = false) : ∀ (r : List Val) (k i : Nat) (acc : List (List Lf)), (∀ v ∈ r, ValOk v) → r.length ≤ k → l.drop i = sgW (sgVals r) ++ (x :: X) →
    moreP l [44] (valueP l) k acc ⟨i, 0⟩ = (acc ++ r.map vLf, ⟨i + (sgW (sgVals r)).length, 0⟩)
  | [], 0, i, acc, _, _, _ => by simp [moreP, sgVals, sgW]
  | [], k + 1, i, acc, _, _, h => by
    have h' : l.drop i = x :: X := h
    unfold moreP
    rw [is_at h', hx]
    simp [sgVals, sgW]
  | v :: r, 0, _, _, _, hk, _ => absurd hk (by simp)
  | v :: r, k + 1, i, acc, hv, hk, h => by
    have e : sgW (sgVals (v :: r)) = wdS 44 :: (sgW (sgVal v) ++ sgW (sgVals r)) := by
      show sgW (sgOne 44 :: sgBl :: (sgVal v ++ sgVals r)) = _
      rw [sgW_one, sgW_bl, sgW_app]
    rw [e] at h ⊢
    have h' : l.drop i = wdS 44 :: (sgW (sgVal v) ++ (sgW (sgVals r) ++ (x :: X))) := by rw [h]; simp
    have g := dr_one h'
    have hv1 := value_at (hv v (by simp)) g
    have g2 := dr_app g
    unfold moreP
    rw [is_at h']
    rw [if_pos (by decide)]
    simp only [hv1]
    rw [more_vals hx r k _ _ (fun u hu => hv u (by simp [hu])) (by simpa using hk) g2]
    simp [Nat.add_assoc, Nat.add_comm]
theorem tuple_at {l X : List Wd} {r : List Val} {i : Nat} (hv : ∀ v ∈ r, ValOk v) (h0 : r ≠ []) (h8 : r.length ≤ 8) (hl : r.length ≤ l.length) (h : l.drop i = sgW (sgRow r) ++ X) :
    tupleP l ⟨i, 0⟩ = (r.map vLf, ⟨i + (sgW (sgRow r)).length, 0⟩) := by
  cases r with
  | nil => exact absurd rfl h0
  | cons v r =>
    have e : sgW (sgRow (v :: r)) = wdS 40 :: (sgW (sgVal v) ++ (sgW (sgVals r) ++ [wdS 41])) := by
      show sgW (sgOne 40 :: (sgVal v ++ (sgVals r ++ [sgOne 41]))) = _
      rw [sgW_one, sgW_app, sgW_app]; rfl
    rw [e] at h ⊢
    have h' : l.drop i = wdS 40 :: (sgW (sgVal v) ++ (sgW (sgVals r) ++ (wdS 41 :: X))) := by rw [h]; simp
    have g := dr_one h'
    have hv1 := value_at (hv v (by simp)) g
    have g2 := dr_app g
    have hm := more_vals (by decide : isW (wdS 41) [44] = false) r l.length _ [vLf v] (fun u hu => hv u (by simp [hu])) (by simp at hl; omega) g2
    have g3 := dr_app g2
    unfold tupleP listP
    simp only [need_at h' (by decide : isW (wdS 40) [40] = true), hv1, hm, need_at g3 (by decide : isW (wdS 41) [41] = true)]
    unfold withinP
    rw [if_neg (by simp at h8 ⊢; omega)]
    simp [Nat.add_assoc, Nat.add_comm]
    omega
theorem more_rows {l X : List Wd} {x : Wd} (hx : isW x [44] = false) : ∀ (R : List (List Val)) (k i : Nat) (acc : List (List Lf)), (∀ r ∈ R, (∀ v ∈ r, ValOk v) ∧ r ≠ [] ∧ r.length ≤ 8 ∧ r.length ≤ l.length) → R.length ≤ k → l.drop i = sgW (sgRows R) ++ (x :: X) →
    moreP l [44] (tup1P l) k acc ⟨i, 0⟩ = (acc ++ R.map (fun r => [rL (r.map vLf)]), ⟨i + (sgW (sgRows R)).length, 0⟩)
  | [], 0, i, acc, _, _, _ => by simp [moreP, sgRows, sgW]
  | [], k + 1, i, acc, _, _, h => by
    have h' : l.drop i = x :: X := h
    unfold moreP
    rw [is_at h', hx]
    simp [sgRows, sgW]
  | v :: r, 0, _, _, _, hk, _ => absurd hk (by simp)
  | v :: r, k + 1, i, acc, hv, hk, h => by
    have e : sgW (sgRows (v :: r)) = wdS 44 :: (sgW (sgRow v) ++ sgW (sgRows r)) := by
      show sgW (sgOne 44 :: sgBl :: (sgRow v ++ sgRows r)) = _
      rw [sgW_one, sgW_bl, sgW_app]
    rw [e] at h ⊢
    have h' : l.drop i = wdS 44 :: (sgW (sgRow v) ++ (sgW (sgRows r) ++ (x :: X))) := by rw [h]; simp
    have g := dr_one h'
    obtain ⟨q1, q2, q3, q4⟩ := hv v (by simp)
    have hv1 : tup1P l ⟨i + 1, 0⟩ = ([rL (v.map vLf)], ⟨i + 1 + (sgW (sgRow v)).length, 0⟩) := by unfold tup1P; rw [tuple_at q1 q2 q3 q4 g]
    have g2 := dr_app g
    unfold moreP
    rw [is_at h']
    rw [if_pos (by decide)]
    simp only [hv1]
    rw [more_rows hx r k _ _ (fun u hu => hv u (by simp [hu])) (by simpa using hk) g2]
    simp [Nat.add_assoc, Nat.add_comm]

/-- The statement that rows are. -/
def insS (R : List (List Val)) : SM := { zS with k := 8, nam := [116], rows := R.map (fun r => [rL (r.map vLf)]) }
theorem name_t : nameB [116] = true := by decide +kernel
theorem read_rows {l : List Wd} {R : List (List Val)} (hR : ∀ r ∈ R, (∀ v ∈ r, ValOk v) ∧ r ≠ [] ∧ r.length ≤ 8) (h0 : R ≠ []) (h16 : R.length ≤ 16) (hl : l = sgW (sgAll R) ++ [⟨5, [], 0, 0⟩]) : readP l 0 = (insS R, 0) := by
  cases R with
  | nil => exact absurd rfl h0
  | cons r R =>
    have hlen1 : ∀ (r : List Val), r.length ≤ (sgW (sgRow r)).length := by
      have hv : ∀ r : List Val, r.length ≤ (sgW (sgVals r)).length := by
        intro r
        induction r with
        | nil => simp
        | cons v r ih =>
          have e : sgW (sgVals (v :: r)) = wdS 44 :: (sgW (sgVal v) ++ sgW (sgVals r)) := by
            show sgW (sgOne 44 :: sgBl :: (sgVal v ++ sgVals r)) = _
            rw [sgW_one, sgW_bl, sgW_app]
          rw [e]; simp; omega
      intro r
      cases r with
      | nil => simp
      | cons v r =>
        have e : sgW (sgRow (v :: r)) = wdS 40 :: (sgW (sgVal v) ++ (sgW (sgVals r) ++ [wdS 41])) := by
          show sgW (sgOne 40 :: (sgVal v ++ (sgVals r ++ [sgOne 41]))) = _
          rw [sgW_one, sgW_app, sgW_app]; rfl
        have := hv r
        rw [e]; simp; omega
    have hlen2 : ∀ (R : List (List Val)), R.length ≤ (sgW (sgRows R)).length ∧ ∀ r ∈ R, r.length ≤ (sgW (sgRows R)).length := by
      intro R
      induction R with
      | nil => simp
      | cons v r ih =>
        have e : sgW (sgRows (v :: r)) = wdS 44 :: (sgW (sgRow v) ++ sgW (sgRows r)) := by
          show sgW (sgOne 44 :: sgBl :: (sgRow v ++ sgRows r)) = _
          rw [sgW_one, sgW_bl, sgW_app]
        have := hlen1 v
        rw [e]
        refine ⟨by simp; omega, fun u hu => ?_⟩
        rcases List.mem_cons.1 hu with rfl | hu
        · simp; omega
        · have := ih.2 u hu; simp; omega
    have eA : sgW (sgAll (r :: R)) = wdN insB8 :: wdN intB8 :: wdN [116] :: wdN valB8 :: (sgW (sgRow r) ++ sgW (sgRows R)) := by
      show sgW (sgHead ++ (sgRow r ++ sgRows R)) = _
      rw [sgW_app, sgW_app]; rfl
    rw [eA] at hl
    have d0 : l.drop 0 = wdN insB8 :: wdN intB8 :: wdN [116] :: wdN valB8 :: (sgW (sgRow r) ++ (sgW (sgRows R) ++ [⟨5, [], 0, 0⟩])) := by rw [hl]; simp
    have d1 := dr_one d0
    have d2 := dr_one d1
    have d3 := dr_one d2
    have d4 := dr_one d3
    have d5 := dr_app d4
    have d6 := dr_app d5
    have hll : l.length = (sgW (sgRow r)).length + (sgW (sgRows R)).length + 5 := by rw [hl]; simp; omega
    obtain ⟨q1, q2, q3⟩ := hR r (by simp)
    have t1 : tup1P l ⟨0 + 1 + 1 + 1 + 1, 0⟩ = ([rL (r.map vLf)], ⟨0 + 1 + 1 + 1 + 1 + (sgW (sgRow r)).length, 0⟩) := by
      unfold tup1P; rw [tuple_at q1 q2 q3 (by have := hlen1 r; omega) d4]
    have t2 := more_rows (by decide : isW ⟨5, [], 0, 0⟩ [44] = false) R l.length _ [[rL (r.map vLf)]] (fun u hu => by
      obtain ⟨a, b, c⟩ := hR u (by simp [hu])
      exact ⟨a, b, c, by have := (hlen2 R).2 u hu; omega⟩) (by have := (hlen2 R).1; omega) d5
    have hn : nameP l ⟨0 + 1 + 1, 0⟩ = ([116], ⟨0 + 1 + 1 + 1, 0⟩) := by
      unfold nameP; rw [wd_at d2, if_pos ⟨rfl, name_t⟩]; rfl
    have hi : insertP l ⟨0 + 1, 0⟩ = (insS (r :: R), ⟨0 + 1 + 1 + 1 + 1 + (sgW (sgRow r)).length + (sgW (sgRows R)).length, 0⟩) := by
      unfold insertP listP
      simp only [need_at d1 (by decide : isW (wdN intB8) [105, 110, 116, 111] = true), hn, need_at d3 (by decide : isW (wdN valB8) [118, 97, 108, 117, 101, 115] = true), t1, t2]
      unfold withinP
      rw [if_neg (by simp at h16 ⊢; omega)]
      rfl
    have hs : stmtP l 0 ⟨0, 0⟩ = (insS (r :: R), ⟨0 + 1 + 1 + 1 + 1 + (sgW (sgRow r)).length + (sgW (sgRows R)).length, 0⟩) := by
      unfold stmtP
      rw [is_at d0, is_at d0, is_at d0, is_at d0, if_neg (by decide), if_neg (by decide), if_neg (by decide), if_pos (by decide)]
      exact hi
    unfold readP
    simp only [hs]
    have he : endP l ⟨0 + 1 + 1 + 1 + 1 + (sgW (sgRow r)).length + (sgW (sgRows R)).length, 0⟩ = ⟨0 + 1 + 1 + 1 + 1 + (sgW (sgRow r)).length + (sgW (sgRows R)).length, 0⟩ := by
      unfold endP; rw [wd_at d6]; rfl
    rw [he]
    rfl

/-! ### The text -/
theorem vals_ok : ∀ {r : List Val}, (∀ v ∈ r, ValOk v) → ∀ {x : List UInt8}, Dl x → SgOk (sgVals r) x ∧ Dl (sgT (sgVals r) ++ x)
  | [], _, _, hx => ⟨trivial, hx⟩
  | v :: r, hv, x, hx => by
    obtain ⟨h1, h2⟩ := vals_ok (r := r) (fun u hu => hv u (by simp [hu])) hx
    have h0 := hv v (by simp)
    exact ⟨⟨by simp, by simp, word_sg (by simp) _, rfl, rfl, sg_app (sgVal_ok h0.n1 h0.n2 h2) h1⟩, dl_cons (by simp) _⟩
theorem row_ok {r : List Val} (hv : ∀ v ∈ r, ValOk v) {x : List UInt8} : SgOk (sgRow r) x := by
  cases r with
  | nil => exact ⟨by simp, by simp, word_sg (by simp) _, rfl, trivial⟩
  | cons v r =>
    have hd : Dl (41 :: x) := dl_cons (by simp) _
    obtain ⟨h1, h2⟩ := vals_ok (r := r) (fun u hu => hv u (by simp [hu])) hd
    have h0 := hv v (by simp)
    have h3 : SgOk (sgVals r ++ [sgOne 41]) x := sg_app (S' := [sgOne 41]) h1 ⟨by simp, by simp, word_sg (by simp) _, rfl, trivial⟩
    refine ⟨by simp, by simp, word_sg (by simp) _, rfl, sg_app (sgVal_ok h0.n1 h0.n2 ?_) h3⟩
    rw [sgT_app, List.append_assoc]
    exact h2
theorem rows_ok : ∀ {R : List (List Val)}, (∀ r ∈ R, ∀ v ∈ r, ValOk v) → SgOk (sgRows R) []
  | [], _ => trivial
  | r :: R, h => ⟨by simp, by simp, word_sg (by simp) _, rfl, rfl, sg_app (row_ok (h r (by simp))) (rows_ok (fun u hu => h u (by simp [hu])))⟩
theorem head_ok (x : List UInt8) : SgOk sgHead x :=
  ⟨by decide, by decide, word_nm (c := 105) (l := [110, 115, 101, 114, 116]) (dl_cons (by simp) _) (by decide) (by decide), rfl, rfl,
   by decide, by decide, word_nm (c := 105) (l := [110, 116, 111]) (dl_cons (by simp) _) (by decide) (by decide), rfl, rfl,
   by decide, by decide, word_nm (c := 116) (l := []) (dl_cons (by simp) _) (by decide) (by decide), rfl, rfl,
   by decide, by decide, word_nm (c := 118) (l := [97, 108, 117, 101, 115]) (dl_cons (by simp) _) (by decide) (by decide), rfl, rfl, trivial⟩
theorem all_ok {R : List (List Val)} (h : ∀ r ∈ R, ∀ v ∈ r, ValOk v) : SgOk (sgAll R) [] := by
  cases R with
  | nil => exact head_ok _
  | cons r R => exact sg_app (head_ok _) (sg_app (row_ok (h r (by simp))) (rows_ok (fun u hu => h u (by simp [hu]))))
theorem eqw_of {l l' : List Wd} (h : l'.map (fun x => x.put 0) = l.map (fun x => x.put 0)) : Eqw l l' := by
  have hlen : l'.length = l.length := by have := congrArg List.length h; simpa using this
  have hw : ∀ σ : PS, (wdP l' σ).put 0 = (wdP l σ).put 0 := fun σ => by
    have hi := congrArg (fun m => m[σ.i]?) h
    simp only [List.getElem?_map] at hi
    show (l'.getD σ.i noW).put 0 = (l.getD σ.i noW).put 0
    rw [List.getD_eq_getElem?_getD, List.getD_eq_getElem?_getD]
    cases h1 : l'[σ.i]? <;> cases h2 : l[σ.i]? <;> rw [h1, h2] at hi <;> simp at hi ⊢
    exact hi
  refine ⟨hlen, fun σ => ?_, fun σ => ?_, fun σ => ?_⟩
  · have := congrArg Wd.k (hw σ); exact this
  · have := congrArg Wd.s (hw σ); exact this
  · have := congrArg Wd.n (hw σ); exact this
theorem all_few {R : List (List Val)} (hR : ∀ r ∈ R, r.length ≤ 8) (h16 : R.length ≤ 16) : (sgW (sgAll R)).length ≤ 512 := by
  have hv : ∀ r : List Val, (sgW (sgVals r)).length ≤ 3 * r.length := by
    intro r
    induction r with
    | nil => simp [sgVals, sgW]
    | cons v r ih =>
      have e : sgW (sgVals (v :: r)) = wdS 44 :: (sgW (sgVal v) ++ sgW (sgVals r)) := by
        show sgW (sgOne 44 :: sgBl :: (sgVal v ++ sgVals r)) = _
        rw [sgW_one, sgW_bl, sgW_app]
      have := (sgVal_len v).2
      rw [e]; simp; omega
  have hr : ∀ r : List Val, (sgW (sgRow r)).length ≤ 3 * r.length + 1 := by
    intro r
    cases r with
    | nil => simp [sgRow, sgW, sgOne]
    | cons v r =>
      have e : sgW (sgRow (v :: r)) = wdS 40 :: (sgW (sgVal v) ++ (sgW (sgVals r) ++ [wdS 41])) := by
        show sgW (sgOne 40 :: (sgVal v ++ (sgVals r ++ [sgOne 41]))) = _
        rw [sgW_one, sgW_app, sgW_app]; rfl
      have := hv r
      have := (sgVal_len v).2
      rw [e]; simp; omega
  have hrs : ∀ R : List (List Val), (∀ r ∈ R, r.length ≤ 8) → (sgW (sgRows R)).length ≤ 26 * R.length := by
    intro R
    induction R with
    | nil => simp [sgRows, sgW]
    | cons v r ih =>
      intro h
      have e : sgW (sgRows (v :: r)) = wdS 44 :: (sgW (sgRow v) ++ sgW (sgRows r)) := by
        show sgW (sgOne 44 :: sgBl :: (sgRow v ++ sgRows r)) = _
        rw [sgW_one, sgW_bl, sgW_app]
      have := hr v
      have := h v (by simp)
      have := ih (fun u hu => h u (by simp [hu]))
      rw [e]; simp; omega
  cases R with
  | nil => decide
  | cons r R =>
    have eA : sgW (sgAll (r :: R)) = wdN insB8 :: wdN intB8 :: wdN [116] :: wdN valB8 :: (sgW (sgRow r) ++ sgW (sgRows R)) := by
      show sgW (sgHead ++ (sgRow r ++ sgRows R)) = _
      rw [sgW_app, sgW_app]; rfl
    have h1 := hr r
    have h2 := hR r (by simp)
    have h3 := hrs R (fun u hu => hR u (by simp [hu]))
    simp at h16
    rw [eA]; simp; omega
/-- Rows that were written are read as these rows. -/
theorem parM_rows {R : List (List Val)} (hR : ∀ r ∈ R, (∀ v ∈ r, ValOk v) ∧ r ≠ [] ∧ r.length ≤ 8) (h0 : R ≠ []) (h16 : R.length ≤ 16) (hl : (sgT (sgAll R)).length ≤ 2048) : parM (sgT (sgAll R)) 0 = (insS R, 0) := by
  obtain ⟨ws, h1, h2⟩ := lexR_segs (all_ok (fun r hr => (hR r hr).1)) hl (all_few (fun r hr => (hR r hr).2.2) h16)
  have e : parM (sgT (sgAll R)) 0 = readP (outW (sgT (sgAll R)).length (lexR (sgT (sgAll R)))) 0 := if_pos (by rw [h1]; rfl)
  rw [e, h1]
  have hz : (sgW (sgAll R)).map (fun x => x.put 0) = sgW (sgAll R) := by
    rw [← h2, List.map_map]; rfl
  have hE : Eqw (sgW (sgAll R) ++ [⟨5, [], 0, 0⟩]) (outW (sgT (sgAll R)).length (.ok ws)) := eqw_of (by
    show (ws ++ [(⟨5, [], 0, _⟩ : Wd)]).map _ = _
    rw [List.map_append, List.map_append, h2, hz]; rfl)
  rw [q_readP hE]
  exact read_rows hR h0 h16 rfl
end Go.Proofs.YtneebnankghhgacGreatDoor

/- The command that inserts rows, as it is put together piece by piece, plainly: its bytes. Nothing of any program here: lemmas on lists. Conditions: each lemma names its own. -/
namespace Go.Proofs.YtneebnankghhgacGreatDoor
open Go.RowKit

def preT (j : Nat) : List UInt8 := if j = 0 then [40] else [44, 32]
def vT (j : Nat) (v : Val) : List UInt8 := preT j ++ printL v.k v.n v.s
def valsT : Nat → List Val → List UInt8
  | _, [] => []
  | j, v :: r => vT j v ++ valsT (j + 1) r
def comT (j : Nat) : List UInt8 := if j = 0 then [] else [44, 32]
def rowT (j : Nat) (r : List Val) : List UInt8 := comT j ++ (valsT 0 r ++ [41])
def rowsT : Nat → List (List Val) → List UInt8
  | _, [] => []
  | j, r :: R => rowT j r ++ rowsT (j + 1) R
def headT : List UInt8 := [105, 110, 115, 101, 114, 116, 32, 105, 110, 116, 111, 32, 116, 32, 118, 97, 108, 117, 101, 115, 32]
theorem valsT_snoc : ∀ (r : List Val) (j : Nat) (v : Val), valsT j (r ++ [v]) = valsT j r ++ vT (j + r.length) v
  | [], j, v => by simp [valsT]
  | u :: r, j, v => by
    show vT j u ++ valsT (j + 1) (r ++ [v]) = _
    rw [valsT_snoc r (j + 1) v]
    show _ = (vT j u ++ valsT (j + 1) r) ++ _
    rw [List.append_assoc]
    congr 3
    simp; omega
theorem rowsT_snoc : ∀ (R : List (List Val)) (j : Nat) (r : List Val), rowsT j (R ++ [r]) = rowsT j R ++ rowT (j + R.length) r
  | [], j, r => by simp [rowsT]
  | u :: R, j, r => by
    show rowT j u ++ rowsT (j + 1) (R ++ [r]) = _
    rw [rowsT_snoc R (j + 1) r]
    show _ = (rowT j u ++ rowsT (j + 1) R) ++ _
    rw [List.append_assoc]
    congr 3
    simp; omega
theorem sgT_vals : ∀ (r : List Val) (j : Nat), sgT (sgVals r) = valsT (j + 1) r
  | [], _ => rfl
  | v :: r, j => by
    show [44] ++ ([32] ++ sgT (sgVal v ++ sgVals r)) = vT (j + 1) v ++ valsT (j + 1 + 1) r
    rw [sgT_app, sgVal_text, sgT_vals r (j + 1)]
    unfold vT preT
    rw [if_neg (by omega)]
    simp
theorem sgT_row {r : List Val} (h : r ≠ []) : sgT (sgRow r) = valsT 0 r ++ [41] := by
  cases r with
  | nil => exact absurd rfl h
  | cons v r =>
    show [40] ++ sgT (sgVal v ++ (sgVals r ++ [sgOne 41])) = (vT 0 v ++ valsT (0 + 1) r) ++ [41]
    rw [sgT_app, sgT_app, sgVal_text, sgT_vals r 0]
    unfold vT preT
    rw [if_pos rfl]
    simp [sgT, sgOne]
theorem sgT_rows : ∀ (R : List (List Val)) (j : Nat), (∀ r ∈ R, r ≠ []) → sgT (sgRows R) = rowsT (j + 1) R
  | [], _, _ => rfl
  | r :: R, j, h => by
    show [44] ++ ([32] ++ sgT (sgRow r ++ sgRows R)) = rowT (j + 1) r ++ rowsT (j + 1 + 1) R
    rw [sgT_app, sgT_row (h r (by simp)), sgT_rows R (j + 1) (fun u hu => h u (by simp [hu]))]
    unfold rowT comT
    rw [if_neg (by omega)]
    simp
theorem all_text {R : List (List Val)} (h0 : R ≠ []) (h : ∀ r ∈ R, r ≠ []) : sgT (sgAll R) = headT ++ rowsT 0 R := by
  cases R with
  | nil => exact absurd rfl h0
  | cons r R =>
    show sgT (sgHead ++ (sgRow r ++ sgRows R)) = headT ++ (rowT 0 r ++ rowsT (0 + 1) R)
    rw [sgT_app, sgT_app, sgT_row (h r (by simp)), sgT_rows R 0 (fun u hu => h u (by simp [hu]))]
    have e : sgT sgHead = headT := rfl
    rw [e]
    unfold rowT comT
    rw [if_pos rfl]
    simp

/-! ### How long -/
theorem truth_len (b : Bool) : (truthB b).length ≤ 5 := by cases b <;> decide
theorem print_len {v : Val} (h : ValOk v) : (printL v.k v.n v.s).length ≤ 130 := by
  have hc := h.c
  have n1 := h.n1
  have n2 := h.n2
  unfold printL
  by_cases h1 : v.k = 1
  · rw [if_pos h1]
    by_cases hn : v.n < 0
    · rw [itoa_neg hn]
      have := dec_len (u := (-v.n).toNat) (by omega)
      simp; omega
    · rw [itoa_pos hn]
      have := dec_len (u := v.n.toNat) (by omega)
      omega
  rw [if_neg h1]
  by_cases h2 : v.k = 2
  · rw [if_pos h2]
    have := truth_len (v.n == 1)
    omega
  rw [if_neg h2]
  by_cases h3 : v.k = 3
  · rw [if_pos h3]
    have hs : v.s.size ≤ 64 := by
      unfold chk at hc
      rw [if_neg (by omega), if_neg h1, if_neg h2, if_pos h3] at hc
      by_cases e : v.n = 0
      · rw [if_pos e] at hc
        by_cases e2 : v.s.size ≤ 64
        · exact e2
        · rw [if_neg e2] at hc; exact absurd hc (by decide)
      · rw [if_neg e] at hc; exact absurd hc (by decide)
    have hd := dup_length v.s.data.toList
    have hl : v.s.data.toList.length = v.s.size := by simp only [ByteArray.size, Array.length_toList]
    simp; omega
  · rw [if_neg h3]; decide
theorem vT_len {v : Val} (h : ValOk v) (j : Nat) : (vT j v).length ≤ 132 := by
  have := print_len h
  unfold vT preT
  split <;> simp <;> omega
theorem valsT_len : ∀ {r : List Val} (j : Nat), (∀ v ∈ r, ValOk v) → (valsT j r).length ≤ 132 * r.length
  | [], _, _ => by simp [valsT]
  | v :: r, j, h => by
    have h1 := vT_len (h v (by simp)) j
    have h2 := valsT_len (j + 1) (fun u hu => h u (List.mem_cons_of_mem _ hu))
    show (vT j v ++ valsT (j + 1) r).length ≤ _
    rw [List.length_append, List.length_cons]; omega
theorem rowsT_len : ∀ {R : List (List Val)} (j : Nat), (∀ r ∈ R, (∀ v ∈ r, ValOk v) ∧ r.length ≤ 8) → (rowsT j R).length ≤ 1060 * R.length
  | [], _, _ => by simp [rowsT]
  | r :: R, j, h => by
    obtain ⟨h1, h8⟩ := h r (by simp)
    have h1 := valsT_len 0 h1
    have h2 := rowsT_len (j + 1) (fun u hu => h u (List.mem_cons_of_mem _ hu))
    have hcm : (comT j).length ≤ 2 := by unfold comT; split <;> simp
    show (rowT j r ++ rowsT (j + 1) R).length ≤ _
    unfold rowT
    simp only [List.length_append, List.length_cons, List.length_nil]
    omega
end Go.Proofs.YtneebnankghhgacGreatDoor
