/- TreeScans: the keys of a tree from one on, and below another one, as a list and one after the other, with what they have; whoever stops early has the first ones: a contract of the call. Conditions: the steps' cells are known. -/
import Derived.Test.YtabpfibncipfjaaUn
import Derived.Test.YtabpfibncipfjaaUr
import Derived.RangeFuncNested
import Derived.RangeFuncBox
import Derived.Lib.MinMax
namespace Go.Proofs.Ytabpfibncipfjaa
open Go.RowKit Go.Shelf

attribute [local go_sem] Oper.semAt_some
theorem getA_mem {L : List (Key × Int)} {x : Key × Int} (h : Asc L) (hx : x ∈ L) : getA x.1 L = some x.2 := by
  induction L with
  | nil => cases hx
  | cons y L ih =>
    rw [getA]
    rcases List.mem_cons.1 hx with rfl | hx
    · rw [if_pos rfl]
    · rw [if_neg (k_ne ((List.pairwise_cons.1 h).1 x hx)), ih (List.pairwise_cons.1 h).2 hx]
theorem pre_at {pre L : List (Key × Int)} {x : Key × Int} {m : Nat} (h : pre ++ [x] <+: L) (hm : pre.length = m) : L[m]? = some x := by
  obtain ⟨t, rfl⟩ := h
  subst hm
  simp
theorem KeepB.setCell {T : Nat → Prop} (W : World) {b : Nat} (v : Value) (hT : ¬ T b) : KeepB T W (W.setCell ⟨b, 0, none⟩ v) :=
  ⟨by rw [World.size_setCell]; exact Nat.le_refl _, fun k hk _ => Below.heap_setCell _ _ _ _ (fun e => by have e' : k = b := e; subst e'; exact hT hk)⟩
/-- What the loop over all keys keeps: the count, and that what came so far is as it should be. -/
def ScansI (Bn Bg : Nat) (F : List (Key × Int)) (s : Nat) (wb : World) (N : Nat) (pre : List (Key × Int)) (W : World) : Prop :=
  ∃ b : Bool, Boxed W Bn 3 (.int .i64 (pre.length : Int)) ∧ Boxed W Bg 4 (.bool b) ∧ (pre <+: F → b = true) ∧ pre.length ≤ s ∧ Below wb.heap.size wb W ∧ N ≤ W.heap.size
theorem scansI_own {Bn Bg s B : Nat} {F : List (Key × Int)} {wb : World} (N : Nat) (hB : wb.heap.size ≤ B) : OwnFrom B (ScansI Bn Bg F s wb N) :=
  fun pre A C row ⟨b, h1, h2, h3, h4, h5, h6⟩ hg hr => ⟨b, Own.from (boxed_own Bn 3 (fun (p : List (Key × Int)) => .int .i64 (p.length : Int))) B pre A C row h1 hg hr, Own.from (boxed_own Bg 4 (fun (_ : List (Key × Int)) => .bool b)) B pre A C row h2 hg hr, h3, h4,
    ownFrom_below (β := List (Key × Int)) (Nat.le_refl _) hB pre A C row h5 hg hr, Nat.le_trans h6 hg.size⟩
theorem scan_round {Bn Bg s N m : Nat} {F pre : List (Key × Int)} {x : Key × Int} {wb W : World} {b b2 : Bool} {v : Value} (u : Value) (y10 : Boxed W Bn 3 (.int .i64 (m : Int))) (y11 : Boxed W Bg 4 (.bool b)) (hm : pre.length = m) (hms : m < s) (hB : Below wb.heap.size wb W) (hsz : N ≤ W.heap.size)
    (h1 : wb.heap.size ≤ Bn) (h2 : wb.heap.size ≤ Bg) (hne : Bg ≠ Bn) (hpt : pre ++ [x] <+: F → b2 = true) (hv : v = .int .i64 ((m : Int) + 1)) :
    KeepsFrom N W (((W.setCell ⟨Bg, 0, none⟩ u).setCell ⟨Bg, 0, none⟩ (.bool b2)).setCell ⟨Bn, 0, none⟩ v) ∧ KeepB (fun q => q < N ∧ q ≠ Bn ∧ q ≠ Bg) W (((W.setCell ⟨Bg, 0, none⟩ u).setCell ⟨Bg, 0, none⟩ (.bool b2)).setCell ⟨Bn, 0, none⟩ v) ∧ ScansI Bn Bg F s wb N (pre ++ [x]) (((W.setCell ⟨Bg, 0, none⟩ u).setCell ⟨Bg, 0, none⟩ (.bool b2)).setCell ⟨Bn, 0, none⟩ v) := by
  have k1 : KeepB (fun q => q < N ∧ q ≠ Bn ∧ q ≠ Bg) W (((W.setCell ⟨Bg, 0, none⟩ u).setCell ⟨Bg, 0, none⟩ (.bool b2)).setCell ⟨Bn, 0, none⟩ v) := ((KeepB.setCell W u (fun h => h.2.2 rfl)).trans (KeepB.setCell _ _ (fun h => h.2.2 rfl))).trans (KeepB.setCell _ _ (fun h => h.2.1 rfl))
  refine ⟨(((KeepsOthers.setCell _ _ _).trans (KeepsOthers.setCell _ _ _)).trans (KeepsOthers.setCell _ _ _)).from _, k1, b2, ?_, ((y11.set u).set (.bool b2)).other hne v, hpt, by simp; omega, ?_, Nat.le_trans hsz k1.size⟩
  · have e : ((pre ++ [x]).length : Int) = (m : Int) + 1 := by simp [hm]
    rw [e, ← hv]
    exact ((y10.other hne.symm u).other hne.symm (.bool b2)).set v
  · exact ((hB.setCell (p := ⟨Bg, 0, none⟩) h2 _).setCell (p := ⟨Bg, 0, none⟩) h2 _).setCell (p := ⟨Bn, 0, none⟩) h1 v
set_option maxRecDepth 1000000 in
set_option maxHeartbeats 16000000 in
theorem lawTreeScans (a : Option Addr) (c : Nat) (ops : List OpR) (frm to : Key) (sv : Int) (w : World) (hops : OpsAt7 w a ops) (hs0 : 0 ≤ sv) (hs1 : sv ≤ 255) :
    Calls Try.prog 4 #[.slice a ops.length c, .agg #[.string (txt frm), .string (txt to), .int .u8 sv]] w fun e w' => e = .returned (.bool true) ∧ Below w.heap.size w w' := by
  obtain ⟨s, rfl⟩ : ∃ s : Nat, sv = s := ⟨sv.toNat, by omega⟩
  have hlen := hops.len
  have HO := hid0 hops
  clear hops
  refine (callsIn_wide (n := 3)).1 ?_
  refine callsIn_of_wp_marks Try.func4 rfl trivial ?_ rfl
  simp only [Try.ntmps4, List.size_toArray, List.length_cons, List.length_nil, Nat.reduceAdd, Nat.reduceSub, Array.replicate_succ, Array.replicate_zero, List.push_toArray, List.append_toArray, List.nil_append, List.cons_append]
  refine wpIn_wide.2 ?_
  have hB0 : Below w.heap.size w (w.alloc (.cells #[.string (txt frm), .string (txt to), .int .u8 s] 33)) := (Below.refl _ w).alloc (Nat.le_refl _) _
  have c0 : (w.alloc (.cells #[.string (txt frm), .string (txt to), .int .u8 s] 33)).cell? ⟨w.heap.size, 0, none⟩ = some (.string (txt frm)) := by go_cell
  have c1 : (w.alloc (.cells #[.string (txt frm), .string (txt to), .int .u8 s] 33)).cell? ⟨w.heap.size, 1, none⟩ = some (.string (txt to)) := by go_cell
  have c2 : (w.alloc (.cells #[.string (txt frm), .string (txt to), .int .u8 s] 33)).cell? ⟨w.heap.size, 2, none⟩ = some (.int .u8 s) := by go_cell
  go_wp2_with fail
  go_region_held3 (fun w' => w'.cell? ⟨w.heap.size, 0, none⟩ = some (.string (txt frm)) ∧ w'.cell? ⟨w.heap.size, 1, none⟩ = some (.string (txt to)) ∧ w'.cell? ⟨w.heap.size, 2, none⟩ = some (.int .u8 s))
    (first | with_reducible assumption | (exact ⟨c0, c1, c2⟩) | (refine ⟨?_, ?_, ?_⟩ <;> go_cell))
    (fail)
  clear c0 c1 c2
  have bS : Boxed (((w.alloc (.cells #[.string (txt frm), .string (txt to), .int .u8 s] 33)).alloc (.cells #[.int .u8 s] 5)).drew) (w.heap.size + 1) 5 (.int .u8 s) := by
    have h := Boxed.new (w.alloc (.cells #[.string (txt frm), .string (txt to), .int .u8 s] 33)) 5 (.int .u8 s)
    rw [World.size_alloc] at h
    exact h
  have hB1 : Below w.heap.size w (((w.alloc (.cells #[.string (txt frm), .string (txt to), .int .u8 s] 33)).alloc (.cells #[.int .u8 s] 5)).drew) := (hB0.alloc hB0.size _).drew
  have hz1 : (((w.alloc (.cells #[.string (txt frm), .string (txt to), .int .u8 s] 33)).alloc (.cells #[.int .u8 s] 5)).drew).heap.size = w.heap.size + 2 := by simp [World.drew]
  obtain ⟨w1, hw1⟩ : ∃ w1, ((w.alloc (.cells #[.string (txt frm), .string (txt to), .int .u8 s] 33)).alloc (.cells #[.int .u8 s] 5)).drew = w1 := ⟨_, rfl⟩
  rw [hw1] at bS hB1 hz1 ⊢
  have CG := grown_yes 4 a c ops w1 (by omega) (by omega) (by have h := HO.out.later (hB0.mono (Nat.le_refl _)); exact HO.out.later hB1)
  obtain ⟨L, hL⟩ : ∃ L, playA (·.n) (ops.take 400) = L := ⟨_, rfl⟩
  rw [hL] at CG
  clear hL hw1 hB0 HO
  go_wp2_with fail
  refine CG.mono ?_
  rintro e w2 ⟨tb, ub, rfl, hB, hl⟩
  have hasc : Asc L := by obtain ⟨_, _, hT, _⟩ := hB.out; exact hT.asc
  have hk2 := hB.keep
  have hs2 := hk2.size
  have bS2 : Boxed w2 (w.heap.size + 1) 5 (.int .u8 s) := (hk2.block _ bS.lt).trans bS
  have hB2 : Below w.heap.size w w2 := hB1.trans (hk2.mono hB1.size)
  have bU := Boxed.new w2 24 (.pointer (some ⟨ub, 0, none⟩))
  have hA2 : Below w2.heap.size w2 (w2.alloc (.cells #[.pointer (some ⟨ub, 0, none⟩)] 24)) := (Below.refl _ _).alloc (Nat.le_refl _) _
  have bS3 := bS2.alloc (.cells #[.pointer (some ⟨ub, 0, none⟩)] 24)
  have HB3 := hid0 (hB.later hA2)
  have hB3 := hB2.alloc hB2.size (.cells #[.pointer (some ⟨ub, 0, none⟩)] 24)
  have hs3 : (w2.alloc (.cells #[.pointer (some ⟨ub, 0, none⟩)] 24)).heap.size = w2.heap.size + 1 := by simp
  have CR := bothKeysR_any frm to HB3.out hl
  have cU := bU.cell
  clear CG hB hk2 hB1 bS bS2 hA2 hB2
  go_wp2_with fail
  refine CR.mono ?_
  rintro e w3 ⟨⟨a3, c3, rfl, S3⟩, hb3⟩
  have HB4 := hid0 (HB3.out.later hb3)
  have hz3 := hb3.size
  rw [hs3] at hz3
  have bS4 : Boxed w3 (w.heap.size + 1) 5 (.int .u8 s) := (hb3.block _ bS3.lt).trans bS3
  have bU4 : Boxed w3 w2.heap.size 24 (.pointer (some ⟨ub, 0, none⟩)) := (hb3.block _ bU.lt).trans bU
  have hB4 := hB3.trans (hb3.mono hB3.size)
  have hks : ((flt frm to L).map (·.1)).length ≤ 1000 := by rw [List.length_map]; exact Nat.le_trans (List.length_filter_le _ _) (by omega)
  obtain ⟨ks, hk⟩ : ∃ ks, (flt frm to L).map (·.1) = ks := ⟨_, rfl⟩
  have CK0 := fun W (h : Both w1 W tb ub 4 L) => bothKeys_any frm to h hl
  rw [hk] at S3 hks
  simp only [hk] at CK0
  rw [hk]
  obtain ⟨n, hn⟩ : ∃ n, ks.length = n := ⟨_, rfl⟩
  simp only [hn] at S3 hks CK0
  rw [hn]
  have hK3 : Below w3.heap.size w3 ((w3.alloc (.cells #[.slice a3 n c3] 29)).alloc (.cells #[.int .i64 0] 3)) := ((Below.refl _ _).alloc (Nat.le_refl _) _).alloc (by simp) _
  have bK := (Boxed.new w3 29 (.slice a3 n c3)).alloc (.cells #[.int .i64 0] 3)
  have bN := Boxed.new (w3.alloc (.cells #[.slice a3 n c3] 29)) 3 (.int .i64 0)
  rw [World.size_alloc] at bN
  have hs4 : ((w3.alloc (.cells #[.slice a3 n c3] 29)).alloc (.cells #[.int .i64 0] 3)).heap.size = w3.heap.size + 2 := by simp
  have S30 := S3
  replace S3 := S3.later hK3
  have CK := fun W (hb : Below ((w3.alloc (.cells #[.slice a3 n c3] 29)).alloc (.cells #[.int .i64 0] 3)).heap.size ((w3.alloc (.cells #[.slice a3 n c3] 29)).alloc (.cells #[.int .i64 0] 3)) W) => CK0 W ((HB4.out.later hK3).later hb)
  clear CR CK0 hb3 hB3 bS3 bU
  go_wp2_with fail
  have hKb : Below (w3.alloc (.cells #[.slice a3 n c3] 29)).heap.size (w3.alloc (.cells #[.slice a3 n c3] 29)) ((w3.alloc (.cells #[.slice a3 n c3] 29)).alloc (.cells #[.int .i64 0] 3)) := (Below.refl _ _).alloc (Nat.le_refl _) _
  have bSb := bS4.alloc (.cells #[.slice a3 n c3] 29)
  have bUb := bU4.alloc (.cells #[.slice a3 n c3] 29)
  have bKb := Boxed.new w3 29 (.slice a3 n c3)
  have S3b := S30.alloc (.cells #[.slice a3 n c3] 29)
  have HBb := hid0 (HB4.out.later ((Below.refl w3.heap.size w3).alloc (Nat.le_refl _) (.cells #[.slice a3 n c3] 29)))
  have hBb := hB4.alloc hB4.size (.cells #[.slice a3 n c3] 29)
  have hzb : (w3.alloc (.cells #[.slice a3 n c3] 29)).heap.size = w3.heap.size + 1 := by simp
  obtain ⟨w4, hw4⟩ : ∃ w4, (w3.alloc (.cells #[.slice a3 n c3] 29)).alloc (.cells #[.int .i64 0] 3) = w4 := ⟨_, rfl⟩
  rw [hw4] at bK bN hs4 S3 CK hK3 hKb
  rw [hw4]
  clear hw4
  obtain ⟨wb, hwb⟩ : ∃ wb, w3.alloc (.cells #[.slice a3 n c3] 29) = wb := ⟨_, rfl⟩
  rw [hwb] at hKb bSb bUb bKb S3b HBb hBb hzb
  have HZB := hid0 hzb
  clear hwb hzb S30 hK3 bS4 bU4 hB4 HB4 HB3
  have cK := bK.cell
  have HS4 := hid0 hs4
  clear hs4
  go_region_held3 (fun w' => w'.cell? ⟨w3.heap.size, 0, none⟩ = some (.slice a3 n c3) ∧ Below w4.heap.size w4 w')
    ((go_split_ands; (try dsimp only); (repeat' apply And.intro); all_goals (first
      | assumption
      | exact cell_later hbk ‹_›
      | exact cell_later hbs ‹_›
      | exact below_through hbk (Below.size ‹Below w4.heap.size w4 _›) ‹_›
      | exact below_through hbs (Below.size ‹Below w4.heap.size w4 _›) ‹_›
      | exact Below.drew (Below.refl _ _)
      | exact Below.alloc ‹Below w4.heap.size w4 _› (Below.size ‹Below w4.heap.size w4 _›) _
      | exact Below.setCell (p := ⟨_, 0, none⟩) (Below.alloc ‹Below w4.heap.size w4 _› (Below.size ‹Below w4.heap.size w4 _›) _) (Below.size ‹Below w4.heap.size w4 _›) _
      | exact Below.setCell (p := ⟨_, 0, none⟩) ‹Below w4.heap.size w4 _› (Below.size ‹Below w4.heap.size w4 _›) _
      | exact hws.alloc hws.size _
      | exact cell_later ((Below.refl _ _).alloc (Nat.le_refl _) _) cws
      | exact hws.setCell (p := ⟨_, 0, none⟩) (Nat.le_refl _) _
      | exact hws.setCell (p := ⟨_, 0, none⟩) (Below.size ‹Below w4.heap.size w4 _›) _
      | exact hws.setCell (p := ⟨_, 0, none⟩) hwk.size _
      | exact (World.cell?_setCell_far _ _ _ _ (show w4.heap.size ≠ w3.heap.size by have := HS4.out; omega)).trans cws
      | exact (World.cell?_setCell_far _ _ _ _ (show wk.heap.size ≠ w3.heap.size by have := hwk.size; have := HS4.out; omega)).trans cws
      | go_keep)))
    (first
      | (go_at_call 12; (try go_split_ands); refine (CK _ (by assumption)).mono ?_; rintro e wk ⟨⟨ka, kc, rfl, S4⟩, hbk⟩; have hwk := below_through hbk (Below.size ‹Below w4.heap.size w4 _›) ‹Below w4.heap.size w4 _›; (try (have bG1 : Boxed wk w4.heap.size 4 (.bool false) := (hbk.block _ (Boxed.new w4.drew _ _).lt).trans (Boxed.new w4.drew _ _); have zG1 := bG1.cell; have fG1 := bG1.frozen)))
      | (go_at_call 11; (try go_split_ands); refine (same_yes _ _ _ _ _ _ _ _ _ (by first | exact S4 | exact S4.alloc _) (S3.later (by assumption)) hks).mono ?_; rintro e ws ⟨rfl, hbs⟩; have hws := below_through hbs (Below.size ‹Below w4.heap.size w4 _›) ‹Below w4.heap.size w4 _›; have cws := cell_later hbs ‹World.cell? _ ⟨w3.heap.size, 0, none⟩ = some (Value.slice a3 n c3)›; (try (have bG2 : Boxed ws w4.heap.size 4 (.bool false) := (hbs.block _ bG1.lt).trans bG1; have zG2 := bG2.cell; have fG2 := bG2.frozen)); (try (have bG3 : Boxed ws wk.heap.size 4 (.bool false) := (hbs.block _ (Boxed.new wk _ _).lt).trans (Boxed.new wk _ _); have zG3 := bG3.cell; have fG3 := bG3.frozen))))
  all_goals first
    | (have bG := Boxed.new ws 4 (.bool true)
       have hW7 := hws.alloc hws.size (.cells #[.bool true] 4)
       have hBg := hws.size
       obtain ⟨W7, hw7⟩ : ∃ W7, ws.alloc (.cells #[.bool true] 4) = W7 := ⟨_, rfl⟩
       rw [hw7] at bG hW7 ⊢
       obtain ⟨Bg, hg⟩ : ∃ Bg, ws.heap.size = Bg := ⟨_, rfl⟩
       rw [hg] at bG hBg ⊢
       clear hg hw7)
    | (have bG := bG3.set (.bool true)
       have hW7 := hws.setCell (p := ⟨wk.heap.size, 0, none⟩) hwk.size (.bool true)
       have hBg := hwk.size
       obtain ⟨W7, hw7⟩ : ∃ W7, ws.setCell ⟨wk.heap.size, 0, none⟩ (.bool true) = W7 := ⟨_, rfl⟩
       rw [hw7] at bG hW7 ⊢
       obtain ⟨Bg, hg⟩ : ∃ Bg, wk.heap.size = Bg := ⟨_, rfl⟩
       rw [hg] at bG hBg ⊢
       clear hg hw7)
    | (have bG := bG2.set (.bool true)
       have hW7 := hws.setCell (p := ⟨w4.heap.size, 0, none⟩) (Nat.le_refl _) (.bool true)
       have hBg := Nat.le_refl w4.heap.size
       obtain ⟨W7, hw7⟩ : ∃ W7, ws.setCell ⟨w4.heap.size, 0, none⟩ (.bool true) = W7 := ⟨_, rfl⟩
       rw [hw7] at bG hW7 ⊢
       obtain ⟨Bg, hg⟩ : ∃ Bg, w4.heap.size = Bg := ⟨_, rfl⟩
       replace hBg : w4.heap.size ≤ Bg := Nat.le_of_eq hg
       rw [hg] at bG ⊢
       clear hg hw7)
  all_goals
    have bN7 : Boxed W7 (w3.heap.size + 1) 3 (.int .i64 0) := (hW7.block _ bN.lt).trans bN
    have hWb : Below wb.heap.size wb W7 := hKb.trans (hW7.mono hKb.size)
    have hs7 := hW7.size
    have hgN : Bg ≠ w3.heap.size + 1 := by have := HS4.out; omega
    have hFn : (flt frm to L).length = n := by rw [← hn, ← hk, List.length_map]
    have hKbs : wb.heap.size < Bg := by have := HZB.out; have := HS4.out; omega
    clear bN hW7 hKb S3 CK cK
    (try clear hbk hwk)
    (try clear hbs)
    (try clear hws)
    (try clear cws)
  all_goals
    obtain ⟨vk, vv, hT, hR⟩ := HBb.out.out
    obtain ⟨tn, rb, tr, q2, hwf, hN, hfl⟩ := hT.root
    have hhi := hT.hi
    have hloT := HBb.out.lt
    have hN7 := (hN.weak (Q := fun q => q < wb.heap.size) (fun q _ hq => hq) (fun x => by simp [eI])).later hWb
    have CS := scanI_any tb rb frm to W7 (cell_later hWb q2)
    clear hT hR hN
    have bNl := bN7.lt
    have bGl := bG.lt
    go_wp2_with fail
    refine CS.mono ?_
    rintro e w8 hAns
    have hb8 := hAns.2
    have hs8 := hb8.size
    have bN8 : Boxed w8 (w3.heap.size + 1) 3 (.int .i64 0) := (hb8.block _ bNl).trans bN7
    have bG8 : Boxed w8 Bg 4 (.bool true) := (hb8.block _ bGl).trans bG
    have hB8 := hWb.trans (hb8.mono hWb.size)
    obtain ⟨gf, lb, rfl, eg, rfl, hst⟩ := scanI_stops (P := fun q => q < wb.heap.size) (T := fun q => q < w8.heap.size ∧ q ≠ w3.heap.size + 1 ∧ q ≠ Bg) (fun q hq => ⟨by have := hB8.size; omega, by have := HZB.out; omega, by have := hKbs; omega⟩) hhi hwf (by have := Nat.min_le_right tn 1; omega) (hN7.later hb8) hAns
    rw [hfl] at hst
    have hstT := hst 2
    clear hst hAns hb8 CS hN7 hwf hfl q2 bN7 bG hWb
    go_wp2_with fail
    refine (wpIn_wide (n := 3)).1 ?_
    refine wpIn_rangeFunc_ownH rfl (by omega) (gf := 39) (lb := lb) rfl trivial eg hstT (fun h k => h.trans k) (fun W l o o' h1 _ _ _ => KeepB.put (fun hk => by have := hk.1; omega)) (Below.refl _ _) (fun _ => rfl)
      (ScansI (w3.heap.size + 1) Bg (flt frm to L) s wb w8.heap.size)
      (fun cd pre W => cd = .exit 0 ∧ ∃ q, ScansI (w3.heap.size + 1) Bg (flt frm to L) s wb w8.heap.size q W ∧ q.length = s ∧ q <+: pre)
      (scansI_own _ hB8.size)
      (fun cd pre A B row h hg hr => by
        obtain ⟨h0, q, h1, h2, h3⟩ := h
        exact ⟨h0, q, scansI_own _ hB8.size q A B row h1 hg hr, h2, h3⟩)
      ⟨true, bN8, bG8, fun _ => rfl, Nat.zero_le _, hB8, Nat.le_refl _⟩
      (fun x a' W => a' = { tmps := #[Value.slice a ops.length c, Value.agg #[Value.string (txt frm), Value.string (txt to), Value.int IntKind.u8 (s : Int)], undef, Value.pointer (some { block := w.heap.size, off := 0 }), Value.bool false, Value.string (txt frm), Value.string (txt to), Value.pointer (some { block := w.heap.size + 1, off := 0 }), Value.pointer (some { block := tb, off := 0 }), Value.pointer (some { block := w2.heap.size, off := 0 }), Value.bool true, Value.pointer (some { block := w3.heap.size, off := 0 }), Value.pointer (some { block := w3.heap.size + 1, off := 0 }), Value.pointer (some { block := Bg, off := 0 }), Value.string (txt x.1), Value.int .i64 x.2, undef, undef, Value.pointer (some { block := w.heap.size, off := 0 }), Value.string (txt frm), Value.pointer (some { block := w.heap.size, off := 1 }), Value.string (txt to), Value.pointer (some { block := w.heap.size, off := 2 }), Value.int IntKind.u8 (s : Int), Value.tuple #[Value.pointer (some { block := tb, off := 0 }), Value.pointer (some { block := ub, off := 0 }), Value.bool true], Value.slice a ops.length c, Value.tuple #[Value.pointer (some { block := tb, off := 0 }), Value.pointer (some { block := ub, off := 0 }), Value.bool true], Value.pointer (some { block := tb, off := 0 }), Value.pointer (some { block := ub, off := 0 }), Value.bool true, Value.bool true, Value.bool false, Value.bool false, Value.pointer (some { block := tb, off := 0 }), Value.bool false, Value.bool false, Value.pointer (some { block := ub, off := 0 }), Value.string (txt frm), Value.string (txt to), Value.slice a3 n c3, Value.pointer (some { block := tb, off := 0 }), Value.string (txt frm), Value.string (txt to), Value.slice ka n kc, Value.slice a3 n c3, Value.bool true, Value.pointer (some { block := tb, off := 0 }), Value.string (txt frm), Value.string (txt to), Value.func (.func 39) #[] lb, Value.string (txt x.1), Value.int .i64 x.2, undef, undef, undef, undef, undef, undef, undef, undef, undef, undef, undef, undef, undef, undef, undef, undef, undef, undef, undef, undef, undef, undef, undef, undef, undef, undef, undef, undef, undef, undef, undef, undef, undef, undef, undef, undef, undef, undef, undef, undef, undef, undef, undef, undef, undef, undef, undef, undef, undef], defers := [] })
      (fun x a' _ X Y row hs hg hr => hs)
      ?_ ?_ ?_ ?_
    · rintro l pre x W K ⟨b, h1, h2, h3, h4, h5, h6⟩ hK
      gi_wp2
      exact hK _ _ ((KeepsOthers.refl _).from _) (KeepB.refl _ _) ⟨b, h1, h2, h3, h4, h5, h6⟩ rfl
    · rintro l pre x a' W hl ⟨r, hr⟩ ⟨b, y10, y11, hpt, hms, hB, hsz⟩ rfl hlt
      rw [hFn] at hlt
      have zS : W.cell? ⟨w.heap.size + 1, 0, none⟩ = some (.int .u8 s) := Boxed.cell ((hB.block _ bSb.lt).trans bSb)
      have zU : W.cell? ⟨w2.heap.size, 0, none⟩ = some (.pointer (some ⟨ub, 0, none⟩)) := Boxed.cell ((hB.block _ bUb.lt).trans bUb)
      have zK : W.cell? ⟨w3.heap.size, 0, none⟩ = some (.slice a3 n c3) := Boxed.cell ((hB.block _ bKb.lt).trans bKb)
      have S4 := S3b.later hB
      obtain ⟨m, hm⟩ : ∃ m, pre.length = m := ⟨_, rfl⟩
      rw [hm] at y10 hms hlt
      have zN := y10.cell
      have zG := y11.cell
      by_cases hse : m = s
      · have hsi : (m : Int) = (s : Int) := by omega
        rw [hsi] at zN
        gi_wp2
        exact ⟨KeepsFrom.refl _ _, rfl, pre, ⟨b, by rw [hm]; exact y10, y11, hpt, by rw [hm]; exact hms, hB, hsz⟩, hm.trans hse, List.prefix_append _ _⟩
      · have hsi : ¬ (m : Int) = (s : Int) := by omega
        have hmn : (m : Int) < (n : Int) := by omega
        obtain ⟨y0, hy0⟩ : ∃ y0, ks[m]? = some y0 := ⟨ks[m]'(by omega), List.getElem?_eq_getElem (by omega)⟩
        obtain ⟨kb, ko, ea, -, q0⟩ := S4.one (e1 := fun y => .string (txt y)) hy0
        subst ea
        have CGe := fun W' (h : Below wb.heap.size wb W') => bothGetR_any (HBb.out.later h) (by omega) x.1
        obtain ⟨z, hz⟩ := ov_int (getA x.1 L)
        obtain ⟨ho, hho⟩ : ∃ ho, hasO (getA x.1 L) = ho := ⟨_, rfl⟩
        rw [hz, hho] at CGe
        have hx : pre ++ [x] <+: flt frm to L → y0 = x.1 ∧ z = x.2 ∧ ho = true := fun hp => by
          have e1 := pre_at hp hm
          have e2 : ks[m]? = some x.1 := by rw [← hk, List.getElem?_map, e1]; rfl
          have e3 : getA x.1 L = some x.2 := getA_mem hasc (List.mem_filter.1 (show x ∈ List.filter (inR frm to) L from List.mem_of_getElem? e1)).1
          rw [e3] at hz hho
          refine ⟨by rw [hy0] at e2; exact Option.some.inj e2, ?_, hho.symm⟩
          have e4 : vI x.2 = .int .i64 z := hz
          simp only [vI] at e4
          injection e4 with _ e5
          exact e5.symm
        have HX := hid0 hx
        clear hx hz hho hy0 S4
        have hgU : Bg ≠ w2.heap.size := by have := HZB.out; omega
        have zGf := y11.frozen
        cases b with
        | false =>
          have gU := (World.cell?_setCell_far W ⟨Bg, 0, none⟩ ⟨w2.heap.size, 0, none⟩ (.bool false) hgU).trans zU
          have g1 := (y11.set (.bool false)).cell
          have g2 := (y11.set (.bool false)).frozen
          have g3 := ((y10.other hgN.symm (.bool false)).other hgN.symm (.bool false)).cell
          have g4 := ((y10.other hgN.symm (.bool false)).other hgN.symm (.bool false)).frozen
          gi_wp2_with fail
          refine ⟨trivial, CallsIn.mono (CallsIn.inRound l (callsIn_wide.2 (CGe _ (hB.setCell (p := ⟨Bg, 0, none⟩) (Nat.le_of_lt hKbs) _)))) ?_⟩
          rintro e wg ⟨rfl, rfl⟩
          gi_wp2_with fail
          have HF := scan_round (s := s) (N := w8.heap.size) (F := flt frm to L) (x := x) (b2 := false) (v := .int .i64 ((m : Int) + 1)) (.bool false) y10 y11 hm (by omega) hB hsz (by have := HZB.out; omega) (Nat.le_of_lt hKbs) hgN (fun hp => hpt ((List.prefix_append pre [x]).trans hp)) rfl
          exact HF
        | true =>
          by_cases hkk : y0 = x.1
          · subst hkk
            cases ho with
            | false =>
              have gU := (World.cell?_setCell_far W ⟨Bg, 0, none⟩ ⟨w2.heap.size, 0, none⟩ (.bool true) hgU).trans zU
              have g1 := (y11.set (.bool true)).cell
              have g2 := (y11.set (.bool true)).frozen
              have g3 := ((y10.other hgN.symm (.bool true)).other hgN.symm (.bool false)).cell
              have g4 := ((y10.other hgN.symm (.bool true)).other hgN.symm (.bool false)).frozen
              gi_wp2_with fail
              refine ⟨trivial, CallsIn.mono (CallsIn.inRound l (callsIn_wide.2 (CGe _ (hB.setCell (p := ⟨Bg, 0, none⟩) (Nat.le_of_lt hKbs) _)))) ?_⟩
              rintro e wg ⟨rfl, rfl⟩
              gi_wp2_with fail
              have HF := scan_round (s := s) (N := w8.heap.size) (F := flt frm to L) (x := x) (b2 := false) (v := .int .i64 ((m : Int) + 1)) (.bool true) y10 y11 hm (by omega) hB hsz (by have := HZB.out; omega) (Nat.le_of_lt hKbs) hgN (fun hp => (HX.out hp).2.2) rfl
              exact HF
            | true =>
              by_cases hzz : x.2 = z
              · subst hzz
                have gU := (World.cell?_setCell_far W ⟨Bg, 0, none⟩ ⟨w2.heap.size, 0, none⟩ (.bool true) hgU).trans zU
                have g1 := (y11.set (.bool true)).cell
                have g2 := (y11.set (.bool true)).frozen
                have g3 := ((y10.other hgN.symm (.bool true)).other hgN.symm (.bool true)).cell
                have g4 := ((y10.other hgN.symm (.bool true)).other hgN.symm (.bool true)).frozen
                gi_wp2_with fail
                refine ⟨trivial, CallsIn.mono (CallsIn.inRound l (callsIn_wide.2 (CGe _ (hB.setCell (p := ⟨Bg, 0, none⟩) (Nat.le_of_lt hKbs) _)))) ?_⟩
                rintro e wg ⟨rfl, rfl⟩
                gi_wp2_with fail
                have HF := scan_round (s := s) (N := w8.heap.size) (F := flt frm to L) (x := x) (b2 := true) (v := .int .i64 ((m : Int) + 1)) (.bool true) y10 y11 hm (by omega) hB hsz (by have := HZB.out; omega) (Nat.le_of_lt hKbs) hgN (fun _ => rfl) rfl
                exact HF
              · have hb3 : (x.2 == z) = false := beq_false_of_ne hzz
                have gU := (World.cell?_setCell_far W ⟨Bg, 0, none⟩ ⟨w2.heap.size, 0, none⟩ (.bool true) hgU).trans zU
                have g1 := (y11.set (.bool true)).cell
                have g2 := (y11.set (.bool true)).frozen
                have g3 := ((y10.other hgN.symm (.bool true)).other hgN.symm (.bool false)).cell
                have g4 := ((y10.other hgN.symm (.bool true)).other hgN.symm (.bool false)).frozen
                gi_wp2_with fail
                refine ⟨trivial, CallsIn.mono (CallsIn.inRound l (callsIn_wide.2 (CGe _ (hB.setCell (p := ⟨Bg, 0, none⟩) (Nat.le_of_lt hKbs) _)))) ?_⟩
                rintro e wg ⟨rfl, rfl⟩
                gi_wp2_with fail
                have HF := scan_round (s := s) (N := w8.heap.size) (F := flt frm to L) (x := x) (b2 := false) (v := .int .i64 ((m : Int) + 1)) (.bool true) y10 y11 hm (by omega) hB hsz (by have := HZB.out; omega) (Nat.le_of_lt hKbs) hgN (fun hp => absurd (HX.out hp).2.1.symm hzz) rfl
                exact HF
          · have hk1 : ¬ x.1 = y0 := fun e => hkk e.symm
            have hk3 : ((txt x.1).toList == (txt y0).toList) = false := txt_ne hk1
            have gU := (World.cell?_setCell_far W ⟨Bg, 0, none⟩ ⟨w2.heap.size, 0, none⟩ (.bool false) hgU).trans zU
            have g1 := (y11.set (.bool false)).cell
            have g2 := (y11.set (.bool false)).frozen
            have g3 := ((y10.other hgN.symm (.bool false)).other hgN.symm (.bool false)).cell
            have g4 := ((y10.other hgN.symm (.bool false)).other hgN.symm (.bool false)).frozen
            gi_wp2_with fail
            refine ⟨trivial, CallsIn.mono (CallsIn.inRound l (callsIn_wide.2 (CGe _ (hB.setCell (p := ⟨Bg, 0, none⟩) (Nat.le_of_lt hKbs) _)))) ?_⟩
            rintro e wg ⟨rfl, rfl⟩
            gi_wp2_with fail
            have HF := scan_round (s := s) (N := w8.heap.size) (F := flt frm to L) (x := x) (b2 := false) (v := .int .i64 ((m : Int) + 1)) (.bool false) y10 y11 hm (by omega) hB hsz (by have := HZB.out; omega) (Nat.le_of_lt hKbs) hgN (fun hp => absurd (HX.out hp).1 hkk) rfl
            exact HF
    · rintro D ys W hD rfl ⟨b, y10, y11, hpt, hms, hB, hsz⟩ hK
      obtain rfl : b = true := hpt (List.prefix_refl _)
      rw [hFn] at y10 hms
      have zS : W.cell? ⟨w.heap.size + 1, 0, none⟩ = some (.int .u8 s) := Boxed.cell ((hB.block _ bSb.lt).trans bSb)
      have zK : W.cell? ⟨w3.heap.size, 0, none⟩ = some (.slice a3 n c3) := Boxed.cell ((hB.block _ bKb.lt).trans bKb)
      have zN := y10.cell
      have zG := y11.cell
      have hmin : min (s : Int) (n : Int) = (n : Int) := by omega
      go_wp2_with fail
      have hDl : D < W.heap.size := by rcases Nat.lt_or_ge D W.heap.size with h | h; exact h; rw [Array.getElem?_eq_none h] at hK; cases hK
      go_at_call 10
      refine (awakeT_any _).mono ?_
      rintro e w9 ⟨rfl, hb9⟩
      have hK9 : w9.heap[D]? = some (.deferred (some [])) := (hb9.block _ hDl).trans hK
      have xS := cell_later hb9 zS
      have xK := cell_later hb9 zK
      have xN := cell_later hb9 zN
      have xG := cell_later hb9 zG
      have hB9 : Below w.heap.size w w9 := hBb.trans ((hB.trans (hb9.mono hB.size)).mono hBb.size)
      have hE : Below w.heap.size w (w9.putObj D (.deferred none)) := hB9.grown (grownBy_putObj' w9 D (.deferred none)) hB9.size (fun k e => by cases e; have := hB8.size; have := hBb.size; omega)
      clear hb9 zS zK zN zG
      go_wp2_with fail
      refine ⟨by simp, .inl ⟨_, _, rfl, run_takeDeferred hK9, ?_⟩⟩
      exact ⟨_, results_tmp rfl _ _ _, rfl, hE⟩
    · rintro D cd pre W hD hpre ⟨rfl, q, ⟨b, y10, y11, hpt, hms, hB, hsz⟩, hq, hqp⟩ hK
      have hqL := hqp.trans hpre
      have hqi := hqL.length_le
      rw [hFn, hq] at hqi
      rw [hq] at y10
      obtain rfl : b = true := hpt hqL
      have zS : W.cell? ⟨w.heap.size + 1, 0, none⟩ = some (.int .u8 s) := Boxed.cell ((hB.block _ bSb.lt).trans bSb)
      have zK : W.cell? ⟨w3.heap.size, 0, none⟩ = some (.slice a3 n c3) := Boxed.cell ((hB.block _ bKb.lt).trans bKb)
      have zN := y10.cell
      have zG := y11.cell
      have hmin : min (s : Int) (n : Int) = (s : Int) := by omega
      gi_wp2_with fail
      go_wp2_with fail
      have hDl : D < W.heap.size := by rcases Nat.lt_or_ge D W.heap.size with h | h; exact h; rw [Array.getElem?_eq_none h] at hK; cases hK
      go_at_call 10
      refine (awakeT_any _).mono ?_
      rintro e w9 ⟨rfl, hb9⟩
      have hK9 : w9.heap[D]? = some (.deferred (some [])) := (hb9.block _ hDl).trans hK
      have xS := cell_later hb9 zS
      have xK := cell_later hb9 zK
      have xN := cell_later hb9 zN
      have xG := cell_later hb9 zG
      have hB9 : Below w.heap.size w w9 := hBb.trans ((hB.trans (hb9.mono hB.size)).mono hBb.size)
      have hE : Below w.heap.size w (w9.putObj D (.deferred none)) := hB9.grown (grownBy_putObj' w9 D (.deferred none)) hB9.size (fun k e => by cases e; have := hB8.size; have := hBb.size; omega)
      clear hb9 zS zK zN zG
      go_wp2_with fail
      refine ⟨by simp, .inl ⟨_, _, rfl, run_takeDeferred hK9, ?_⟩⟩
      exact ⟨_, results_tmp rfl _ _ _, rfl, hE⟩
end Go.Proofs.Ytabpfibncipfjaa
