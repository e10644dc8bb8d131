/- Several of my texts laid together, each as it was: D54, D45, D46. Conditions: each names its own. -/
import Derived.Test.YtfdkajefcplfjaaGreatVK
import Derived.Test.YtfdkajefcplfjaaGreatH5
import Derived.Test.YtfdkajefcplfjaaGreatL1
import Derived.Test.YtfdkajefcplfjaaGreatVI
/- DeltaNone: what the law's call begins with, in whatever memory: it is true. Conditions: the plan's and the names' cells are known; at most 400000 rows in a list that came in. -/
namespace Go.Proofs.YtfdkajefcplfjaaGreat
open Go.RowKit

/-- The plan's box. -/
structure SUn (w : World) (us : List Value) (W : World) : Prop where
  v : VarB W w.heap.size us
  b : Below w.heap.size w W
theorem SUn.below {w : World} {us : List Value} {W W' : World} (h : SUn w us W) (hb : Below W.heap.size W W') : SUn w us W' := ⟨h.v.below hb, below_through hb h.b.size h.b⟩
/-- What a call of Rows answers of a plan. -/
structure DwC (w : World) (a : Option Addr) (n c : Nat) (a1 : Option Addr) (n1 c1 : Nat) (a2 : Option Addr) (n2 c2 : Nat) (R : List Pair) (f : Int) : Prop where
  out : ∀ W, Below w.heap.size w W → Calls Tryz.prog 27 #[.agg #[.slice a n c], .slice a1 n1 c1, .slice a2 n2 c2] W fun e w' => (∃ a' c' E', e = .returned (.tuple #[.slice a' E'.length c', .int .i64 f]) ∧ E'.length ≤ c' ∧ ElemsAt w' a' E' ∧ E'.map pr = R) ∧ Below W.heap.size W w'
/-- What is there, and what came and went. -/
structure TwoN (w : World) (a1 : Option Addr) (old : List Nx) (a2 : Option Addr) (ch : List Nx) : Prop where
  o : NsOk w a1 old
  c : NsOk w a2 ch
  lo : ∀ x ∈ old, x.E.length ≤ 400000
  lc : ∀ x ∈ ch, x.E.length ≤ 400000
theorem dwC_of {n : Nat} {a : Option Addr} {c : Nat} {ps : List Px} {a1 : Option Addr} {c1 : Nat} {old : List Nx} {a2 : Option Addr} {c2 : Nat} {ch : List Nx} {w : World} (hP : PsOk w n a c ps) (hL : TwoN w a1 old a2 ch) : DwC w a ps.length c a1 old.length c1 a2 ch.length c2 (dRowsM old ch ps).1 (dRowsM old ch ps).2 := ⟨fun W hW => dRows_any a c ps a1 c1 old a2 c2 ch W (hP.later hW) (hL.o.later hW) (hL.c.later hW) hL.lo hL.lc⟩
end Go.Proofs.YtfdkajefcplfjaaGreat

/- The project's layer 14 (delta), plainly: what came and went, weighed, is what there is now without what there was; so changes that are taken back come to nothing, and changes one after the other come to all of them. Nothing of any program here. Conditions: each lemma names its own. -/
namespace Go.Proofs.YtfdkajefcplfjaaGreat
open Go.RowKit

theorem wsum_congr {g h : List Val → Int} (e : ∀ r, g r = h r) (L : List Pair) : wsum g L = wsum h L := by rw [show g = h from funext e]
theorem wsum_sum (r : List Val) : ∀ L : List Pair, sumOf r L = wsum (fun s => if rowsV s r = 0 then 1 else 0) L
  | [] => rfl
  | x :: L => by
    have e : sumOf r (x :: L) = (if rowsV x.1 r = 0 then x.2 else 0) + sumOf r L := rfl
    rw [e, wsum, wsum_sum r L]
    split <;> omega
/-- What weighs alike under each weight is one bag. -/
theorem ofB_weigh {A B : List Pair} (h : ∀ g, wsum g A = wsum g B) : ofB A = ofB B := by
  refine (ofB_is (rises_ofB A) (fun r => ?_))
  rw [sumOf_ofB, wsum_sum, wsum_sum, h]
/-- A bag more among those that are put side by side. -/
def tailW (g : List Val → Int) : List (List Pair) → List Val → Int
  | [], r => g r
  | x :: L, r => wsum (fun s => tailW g L (r ++ s)) x
theorem wsum_fold (g : List Val → Int) : ∀ (L : List (List Pair)) (R : List Pair), wsum g (L.foldl pairsB R) = wsum (tailW g L) R
  | [], _ => rfl
  | x :: L, R => by
    rw [List.foldl_cons, wsum_fold g L, wsum_pairs]
    rfl
theorem wsum_mid (g : List Val → Int) (P : List (List Pair)) (x : List Pair) (M : List (List Pair)) : wsum g (prodL (P ++ x :: M)) = wsum (fun r => wsum (fun s => tailW g M (r ++ s)) x) (prodL P) := by
  unfold prodL
  rw [List.foldl_append, List.foldl_cons, wsum_fold, wsum_pairs]
theorem wsum_lin (g : List Val → Int) (P : List (List Pair)) {x y z : List Pair} (M : List (List Pair)) (h : ∀ k, wsum k z = wsum k x + wsum k y) : wsum g (prodL (P ++ z :: M)) = wsum g (prodL (P ++ x :: M)) + wsum g (prodL (P ++ y :: M)) := by
  rw [wsum_mid, wsum_mid, wsum_mid, ← wsum_add]
  exact wsum_congr (fun r => h _) _
theorem wsum_like (g : List Val → Int) {F G : ByteArray → List Pair} : ∀ (fs : List ByteArray) (P : List (List Pair)), (∀ s ∈ fs, ∀ k, wsum k (F s) = wsum k (G s)) → wsum g (prodL (P ++ fs.map F)) = wsum g (prodL (P ++ fs.map G))
  | [], _, _ => rfl
  | s :: fs, P, h => by
    rw [List.map_cons, List.map_cons]
    have h1 : wsum g (prodL (P ++ F s :: fs.map F)) = wsum g (prodL (P ++ G s :: fs.map F)) := by
      rw [wsum_mid, wsum_mid]
      exact wsum_congr (fun r => h s (by simp) _) _
    have h2 := wsum_like g fs (P ++ [G s]) (fun t ht => h t (by simp [ht]))
    rw [List.append_assoc, List.append_assoc] at h2
    rw [h1]
    exact h2
theorem tele (g : List Val → Int) {O C M : ByteArray → List Pair} : ∀ (fs : List ByteArray) (P : List (List Pair)), (∀ s ∈ fs, ∀ k, wsum k (M s) = wsum k (O s) + wsum k (C s)) →
    wsum g ((List.range fs.length).flatMap fun i => prodL (P ++ ((fs.take i).map O ++ [C (fs.getD i ⟨#[]⟩)] ++ (fs.drop (i + 1)).map M))) = wsum g (prodL (P ++ fs.map M)) - wsum g (prodL (P ++ fs.map O))
  | [], P, _ => by simp [wsum]
  | s :: fs, P, h => by
    have ih := tele g fs (P ++ [O s]) (fun t ht => h t (by simp [ht]))
    have h1 := wsum_lin g P (fs.map M) (h s (by simp))
    rw [List.append_assoc, List.append_assoc] at ih
    rw [List.length_cons, List.range_succ_eq_map, List.flatMap_cons, wsum_app, List.flatMap_map]
    have e : ((List.range fs.length).flatMap fun i => prodL (P ++ (((s :: fs).take (i + 1)).map O ++ [C ((s :: fs).getD (i + 1) ⟨#[]⟩)] ++ ((s :: fs).drop (i + 1 + 1)).map M)))
        = (List.range fs.length).flatMap fun i => prodL ((P ++ [O s]) ++ ((fs.take i).map O ++ [C (fs.getD i ⟨#[]⟩)] ++ (fs.drop (i + 1)).map M)) := by
      congr 1
      funext i
      simp
    simp only [Nat.succ_eq_add_one]
    rw [e, ih]
    have e2 : (((s :: fs).take 0).map O ++ [C ((s :: fs).getD 0 ⟨#[]⟩)] ++ ((s :: fs).drop (0 + 1)).map M) = C s :: fs.map M := by simp
    rw [e2, List.map_cons, List.map_cons]
    simp only [List.cons_append, List.nil_append] at *
    omega
theorem prod_none : ∀ (L : List (List Pair)) (R : List Pair), (∃ x ∈ L, x = []) → L.foldl pairsB R = []
  | x :: L, R, h => by
    rw [List.foldl_cons]
    have hz : ∀ L : List (List Pair), L.foldl pairsB [] = [] := fun L => by
      induction L with
      | nil => rfl
      | cons y L ih => rw [List.foldl_cons]; exact ih
    by_cases hx : x = []
    · subst hx
      have : pairsB R [] = [] := by
        unfold pairsB
        induction R with
        | nil => rfl
        | cons y R ih => rw [List.flatMap_cons, ih]; rfl
      rw [this, hz]
    · exact prod_none L _ (by obtain ⟨y, hy, e⟩ := h; exact ⟨y, (List.mem_cons.1 hy).resolve_left (fun e2 => hx (e2 ▸ e)), e⟩)
theorem sideL_prod (L : List (List Pair)) : sideL L = prodL L := by
  unfold sideL
  cases h : emptyL L with
  | false => rw [if_neg (by simp)]
  | true =>
    rw [if_pos rfl]
    refine (prod_none L _ ?_).symm
    unfold emptyL at h
    obtain ⟨x, hx, he⟩ := List.any_eq_true.1 h
    exact ⟨x, hx, by have : (x.length : Int) = 0 := by simpa using he
                     exact List.eq_nil_of_length_eq_zero (by omega)⟩
/-- The net rows of a part, weighed. -/
def oldB (old : List Nx) (s : ByteArray) : List Pair := bagN old s.data.toList
def allW (g : List Val → Int) (B : ByteArray → List Pair) (p : Px) : Int := wsum g (prodL (p.fs.map B))
theorem netB_weigh (g : List Val → Int) (old ch : List Nx) (p : Px) : wsum g (netB old ch p) = allW g (fun s => ofB (bagN old s.data.toList ++ bagN ch s.data.toList)) p - allW g (oldB old) p := by
  unfold netB netR allW
  rw [wsum_ofB]
  have h := tele g (O := oldB old) (C := oldB ch) (M := fun s => bagN (nowL old ch p.fs) s.data.toList) p.fs [] (fun s hs k => by
    show wsum k (bagN (nowL old ch p.fs) s.data.toList) = _
    rw [bag_now hs, wsum_ofB, wsum_app]; rfl)
  simp only [List.nil_append] at h
  have e : (p.fs.map fun s => bagN (nowL old ch p.fs) s.data.toList) = p.fs.map fun s => ofB (bagN old s.data.toList ++ bagN ch s.data.toList) := List.map_congr_left fun s hs => bag_now hs
  rw [e] at h
  rw [← h]
  congr 1
  congr 1
  funext i
  rw [sideL_prod]
  rfl
theorem allW_like (g : List Val → Int) {F G : ByteArray → List Pair} {p : Px} (h : ∀ s ∈ p.fs, ∀ k, wsum k (F s) = wsum k (G s)) : allW g F p = allW g G p := wsum_like g p.fs [] h
theorem toldR_weigh (g : List Val → Int) (p : Px) (L : List Pair) : wsum g (toldR p L) = wsum (fun r => if decide (hoT r p.wh = 2) then g (rowE p.os r) else 0) L := by
  unfold toldR
  rw [wsum_map1 (fun r => rowE p.os r)]
  exact wsum_filter (fun r => decide (hoT r p.wh = 2)) (fun r => g (rowE p.os r)) L
/-- All of a plan's parts, weighed. -/
def planW (g : List Val → Int) (B : ByteArray → List Pair) : List Px → Int
  | [] => 0
  | p :: ps => allW (fun r => if decide (hoT r p.wh = 2) then g (rowE p.os r) else 0) B p + planW g B ps
theorem dAll_weigh (g : List Val → Int) (old ch : List Nx) : ∀ ps : List Px, wsum g (dAllL old ch ps) = planW g (fun s => ofB (bagN old s.data.toList ++ bagN ch s.data.toList)) ps - planW g (oldB old) ps
  | [] => rfl
  | p :: ps => by
    have e : dAllL old ch (p :: ps) = toldR p (netB old ch p) ++ dAllL old ch ps := by simp [dAllL]
    rw [e, wsum_app, toldR_weigh, netB_weigh, dAll_weigh g old ch ps, planW, planW]
    omega
theorem planW_like (g : List Val → Int) {F G : ByteArray → List Pair} : ∀ {ps : List Px}, (∀ p ∈ ps, ∀ s ∈ p.fs, ∀ k, wsum k (F s) = wsum k (G s)) → planW g F ps = planW g G ps
  | [], _ => rfl
  | p :: ps, h => by
    rw [planW, planW, allW_like _ (h p (by simp)), planW_like g (fun q hq => h q (by simp [hq]))]
/-- Changes one after the other come to all of them. -/
theorem parts_both {old c1 mid c2 both : List Nx} {ps : List Px} (hm : ∀ p ∈ ps, ∀ s ∈ p.fs, bagN mid s.data.toList = ofB (bagN old s.data.toList ++ bagN c1 s.data.toList)) (hb : ∀ p ∈ ps, ∀ s ∈ p.fs, bagN both s.data.toList = ofB (bagN c1 s.data.toList ++ bagN c2 s.data.toList)) :
    ofB (dAllL old both ps) = ofB (ofB (dAllL old c1 ps) ++ ofB (dAllL mid c2 ps)) := ofB_weigh fun g => by
  rw [wsum_app, wsum_ofB, wsum_ofB, dAll_weigh, dAll_weigh, dAll_weigh]
  have h1 := planW_like g (F := fun s => ofB (bagN mid s.data.toList ++ bagN c2 s.data.toList)) (G := fun s => ofB (bagN old s.data.toList ++ bagN both s.data.toList)) (ps := ps) (fun p hp s hs k => by
    show wsum k (ofB _) = wsum k (ofB _)
    rw [wsum_ofB, wsum_app, wsum_ofB, wsum_app, hm p hp s hs, hb p hp s hs, wsum_ofB, wsum_ofB, wsum_app, wsum_app]; omega)
  have h2 := planW_like g (F := oldB mid) (G := fun s => ofB (bagN old s.data.toList ++ bagN c1 s.data.toList)) (ps := ps) (fun p hp s hs k => by
    show wsum k (bagN mid s.data.toList) = _
    rw [hm p hp s hs])
  rw [h1, h2]
  omega
/-- Its errors, too: a row that all of them bring was brought by one. -/
theorem net_both {old c1 mid c2 both : List Nx} {p : Px} (hm : ∀ s ∈ p.fs, bagN mid s.data.toList = ofB (bagN old s.data.toList ++ bagN c1 s.data.toList)) (hb : ∀ s ∈ p.fs, bagN both s.data.toList = ofB (bagN c1 s.data.toList ++ bagN c2 s.data.toList)) :
    netB old both p = ofB (netB old c1 p ++ netB mid c2 p) := by
  have e : netB old both p = ofB (netB old both p) := by unfold netB; rw [ofB_ofB]
  rw [e]
  refine ofB_weigh fun g => ?_
  rw [wsum_app, netB_weigh, netB_weigh, netB_weigh]
  have h1 := allW_like g (F := fun s => ofB (bagN mid s.data.toList ++ bagN c2 s.data.toList)) (G := fun s => ofB (bagN old s.data.toList ++ bagN both s.data.toList)) (p := p) (fun s hs k => by
    show wsum k (ofB _) = wsum k (ofB _)
    rw [wsum_ofB, wsum_app, wsum_ofB, wsum_app, hm s hs, hb s hs, wsum_ofB, wsum_ofB, wsum_app, wsum_app]; omega)
  have h2 := allW_like g (F := oldB mid) (G := fun s => ofB (bagN old s.data.toList ++ bagN c1 s.data.toList)) (p := p) (fun s hs k => by
    show wsum k (bagN mid s.data.toList) = _
    rw [hm s hs])
  rw [h1, h2]
  omega
theorem toldG_mem {p : Px} {L A B : List Pair} (h : ∀ x ∈ L, ∃ y ∈ A ++ B, x.1 = y.1) (hA : toldG p A = 0) (hB : toldG p B = 0) : toldG p L = 0 := by
  refine foldG_all (fun e he => ?_)
  obtain ⟨x, hx, rfl⟩ := List.mem_map.1 he
  obtain ⟨hx1, hx2⟩ := List.mem_filter.1 hx
  obtain ⟨y, hy, exy⟩ := h x hx1
  have hy2 : keepT p.wh y = true := by unfold keepT at hx2 ⊢; rw [← exy]; exact hx2
  rw [exy]
  rcases List.mem_append.1 hy with hy | hy
  · exact foldG_zero hA _ (List.mem_map_of_mem (f := fun x : Pair => errD p.os x.1) (List.mem_filter.2 ⟨hy, hy2⟩))
  · exact foldG_zero hB _ (List.mem_map_of_mem (f := fun x : Pair => errD p.os x.1) (List.mem_filter.2 ⟨hy, hy2⟩))
theorem errs_both {old c1 mid c2 both : List Nx} {ps : List Px} (hm : ∀ p ∈ ps, ∀ s ∈ p.fs, bagN mid s.data.toList = ofB (bagN old s.data.toList ++ bagN c1 s.data.toList)) (hb : ∀ p ∈ ps, ∀ s ∈ p.fs, bagN both s.data.toList = ofB (bagN c1 s.data.toList ++ bagN c2 s.data.toList)) (h1 : dAllE old c1 ps = 0) (h2 : dAllE mid c2 ps = 0) : dAllE old both ps = 0 := by
  refine foldG_all (fun e he => ?_)
  obtain ⟨p, hp, rfl⟩ := List.mem_map.1 he
  refine toldG_mem (A := netB old c1 p) (B := netB mid c2 p) (fun x hx => ?_) (foldG_zero h1 _ (List.mem_map_of_mem (f := fun p : Px => toldG p (netB old c1 p)) hp)) (foldG_zero h2 _ (List.mem_map_of_mem (f := fun p : Px => toldG p (netB mid c2 p)) hp))
  rw [net_both (hm p hp) (hb p hp)] at hx
  exact ofB_memD hx
end Go.Proofs.YtfdkajefcplfjaaGreat

/- The project's layer 14 (delta), plainly: DeltaNone and DeltaParts of the model of Rows. Nothing of any program here. Conditions: each lemma names its own. -/
namespace Go.Proofs.YtfdkajefcplfjaaGreat
open Go.RowKit

def bothF (c1 c2 : List Nx) (x : Nx) : ByteArray × List Pair := (x.s, ofB (bagN c1 x.s.data.toList ++ bagN c2 x.s.data.toList))
theorem find_map {F : Nx → ByteArray × List Pair} (hF : ∀ x, (F x).1 = x.s) : ∀ {m l : List Nx}, m.map nd = l.map F → ∀ s, (findN m s).map nd = (findN l s).map F
  | [], [], _, _ => rfl
  | [], y :: l, h, _ => by simp at h
  | x :: m, [], h, _ => by simp at h
  | x :: m, y :: l, h, s => by
    rw [List.map_cons, List.map_cons] at h
    injection h with h1 h2
    have e : x.s = y.s := (congrArg Prod.fst h1).trans (hF y)
    have ih := find_map hF h2 s
    unfold findN at ih ⊢
    rw [List.find?_cons, List.find?_cons, e]
    cases (y.s.data.toList == s) with
    | true => simp [h1]
    | false => exact ih
theorem find_name {l : List Nx} {s : ByteArray} {x : Nx} (h : findN l s.data.toList = some x) : x.s = s := by
  unfold findN at h
  have := List.find?_some h
  exact bytes_inj (by simpa using this)
theorem both_bag {old c1 c2 both : List Nx} (h : both.map nd = old.map (bothF c1 c2)) {s : ByteArray} {x : Nx} (hx : findN old s.data.toList = some x) : bagN both s.data.toList = ofB (bagN c1 s.data.toList ++ bagN c2 s.data.toList) := by
  rw [bagN_nd, find_map (fun _ => rfl) h, hx]
  show ofB (bagN c1 x.s.data.toList ++ bagN c2 x.s.data.toList) = _
  rw [find_name hx]
theorem old_find {old ch : List Nx} {ps : List Px} (h : GoD old ch ps) {p : Px} (hp : p ∈ ps) {s : ByteArray} (hs : s ∈ p.fs) : ∃ x, findN old s.data.toList = some x ∧ Rises (x.E.map pr) := by
  obtain ⟨x, hx, hpl, _⟩ := (h.o hp).ok s hs
  refine ⟨x, hx, right_rises ?_⟩
  unfold plainE at hpl
  simp only [Bool.and_eq_true] at hpl
  exact hpl.1
/-- Changes one after the other. -/
theorem dParts_of {old c1 mid c2 both : List Nx} {ps : List Px} (hmf : ∀ p ∈ ps, ∀ s ∈ p.fs, (findN mid s.data.toList).map nd = some (nowD old c1 s)) (hboth : both.map nd = old.map (bothF c1 c2)) (h1 : (dRowsM old c1 ps).2 = 0) (h2 : (dRowsM mid c2 ps).2 = 0) :
    ((dRowsM old both ps).2 = 0 ∨ (dRowsM old both ps).2 = 19 ∨ (dRowsM old both ps).2 = 1) ∧ ((dRowsM old both ps).2 = 0 → (dRowsM old both ps).1 = ofB ((dRowsM old c1 ps).1 ++ (dRowsM mid c2 ps).1)) := by
  obtain ⟨hG, hE, e1⟩ := dRowsM_ok h1
  obtain ⟨hG2, hE2, e2⟩ := dRowsM_ok h2
  have hm : ∀ p ∈ ps, ∀ s ∈ p.fs, bagN mid s.data.toList = ofB (bagN old s.data.toList ++ bagN c1 s.data.toList) := fun p hp s hs => by
    rw [bagN_nd, hmf p hp s hs]; rfl
  have hb : ∀ p ∈ ps, ∀ s ∈ p.fs, bagN both s.data.toList = ofB (bagN c1 s.data.toList ++ bagN c2 s.data.toList) := fun p hp s hs => by
    obtain ⟨x, hx, _⟩ := old_find hG hp hs
    exact both_bag hboth hx
  have hr2 : readyE (nowP old both ps) ps = 0 := by
    rw [← hG2.rn]
    refine readyE_same (fun p hp s hs => ?_)
    rw [nowP, nowP, find_now old both (mem_names hp hs), find_now mid c2 (mem_names hp hs)]
    unfold nowD
    congr 2
    refine ofB_weigh fun g => ?_
    rw [wsum_app, wsum_app, hm p hp s hs, hb p hp s hs, wsum_ofB, wsum_ofB, wsum_app, wsum_app]
    omega
  have hE3 : dAllE old both ps = 0 := errs_both hm hb hE hE2
  by_cases hw : wrongB both = true
  · have : dRowsM old both ps = ([], 1) := by
      unfold dRowsM
      rw [if_neg (by have := hG.ro; omega), if_pos hw]
    rw [this]
    exact ⟨.inr (.inr rfl), fun h => absurd h (by decide)⟩
  have hw : wrongB both = false := by simpa using hw
  by_cases hc : costD old both ps ≤ 2000
  · have hi := dRowsM_is (ps := ps) ⟨hG.ro, hw, hr2, hG.rs, hc⟩ hE3
    rw [hi]
    refine ⟨.inl rfl, fun _ => ?_⟩
    rw [e1, e2]
    exact parts_both hm hb
  · have : dRowsM old both ps = ([], 19) := by
      unfold dRowsM
      rw [if_neg (by have := hG.ro; omega), if_neg (by rw [hw]; simp), if_neg (by omega), if_neg (by rw [hG.rs]; simp), if_pos (by omega)]
    rw [this]
    exact ⟨.inr (.inl rfl), fun h => absurd h (by decide)⟩
end Go.Proofs.YtfdkajefcplfjaaGreat
