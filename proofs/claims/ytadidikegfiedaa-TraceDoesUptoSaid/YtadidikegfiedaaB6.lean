/- Several of my texts laid together, each as it was: Xx, Xy, Xz, Xp, Xq, XA. Conditions: each names its own. -/
import Derived.Test.YtadidikegfiedaaB4
import Derived.Test.YtadidikegfiedaaB5
/- The reference: products to MaxMany, how many rows a list has, what a plan costs. Conditions: the lists' cells are known. -/
namespace Go.Proofs.Ytadidikegfiedaa
open Go.RowKit

def sizeFrom (n : Int) (L : List Pair) : Int := L.foldl (fun n x => addMany n (max x.2 0)) n
theorem sizeFrom_max : ∀ L : List Pair, sizeFrom maxMany L = maxMany
  | [] => rfl
  | x :: L => by
    show sizeFrom (addMany maxMany (max x.2 0)) L = maxMany
    rw [show addMany maxMany (max x.2 0) = maxMany by unfold addMany; omega]
    exact sizeFrom_max L
theorem sizeFrom_sat {L : List Pair} {n : Int} {x : Pair} (hn : 0 ≤ n ∧ n ≤ maxMany) (h : 1099511627776 - n < x.2) : sizeFrom n (x :: L) = 1099511627776 := by
  show sizeFrom (addMany n (max x.2 0)) L = maxMany
  rw [show addMany n (max x.2 0) = maxMany by unfold addMany maxMany at *; omega]
  exact sizeFrom_max L
theorem mul_big {a b : Int} (hb : 0 < b) (h : 1099511627776 / b < a) : 1099511627776 ≤ a * b := by
  have h1 : 1099511627776 < a * b := by
    have := (Int.ediv_lt_iff_lt_mul hb).1 h
    exact this
  omega
theorem mul_small {a b : Int} (hb : 0 < b) (h : ¬ 1099511627776 / b < a) : a * b ≤ 1099511627776 := (Int.le_ediv_iff_mul_le hb).1 (by omega)
end Go.Proofs.Ytadidikegfiedaa

/- The reference: what is at a name. Conditions: the names' cells are known. -/
namespace Go.Proofs.Ytadidikegfiedaa
open Go.RowKit

def hasV (l : List Nx) (s : List UInt8) : Value := match findN l s with
  | none => .tuple #[.slice none 0 0, .bool false]
  | some x => .tuple #[.slice x.a x.E.length x.c, .bool true]
theorem hasV_cons (x : Nx) (l : List Nx) (s : List UInt8) : hasV (x :: l) s = if x.s.data.toList = s then .tuple #[.slice x.a x.E.length x.c, .bool true] else hasV l s := by
  unfold hasV findN
  by_cases h : x.s.data.toList = s
  · rw [if_pos h, List.find?_cons_of_pos (by simpa using h)]
  · rw [if_neg h, List.find?_cons_of_neg (by simpa using h)]
end Go.Proofs.Ytadidikegfiedaa

/- The reference: what a plan costs. Conditions: the plan's and the names' cells are known. -/
namespace Go.Proofs.Ytadidikegfiedaa
open Go.RowKit

theorem elems_nil (w : World) : ElemsI w none 0 [] := ⟨⟨fun h => absurd rfl h, fun e he => (by cases he)⟩, fun e he => (by cases he), by decide, by decide⟩
def costFrom (l : List Nx) (n : Int) (ps : List Px) : Int := ps.foldl (fun n p => addMany n (costF l p.fs)) n
theorem costFrom_max (l : List Nx) : ∀ ps : List Px, costFrom l maxMany ps = maxMany
  | [] => rfl
  | p :: ps => by
    show costFrom l (addMany maxMany (costF l p.fs)) ps = maxMany
    rw [show addMany maxMany (costF l p.fs) = maxMany by have := (costF_in l p.fs).1; unfold addMany; omega]
    exact costFrom_max l ps
end Go.Proofs.Ytadidikegfiedaa

/- Whether a list of rows takes none away; whether one has another width. Conditions: the list's cells are known. -/
namespace Go.Proofs.Ytadidikegfiedaa
open Go.RowKit

def plainE (E : List Elem) : Bool := rightE E && !E.any (fun e => decide (e.n < 0))
end Go.Proofs.Ytadidikegfiedaa

/- What is at a name fits a width, or not. Conditions: the names' cells are known. -/
namespace Go.Proofs.Ytadidikegfiedaa
open Go.RowKit

def fitsE (l : List Nx) (s : List UInt8) (wd : Int) : Int := match findN l s with
  | none => 5
  | some x => if plainE x.E = true ∧ x.E.any (fun e => decide ((e.r.length : Int) ≠ wd)) = false then 0 else 1
theorem findN_mem {l : List Nx} {s : List UInt8} {x : Nx} (h : findN l s = some x) : x ∈ l := List.mem_of_find?_eq_some h
theorem below_two (w : World) (o1 o2 : Obj) : Below w.heap.size w ((w.alloc o1).alloc o2) := ((Below.refl _ _).alloc (Nat.le_refl _) _).alloc (by simp) _
end Go.Proofs.Ytadidikegfiedaa

/- The reference: whether a list of rows may be a bag. Conditions: the list's cells are known. -/
namespace Go.Proofs.Ytadidikegfiedaa
open Go.RowKit

set_option maxRecDepth 100000 in
set_option maxHeartbeats 4000000 in
theorem refBagRight_all (a : Option Addr) (c : Nat) (E : List Elem) (w : World) (h : ElemsI w a c E) :
    Calls Try.prog 26 #[.slice a E.length c] w fun e w' => e = .returned (.bool (rightE E)) ∧ Below w.heap.size w w' := by
  have A := hid0 h.at_
  have HP := hid0 (fun e (he : e ∈ E) => (h.i e he).2.1)
  have hfew := h.few
  obtain ⟨R, hr⟩ : ∃ R, rightE E = R := ⟨_, rfl⟩
  rw [hr]
  have HR := hid0 (show (List.range E.length).all (rightAt E) = R from hr)
  clear h hr
  go_enter Try.func26, Try.ntmps26
  go_wp2
  go_loopw [3] (fun iv wr => ∃ i : Nat, i ≤ E.length ∧ iv = .int .i64 i ∧ Hid (((List.range E.length).take i).all (rightAt E) = true) ∧ Below w.heap.size w wr) (fun iv _ => E.length - (intOf iv).toNat)
  case atStart => exact ⟨0, Nat.zero_le _, rfl, hid0 rfl, Below.refl _ _⟩
  case round =>
    obtain ⟨i, hi, rfl, hO, hB⟩ := hrel
    have hsz := hB.size
    by_cases hlt : i < E.length
    · have hlti : (i : Int) < (E.length : Int) := by omega
      obtain ⟨b1, o1, rfl, hc1⟩ := (A.out.1.later hB) (by intro e; rw [e] at hlt; exact absurd hlt (by simp))
      obtain ⟨q0, q1⟩ := hc1 i hlt
      have hrl : i < (List.range E.length).length := by simpa using hlt
      have hbad := hid0 (fun hf : rightAt E i = false => all_bad (f := rightAt E) hrl (by simpa using hf))
      have hnext := hid0 (fun hf : rightAt E i = true => all_take (f := rightAt E) hrl hO.out (by simpa using hf))
      have HRA := hid0 (rightAt_get hlt)
      have hcc := hid0 hc1
      obtain ⟨hn1, hn2⟩ := HP.out _ (List.getElem_mem hlt)
      have HOK := hid0 (show okR E[i].n = okR E[i].n from rfl)
      have hokx : ∀ x, E[i].n = x → okR E[i].n = okR x := fun x hx => by rw [hx]
      obtain ⟨x, hx⟩ : ∃ x, E[i].n = x := ⟨_, rfl⟩
      have HOKX := hid0 (hokx x hx)
      have HX := hid0 hx
      rw [hx] at q1 hn1 hn2
      clear hc1 hx hokx HOK
      by_cases g0 : x = 0
      · subst g0
        have HK := hid0 (show rightAt E i = false by rw [HRA.out, HOKX.out]; rfl)
        as_aux_lemma =>
          have hS : (fun w' => w'.cell? ⟨b1, o1 + i * 2 + 1, none⟩ = some (.int .i64 0) ∧ Below w.heap.size w w') wr.drew := ⟨q1, Below.drew hB⟩
          clear q0 q1 hB
          go_wp2_with fail
          refine wp_region_held_drew (S := fun w' => w'.cell? ⟨b1, o1 + i * 2 + 1, none⟩ = some (.int .i64 0) ∧ Below w.heap.size w w') (by kernel_rfl) hS (fun hHeld => ?_)
          refine wpAnyH_take (i := 0) (v := ?_) rfl (by kernel_rfl) (by kernel_rfl) (by kernel_rfl) (fun _ _ _ h => h) (Or.inl ⟨by rfl, ?_⟩) (by assumption) ?_
          rotate_left
          · (intro wx hSw; have y0 := hSw.1; have y1 := hlt; have y2 := hlti; go_simp; (try with_reducible rfl); (try omega))
          (try simp only [Act.put, List.setIfInBounds_toArray, List.set_cons_zero, List.set_cons_succ, List.getElem_toArray, List.getElem_cons_zero])
          refine wpAnyH_take (i := 1) (v := ?_) rfl (by kernel_rfl) (by kernel_rfl) (by kernel_rfl) (fun _ _ _ h => h) (Or.inl ⟨by rfl, ?_⟩) (by assumption) ?_
          rotate_left
          · (intro wx hSw; have y0 := hSw.1; have y1 := hlt; have y2 := hlti; go_simp; (try with_reducible rfl); (try omega))
          (try simp only [Act.put, List.setIfInBounds_toArray, List.set_cons_zero, List.set_cons_succ, List.getElem_toArray, List.getElem_cons_zero, List.getElem_cons_succ])
          refine wpAnyH_take (i := 2) (v := ?_) rfl (by kernel_rfl) (by kernel_rfl) (by kernel_rfl) (fun _ _ _ h => h) (Or.inl ⟨by rfl, ?_⟩) (by assumption) ?_
          rotate_left
          · (intro wx hSw; have y0 := hSw.1; have y1 := hlt; have y2 := hlti; go_simp; (try with_reducible rfl); (try omega))
          (try simp only [Act.put, List.setIfInBounds_toArray, List.set_cons_zero, List.set_cons_succ, List.getElem_toArray, List.getElem_cons_zero, List.getElem_cons_succ])
          refine wpAnyH_take (i := 3) (v := ?_) rfl (by kernel_rfl) (by kernel_rfl) (by kernel_rfl) (fun _ _ _ h => h) (Or.inl ⟨by rfl, ?_⟩) (by assumption) ?_
          rotate_left
          · (intro wx hSw; have y0 := hSw.1; have y1 := hlt; have y2 := hlti; go_simp; (try with_reducible rfl); (try omega))
          (try simp only [Act.put, List.setIfInBounds_toArray, List.set_cons_zero, List.set_cons_succ, List.getElem_toArray, List.getElem_cons_zero, List.getElem_cons_succ])
          refine wpAnyH_take (i := 4) (v := ?_) rfl (by kernel_rfl) (by kernel_rfl) (by kernel_rfl) (fun _ _ _ h => h) (Or.inl ⟨by rfl, ?_⟩) (by assumption) ?_
          rotate_left
          · (intro wx hSw; have y0 := hSw.1; have y1 := hlt; have y2 := hlti; go_simp; (try with_reducible rfl); (try omega))
          (try simp only [Act.put, List.setIfInBounds_toArray, List.set_cons_zero, List.set_cons_succ, List.getElem_toArray, List.getElem_cons_zero, List.getElem_cons_succ])
          refine wpAnyH_take (i := 5) (v := ?_) rfl (by kernel_rfl) (by kernel_rfl) (by kernel_rfl) (fun _ _ _ h => h) (Or.inl ⟨by rfl, ?_⟩) (by assumption) ?_
          rotate_left
          · (intro wx hSw; have y0 := hSw.1; have y1 := hlt; have y2 := hlti; go_simp; (try with_reducible rfl); (try omega))
          (try simp only [Act.put, List.setIfInBounds_toArray, List.set_cons_zero, List.set_cons_succ, List.getElem_toArray, List.getElem_cons_zero, List.getElem_cons_succ])
          refine wpAnyH_take (i := 6) (v := ?_) rfl (by kernel_rfl) (by kernel_rfl) (by kernel_rfl) (fun _ _ _ h => h) (Or.inl ⟨by rfl, ?_⟩) (by assumption) ?_
          rotate_left
          · (intro wx hSw; have y0 := hSw.1; have y1 := hlt; have y2 := hlti; go_simp; (try with_reducible rfl); (try omega))
          (try simp only [Act.put, List.setIfInBounds_toArray, List.set_cons_zero, List.set_cons_succ, List.getElem_toArray, List.getElem_cons_zero, List.getElem_cons_succ])
          refine wpAnyH_take (i := 7) (v := undef) rfl (by kernel_rfl) (by kernel_rfl) (by kernel_rfl) (fun _ _ _ h => h) (Or.inr ⟨by rfl, rfl⟩) (by assumption) ?_
          (try simp only [Act.put, List.setIfInBounds_toArray, List.set_cons_zero, List.set_cons_succ, List.getElem_toArray, List.getElem_cons_zero, List.getElem_cons_succ])
          refine wpAnyH_take (i := 8) (v := undef) rfl (by kernel_rfl) (by kernel_rfl) (by kernel_rfl) (fun _ _ _ h => h) (Or.inr ⟨by rfl, rfl⟩) (by assumption) ?_
          (try simp only [Act.put, List.setIfInBounds_toArray, List.set_cons_zero, List.set_cons_succ, List.getElem_toArray, List.getElem_cons_zero, List.getElem_cons_succ])
          refine wpAnyH_take (i := 9) (v := undef) rfl (by kernel_rfl) (by kernel_rfl) (by kernel_rfl) (fun _ _ _ h => h) (Or.inr ⟨by rfl, rfl⟩) (by assumption) ?_
          (try simp only [Act.put, List.setIfInBounds_toArray, List.set_cons_zero, List.set_cons_succ, List.getElem_toArray, List.getElem_cons_zero, List.getElem_cons_succ])
          refine wpAnyH_take (i := 10) (v := undef) rfl (by kernel_rfl) (by kernel_rfl) (by kernel_rfl) (fun _ _ _ h => h) (Or.inr ⟨by rfl, rfl⟩) (by assumption) ?_
          (try simp only [Act.put, List.setIfInBounds_toArray, List.set_cons_zero, List.set_cons_succ, List.getElem_toArray, List.getElem_cons_zero, List.getElem_cons_succ])
          refine wpAnyH_take (i := 11) (v := undef) rfl (by kernel_rfl) (by kernel_rfl) (by kernel_rfl) (fun _ _ _ h => h) (Or.inr ⟨by rfl, rfl⟩) (by assumption) ?_
          (try simp only [Act.put, List.setIfInBounds_toArray, List.set_cons_zero, List.set_cons_succ, List.getElem_toArray, List.getElem_cons_zero, List.getElem_cons_succ])
          refine wpAnyH_take (i := 12) (v := undef) rfl (by kernel_rfl) (by kernel_rfl) (by kernel_rfl) (fun _ _ _ h => h) (Or.inr ⟨by rfl, rfl⟩) (by assumption) ?_
          (try simp only [Act.put, List.setIfInBounds_toArray, List.set_cons_zero, List.set_cons_succ, List.getElem_toArray, List.getElem_cons_zero, List.getElem_cons_succ])
          refine wpAnyH_take (i := 13) (v := ?_) rfl (by kernel_rfl) (by kernel_rfl) (by kernel_rfl) (fun _ _ _ h => h) (Or.inl ⟨by rfl, ?_⟩) (by assumption) ?_
          rotate_left
          · (intro wx hSw; have y0 := hSw.1; have y1 := hlt; have y2 := hlti; go_simp; (try with_reducible rfl); (try omega))
          (try simp only [Act.put, List.setIfInBounds_toArray, List.set_cons_zero, List.set_cons_succ, List.getElem_toArray, List.getElem_cons_zero, List.getElem_cons_succ])
          refine wpAnyH_take (i := 14) (v := ?_) rfl (by kernel_rfl) (by kernel_rfl) (by kernel_rfl) (fun _ _ _ h => h) (Or.inl ⟨by rfl, ?_⟩) (by assumption) ?_
          rotate_left
          · (intro wx hSw; have y0 := hSw.1; have y1 := hlt; have y2 := hlti; go_simp; (try with_reducible rfl); (try omega))
          (try simp only [Act.put, List.setIfInBounds_toArray, List.set_cons_zero, List.set_cons_succ, List.getElem_toArray, List.getElem_cons_zero, List.getElem_cons_succ])
          refine wpAnyH_take (i := 15) (v := undef) rfl (by kernel_rfl) (by kernel_rfl) (by kernel_rfl) (fun _ _ _ h => h) (Or.inr ⟨by rfl, rfl⟩) (by assumption) ?_
          (try simp only [Act.put, List.setIfInBounds_toArray, List.set_cons_zero, List.set_cons_succ, List.getElem_toArray, List.getElem_cons_zero, List.getElem_cons_succ])
          refine wpAnyH_take (i := 16) (v := undef) rfl (by kernel_rfl) (by kernel_rfl) (by kernel_rfl) (fun _ _ _ h => h) (Or.inr ⟨by rfl, rfl⟩) (by assumption) ?_
          (try simp only [Act.put, List.setIfInBounds_toArray, List.set_cons_zero, List.set_cons_succ, List.getElem_toArray, List.getElem_cons_zero, List.getElem_cons_succ])
          refine wpAnyH_take (i := 17) (v := undef) rfl (by kernel_rfl) (by kernel_rfl) (by kernel_rfl) (fun _ _ _ h => h) (Or.inr ⟨by rfl, rfl⟩) (by assumption) ?_
          (try simp only [Act.put, List.setIfInBounds_toArray, List.set_cons_zero, List.set_cons_succ, List.getElem_toArray, List.getElem_cons_zero, List.getElem_cons_succ])
          refine wpAnyH_take (i := 18) (v := undef) rfl (by kernel_rfl) (by kernel_rfl) (by kernel_rfl) (fun _ _ _ h => h) (Or.inr ⟨by rfl, rfl⟩) (by assumption) ?_
          (try simp only [Act.put, List.setIfInBounds_toArray, List.set_cons_zero, List.set_cons_succ, List.getElem_toArray, List.getElem_cons_zero, List.getElem_cons_succ])
          refine wpAnyH_take (i := 19) (v := undef) rfl (by kernel_rfl) (by kernel_rfl) (by kernel_rfl) (fun _ _ _ h => h) (Or.inr ⟨by rfl, rfl⟩) (by assumption) ?_
          (try simp only [Act.put, List.setIfInBounds_toArray, List.set_cons_zero, List.set_cons_succ, List.getElem_toArray, List.getElem_cons_zero, List.getElem_cons_succ])
          refine wpAnyH_take (i := 20) (v := undef) rfl (by kernel_rfl) (by kernel_rfl) (by kernel_rfl) (fun _ _ _ h => h) (Or.inr ⟨by rfl, rfl⟩) (by assumption) ?_
          (try simp only [Act.put, List.setIfInBounds_toArray, List.set_cons_zero, List.set_cons_succ, List.getElem_toArray, List.getElem_cons_zero, List.getElem_cons_succ])
          refine wpAnyH_take (i := 21) (v := ?_) rfl (by kernel_rfl) (by kernel_rfl) (by kernel_rfl) (fun _ _ _ h => h) (Or.inl ⟨by rfl, ?_⟩) (by assumption) ?_
          rotate_left
          · (intro wx hSw; have y0 := hSw.1; have y1 := hlt; have y2 := hlti; go_simp; (try with_reducible rfl); (try omega))
          (try simp only [Act.put, List.setIfInBounds_toArray, List.set_cons_zero, List.set_cons_succ, List.getElem_toArray, List.getElem_cons_zero, List.getElem_cons_succ])
          refine wpAnyH_take (i := 22) (v := ?_) rfl (by kernel_rfl) (by kernel_rfl) (by kernel_rfl) (fun _ _ _ h => h) (Or.inl ⟨by rfl, ?_⟩) (by assumption) ?_
          rotate_left
          · (intro wx hSw; have y0 := hSw.1; have y1 := hlt; have y2 := hlti; go_simp; (try with_reducible rfl); (try omega))
          (try simp only [Act.put, List.setIfInBounds_toArray, List.set_cons_zero, List.set_cons_succ, List.getElem_toArray, List.getElem_cons_zero, List.getElem_cons_succ])
          refine wpAnyH_take (i := 23) (v := undef) rfl (by kernel_rfl) (by kernel_rfl) (by kernel_rfl) (fun _ _ _ h => h) (Or.inr ⟨by rfl, rfl⟩) (by assumption) ?_
          (try simp only [Act.put, List.setIfInBounds_toArray, List.set_cons_zero, List.set_cons_succ, List.getElem_toArray, List.getElem_cons_zero, List.getElem_cons_succ])
          refine wpAnyH_take (i := 24) (v := undef) rfl (by kernel_rfl) (by kernel_rfl) (by kernel_rfl) (fun _ _ _ h => h) (Or.inr ⟨by rfl, rfl⟩) (by assumption) ?_
          (try simp only [Act.put, List.setIfInBounds_toArray, List.set_cons_zero, List.set_cons_succ, List.getElem_toArray, List.getElem_cons_zero, List.getElem_cons_succ])
          refine wpAnyH_take (i := 25) (v := undef) rfl (by kernel_rfl) (by kernel_rfl) (by kernel_rfl) (fun _ _ _ h => h) (Or.inr ⟨by rfl, rfl⟩) (by assumption) ?_
          (try simp only [Act.put, List.setIfInBounds_toArray, List.set_cons_zero, List.set_cons_succ, List.getElem_toArray, List.getElem_cons_zero, List.getElem_cons_succ])
          refine wpAnyH_take (i := 26) (v := undef) rfl (by kernel_rfl) (by kernel_rfl) (by kernel_rfl) (fun _ _ _ h => h) (Or.inr ⟨by rfl, rfl⟩) (by assumption) ?_
          (try simp only [Act.put, List.setIfInBounds_toArray, List.set_cons_zero, List.set_cons_succ, List.getElem_toArray, List.getElem_cons_zero, List.getElem_cons_succ])
          refine wpAnyH_take (i := 27) (v := undef) rfl (by kernel_rfl) (by kernel_rfl) (by kernel_rfl) (fun _ _ _ h => h) (Or.inr ⟨by rfl, rfl⟩) (by assumption) ?_
          (try simp only [Act.put, List.setIfInBounds_toArray, List.set_cons_zero, List.set_cons_succ, List.getElem_toArray, List.getElem_cons_zero, List.getElem_cons_succ])
          refine wpAnyH_take (i := 28) (v := undef) rfl (by kernel_rfl) (by kernel_rfl) (by kernel_rfl) (fun _ _ _ h => h) (Or.inr ⟨by rfl, rfl⟩) (by assumption) ?_
          (try simp only [Act.put, List.setIfInBounds_toArray, List.set_cons_zero, List.set_cons_succ, List.getElem_toArray, List.getElem_cons_zero, List.getElem_cons_succ])
          refine wpAnyH_take (i := 29) (v := undef) rfl (by kernel_rfl) (by kernel_rfl) (by kernel_rfl) (fun _ _ _ h => h) (Or.inr ⟨by rfl, rfl⟩) (by assumption) ?_
          (try simp only [Act.put, List.setIfInBounds_toArray, List.set_cons_zero, List.set_cons_succ, List.getElem_toArray, List.getElem_cons_zero, List.getElem_cons_succ])
          refine wpAnyH_take (i := 30) (v := undef) rfl (by kernel_rfl) (by kernel_rfl) (by kernel_rfl) (fun _ _ _ h => h) (Or.inr ⟨by rfl, rfl⟩) (by assumption) ?_
          (try simp only [Act.put, List.setIfInBounds_toArray, List.set_cons_zero, List.set_cons_succ, List.getElem_toArray, List.getElem_cons_zero, List.getElem_cons_succ])
          refine wpAnyH_take (i := 31) (v := undef) rfl (by kernel_rfl) (by kernel_rfl) (by kernel_rfl) (fun _ _ _ h => h) (Or.inr ⟨by rfl, rfl⟩) (by assumption) ?_
          (try simp only [Act.put, List.setIfInBounds_toArray, List.set_cons_zero, List.set_cons_succ, List.getElem_toArray, List.getElem_cons_zero, List.getElem_cons_succ])
          refine wpAnyH_take (i := 32) (v := undef) rfl (by kernel_rfl) (by kernel_rfl) (by kernel_rfl) (fun _ _ _ h => h) (Or.inr ⟨by rfl, rfl⟩) (by assumption) ?_
          (try simp only [Act.put, List.setIfInBounds_toArray, List.set_cons_zero, List.set_cons_succ, List.getElem_toArray, List.getElem_cons_zero, List.getElem_cons_succ])
          refine wpAnyH_take (i := 33) (v := undef) rfl (by kernel_rfl) (by kernel_rfl) (by kernel_rfl) (fun _ _ _ h => h) (Or.inr ⟨by rfl, rfl⟩) (by assumption) ?_
          (try simp only [Act.put, List.setIfInBounds_toArray, List.set_cons_zero, List.set_cons_succ, List.getElem_toArray, List.getElem_cons_zero, List.getElem_cons_succ])
          refine wpAnyH_take (i := 34) (v := undef) rfl (by kernel_rfl) (by kernel_rfl) (by kernel_rfl) (fun _ _ _ h => h) (Or.inr ⟨by rfl, rfl⟩) (by assumption) ?_
          (try simp only [Act.put, List.setIfInBounds_toArray, List.set_cons_zero, List.set_cons_succ, List.getElem_toArray, List.getElem_cons_zero, List.getElem_cons_succ])
          refine wpAnyH_take (i := 35) (v := undef) rfl (by kernel_rfl) (by kernel_rfl) (by kernel_rfl) (fun _ _ _ h => h) (Or.inr ⟨by rfl, rfl⟩) (by assumption) ?_
          (try simp only [Act.put, List.setIfInBounds_toArray, List.set_cons_zero, List.set_cons_succ, List.getElem_toArray, List.getElem_cons_zero, List.getElem_cons_succ])
          refine wpAnyH_take (i := 36) (v := undef) rfl (by kernel_rfl) (by kernel_rfl) (by kernel_rfl) (fun _ _ _ h => h) (Or.inr ⟨by rfl, rfl⟩) (by assumption) ?_
          (try simp only [Act.put, List.setIfInBounds_toArray, List.set_cons_zero, List.set_cons_succ, List.getElem_toArray, List.getElem_cons_zero, List.getElem_cons_succ])
          refine wpAnyH_take (i := 37) (v := undef) rfl (by kernel_rfl) (by kernel_rfl) (by kernel_rfl) (fun _ _ _ h => h) (Or.inr ⟨by rfl, rfl⟩) (by assumption) ?_
          (try simp only [Act.put, List.setIfInBounds_toArray, List.set_cons_zero, List.set_cons_succ, List.getElem_toArray, List.getElem_cons_zero, List.getElem_cons_succ])
          refine wpAnyH_take (i := 38) (v := undef) rfl (by kernel_rfl) (by kernel_rfl) (by kernel_rfl) (fun _ _ _ h => h) (Or.inr ⟨by rfl, rfl⟩) (by assumption) ?_
          (try simp only [Act.put, List.setIfInBounds_toArray, List.set_cons_zero, List.set_cons_succ, List.getElem_toArray, List.getElem_cons_zero, List.getElem_cons_succ])
          refine wpAnyH_take (i := 39) (v := undef) rfl (by kernel_rfl) (by kernel_rfl) (by kernel_rfl) (fun _ _ _ h => h) (Or.inr ⟨by rfl, rfl⟩) (by assumption) ?_
          (try simp only [Act.put, List.setIfInBounds_toArray, List.set_cons_zero, List.set_cons_succ, List.getElem_toArray, List.getElem_cons_zero, List.getElem_cons_succ])
          refine wpAnyH_take (i := 40) (v := ?_) rfl (by kernel_rfl) (by kernel_rfl) (by kernel_rfl) (fun _ _ _ h => h) (Or.inl ⟨by rfl, ?_⟩) (by assumption) ?_
          rotate_left
          · (intro wx hSw; have y0 := hSw.1; have y1 := hlt; have y2 := hlti; go_simp; (try with_reducible rfl); (try omega))
          (try simp only [Act.put, List.setIfInBounds_toArray, List.set_cons_zero, List.set_cons_succ, List.getElem_toArray, List.getElem_cons_zero, List.getElem_cons_succ])
          refine wpAnyH_done (by kernel_rfl) ?_ _
          clear hHeld
          have hB9 := hS.2
          clear hS
          go_wp2_with fail
          go_ret
          exact ⟨ret_bool (by rw [← HR.out, hbad.out HK.out]), hB9⟩
      have g0' : (x == 0) = false := by simpa using g0
      by_cases g1 : 1099511627776 < x
      · have HK := hid0 (show rightAt E i = false by rw [HRA.out, HOKX.out]; unfold okR; simp [g1])
        as_aux_lemma =>
          have hS : (fun w' => w'.cell? ⟨b1, o1 + i * 2 + 1, none⟩ = some (.int .i64 x) ∧ Below w.heap.size w w') wr.drew := ⟨q1, Below.drew hB⟩
          clear q0 q1 hB
          go_wp2_with fail
          refine wp_region_held_drew (S := fun w' => w'.cell? ⟨b1, o1 + i * 2 + 1, none⟩ = some (.int .i64 x) ∧ Below w.heap.size w w') (by kernel_rfl) hS (fun hHeld => ?_)
          refine wpAnyH_take (i := 0) (v := ?_) rfl (by kernel_rfl) (by kernel_rfl) (by kernel_rfl) (fun _ _ _ h => h) (Or.inl ⟨by rfl, ?_⟩) (by assumption) ?_
          rotate_left
          · (intro wx hSw; have y0 := hSw.1; have y1 := hlt; have y2 := hlti; have y3 := g0'; have y4 := g1; go_simp; (try with_reducible rfl); (try omega))
          (try simp only [Act.put, List.setIfInBounds_toArray, List.set_cons_zero, List.set_cons_succ, List.getElem_toArray, List.getElem_cons_zero])
          refine wpAnyH_take (i := 1) (v := ?_) rfl (by kernel_rfl) (by kernel_rfl) (by kernel_rfl) (fun _ _ _ h => h) (Or.inl ⟨by rfl, ?_⟩) (by assumption) ?_
          rotate_left
          · (intro wx hSw; have y0 := hSw.1; have y1 := hlt; have y2 := hlti; have y3 := g0'; have y4 := g1; go_simp; (try with_reducible rfl); (try omega))
          (try simp only [Act.put, List.setIfInBounds_toArray, List.set_cons_zero, List.set_cons_succ, List.getElem_toArray, List.getElem_cons_zero, List.getElem_cons_succ])
          refine wpAnyH_take (i := 2) (v := ?_) rfl (by kernel_rfl) (by kernel_rfl) (by kernel_rfl) (fun _ _ _ h => h) (Or.inl ⟨by rfl, ?_⟩) (by assumption) ?_
          rotate_left
          · (intro wx hSw; have y0 := hSw.1; have y1 := hlt; have y2 := hlti; have y3 := g0'; have y4 := g1; go_simp; (try with_reducible rfl); (try omega))
          (try simp only [Act.put, List.setIfInBounds_toArray, List.set_cons_zero, List.set_cons_succ, List.getElem_toArray, List.getElem_cons_zero, List.getElem_cons_succ])
          refine wpAnyH_take (i := 3) (v := ?_) rfl (by kernel_rfl) (by kernel_rfl) (by kernel_rfl) (fun _ _ _ h => h) (Or.inl ⟨by rfl, ?_⟩) (by assumption) ?_
          rotate_left
          · (intro wx hSw; have y0 := hSw.1; have y1 := hlt; have y2 := hlti; have y3 := g0'; have y4 := g1; go_simp; (try with_reducible rfl); (try omega))
          (try simp only [Act.put, List.setIfInBounds_toArray, List.set_cons_zero, List.set_cons_succ, List.getElem_toArray, List.getElem_cons_zero, List.getElem_cons_succ])
          refine wpAnyH_take (i := 4) (v := ?_) rfl (by kernel_rfl) (by kernel_rfl) (by kernel_rfl) (fun _ _ _ h => h) (Or.inl ⟨by rfl, ?_⟩) (by assumption) ?_
          rotate_left
          · (intro wx hSw; have y0 := hSw.1; have y1 := hlt; have y2 := hlti; have y3 := g0'; have y4 := g1; go_simp; (try with_reducible rfl); (try omega))
          (try simp only [Act.put, List.setIfInBounds_toArray, List.set_cons_zero, List.set_cons_succ, List.getElem_toArray, List.getElem_cons_zero, List.getElem_cons_succ])
          refine wpAnyH_take (i := 5) (v := ?_) rfl (by kernel_rfl) (by kernel_rfl) (by kernel_rfl) (fun _ _ _ h => h) (Or.inl ⟨by rfl, ?_⟩) (by assumption) ?_
          rotate_left
          · (intro wx hSw; have y0 := hSw.1; have y1 := hlt; have y2 := hlti; have y3 := g0'; have y4 := g1; go_simp; (try with_reducible rfl); (try omega))
          (try simp only [Act.put, List.setIfInBounds_toArray, List.set_cons_zero, List.set_cons_succ, List.getElem_toArray, List.getElem_cons_zero, List.getElem_cons_succ])
          refine wpAnyH_take (i := 6) (v := ?_) rfl (by kernel_rfl) (by kernel_rfl) (by kernel_rfl) (fun _ _ _ h => h) (Or.inl ⟨by rfl, ?_⟩) (by assumption) ?_
          rotate_left
          · (intro wx hSw; have y0 := hSw.1; have y1 := hlt; have y2 := hlti; have y3 := g0'; have y4 := g1; go_simp; (try with_reducible rfl); (try omega))
          (try simp only [Act.put, List.setIfInBounds_toArray, List.set_cons_zero, List.set_cons_succ, List.getElem_toArray, List.getElem_cons_zero, List.getElem_cons_succ])
          refine wpAnyH_take (i := 7) (v := ?_) rfl (by kernel_rfl) (by kernel_rfl) (by kernel_rfl) (fun _ _ _ h => h) (Or.inl ⟨by rfl, ?_⟩) (by assumption) ?_
          rotate_left
          · (intro wx hSw; have y0 := hSw.1; have y1 := hlt; have y2 := hlti; have y3 := g0'; have y4 := g1; go_simp; (try with_reducible rfl); (try omega))
          (try simp only [Act.put, List.setIfInBounds_toArray, List.set_cons_zero, List.set_cons_succ, List.getElem_toArray, List.getElem_cons_zero, List.getElem_cons_succ])
          refine wpAnyH_take (i := 8) (v := ?_) rfl (by kernel_rfl) (by kernel_rfl) (by kernel_rfl) (fun _ _ _ h => h) (Or.inl ⟨by rfl, ?_⟩) (by assumption) ?_
          rotate_left
          · (intro wx hSw; have y0 := hSw.1; have y1 := hlt; have y2 := hlti; have y3 := g0'; have y4 := g1; go_simp; (try with_reducible rfl); (try omega))
          (try simp only [Act.put, List.setIfInBounds_toArray, List.set_cons_zero, List.set_cons_succ, List.getElem_toArray, List.getElem_cons_zero, List.getElem_cons_succ])
          refine wpAnyH_take (i := 9) (v := ?_) rfl (by kernel_rfl) (by kernel_rfl) (by kernel_rfl) (fun _ _ _ h => h) (Or.inl ⟨by rfl, ?_⟩) (by assumption) ?_
          rotate_left
          · (intro wx hSw; have y0 := hSw.1; have y1 := hlt; have y2 := hlti; have y3 := g0'; have y4 := g1; go_simp; (try with_reducible rfl); (try omega))
          (try simp only [Act.put, List.setIfInBounds_toArray, List.set_cons_zero, List.set_cons_succ, List.getElem_toArray, List.getElem_cons_zero, List.getElem_cons_succ])
          refine wpAnyH_take (i := 10) (v := ?_) rfl (by kernel_rfl) (by kernel_rfl) (by kernel_rfl) (fun _ _ _ h => h) (Or.inl ⟨by rfl, ?_⟩) (by assumption) ?_
          rotate_left
          · (intro wx hSw; have y0 := hSw.1; have y1 := hlt; have y2 := hlti; have y3 := g0'; have y4 := g1; go_simp; (try with_reducible rfl); (try omega))
          (try simp only [Act.put, List.setIfInBounds_toArray, List.set_cons_zero, List.set_cons_succ, List.getElem_toArray, List.getElem_cons_zero, List.getElem_cons_succ])
          refine wpAnyH_take (i := 11) (v := ?_) rfl (by kernel_rfl) (by kernel_rfl) (by kernel_rfl) (fun _ _ _ h => h) (Or.inl ⟨by rfl, ?_⟩) (by assumption) ?_
          rotate_left
          · (intro wx hSw; have y0 := hSw.1; have y1 := hlt; have y2 := hlti; have y3 := g0'; have y4 := g1; go_simp; (try with_reducible rfl); (try omega))
          (try simp only [Act.put, List.setIfInBounds_toArray, List.set_cons_zero, List.set_cons_succ, List.getElem_toArray, List.getElem_cons_zero, List.getElem_cons_succ])
          refine wpAnyH_take (i := 12) (v := ?_) rfl (by kernel_rfl) (by kernel_rfl) (by kernel_rfl) (fun _ _ _ h => h) (Or.inl ⟨by rfl, ?_⟩) (by assumption) ?_
          rotate_left
          · (intro wx hSw; have y0 := hSw.1; have y1 := hlt; have y2 := hlti; have y3 := g0'; have y4 := g1; go_simp; (try with_reducible rfl); (try omega))
          (try simp only [Act.put, List.setIfInBounds_toArray, List.set_cons_zero, List.set_cons_succ, List.getElem_toArray, List.getElem_cons_zero, List.getElem_cons_succ])
          refine wpAnyH_take (i := 13) (v := ?_) rfl (by kernel_rfl) (by kernel_rfl) (by kernel_rfl) (fun _ _ _ h => h) (Or.inl ⟨by rfl, ?_⟩) (by assumption) ?_
          rotate_left
          · (intro wx hSw; have y0 := hSw.1; have y1 := hlt; have y2 := hlti; have y3 := g0'; have y4 := g1; go_simp; (try with_reducible rfl); (try omega))
          (try simp only [Act.put, List.setIfInBounds_toArray, List.set_cons_zero, List.set_cons_succ, List.getElem_toArray, List.getElem_cons_zero, List.getElem_cons_succ])
          refine wpAnyH_take (i := 14) (v := ?_) rfl (by kernel_rfl) (by kernel_rfl) (by kernel_rfl) (fun _ _ _ h => h) (Or.inl ⟨by rfl, ?_⟩) (by assumption) ?_
          rotate_left
          · (intro wx hSw; have y0 := hSw.1; have y1 := hlt; have y2 := hlti; have y3 := g0'; have y4 := g1; go_simp; (try with_reducible rfl); (try omega))
          (try simp only [Act.put, List.setIfInBounds_toArray, List.set_cons_zero, List.set_cons_succ, List.getElem_toArray, List.getElem_cons_zero, List.getElem_cons_succ])
          refine wpAnyH_take (i := 15) (v := undef) rfl (by kernel_rfl) (by kernel_rfl) (by kernel_rfl) (fun _ _ _ h => h) (Or.inr ⟨by rfl, rfl⟩) (by assumption) ?_
          (try simp only [Act.put, List.setIfInBounds_toArray, List.set_cons_zero, List.set_cons_succ, List.getElem_toArray, List.getElem_cons_zero, List.getElem_cons_succ])
          refine wpAnyH_take (i := 16) (v := undef) rfl (by kernel_rfl) (by kernel_rfl) (by kernel_rfl) (fun _ _ _ h => h) (Or.inr ⟨by rfl, rfl⟩) (by assumption) ?_
          (try simp only [Act.put, List.setIfInBounds_toArray, List.set_cons_zero, List.set_cons_succ, List.getElem_toArray, List.getElem_cons_zero, List.getElem_cons_succ])
          refine wpAnyH_take (i := 17) (v := undef) rfl (by kernel_rfl) (by kernel_rfl) (by kernel_rfl) (fun _ _ _ h => h) (Or.inr ⟨by rfl, rfl⟩) (by assumption) ?_
          (try simp only [Act.put, List.setIfInBounds_toArray, List.set_cons_zero, List.set_cons_succ, List.getElem_toArray, List.getElem_cons_zero, List.getElem_cons_succ])
          refine wpAnyH_take (i := 18) (v := undef) rfl (by kernel_rfl) (by kernel_rfl) (by kernel_rfl) (fun _ _ _ h => h) (Or.inr ⟨by rfl, rfl⟩) (by assumption) ?_
          (try simp only [Act.put, List.setIfInBounds_toArray, List.set_cons_zero, List.set_cons_succ, List.getElem_toArray, List.getElem_cons_zero, List.getElem_cons_succ])
          refine wpAnyH_take (i := 19) (v := undef) rfl (by kernel_rfl) (by kernel_rfl) (by kernel_rfl) (fun _ _ _ h => h) (Or.inr ⟨by rfl, rfl⟩) (by assumption) ?_
          (try simp only [Act.put, List.setIfInBounds_toArray, List.set_cons_zero, List.set_cons_succ, List.getElem_toArray, List.getElem_cons_zero, List.getElem_cons_succ])
          refine wpAnyH_take (i := 20) (v := undef) rfl (by kernel_rfl) (by kernel_rfl) (by kernel_rfl) (fun _ _ _ h => h) (Or.inr ⟨by rfl, rfl⟩) (by assumption) ?_
          (try simp only [Act.put, List.setIfInBounds_toArray, List.set_cons_zero, List.set_cons_succ, List.getElem_toArray, List.getElem_cons_zero, List.getElem_cons_succ])
          refine wpAnyH_take (i := 21) (v := ?_) rfl (by kernel_rfl) (by kernel_rfl) (by kernel_rfl) (fun _ _ _ h => h) (Or.inl ⟨by rfl, ?_⟩) (by assumption) ?_
          rotate_left
          · (intro wx hSw; have y0 := hSw.1; have y1 := hlt; have y2 := hlti; have y3 := g0'; have y4 := g1; go_simp; (try with_reducible rfl); (try omega))
          (try simp only [Act.put, List.setIfInBounds_toArray, List.set_cons_zero, List.set_cons_succ, List.getElem_toArray, List.getElem_cons_zero, List.getElem_cons_succ])
          refine wpAnyH_take (i := 22) (v := ?_) rfl (by kernel_rfl) (by kernel_rfl) (by kernel_rfl) (fun _ _ _ h => h) (Or.inl ⟨by rfl, ?_⟩) (by assumption) ?_
          rotate_left
          · (intro wx hSw; have y0 := hSw.1; have y1 := hlt; have y2 := hlti; have y3 := g0'; have y4 := g1; go_simp; (try with_reducible rfl); (try omega))
          (try simp only [Act.put, List.setIfInBounds_toArray, List.set_cons_zero, List.set_cons_succ, List.getElem_toArray, List.getElem_cons_zero, List.getElem_cons_succ])
          refine wpAnyH_take (i := 23) (v := undef) rfl (by kernel_rfl) (by kernel_rfl) (by kernel_rfl) (fun _ _ _ h => h) (Or.inr ⟨by rfl, rfl⟩) (by assumption) ?_
          (try simp only [Act.put, List.setIfInBounds_toArray, List.set_cons_zero, List.set_cons_succ, List.getElem_toArray, List.getElem_cons_zero, List.getElem_cons_succ])
          refine wpAnyH_take (i := 24) (v := undef) rfl (by kernel_rfl) (by kernel_rfl) (by kernel_rfl) (fun _ _ _ h => h) (Or.inr ⟨by rfl, rfl⟩) (by assumption) ?_
          (try simp only [Act.put, List.setIfInBounds_toArray, List.set_cons_zero, List.set_cons_succ, List.getElem_toArray, List.getElem_cons_zero, List.getElem_cons_succ])
          refine wpAnyH_take (i := 25) (v := undef) rfl (by kernel_rfl) (by kernel_rfl) (by kernel_rfl) (fun _ _ _ h => h) (Or.inr ⟨by rfl, rfl⟩) (by assumption) ?_
          (try simp only [Act.put, List.setIfInBounds_toArray, List.set_cons_zero, List.set_cons_succ, List.getElem_toArray, List.getElem_cons_zero, List.getElem_cons_succ])
          refine wpAnyH_take (i := 26) (v := undef) rfl (by kernel_rfl) (by kernel_rfl) (by kernel_rfl) (fun _ _ _ h => h) (Or.inr ⟨by rfl, rfl⟩) (by assumption) ?_
          (try simp only [Act.put, List.setIfInBounds_toArray, List.set_cons_zero, List.set_cons_succ, List.getElem_toArray, List.getElem_cons_zero, List.getElem_cons_succ])
          refine wpAnyH_take (i := 27) (v := undef) rfl (by kernel_rfl) (by kernel_rfl) (by kernel_rfl) (fun _ _ _ h => h) (Or.inr ⟨by rfl, rfl⟩) (by assumption) ?_
          (try simp only [Act.put, List.setIfInBounds_toArray, List.set_cons_zero, List.set_cons_succ, List.getElem_toArray, List.getElem_cons_zero, List.getElem_cons_succ])
          refine wpAnyH_take (i := 28) (v := undef) rfl (by kernel_rfl) (by kernel_rfl) (by kernel_rfl) (fun _ _ _ h => h) (Or.inr ⟨by rfl, rfl⟩) (by assumption) ?_
          (try simp only [Act.put, List.setIfInBounds_toArray, List.set_cons_zero, List.set_cons_succ, List.getElem_toArray, List.getElem_cons_zero, List.getElem_cons_succ])
          refine wpAnyH_take (i := 29) (v := undef) rfl (by kernel_rfl) (by kernel_rfl) (by kernel_rfl) (fun _ _ _ h => h) (Or.inr ⟨by rfl, rfl⟩) (by assumption) ?_
          (try simp only [Act.put, List.setIfInBounds_toArray, List.set_cons_zero, List.set_cons_succ, List.getElem_toArray, List.getElem_cons_zero, List.getElem_cons_succ])
          refine wpAnyH_take (i := 30) (v := undef) rfl (by kernel_rfl) (by kernel_rfl) (by kernel_rfl) (fun _ _ _ h => h) (Or.inr ⟨by rfl, rfl⟩) (by assumption) ?_
          (try simp only [Act.put, List.setIfInBounds_toArray, List.set_cons_zero, List.set_cons_succ, List.getElem_toArray, List.getElem_cons_zero, List.getElem_cons_succ])
          refine wpAnyH_take (i := 31) (v := undef) rfl (by kernel_rfl) (by kernel_rfl) (by kernel_rfl) (fun _ _ _ h => h) (Or.inr ⟨by rfl, rfl⟩) (by assumption) ?_
          (try simp only [Act.put, List.setIfInBounds_toArray, List.set_cons_zero, List.set_cons_succ, List.getElem_toArray, List.getElem_cons_zero, List.getElem_cons_succ])
          refine wpAnyH_take (i := 32) (v := undef) rfl (by kernel_rfl) (by kernel_rfl) (by kernel_rfl) (fun _ _ _ h => h) (Or.inr ⟨by rfl, rfl⟩) (by assumption) ?_
          (try simp only [Act.put, List.setIfInBounds_toArray, List.set_cons_zero, List.set_cons_succ, List.getElem_toArray, List.getElem_cons_zero, List.getElem_cons_succ])
          refine wpAnyH_take (i := 33) (v := undef) rfl (by kernel_rfl) (by kernel_rfl) (by kernel_rfl) (fun _ _ _ h => h) (Or.inr ⟨by rfl, rfl⟩) (by assumption) ?_
          (try simp only [Act.put, List.setIfInBounds_toArray, List.set_cons_zero, List.set_cons_succ, List.getElem_toArray, List.getElem_cons_zero, List.getElem_cons_succ])
          refine wpAnyH_take (i := 34) (v := undef) rfl (by kernel_rfl) (by kernel_rfl) (by kernel_rfl) (fun _ _ _ h => h) (Or.inr ⟨by rfl, rfl⟩) (by assumption) ?_
          (try simp only [Act.put, List.setIfInBounds_toArray, List.set_cons_zero, List.set_cons_succ, List.getElem_toArray, List.getElem_cons_zero, List.getElem_cons_succ])
          refine wpAnyH_take (i := 35) (v := undef) rfl (by kernel_rfl) (by kernel_rfl) (by kernel_rfl) (fun _ _ _ h => h) (Or.inr ⟨by rfl, rfl⟩) (by assumption) ?_
          (try simp only [Act.put, List.setIfInBounds_toArray, List.set_cons_zero, List.set_cons_succ, List.getElem_toArray, List.getElem_cons_zero, List.getElem_cons_succ])
          refine wpAnyH_take (i := 36) (v := undef) rfl (by kernel_rfl) (by kernel_rfl) (by kernel_rfl) (fun _ _ _ h => h) (Or.inr ⟨by rfl, rfl⟩) (by assumption) ?_
          (try simp only [Act.put, List.setIfInBounds_toArray, List.set_cons_zero, List.set_cons_succ, List.getElem_toArray, List.getElem_cons_zero, List.getElem_cons_succ])
          refine wpAnyH_take (i := 37) (v := undef) rfl (by kernel_rfl) (by kernel_rfl) (by kernel_rfl) (fun _ _ _ h => h) (Or.inr ⟨by rfl, rfl⟩) (by assumption) ?_
          (try simp only [Act.put, List.setIfInBounds_toArray, List.set_cons_zero, List.set_cons_succ, List.getElem_toArray, List.getElem_cons_zero, List.getElem_cons_succ])
          refine wpAnyH_take (i := 38) (v := undef) rfl (by kernel_rfl) (by kernel_rfl) (by kernel_rfl) (fun _ _ _ h => h) (Or.inr ⟨by rfl, rfl⟩) (by assumption) ?_
          (try simp only [Act.put, List.setIfInBounds_toArray, List.set_cons_zero, List.set_cons_succ, List.getElem_toArray, List.getElem_cons_zero, List.getElem_cons_succ])
          refine wpAnyH_take (i := 39) (v := undef) rfl (by kernel_rfl) (by kernel_rfl) (by kernel_rfl) (fun _ _ _ h => h) (Or.inr ⟨by rfl, rfl⟩) (by assumption) ?_
          (try simp only [Act.put, List.setIfInBounds_toArray, List.set_cons_zero, List.set_cons_succ, List.getElem_toArray, List.getElem_cons_zero, List.getElem_cons_succ])
          refine wpAnyH_take (i := 40) (v := ?_) rfl (by kernel_rfl) (by kernel_rfl) (by kernel_rfl) (fun _ _ _ h => h) (Or.inl ⟨by rfl, ?_⟩) (by assumption) ?_
          rotate_left
          · (intro wx hSw; have y0 := hSw.1; have y1 := hlt; have y2 := hlti; have y3 := g0'; have y4 := g1; go_simp; (try with_reducible rfl); (try omega))
          (try simp only [Act.put, List.setIfInBounds_toArray, List.set_cons_zero, List.set_cons_succ, List.getElem_toArray, List.getElem_cons_zero, List.getElem_cons_succ])
          refine wpAnyH_done (by kernel_rfl) ?_ _
          clear hHeld
          have hB9 := hS.2
          clear hS
          go_wp2_with fail
          go_ret
          exact ⟨ret_bool (by rw [← HR.out, hbad.out HK.out]), hB9⟩
      have g1' : decide (1099511627776 < x) = false := by simp; omega
      by_cases g2 : x < -1099511627776
      · have HK := hid0 (show rightAt E i = false by rw [HRA.out, HOKX.out]; unfold okR; simp [g2])
        as_aux_lemma =>
          have hS : (fun w' => w'.cell? ⟨b1, o1 + i * 2 + 1, none⟩ = some (.int .i64 x) ∧ Below w.heap.size w w') wr.drew := ⟨q1, Below.drew hB⟩
          clear q0 q1 hB
          go_wp2_with fail
          refine wp_region_held_drew (S := fun w' => w'.cell? ⟨b1, o1 + i * 2 + 1, none⟩ = some (.int .i64 x) ∧ Below w.heap.size w w') (by kernel_rfl) hS (fun hHeld => ?_)
          refine wpAnyH_take (i := 0) (v := ?_) rfl (by kernel_rfl) (by kernel_rfl) (by kernel_rfl) (fun _ _ _ h => h) (Or.inl ⟨by rfl, ?_⟩) (by assumption) ?_
          rotate_left
          · (intro wx hSw; have y0 := hSw.1; have y1 := hlt; have y2 := hlti; have y3 := g0'; have y4 := g1'; have y5 := g2; go_simp; (try with_reducible rfl); (try omega))
          (try simp only [Act.put, List.setIfInBounds_toArray, List.set_cons_zero, List.set_cons_succ, List.getElem_toArray, List.getElem_cons_zero])
          refine wpAnyH_take (i := 1) (v := ?_) rfl (by kernel_rfl) (by kernel_rfl) (by kernel_rfl) (fun _ _ _ h => h) (Or.inl ⟨by rfl, ?_⟩) (by assumption) ?_
          rotate_left
          · (intro wx hSw; have y0 := hSw.1; have y1 := hlt; have y2 := hlti; have y3 := g0'; have y4 := g1'; have y5 := g2; go_simp; (try with_reducible rfl); (try omega))
          (try simp only [Act.put, List.setIfInBounds_toArray, List.set_cons_zero, List.set_cons_succ, List.getElem_toArray, List.getElem_cons_zero, List.getElem_cons_succ])
          refine wpAnyH_take (i := 2) (v := ?_) rfl (by kernel_rfl) (by kernel_rfl) (by kernel_rfl) (fun _ _ _ h => h) (Or.inl ⟨by rfl, ?_⟩) (by assumption) ?_
          rotate_left
          · (intro wx hSw; have y0 := hSw.1; have y1 := hlt; have y2 := hlti; have y3 := g0'; have y4 := g1'; have y5 := g2; go_simp; (try with_reducible rfl); (try omega))
          (try simp only [Act.put, List.setIfInBounds_toArray, List.set_cons_zero, List.set_cons_succ, List.getElem_toArray, List.getElem_cons_zero, List.getElem_cons_succ])
          refine wpAnyH_take (i := 3) (v := ?_) rfl (by kernel_rfl) (by kernel_rfl) (by kernel_rfl) (fun _ _ _ h => h) (Or.inl ⟨by rfl, ?_⟩) (by assumption) ?_
          rotate_left
          · (intro wx hSw; have y0 := hSw.1; have y1 := hlt; have y2 := hlti; have y3 := g0'; have y4 := g1'; have y5 := g2; go_simp; (try with_reducible rfl); (try omega))
          (try simp only [Act.put, List.setIfInBounds_toArray, List.set_cons_zero, List.set_cons_succ, List.getElem_toArray, List.getElem_cons_zero, List.getElem_cons_succ])
          refine wpAnyH_take (i := 4) (v := ?_) rfl (by kernel_rfl) (by kernel_rfl) (by kernel_rfl) (fun _ _ _ h => h) (Or.inl ⟨by rfl, ?_⟩) (by assumption) ?_
          rotate_left
          · (intro wx hSw; have y0 := hSw.1; have y1 := hlt; have y2 := hlti; have y3 := g0'; have y4 := g1'; have y5 := g2; go_simp; (try with_reducible rfl); (try omega))
          (try simp only [Act.put, List.setIfInBounds_toArray, List.set_cons_zero, List.set_cons_succ, List.getElem_toArray, List.getElem_cons_zero, List.getElem_cons_succ])
          refine wpAnyH_take (i := 5) (v := ?_) rfl (by kernel_rfl) (by kernel_rfl) (by kernel_rfl) (fun _ _ _ h => h) (Or.inl ⟨by rfl, ?_⟩) (by assumption) ?_
          rotate_left
          · (intro wx hSw; have y0 := hSw.1; have y1 := hlt; have y2 := hlti; have y3 := g0'; have y4 := g1'; have y5 := g2; go_simp; (try with_reducible rfl); (try omega))
          (try simp only [Act.put, List.setIfInBounds_toArray, List.set_cons_zero, List.set_cons_succ, List.getElem_toArray, List.getElem_cons_zero, List.getElem_cons_succ])
          refine wpAnyH_take (i := 6) (v := ?_) rfl (by kernel_rfl) (by kernel_rfl) (by kernel_rfl) (fun _ _ _ h => h) (Or.inl ⟨by rfl, ?_⟩) (by assumption) ?_
          rotate_left
          · (intro wx hSw; have y0 := hSw.1; have y1 := hlt; have y2 := hlti; have y3 := g0'; have y4 := g1'; have y5 := g2; go_simp; (try with_reducible rfl); (try omega))
          (try simp only [Act.put, List.setIfInBounds_toArray, List.set_cons_zero, List.set_cons_succ, List.getElem_toArray, List.getElem_cons_zero, List.getElem_cons_succ])
          refine wpAnyH_take (i := 7) (v := ?_) rfl (by kernel_rfl) (by kernel_rfl) (by kernel_rfl) (fun _ _ _ h => h) (Or.inl ⟨by rfl, ?_⟩) (by assumption) ?_
          rotate_left
          · (intro wx hSw; have y0 := hSw.1; have y1 := hlt; have y2 := hlti; have y3 := g0'; have y4 := g1'; have y5 := g2; go_simp; (try with_reducible rfl); (try omega))
          (try simp only [Act.put, List.setIfInBounds_toArray, List.set_cons_zero, List.set_cons_succ, List.getElem_toArray, List.getElem_cons_zero, List.getElem_cons_succ])
          refine wpAnyH_take (i := 8) (v := ?_) rfl (by kernel_rfl) (by kernel_rfl) (by kernel_rfl) (fun _ _ _ h => h) (Or.inl ⟨by rfl, ?_⟩) (by assumption) ?_
          rotate_left
          · (intro wx hSw; have y0 := hSw.1; have y1 := hlt; have y2 := hlti; have y3 := g0'; have y4 := g1'; have y5 := g2; go_simp; (try with_reducible rfl); (try omega))
          (try simp only [Act.put, List.setIfInBounds_toArray, List.set_cons_zero, List.set_cons_succ, List.getElem_toArray, List.getElem_cons_zero, List.getElem_cons_succ])
          refine wpAnyH_take (i := 9) (v := ?_) rfl (by kernel_rfl) (by kernel_rfl) (by kernel_rfl) (fun _ _ _ h => h) (Or.inl ⟨by rfl, ?_⟩) (by assumption) ?_
          rotate_left
          · (intro wx hSw; have y0 := hSw.1; have y1 := hlt; have y2 := hlti; have y3 := g0'; have y4 := g1'; have y5 := g2; go_simp; (try with_reducible rfl); (try omega))
          (try simp only [Act.put, List.setIfInBounds_toArray, List.set_cons_zero, List.set_cons_succ, List.getElem_toArray, List.getElem_cons_zero, List.getElem_cons_succ])
          refine wpAnyH_take (i := 10) (v := ?_) rfl (by kernel_rfl) (by kernel_rfl) (by kernel_rfl) (fun _ _ _ h => h) (Or.inl ⟨by rfl, ?_⟩) (by assumption) ?_
          rotate_left
          · (intro wx hSw; have y0 := hSw.1; have y1 := hlt; have y2 := hlti; have y3 := g0'; have y4 := g1'; have y5 := g2; go_simp; (try with_reducible rfl); (try omega))
          (try simp only [Act.put, List.setIfInBounds_toArray, List.set_cons_zero, List.set_cons_succ, List.getElem_toArray, List.getElem_cons_zero, List.getElem_cons_succ])
          refine wpAnyH_take (i := 11) (v := ?_) rfl (by kernel_rfl) (by kernel_rfl) (by kernel_rfl) (fun _ _ _ h => h) (Or.inl ⟨by rfl, ?_⟩) (by assumption) ?_
          rotate_left
          · (intro wx hSw; have y0 := hSw.1; have y1 := hlt; have y2 := hlti; have y3 := g0'; have y4 := g1'; have y5 := g2; go_simp; (try with_reducible rfl); (try omega))
          (try simp only [Act.put, List.setIfInBounds_toArray, List.set_cons_zero, List.set_cons_succ, List.getElem_toArray, List.getElem_cons_zero, List.getElem_cons_succ])
          refine wpAnyH_take (i := 12) (v := ?_) rfl (by kernel_rfl) (by kernel_rfl) (by kernel_rfl) (fun _ _ _ h => h) (Or.inl ⟨by rfl, ?_⟩) (by assumption) ?_
          rotate_left
          · (intro wx hSw; have y0 := hSw.1; have y1 := hlt; have y2 := hlti; have y3 := g0'; have y4 := g1'; have y5 := g2; go_simp; (try with_reducible rfl); (try omega))
          (try simp only [Act.put, List.setIfInBounds_toArray, List.set_cons_zero, List.set_cons_succ, List.getElem_toArray, List.getElem_cons_zero, List.getElem_cons_succ])
          refine wpAnyH_take (i := 13) (v := ?_) rfl (by kernel_rfl) (by kernel_rfl) (by kernel_rfl) (fun _ _ _ h => h) (Or.inl ⟨by rfl, ?_⟩) (by assumption) ?_
          rotate_left
          · (intro wx hSw; have y0 := hSw.1; have y1 := hlt; have y2 := hlti; have y3 := g0'; have y4 := g1'; have y5 := g2; go_simp; (try with_reducible rfl); (try omega))
          (try simp only [Act.put, List.setIfInBounds_toArray, List.set_cons_zero, List.set_cons_succ, List.getElem_toArray, List.getElem_cons_zero, List.getElem_cons_succ])
          refine wpAnyH_take (i := 14) (v := ?_) rfl (by kernel_rfl) (by kernel_rfl) (by kernel_rfl) (fun _ _ _ h => h) (Or.inl ⟨by rfl, ?_⟩) (by assumption) ?_
          rotate_left
          · (intro wx hSw; have y0 := hSw.1; have y1 := hlt; have y2 := hlti; have y3 := g0'; have y4 := g1'; have y5 := g2; go_simp; (try with_reducible rfl); (try omega))
          (try simp only [Act.put, List.setIfInBounds_toArray, List.set_cons_zero, List.set_cons_succ, List.getElem_toArray, List.getElem_cons_zero, List.getElem_cons_succ])
          refine wpAnyH_take (i := 15) (v := ?_) rfl (by kernel_rfl) (by kernel_rfl) (by kernel_rfl) (fun _ _ _ h => h) (Or.inl ⟨by rfl, ?_⟩) (by assumption) ?_
          rotate_left
          · (intro wx hSw; have y0 := hSw.1; have y1 := hlt; have y2 := hlti; have y3 := g0'; have y4 := g1'; have y5 := g2; go_simp; (try with_reducible rfl); (try omega))
          (try simp only [Act.put, List.setIfInBounds_toArray, List.set_cons_zero, List.set_cons_succ, List.getElem_toArray, List.getElem_cons_zero, List.getElem_cons_succ])
          refine wpAnyH_take (i := 16) (v := ?_) rfl (by kernel_rfl) (by kernel_rfl) (by kernel_rfl) (fun _ _ _ h => h) (Or.inl ⟨by rfl, ?_⟩) (by assumption) ?_
          rotate_left
          · (intro wx hSw; have y0 := hSw.1; have y1 := hlt; have y2 := hlti; have y3 := g0'; have y4 := g1'; have y5 := g2; go_simp; (try with_reducible rfl); (try omega))
          (try simp only [Act.put, List.setIfInBounds_toArray, List.set_cons_zero, List.set_cons_succ, List.getElem_toArray, List.getElem_cons_zero, List.getElem_cons_succ])
          refine wpAnyH_take (i := 17) (v := ?_) rfl (by kernel_rfl) (by kernel_rfl) (by kernel_rfl) (fun _ _ _ h => h) (Or.inl ⟨by rfl, ?_⟩) (by assumption) ?_
          rotate_left
          · (intro wx hSw; have y0 := hSw.1; have y1 := hlt; have y2 := hlti; have y3 := g0'; have y4 := g1'; have y5 := g2; go_simp; (try with_reducible rfl); (try omega))
          (try simp only [Act.put, List.setIfInBounds_toArray, List.set_cons_zero, List.set_cons_succ, List.getElem_toArray, List.getElem_cons_zero, List.getElem_cons_succ])
          refine wpAnyH_take (i := 18) (v := ?_) rfl (by kernel_rfl) (by kernel_rfl) (by kernel_rfl) (fun _ _ _ h => h) (Or.inl ⟨by rfl, ?_⟩) (by assumption) ?_
          rotate_left
          · (intro wx hSw; have y0 := hSw.1; have y1 := hlt; have y2 := hlti; have y3 := g0'; have y4 := g1'; have y5 := g2; go_simp; (try with_reducible rfl); (try omega))
          (try simp only [Act.put, List.setIfInBounds_toArray, List.set_cons_zero, List.set_cons_succ, List.getElem_toArray, List.getElem_cons_zero, List.getElem_cons_succ])
          refine wpAnyH_take (i := 19) (v := ?_) rfl (by kernel_rfl) (by kernel_rfl) (by kernel_rfl) (fun _ _ _ h => h) (Or.inl ⟨by rfl, ?_⟩) (by assumption) ?_
          rotate_left
          · (intro wx hSw; have y0 := hSw.1; have y1 := hlt; have y2 := hlti; have y3 := g0'; have y4 := g1'; have y5 := g2; go_simp; (try with_reducible rfl); (try omega))
          (try simp only [Act.put, List.setIfInBounds_toArray, List.set_cons_zero, List.set_cons_succ, List.getElem_toArray, List.getElem_cons_zero, List.getElem_cons_succ])
          refine wpAnyH_take (i := 20) (v := ?_) rfl (by kernel_rfl) (by kernel_rfl) (by kernel_rfl) (fun _ _ _ h => h) (Or.inl ⟨by rfl, ?_⟩) (by assumption) ?_
          rotate_left
          · (intro wx hSw; have y0 := hSw.1; have y1 := hlt; have y2 := hlti; have y3 := g0'; have y4 := g1'; have y5 := g2; go_simp; (try with_reducible rfl); (try omega))
          (try simp only [Act.put, List.setIfInBounds_toArray, List.set_cons_zero, List.set_cons_succ, List.getElem_toArray, List.getElem_cons_zero, List.getElem_cons_succ])
          refine wpAnyH_take (i := 21) (v := ?_) rfl (by kernel_rfl) (by kernel_rfl) (by kernel_rfl) (fun _ _ _ h => h) (Or.inl ⟨by rfl, ?_⟩) (by assumption) ?_
          rotate_left
          · (intro wx hSw; have y0 := hSw.1; have y1 := hlt; have y2 := hlti; have y3 := g0'; have y4 := g1'; have y5 := g2; go_simp; (try with_reducible rfl); (try omega))
          (try simp only [Act.put, List.setIfInBounds_toArray, List.set_cons_zero, List.set_cons_succ, List.getElem_toArray, List.getElem_cons_zero, List.getElem_cons_succ])
          refine wpAnyH_take (i := 22) (v := ?_) rfl (by kernel_rfl) (by kernel_rfl) (by kernel_rfl) (fun _ _ _ h => h) (Or.inl ⟨by rfl, ?_⟩) (by assumption) ?_
          rotate_left
          · (intro wx hSw; have y0 := hSw.1; have y1 := hlt; have y2 := hlti; have y3 := g0'; have y4 := g1'; have y5 := g2; go_simp; (try with_reducible rfl); (try omega))
          (try simp only [Act.put, List.setIfInBounds_toArray, List.set_cons_zero, List.set_cons_succ, List.getElem_toArray, List.getElem_cons_zero, List.getElem_cons_succ])
          refine wpAnyH_take (i := 23) (v := undef) rfl (by kernel_rfl) (by kernel_rfl) (by kernel_rfl) (fun _ _ _ h => h) (Or.inr ⟨by rfl, rfl⟩) (by assumption) ?_
          (try simp only [Act.put, List.setIfInBounds_toArray, List.set_cons_zero, List.set_cons_succ, List.getElem_toArray, List.getElem_cons_zero, List.getElem_cons_succ])
          refine wpAnyH_take (i := 24) (v := undef) rfl (by kernel_rfl) (by kernel_rfl) (by kernel_rfl) (fun _ _ _ h => h) (Or.inr ⟨by rfl, rfl⟩) (by assumption) ?_
          (try simp only [Act.put, List.setIfInBounds_toArray, List.set_cons_zero, List.set_cons_succ, List.getElem_toArray, List.getElem_cons_zero, List.getElem_cons_succ])
          refine wpAnyH_take (i := 25) (v := undef) rfl (by kernel_rfl) (by kernel_rfl) (by kernel_rfl) (fun _ _ _ h => h) (Or.inr ⟨by rfl, rfl⟩) (by assumption) ?_
          (try simp only [Act.put, List.setIfInBounds_toArray, List.set_cons_zero, List.set_cons_succ, List.getElem_toArray, List.getElem_cons_zero, List.getElem_cons_succ])
          refine wpAnyH_take (i := 26) (v := undef) rfl (by kernel_rfl) (by kernel_rfl) (by kernel_rfl) (fun _ _ _ h => h) (Or.inr ⟨by rfl, rfl⟩) (by assumption) ?_
          (try simp only [Act.put, List.setIfInBounds_toArray, List.set_cons_zero, List.set_cons_succ, List.getElem_toArray, List.getElem_cons_zero, List.getElem_cons_succ])
          refine wpAnyH_take (i := 27) (v := undef) rfl (by kernel_rfl) (by kernel_rfl) (by kernel_rfl) (fun _ _ _ h => h) (Or.inr ⟨by rfl, rfl⟩) (by assumption) ?_
          (try simp only [Act.put, List.setIfInBounds_toArray, List.set_cons_zero, List.set_cons_succ, List.getElem_toArray, List.getElem_cons_zero, List.getElem_cons_succ])
          refine wpAnyH_take (i := 28) (v := undef) rfl (by kernel_rfl) (by kernel_rfl) (by kernel_rfl) (fun _ _ _ h => h) (Or.inr ⟨by rfl, rfl⟩) (by assumption) ?_
          (try simp only [Act.put, List.setIfInBounds_toArray, List.set_cons_zero, List.set_cons_succ, List.getElem_toArray, List.getElem_cons_zero, List.getElem_cons_succ])
          refine wpAnyH_take (i := 29) (v := undef) rfl (by kernel_rfl) (by kernel_rfl) (by kernel_rfl) (fun _ _ _ h => h) (Or.inr ⟨by rfl, rfl⟩) (by assumption) ?_
          (try simp only [Act.put, List.setIfInBounds_toArray, List.set_cons_zero, List.set_cons_succ, List.getElem_toArray, List.getElem_cons_zero, List.getElem_cons_succ])
          refine wpAnyH_take (i := 30) (v := undef) rfl (by kernel_rfl) (by kernel_rfl) (by kernel_rfl) (fun _ _ _ h => h) (Or.inr ⟨by rfl, rfl⟩) (by assumption) ?_
          (try simp only [Act.put, List.setIfInBounds_toArray, List.set_cons_zero, List.set_cons_succ, List.getElem_toArray, List.getElem_cons_zero, List.getElem_cons_succ])
          refine wpAnyH_take (i := 31) (v := undef) rfl (by kernel_rfl) (by kernel_rfl) (by kernel_rfl) (fun _ _ _ h => h) (Or.inr ⟨by rfl, rfl⟩) (by assumption) ?_
          (try simp only [Act.put, List.setIfInBounds_toArray, List.set_cons_zero, List.set_cons_succ, List.getElem_toArray, List.getElem_cons_zero, List.getElem_cons_succ])
          refine wpAnyH_take (i := 32) (v := undef) rfl (by kernel_rfl) (by kernel_rfl) (by kernel_rfl) (fun _ _ _ h => h) (Or.inr ⟨by rfl, rfl⟩) (by assumption) ?_
          (try simp only [Act.put, List.setIfInBounds_toArray, List.set_cons_zero, List.set_cons_succ, List.getElem_toArray, List.getElem_cons_zero, List.getElem_cons_succ])
          refine wpAnyH_take (i := 33) (v := undef) rfl (by kernel_rfl) (by kernel_rfl) (by kernel_rfl) (fun _ _ _ h => h) (Or.inr ⟨by rfl, rfl⟩) (by assumption) ?_
          (try simp only [Act.put, List.setIfInBounds_toArray, List.set_cons_zero, List.set_cons_succ, List.getElem_toArray, List.getElem_cons_zero, List.getElem_cons_succ])
          refine wpAnyH_take (i := 34) (v := undef) rfl (by kernel_rfl) (by kernel_rfl) (by kernel_rfl) (fun _ _ _ h => h) (Or.inr ⟨by rfl, rfl⟩) (by assumption) ?_
          (try simp only [Act.put, List.setIfInBounds_toArray, List.set_cons_zero, List.set_cons_succ, List.getElem_toArray, List.getElem_cons_zero, List.getElem_cons_succ])
          refine wpAnyH_take (i := 35) (v := undef) rfl (by kernel_rfl) (by kernel_rfl) (by kernel_rfl) (fun _ _ _ h => h) (Or.inr ⟨by rfl, rfl⟩) (by assumption) ?_
          (try simp only [Act.put, List.setIfInBounds_toArray, List.set_cons_zero, List.set_cons_succ, List.getElem_toArray, List.getElem_cons_zero, List.getElem_cons_succ])
          refine wpAnyH_take (i := 36) (v := undef) rfl (by kernel_rfl) (by kernel_rfl) (by kernel_rfl) (fun _ _ _ h => h) (Or.inr ⟨by rfl, rfl⟩) (by assumption) ?_
          (try simp only [Act.put, List.setIfInBounds_toArray, List.set_cons_zero, List.set_cons_succ, List.getElem_toArray, List.getElem_cons_zero, List.getElem_cons_succ])
          refine wpAnyH_take (i := 37) (v := undef) rfl (by kernel_rfl) (by kernel_rfl) (by kernel_rfl) (fun _ _ _ h => h) (Or.inr ⟨by rfl, rfl⟩) (by assumption) ?_
          (try simp only [Act.put, List.setIfInBounds_toArray, List.set_cons_zero, List.set_cons_succ, List.getElem_toArray, List.getElem_cons_zero, List.getElem_cons_succ])
          refine wpAnyH_take (i := 38) (v := undef) rfl (by kernel_rfl) (by kernel_rfl) (by kernel_rfl) (fun _ _ _ h => h) (Or.inr ⟨by rfl, rfl⟩) (by assumption) ?_
          (try simp only [Act.put, List.setIfInBounds_toArray, List.set_cons_zero, List.set_cons_succ, List.getElem_toArray, List.getElem_cons_zero, List.getElem_cons_succ])
          refine wpAnyH_take (i := 39) (v := undef) rfl (by kernel_rfl) (by kernel_rfl) (by kernel_rfl) (fun _ _ _ h => h) (Or.inr ⟨by rfl, rfl⟩) (by assumption) ?_
          (try simp only [Act.put, List.setIfInBounds_toArray, List.set_cons_zero, List.set_cons_succ, List.getElem_toArray, List.getElem_cons_zero, List.getElem_cons_succ])
          refine wpAnyH_take (i := 40) (v := ?_) rfl (by kernel_rfl) (by kernel_rfl) (by kernel_rfl) (fun _ _ _ h => h) (Or.inl ⟨by rfl, ?_⟩) (by assumption) ?_
          rotate_left
          · (intro wx hSw; have y0 := hSw.1; have y1 := hlt; have y2 := hlti; have y3 := g0'; have y4 := g1'; have y5 := g2; go_simp; (try with_reducible rfl); (try omega))
          (try simp only [Act.put, List.setIfInBounds_toArray, List.set_cons_zero, List.set_cons_succ, List.getElem_toArray, List.getElem_cons_zero, List.getElem_cons_succ])
          refine wpAnyH_done (by kernel_rfl) ?_ _
          clear hHeld
          have hB9 := hS.2
          clear hS
          go_wp2_with fail
          go_ret
          exact ⟨ret_bool (by rw [← HR.out, hbad.out HK.out]), hB9⟩
      have g2' : decide (x < -1099511627776) = false := by simp; omega
      have HU := hid0 (show rightAt E i = upAt E i E[i] by rw [HRA.out, HOKX.out, show okR x = true by unfold okR; simp [g0, g1, g2]]; rfl)
      rcases Nat.eq_zero_or_pos i with h0 | hpos
      · have HK := hid0 (show rightAt E i = true by rw [HU.out]; subst h0; rfl)
        have hg0 : decide ((0 : Int) < (i : Int)) = false := by simp; omega
        have hg1 : decide (0 < i) = false := by simp; omega
        clear h0
        as_aux_lemma =>
          have hS : (fun w' => w'.cell? ⟨b1, o1 + i * 2 + 1, none⟩ = some (.int .i64 x) ∧ Below w.heap.size w w') wr.drew := ⟨q1, Below.drew hB⟩
          clear q0 q1 hB
          go_wp2_with fail
          refine wp_region_held_drew (S := fun w' => w'.cell? ⟨b1, o1 + i * 2 + 1, none⟩ = some (.int .i64 x) ∧ Below w.heap.size w w') (by kernel_rfl) hS (fun hHeld => ?_)
          refine wpAnyH_take (i := 0) (v := ?_) rfl (by kernel_rfl) (by kernel_rfl) (by kernel_rfl) (fun _ _ _ h => h) (Or.inl ⟨by rfl, ?_⟩) (by assumption) ?_
          rotate_left
          · (intro wx hSw; have y0 := hSw.1; have y1 := hlt; have y2 := hlti; have y3 := g0'; have y4 := g1'; have y5 := g2'; have y6 := hg0; have y7 := hg1; go_simp; (try with_reducible rfl); (try omega))
          (try simp only [Act.put, List.setIfInBounds_toArray, List.set_cons_zero, List.set_cons_succ, List.getElem_toArray, List.getElem_cons_zero])
          refine wpAnyH_take (i := 1) (v := ?_) rfl (by kernel_rfl) (by kernel_rfl) (by kernel_rfl) (fun _ _ _ h => h) (Or.inl ⟨by rfl, ?_⟩) (by assumption) ?_
          rotate_left
          · (intro wx hSw; have y0 := hSw.1; have y1 := hlt; have y2 := hlti; have y3 := g0'; have y4 := g1'; have y5 := g2'; have y6 := hg0; have y7 := hg1; go_simp; (try with_reducible rfl); (try omega))
          (try simp only [Act.put, List.setIfInBounds_toArray, List.set_cons_zero, List.set_cons_succ, List.getElem_toArray, List.getElem_cons_zero, List.getElem_cons_succ])
          refine wpAnyH_take (i := 2) (v := ?_) rfl (by kernel_rfl) (by kernel_rfl) (by kernel_rfl) (fun _ _ _ h => h) (Or.inl ⟨by rfl, ?_⟩) (by assumption) ?_
          rotate_left
          · (intro wx hSw; have y0 := hSw.1; have y1 := hlt; have y2 := hlti; have y3 := g0'; have y4 := g1'; have y5 := g2'; have y6 := hg0; have y7 := hg1; go_simp; (try with_reducible rfl); (try omega))
          (try simp only [Act.put, List.setIfInBounds_toArray, List.set_cons_zero, List.set_cons_succ, List.getElem_toArray, List.getElem_cons_zero, List.getElem_cons_succ])
          refine wpAnyH_take (i := 3) (v := ?_) rfl (by kernel_rfl) (by kernel_rfl) (by kernel_rfl) (fun _ _ _ h => h) (Or.inl ⟨by rfl, ?_⟩) (by assumption) ?_
          rotate_left
          · (intro wx hSw; have y0 := hSw.1; have y1 := hlt; have y2 := hlti; have y3 := g0'; have y4 := g1'; have y5 := g2'; have y6 := hg0; have y7 := hg1; go_simp; (try with_reducible rfl); (try omega))
          (try simp only [Act.put, List.setIfInBounds_toArray, List.set_cons_zero, List.set_cons_succ, List.getElem_toArray, List.getElem_cons_zero, List.getElem_cons_succ])
          refine wpAnyH_take (i := 4) (v := ?_) rfl (by kernel_rfl) (by kernel_rfl) (by kernel_rfl) (fun _ _ _ h => h) (Or.inl ⟨by rfl, ?_⟩) (by assumption) ?_
          rotate_left
          · (intro wx hSw; have y0 := hSw.1; have y1 := hlt; have y2 := hlti; have y3 := g0'; have y4 := g1'; have y5 := g2'; have y6 := hg0; have y7 := hg1; go_simp; (try with_reducible rfl); (try omega))
          (try simp only [Act.put, List.setIfInBounds_toArray, List.set_cons_zero, List.set_cons_succ, List.getElem_toArray, List.getElem_cons_zero, List.getElem_cons_succ])
          refine wpAnyH_take (i := 5) (v := ?_) rfl (by kernel_rfl) (by kernel_rfl) (by kernel_rfl) (fun _ _ _ h => h) (Or.inl ⟨by rfl, ?_⟩) (by assumption) ?_
          rotate_left
          · (intro wx hSw; have y0 := hSw.1; have y1 := hlt; have y2 := hlti; have y3 := g0'; have y4 := g1'; have y5 := g2'; have y6 := hg0; have y7 := hg1; go_simp; (try with_reducible rfl); (try omega))
          (try simp only [Act.put, List.setIfInBounds_toArray, List.set_cons_zero, List.set_cons_succ, List.getElem_toArray, List.getElem_cons_zero, List.getElem_cons_succ])
          refine wpAnyH_take (i := 6) (v := ?_) rfl (by kernel_rfl) (by kernel_rfl) (by kernel_rfl) (fun _ _ _ h => h) (Or.inl ⟨by rfl, ?_⟩) (by assumption) ?_
          rotate_left
          · (intro wx hSw; have y0 := hSw.1; have y1 := hlt; have y2 := hlti; have y3 := g0'; have y4 := g1'; have y5 := g2'; have y6 := hg0; have y7 := hg1; go_simp; (try with_reducible rfl); (try omega))
          (try simp only [Act.put, List.setIfInBounds_toArray, List.set_cons_zero, List.set_cons_succ, List.getElem_toArray, List.getElem_cons_zero, List.getElem_cons_succ])
          refine wpAnyH_take (i := 7) (v := ?_) rfl (by kernel_rfl) (by kernel_rfl) (by kernel_rfl) (fun _ _ _ h => h) (Or.inl ⟨by rfl, ?_⟩) (by assumption) ?_
          rotate_left
          · (intro wx hSw; have y0 := hSw.1; have y1 := hlt; have y2 := hlti; have y3 := g0'; have y4 := g1'; have y5 := g2'; have y6 := hg0; have y7 := hg1; go_simp; (try with_reducible rfl); (try omega))
          (try simp only [Act.put, List.setIfInBounds_toArray, List.set_cons_zero, List.set_cons_succ, List.getElem_toArray, List.getElem_cons_zero, List.getElem_cons_succ])
          refine wpAnyH_take (i := 8) (v := ?_) rfl (by kernel_rfl) (by kernel_rfl) (by kernel_rfl) (fun _ _ _ h => h) (Or.inl ⟨by rfl, ?_⟩) (by assumption) ?_
          rotate_left
          · (intro wx hSw; have y0 := hSw.1; have y1 := hlt; have y2 := hlti; have y3 := g0'; have y4 := g1'; have y5 := g2'; have y6 := hg0; have y7 := hg1; go_simp; (try with_reducible rfl); (try omega))
          (try simp only [Act.put, List.setIfInBounds_toArray, List.set_cons_zero, List.set_cons_succ, List.getElem_toArray, List.getElem_cons_zero, List.getElem_cons_succ])
          refine wpAnyH_take (i := 9) (v := ?_) rfl (by kernel_rfl) (by kernel_rfl) (by kernel_rfl) (fun _ _ _ h => h) (Or.inl ⟨by rfl, ?_⟩) (by assumption) ?_
          rotate_left
          · (intro wx hSw; have y0 := hSw.1; have y1 := hlt; have y2 := hlti; have y3 := g0'; have y4 := g1'; have y5 := g2'; have y6 := hg0; have y7 := hg1; go_simp; (try with_reducible rfl); (try omega))
          (try simp only [Act.put, List.setIfInBounds_toArray, List.set_cons_zero, List.set_cons_succ, List.getElem_toArray, List.getElem_cons_zero, List.getElem_cons_succ])
          refine wpAnyH_take (i := 10) (v := ?_) rfl (by kernel_rfl) (by kernel_rfl) (by kernel_rfl) (fun _ _ _ h => h) (Or.inl ⟨by rfl, ?_⟩) (by assumption) ?_
          rotate_left
          · (intro wx hSw; have y0 := hSw.1; have y1 := hlt; have y2 := hlti; have y3 := g0'; have y4 := g1'; have y5 := g2'; have y6 := hg0; have y7 := hg1; go_simp; (try with_reducible rfl); (try omega))
          (try simp only [Act.put, List.setIfInBounds_toArray, List.set_cons_zero, List.set_cons_succ, List.getElem_toArray, List.getElem_cons_zero, List.getElem_cons_succ])
          refine wpAnyH_take (i := 11) (v := ?_) rfl (by kernel_rfl) (by kernel_rfl) (by kernel_rfl) (fun _ _ _ h => h) (Or.inl ⟨by rfl, ?_⟩) (by assumption) ?_
          rotate_left
          · (intro wx hSw; have y0 := hSw.1; have y1 := hlt; have y2 := hlti; have y3 := g0'; have y4 := g1'; have y5 := g2'; have y6 := hg0; have y7 := hg1; go_simp; (try with_reducible rfl); (try omega))
          (try simp only [Act.put, List.setIfInBounds_toArray, List.set_cons_zero, List.set_cons_succ, List.getElem_toArray, List.getElem_cons_zero, List.getElem_cons_succ])
          refine wpAnyH_take (i := 12) (v := ?_) rfl (by kernel_rfl) (by kernel_rfl) (by kernel_rfl) (fun _ _ _ h => h) (Or.inl ⟨by rfl, ?_⟩) (by assumption) ?_
          rotate_left
          · (intro wx hSw; have y0 := hSw.1; have y1 := hlt; have y2 := hlti; have y3 := g0'; have y4 := g1'; have y5 := g2'; have y6 := hg0; have y7 := hg1; go_simp; (try with_reducible rfl); (try omega))
          (try simp only [Act.put, List.setIfInBounds_toArray, List.set_cons_zero, List.set_cons_succ, List.getElem_toArray, List.getElem_cons_zero, List.getElem_cons_succ])
          refine wpAnyH_take (i := 13) (v := ?_) rfl (by kernel_rfl) (by kernel_rfl) (by kernel_rfl) (fun _ _ _ h => h) (Or.inl ⟨by rfl, ?_⟩) (by assumption) ?_
          rotate_left
          · (intro wx hSw; have y0 := hSw.1; have y1 := hlt; have y2 := hlti; have y3 := g0'; have y4 := g1'; have y5 := g2'; have y6 := hg0; have y7 := hg1; go_simp; (try with_reducible rfl); (try omega))
          (try simp only [Act.put, List.setIfInBounds_toArray, List.set_cons_zero, List.set_cons_succ, List.getElem_toArray, List.getElem_cons_zero, List.getElem_cons_succ])
          refine wpAnyH_take (i := 14) (v := ?_) rfl (by kernel_rfl) (by kernel_rfl) (by kernel_rfl) (fun _ _ _ h => h) (Or.inl ⟨by rfl, ?_⟩) (by assumption) ?_
          rotate_left
          · (intro wx hSw; have y0 := hSw.1; have y1 := hlt; have y2 := hlti; have y3 := g0'; have y4 := g1'; have y5 := g2'; have y6 := hg0; have y7 := hg1; go_simp; (try with_reducible rfl); (try omega))
          (try simp only [Act.put, List.setIfInBounds_toArray, List.set_cons_zero, List.set_cons_succ, List.getElem_toArray, List.getElem_cons_zero, List.getElem_cons_succ])
          refine wpAnyH_take (i := 15) (v := ?_) rfl (by kernel_rfl) (by kernel_rfl) (by kernel_rfl) (fun _ _ _ h => h) (Or.inl ⟨by rfl, ?_⟩) (by assumption) ?_
          rotate_left
          · (intro wx hSw; have y0 := hSw.1; have y1 := hlt; have y2 := hlti; have y3 := g0'; have y4 := g1'; have y5 := g2'; have y6 := hg0; have y7 := hg1; go_simp; (try with_reducible rfl); (try omega))
          (try simp only [Act.put, List.setIfInBounds_toArray, List.set_cons_zero, List.set_cons_succ, List.getElem_toArray, List.getElem_cons_zero, List.getElem_cons_succ])
          refine wpAnyH_take (i := 16) (v := ?_) rfl (by kernel_rfl) (by kernel_rfl) (by kernel_rfl) (fun _ _ _ h => h) (Or.inl ⟨by rfl, ?_⟩) (by assumption) ?_
          rotate_left
          · (intro wx hSw; have y0 := hSw.1; have y1 := hlt; have y2 := hlti; have y3 := g0'; have y4 := g1'; have y5 := g2'; have y6 := hg0; have y7 := hg1; go_simp; (try with_reducible rfl); (try omega))
          (try simp only [Act.put, List.setIfInBounds_toArray, List.set_cons_zero, List.set_cons_succ, List.getElem_toArray, List.getElem_cons_zero, List.getElem_cons_succ])
          refine wpAnyH_take (i := 17) (v := ?_) rfl (by kernel_rfl) (by kernel_rfl) (by kernel_rfl) (fun _ _ _ h => h) (Or.inl ⟨by rfl, ?_⟩) (by assumption) ?_
          rotate_left
          · (intro wx hSw; have y0 := hSw.1; have y1 := hlt; have y2 := hlti; have y3 := g0'; have y4 := g1'; have y5 := g2'; have y6 := hg0; have y7 := hg1; go_simp; (try with_reducible rfl); (try omega))
          (try simp only [Act.put, List.setIfInBounds_toArray, List.set_cons_zero, List.set_cons_succ, List.getElem_toArray, List.getElem_cons_zero, List.getElem_cons_succ])
          refine wpAnyH_take (i := 18) (v := ?_) rfl (by kernel_rfl) (by kernel_rfl) (by kernel_rfl) (fun _ _ _ h => h) (Or.inl ⟨by rfl, ?_⟩) (by assumption) ?_
          rotate_left
          · (intro wx hSw; have y0 := hSw.1; have y1 := hlt; have y2 := hlti; have y3 := g0'; have y4 := g1'; have y5 := g2'; have y6 := hg0; have y7 := hg1; go_simp; (try with_reducible rfl); (try omega))
          (try simp only [Act.put, List.setIfInBounds_toArray, List.set_cons_zero, List.set_cons_succ, List.getElem_toArray, List.getElem_cons_zero, List.getElem_cons_succ])
          refine wpAnyH_take (i := 19) (v := ?_) rfl (by kernel_rfl) (by kernel_rfl) (by kernel_rfl) (fun _ _ _ h => h) (Or.inl ⟨by rfl, ?_⟩) (by assumption) ?_
          rotate_left
          · (intro wx hSw; have y0 := hSw.1; have y1 := hlt; have y2 := hlti; have y3 := g0'; have y4 := g1'; have y5 := g2'; have y6 := hg0; have y7 := hg1; go_simp; (try with_reducible rfl); (try omega))
          (try simp only [Act.put, List.setIfInBounds_toArray, List.set_cons_zero, List.set_cons_succ, List.getElem_toArray, List.getElem_cons_zero, List.getElem_cons_succ])
          refine wpAnyH_take (i := 20) (v := ?_) rfl (by kernel_rfl) (by kernel_rfl) (by kernel_rfl) (fun _ _ _ h => h) (Or.inl ⟨by rfl, ?_⟩) (by assumption) ?_
          rotate_left
          · (intro wx hSw; have y0 := hSw.1; have y1 := hlt; have y2 := hlti; have y3 := g0'; have y4 := g1'; have y5 := g2'; have y6 := hg0; have y7 := hg1; go_simp; (try with_reducible rfl); (try omega))
          (try simp only [Act.put, List.setIfInBounds_toArray, List.set_cons_zero, List.set_cons_succ, List.getElem_toArray, List.getElem_cons_zero, List.getElem_cons_succ])
          refine wpAnyH_take (i := 21) (v := ?_) rfl (by kernel_rfl) (by kernel_rfl) (by kernel_rfl) (fun _ _ _ h => h) (Or.inl ⟨by rfl, ?_⟩) (by assumption) ?_
          rotate_left
          · (intro wx hSw; have y0 := hSw.1; have y1 := hlt; have y2 := hlti; have y3 := g0'; have y4 := g1'; have y5 := g2'; have y6 := hg0; have y7 := hg1; go_simp; (try with_reducible rfl); (try omega))
          (try simp only [Act.put, List.setIfInBounds_toArray, List.set_cons_zero, List.set_cons_succ, List.getElem_toArray, List.getElem_cons_zero, List.getElem_cons_succ])
          refine wpAnyH_take (i := 22) (v := ?_) rfl (by kernel_rfl) (by kernel_rfl) (by kernel_rfl) (fun _ _ _ h => h) (Or.inl ⟨by rfl, ?_⟩) (by assumption) ?_
          rotate_left
          · (intro wx hSw; have y0 := hSw.1; have y1 := hlt; have y2 := hlti; have y3 := g0'; have y4 := g1'; have y5 := g2'; have y6 := hg0; have y7 := hg1; go_simp; (try with_reducible rfl); (try omega))
          (try simp only [Act.put, List.setIfInBounds_toArray, List.set_cons_zero, List.set_cons_succ, List.getElem_toArray, List.getElem_cons_zero, List.getElem_cons_succ])
          refine wpAnyH_take (i := 23) (v := ?_) rfl (by kernel_rfl) (by kernel_rfl) (by kernel_rfl) (fun _ _ _ h => h) (Or.inl ⟨by rfl, ?_⟩) (by assumption) ?_
          rotate_left
          · (intro wx hSw; have y0 := hSw.1; have y1 := hlt; have y2 := hlti; have y3 := g0'; have y4 := g1'; have y5 := g2'; have y6 := hg0; have y7 := hg1; go_simp; (try with_reducible rfl); (try omega))
          (try simp only [Act.put, List.setIfInBounds_toArray, List.set_cons_zero, List.set_cons_succ, List.getElem_toArray, List.getElem_cons_zero, List.getElem_cons_succ])
          refine wpAnyH_take (i := 24) (v := ?_) rfl (by kernel_rfl) (by kernel_rfl) (by kernel_rfl) (fun _ _ _ h => h) (Or.inl ⟨by rfl, ?_⟩) (by assumption) ?_
          rotate_left
          · (intro wx hSw; have y0 := hSw.1; have y1 := hlt; have y2 := hlti; have y3 := g0'; have y4 := g1'; have y5 := g2'; have y6 := hg0; have y7 := hg1; go_simp; (try with_reducible rfl); (try omega))
          (try simp only [Act.put, List.setIfInBounds_toArray, List.set_cons_zero, List.set_cons_succ, List.getElem_toArray, List.getElem_cons_zero, List.getElem_cons_succ])
          refine wpAnyH_take (i := 25) (v := ?_) rfl (by kernel_rfl) (by kernel_rfl) (by kernel_rfl) (fun _ _ _ h => h) (Or.inl ⟨by rfl, ?_⟩) (by assumption) ?_
          rotate_left
          · (intro wx hSw; have y0 := hSw.1; have y1 := hlt; have y2 := hlti; have y3 := g0'; have y4 := g1'; have y5 := g2'; have y6 := hg0; have y7 := hg1; go_simp; (try with_reducible rfl); (try omega))
          (try simp only [Act.put, List.setIfInBounds_toArray, List.set_cons_zero, List.set_cons_succ, List.getElem_toArray, List.getElem_cons_zero, List.getElem_cons_succ])
          refine wpAnyH_take (i := 26) (v := undef) rfl (by kernel_rfl) (by kernel_rfl) (by kernel_rfl) (fun _ _ _ h => h) (Or.inr ⟨by rfl, rfl⟩) (by assumption) ?_
          (try simp only [Act.put, List.setIfInBounds_toArray, List.set_cons_zero, List.set_cons_succ, List.getElem_toArray, List.getElem_cons_zero, List.getElem_cons_succ])
          refine wpAnyH_take (i := 27) (v := undef) rfl (by kernel_rfl) (by kernel_rfl) (by kernel_rfl) (fun _ _ _ h => h) (Or.inr ⟨by rfl, rfl⟩) (by assumption) ?_
          (try simp only [Act.put, List.setIfInBounds_toArray, List.set_cons_zero, List.set_cons_succ, List.getElem_toArray, List.getElem_cons_zero, List.getElem_cons_succ])
          refine wpAnyH_take (i := 28) (v := undef) rfl (by kernel_rfl) (by kernel_rfl) (by kernel_rfl) (fun _ _ _ h => h) (Or.inr ⟨by rfl, rfl⟩) (by assumption) ?_
          (try simp only [Act.put, List.setIfInBounds_toArray, List.set_cons_zero, List.set_cons_succ, List.getElem_toArray, List.getElem_cons_zero, List.getElem_cons_succ])
          refine wpAnyH_take (i := 29) (v := undef) rfl (by kernel_rfl) (by kernel_rfl) (by kernel_rfl) (fun _ _ _ h => h) (Or.inr ⟨by rfl, rfl⟩) (by assumption) ?_
          (try simp only [Act.put, List.setIfInBounds_toArray, List.set_cons_zero, List.set_cons_succ, List.getElem_toArray, List.getElem_cons_zero, List.getElem_cons_succ])
          refine wpAnyH_take (i := 30) (v := undef) rfl (by kernel_rfl) (by kernel_rfl) (by kernel_rfl) (fun _ _ _ h => h) (Or.inr ⟨by rfl, rfl⟩) (by assumption) ?_
          (try simp only [Act.put, List.setIfInBounds_toArray, List.set_cons_zero, List.set_cons_succ, List.getElem_toArray, List.getElem_cons_zero, List.getElem_cons_succ])
          refine wpAnyH_take (i := 31) (v := undef) rfl (by kernel_rfl) (by kernel_rfl) (by kernel_rfl) (fun _ _ _ h => h) (Or.inr ⟨by rfl, rfl⟩) (by assumption) ?_
          (try simp only [Act.put, List.setIfInBounds_toArray, List.set_cons_zero, List.set_cons_succ, List.getElem_toArray, List.getElem_cons_zero, List.getElem_cons_succ])
          refine wpAnyH_take (i := 32) (v := undef) rfl (by kernel_rfl) (by kernel_rfl) (by kernel_rfl) (fun _ _ _ h => h) (Or.inr ⟨by rfl, rfl⟩) (by assumption) ?_
          (try simp only [Act.put, List.setIfInBounds_toArray, List.set_cons_zero, List.set_cons_succ, List.getElem_toArray, List.getElem_cons_zero, List.getElem_cons_succ])
          refine wpAnyH_take (i := 33) (v := undef) rfl (by kernel_rfl) (by kernel_rfl) (by kernel_rfl) (fun _ _ _ h => h) (Or.inr ⟨by rfl, rfl⟩) (by assumption) ?_
          (try simp only [Act.put, List.setIfInBounds_toArray, List.set_cons_zero, List.set_cons_succ, List.getElem_toArray, List.getElem_cons_zero, List.getElem_cons_succ])
          refine wpAnyH_take (i := 34) (v := undef) rfl (by kernel_rfl) (by kernel_rfl) (by kernel_rfl) (fun _ _ _ h => h) (Or.inr ⟨by rfl, rfl⟩) (by assumption) ?_
          (try simp only [Act.put, List.setIfInBounds_toArray, List.set_cons_zero, List.set_cons_succ, List.getElem_toArray, List.getElem_cons_zero, List.getElem_cons_succ])
          refine wpAnyH_take (i := 35) (v := undef) rfl (by kernel_rfl) (by kernel_rfl) (by kernel_rfl) (fun _ _ _ h => h) (Or.inr ⟨by rfl, rfl⟩) (by assumption) ?_
          (try simp only [Act.put, List.setIfInBounds_toArray, List.set_cons_zero, List.set_cons_succ, List.getElem_toArray, List.getElem_cons_zero, List.getElem_cons_succ])
          refine wpAnyH_take (i := 36) (v := undef) rfl (by kernel_rfl) (by kernel_rfl) (by kernel_rfl) (fun _ _ _ h => h) (Or.inr ⟨by rfl, rfl⟩) (by assumption) ?_
          (try simp only [Act.put, List.setIfInBounds_toArray, List.set_cons_zero, List.set_cons_succ, List.getElem_toArray, List.getElem_cons_zero, List.getElem_cons_succ])
          refine wpAnyH_take (i := 37) (v := undef) rfl (by kernel_rfl) (by kernel_rfl) (by kernel_rfl) (fun _ _ _ h => h) (Or.inr ⟨by rfl, rfl⟩) (by assumption) ?_
          (try simp only [Act.put, List.setIfInBounds_toArray, List.set_cons_zero, List.set_cons_succ, List.getElem_toArray, List.getElem_cons_zero, List.getElem_cons_succ])
          refine wpAnyH_take (i := 38) (v := undef) rfl (by kernel_rfl) (by kernel_rfl) (by kernel_rfl) (fun _ _ _ h => h) (Or.inr ⟨by rfl, rfl⟩) (by assumption) ?_
          (try simp only [Act.put, List.setIfInBounds_toArray, List.set_cons_zero, List.set_cons_succ, List.getElem_toArray, List.getElem_cons_zero, List.getElem_cons_succ])
          refine wpAnyH_take (i := 39) (v := ?_) rfl (by kernel_rfl) (by kernel_rfl) (by kernel_rfl) (fun _ _ _ h => h) (Or.inl ⟨by rfl, ?_⟩) (by assumption) ?_
          rotate_left
          · (intro wx hSw; have y0 := hSw.1; have y1 := hlt; have y2 := hlti; have y3 := g0'; have y4 := g1'; have y5 := g2'; have y6 := hg0; have y7 := hg1; go_simp; (try with_reducible rfl); (try omega))
          (try simp only [Act.put, List.setIfInBounds_toArray, List.set_cons_zero, List.set_cons_succ, List.getElem_toArray, List.getElem_cons_zero, List.getElem_cons_succ])
          refine wpAnyH_take (i := 40) (v := ?_) rfl (by kernel_rfl) (by kernel_rfl) (by kernel_rfl) (fun _ _ _ h => h) (Or.inl ⟨by rfl, ?_⟩) (by assumption) ?_
          rotate_left
          · (intro wx hSw; have y0 := hSw.1; have y1 := hlt; have y2 := hlti; have y3 := g0'; have y4 := g1'; have y5 := g2'; have y6 := hg0; have y7 := hg1; go_simp; (try with_reducible rfl); (try omega))
          (try simp only [Act.put, List.setIfInBounds_toArray, List.set_cons_zero, List.set_cons_succ, List.getElem_toArray, List.getElem_cons_zero, List.getElem_cons_succ])
          refine wpAnyH_done (by kernel_rfl) ?_ _
          clear hHeld
          have hB9 := hS.2
          clear hS
          go_wp2_with fail
          exact ⟨⟨i + 1, by omega, by go_num, hid0 (hnext.out HK.out), hB9⟩, by simp [intOf]; omega⟩
      · obtain ⟨j, hj⟩ : ∃ j, j + 1 = i := ⟨i - 1, by omega⟩
        have hjl : j < E.length := by omega
        obtain ⟨s0, s1⟩ := hcc.out j hjl
        have hg0 : (0 : Int) < (i : Int) := by omega
        have hwj : IntKind.i64.wrap ((i : Int) - 1) = (j : Int) := by rw [IntWalk.i64_in _ (by omega)]; omega
        have hj2 : (j : Int) < (E.length : Int) := by omega
        have hjn : (0 : Int) ≤ (j : Int) := by omega
        have r1 := A.out.2 _ (List.getElem_mem hjl)
        have r2 := A.out.2 _ (List.getElem_mem hlt)
        have HF := hid0 (show rightAt E i = decide (rowsV E[j].r E[i].r < 0) by rw [HU.out]; subst hj; exact upAt_get hjl _)
        obtain ⟨cv, hcv⟩ : ∃ cv, rowsV E[j].r E[i].r = cv := ⟨_, rfl⟩
        have CR : Hid (∀ W, Below w.heap.size w W → Calls Try.prog 32 #[.slice E[j].a E[j].r.length E[j].c, .slice E[i].a E[i].r.length E[i].c] W fun e w' => e = .returned (.int .i64 cv) ∧ Below W.heap.size W w') := hid0 (fun W hb => by
          have h := refRows_any E[j].a E[i].a E[j].c E[i].c E[j].r E[i].r W (r1.1.later hb) (r2.1.later hb) (by have := r1.2; unfold rowOK at this; unfold maxLen; omega)
          rwa [hcv] at h)
        rw [hcv] at HF
        generalize E[j].a = ja at *
        generalize E[j].r.length = jm at *
        generalize E[j].c = jc at *
        generalize E[i].a = ia at *
        generalize E[i].r.length = im at *
        generalize E[i].c = ic at *
        clear r1 r2 hcv s1 hj
        by_cases hcn : (0 : Int) ≤ cv
        · have HK := hid0 (show rightAt E i = false by rw [HF.out]; simp; omega)
          as_aux_lemma =>
            have hS : (fun w' => (w'.cell? ⟨b1, o1 + i * 2 + 1, none⟩ = some (.int .i64 x) ∧ w'.cell? ⟨b1, o1 + i * 2, none⟩ = some (.slice ia im ic) ∧ w'.cell? ⟨b1, o1 + j * 2, none⟩ = some (.slice ja jm jc)) ∧ Below w.heap.size w w') wr.drew := ⟨⟨q1, q0, s0⟩, Below.drew hB⟩
            clear q0 q1 s0 hB
            go_wp2_with fail
            refine wp_region_held_drew (S := fun w' => (w'.cell? ⟨b1, o1 + i * 2 + 1, none⟩ = some (.int .i64 x) ∧ w'.cell? ⟨b1, o1 + i * 2, none⟩ = some (.slice ia im ic) ∧ w'.cell? ⟨b1, o1 + j * 2, none⟩ = some (.slice ja jm jc)) ∧ Below w.heap.size w w') (by kernel_rfl) hS (fun hHeld => ?_)
            refine wpAnyH_take (i := 0) (v := ?_) rfl (by kernel_rfl) (by kernel_rfl) (by kernel_rfl) (fun _ _ _ h => h) (Or.inl ⟨by rfl, ?_⟩) (by assumption) ?_
            rotate_left
            · (intro wx hSw; have y0 := hSw.1.1; have y1 := hlt; have y2 := hlti; have y3 := g0'; have y4 := g1'; have y5 := g2'; have y6 := hg0; have y7 := hSw.1.2.1; have y8 := hSw.1.2.2; have y9 := hwj; have z0 := hj2; have z1 := hjn; have z2 := hjl; have z3 := hpos; go_simp; (try with_reducible rfl); (try omega))
            (try simp only [Act.put, List.setIfInBounds_toArray, List.set_cons_zero, List.set_cons_succ, List.getElem_toArray, List.getElem_cons_zero])
            refine wpAnyH_take (i := 1) (v := ?_) rfl (by kernel_rfl) (by kernel_rfl) (by kernel_rfl) (fun _ _ _ h => h) (Or.inl ⟨by rfl, ?_⟩) (by assumption) ?_
            rotate_left
            · (intro wx hSw; have y0 := hSw.1.1; have y1 := hlt; have y2 := hlti; have y3 := g0'; have y4 := g1'; have y5 := g2'; have y6 := hg0; have y7 := hSw.1.2.1; have y8 := hSw.1.2.2; have y9 := hwj; have z0 := hj2; have z1 := hjn; have z2 := hjl; have z3 := hpos; go_simp; (try with_reducible rfl); (try omega))
            (try simp only [Act.put, List.setIfInBounds_toArray, List.set_cons_zero, List.set_cons_succ, List.getElem_toArray, List.getElem_cons_zero, List.getElem_cons_succ])
            refine wpAnyH_take (i := 2) (v := ?_) rfl (by kernel_rfl) (by kernel_rfl) (by kernel_rfl) (fun _ _ _ h => h) (Or.inl ⟨by rfl, ?_⟩) (by assumption) ?_
            rotate_left
            · (intro wx hSw; have y0 := hSw.1.1; have y1 := hlt; have y2 := hlti; have y3 := g0'; have y4 := g1'; have y5 := g2'; have y6 := hg0; have y7 := hSw.1.2.1; have y8 := hSw.1.2.2; have y9 := hwj; have z0 := hj2; have z1 := hjn; have z2 := hjl; have z3 := hpos; go_simp; (try with_reducible rfl); (try omega))
            (try simp only [Act.put, List.setIfInBounds_toArray, List.set_cons_zero, List.set_cons_succ, List.getElem_toArray, List.getElem_cons_zero, List.getElem_cons_succ])
            refine wpAnyH_take (i := 3) (v := ?_) rfl (by kernel_rfl) (by kernel_rfl) (by kernel_rfl) (fun _ _ _ h => h) (Or.inl ⟨by rfl, ?_⟩) (by assumption) ?_
            rotate_left
            · (intro wx hSw; have y0 := hSw.1.1; have y1 := hlt; have y2 := hlti; have y3 := g0'; have y4 := g1'; have y5 := g2'; have y6 := hg0; have y7 := hSw.1.2.1; have y8 := hSw.1.2.2; have y9 := hwj; have z0 := hj2; have z1 := hjn; have z2 := hjl; have z3 := hpos; go_simp; (try with_reducible rfl); (try omega))
            (try simp only [Act.put, List.setIfInBounds_toArray, List.set_cons_zero, List.set_cons_succ, List.getElem_toArray, List.getElem_cons_zero, List.getElem_cons_succ])
            refine wpAnyH_take (i := 4) (v := ?_) rfl (by kernel_rfl) (by kernel_rfl) (by kernel_rfl) (fun _ _ _ h => h) (Or.inl ⟨by rfl, ?_⟩) (by assumption) ?_
            rotate_left
            · (intro wx hSw; have y0 := hSw.1.1; have y1 := hlt; have y2 := hlti; have y3 := g0'; have y4 := g1'; have y5 := g2'; have y6 := hg0; have y7 := hSw.1.2.1; have y8 := hSw.1.2.2; have y9 := hwj; have z0 := hj2; have z1 := hjn; have z2 := hjl; have z3 := hpos; go_simp; (try with_reducible rfl); (try omega))
            (try simp only [Act.put, List.setIfInBounds_toArray, List.set_cons_zero, List.set_cons_succ, List.getElem_toArray, List.getElem_cons_zero, List.getElem_cons_succ])
            refine wpAnyH_take (i := 5) (v := ?_) rfl (by kernel_rfl) (by kernel_rfl) (by kernel_rfl) (fun _ _ _ h => h) (Or.inl ⟨by rfl, ?_⟩) (by assumption) ?_
            rotate_left
            · (intro wx hSw; have y0 := hSw.1.1; have y1 := hlt; have y2 := hlti; have y3 := g0'; have y4 := g1'; have y5 := g2'; have y6 := hg0; have y7 := hSw.1.2.1; have y8 := hSw.1.2.2; have y9 := hwj; have z0 := hj2; have z1 := hjn; have z2 := hjl; have z3 := hpos; go_simp; (try with_reducible rfl); (try omega))
            (try simp only [Act.put, List.setIfInBounds_toArray, List.set_cons_zero, List.set_cons_succ, List.getElem_toArray, List.getElem_cons_zero, List.getElem_cons_succ])
            refine wpAnyH_take (i := 6) (v := ?_) rfl (by kernel_rfl) (by kernel_rfl) (by kernel_rfl) (fun _ _ _ h => h) (Or.inl ⟨by rfl, ?_⟩) (by assumption) ?_
            rotate_left
            · (intro wx hSw; have y0 := hSw.1.1; have y1 := hlt; have y2 := hlti; have y3 := g0'; have y4 := g1'; have y5 := g2'; have y6 := hg0; have y7 := hSw.1.2.1; have y8 := hSw.1.2.2; have y9 := hwj; have z0 := hj2; have z1 := hjn; have z2 := hjl; have z3 := hpos; go_simp; (try with_reducible rfl); (try omega))
            (try simp only [Act.put, List.setIfInBounds_toArray, List.set_cons_zero, List.set_cons_succ, List.getElem_toArray, List.getElem_cons_zero, List.getElem_cons_succ])
            refine wpAnyH_take (i := 7) (v := ?_) rfl (by kernel_rfl) (by kernel_rfl) (by kernel_rfl) (fun _ _ _ h => h) (Or.inl ⟨by rfl, ?_⟩) (by assumption) ?_
            rotate_left
            · (intro wx hSw; have y0 := hSw.1.1; have y1 := hlt; have y2 := hlti; have y3 := g0'; have y4 := g1'; have y5 := g2'; have y6 := hg0; have y7 := hSw.1.2.1; have y8 := hSw.1.2.2; have y9 := hwj; have z0 := hj2; have z1 := hjn; have z2 := hjl; have z3 := hpos; go_simp; (try with_reducible rfl); (try omega))
            (try simp only [Act.put, List.setIfInBounds_toArray, List.set_cons_zero, List.set_cons_succ, List.getElem_toArray, List.getElem_cons_zero, List.getElem_cons_succ])
            refine wpAnyH_take (i := 8) (v := ?_) rfl (by kernel_rfl) (by kernel_rfl) (by kernel_rfl) (fun _ _ _ h => h) (Or.inl ⟨by rfl, ?_⟩) (by assumption) ?_
            rotate_left
            · (intro wx hSw; have y0 := hSw.1.1; have y1 := hlt; have y2 := hlti; have y3 := g0'; have y4 := g1'; have y5 := g2'; have y6 := hg0; have y7 := hSw.1.2.1; have y8 := hSw.1.2.2; have y9 := hwj; have z0 := hj2; have z1 := hjn; have z2 := hjl; have z3 := hpos; go_simp; (try with_reducible rfl); (try omega))
            (try simp only [Act.put, List.setIfInBounds_toArray, List.set_cons_zero, List.set_cons_succ, List.getElem_toArray, List.getElem_cons_zero, List.getElem_cons_succ])
            refine wpAnyH_take (i := 9) (v := ?_) rfl (by kernel_rfl) (by kernel_rfl) (by kernel_rfl) (fun _ _ _ h => h) (Or.inl ⟨by rfl, ?_⟩) (by assumption) ?_
            rotate_left
            · (intro wx hSw; have y0 := hSw.1.1; have y1 := hlt; have y2 := hlti; have y3 := g0'; have y4 := g1'; have y5 := g2'; have y6 := hg0; have y7 := hSw.1.2.1; have y8 := hSw.1.2.2; have y9 := hwj; have z0 := hj2; have z1 := hjn; have z2 := hjl; have z3 := hpos; go_simp; (try with_reducible rfl); (try omega))
            (try simp only [Act.put, List.setIfInBounds_toArray, List.set_cons_zero, List.set_cons_succ, List.getElem_toArray, List.getElem_cons_zero, List.getElem_cons_succ])
            refine wpAnyH_take (i := 10) (v := ?_) rfl (by kernel_rfl) (by kernel_rfl) (by kernel_rfl) (fun _ _ _ h => h) (Or.inl ⟨by rfl, ?_⟩) (by assumption) ?_
            rotate_left
            · (intro wx hSw; have y0 := hSw.1.1; have y1 := hlt; have y2 := hlti; have y3 := g0'; have y4 := g1'; have y5 := g2'; have y6 := hg0; have y7 := hSw.1.2.1; have y8 := hSw.1.2.2; have y9 := hwj; have z0 := hj2; have z1 := hjn; have z2 := hjl; have z3 := hpos; go_simp; (try with_reducible rfl); (try omega))
            (try simp only [Act.put, List.setIfInBounds_toArray, List.set_cons_zero, List.set_cons_succ, List.getElem_toArray, List.getElem_cons_zero, List.getElem_cons_succ])
            refine wpAnyH_take (i := 11) (v := ?_) rfl (by kernel_rfl) (by kernel_rfl) (by kernel_rfl) (fun _ _ _ h => h) (Or.inl ⟨by rfl, ?_⟩) (by assumption) ?_
            rotate_left
            · (intro wx hSw; have y0 := hSw.1.1; have y1 := hlt; have y2 := hlti; have y3 := g0'; have y4 := g1'; have y5 := g2'; have y6 := hg0; have y7 := hSw.1.2.1; have y8 := hSw.1.2.2; have y9 := hwj; have z0 := hj2; have z1 := hjn; have z2 := hjl; have z3 := hpos; go_simp; (try with_reducible rfl); (try omega))
            (try simp only [Act.put, List.setIfInBounds_toArray, List.set_cons_zero, List.set_cons_succ, List.getElem_toArray, List.getElem_cons_zero, List.getElem_cons_succ])
            refine wpAnyH_take (i := 12) (v := ?_) rfl (by kernel_rfl) (by kernel_rfl) (by kernel_rfl) (fun _ _ _ h => h) (Or.inl ⟨by rfl, ?_⟩) (by assumption) ?_
            rotate_left
            · (intro wx hSw; have y0 := hSw.1.1; have y1 := hlt; have y2 := hlti; have y3 := g0'; have y4 := g1'; have y5 := g2'; have y6 := hg0; have y7 := hSw.1.2.1; have y8 := hSw.1.2.2; have y9 := hwj; have z0 := hj2; have z1 := hjn; have z2 := hjl; have z3 := hpos; go_simp; (try with_reducible rfl); (try omega))
            (try simp only [Act.put, List.setIfInBounds_toArray, List.set_cons_zero, List.set_cons_succ, List.getElem_toArray, List.getElem_cons_zero, List.getElem_cons_succ])
            refine wpAnyH_take (i := 13) (v := ?_) rfl (by kernel_rfl) (by kernel_rfl) (by kernel_rfl) (fun _ _ _ h => h) (Or.inl ⟨by rfl, ?_⟩) (by assumption) ?_
            rotate_left
            · (intro wx hSw; have y0 := hSw.1.1; have y1 := hlt; have y2 := hlti; have y3 := g0'; have y4 := g1'; have y5 := g2'; have y6 := hg0; have y7 := hSw.1.2.1; have y8 := hSw.1.2.2; have y9 := hwj; have z0 := hj2; have z1 := hjn; have z2 := hjl; have z3 := hpos; go_simp; (try with_reducible rfl); (try omega))
            (try simp only [Act.put, List.setIfInBounds_toArray, List.set_cons_zero, List.set_cons_succ, List.getElem_toArray, List.getElem_cons_zero, List.getElem_cons_succ])
            refine wpAnyH_take (i := 14) (v := ?_) rfl (by kernel_rfl) (by kernel_rfl) (by kernel_rfl) (fun _ _ _ h => h) (Or.inl ⟨by rfl, ?_⟩) (by assumption) ?_
            rotate_left
            · (intro wx hSw; have y0 := hSw.1.1; have y1 := hlt; have y2 := hlti; have y3 := g0'; have y4 := g1'; have y5 := g2'; have y6 := hg0; have y7 := hSw.1.2.1; have y8 := hSw.1.2.2; have y9 := hwj; have z0 := hj2; have z1 := hjn; have z2 := hjl; have z3 := hpos; go_simp; (try with_reducible rfl); (try omega))
            (try simp only [Act.put, List.setIfInBounds_toArray, List.set_cons_zero, List.set_cons_succ, List.getElem_toArray, List.getElem_cons_zero, List.getElem_cons_succ])
            refine wpAnyH_take (i := 15) (v := ?_) rfl (by kernel_rfl) (by kernel_rfl) (by kernel_rfl) (fun _ _ _ h => h) (Or.inl ⟨by rfl, ?_⟩) (by assumption) ?_
            rotate_left
            · (intro wx hSw; have y0 := hSw.1.1; have y1 := hlt; have y2 := hlti; have y3 := g0'; have y4 := g1'; have y5 := g2'; have y6 := hg0; have y7 := hSw.1.2.1; have y8 := hSw.1.2.2; have y9 := hwj; have z0 := hj2; have z1 := hjn; have z2 := hjl; have z3 := hpos; go_simp; (try with_reducible rfl); (try omega))
            (try simp only [Act.put, List.setIfInBounds_toArray, List.set_cons_zero, List.set_cons_succ, List.getElem_toArray, List.getElem_cons_zero, List.getElem_cons_succ])
            refine wpAnyH_take (i := 16) (v := ?_) rfl (by kernel_rfl) (by kernel_rfl) (by kernel_rfl) (fun _ _ _ h => h) (Or.inl ⟨by rfl, ?_⟩) (by assumption) ?_
            rotate_left
            · (intro wx hSw; have y0 := hSw.1.1; have y1 := hlt; have y2 := hlti; have y3 := g0'; have y4 := g1'; have y5 := g2'; have y6 := hg0; have y7 := hSw.1.2.1; have y8 := hSw.1.2.2; have y9 := hwj; have z0 := hj2; have z1 := hjn; have z2 := hjl; have z3 := hpos; go_simp; (try with_reducible rfl); (try omega))
            (try simp only [Act.put, List.setIfInBounds_toArray, List.set_cons_zero, List.set_cons_succ, List.getElem_toArray, List.getElem_cons_zero, List.getElem_cons_succ])
            refine wpAnyH_take (i := 17) (v := ?_) rfl (by kernel_rfl) (by kernel_rfl) (by kernel_rfl) (fun _ _ _ h => h) (Or.inl ⟨by rfl, ?_⟩) (by assumption) ?_
            rotate_left
            · (intro wx hSw; have y0 := hSw.1.1; have y1 := hlt; have y2 := hlti; have y3 := g0'; have y4 := g1'; have y5 := g2'; have y6 := hg0; have y7 := hSw.1.2.1; have y8 := hSw.1.2.2; have y9 := hwj; have z0 := hj2; have z1 := hjn; have z2 := hjl; have z3 := hpos; go_simp; (try with_reducible rfl); (try omega))
            (try simp only [Act.put, List.setIfInBounds_toArray, List.set_cons_zero, List.set_cons_succ, List.getElem_toArray, List.getElem_cons_zero, List.getElem_cons_succ])
            refine wpAnyH_take (i := 18) (v := ?_) rfl (by kernel_rfl) (by kernel_rfl) (by kernel_rfl) (fun _ _ _ h => h) (Or.inl ⟨by rfl, ?_⟩) (by assumption) ?_
            rotate_left
            · (intro wx hSw; have y0 := hSw.1.1; have y1 := hlt; have y2 := hlti; have y3 := g0'; have y4 := g1'; have y5 := g2'; have y6 := hg0; have y7 := hSw.1.2.1; have y8 := hSw.1.2.2; have y9 := hwj; have z0 := hj2; have z1 := hjn; have z2 := hjl; have z3 := hpos; go_simp; (try with_reducible rfl); (try omega))
            (try simp only [Act.put, List.setIfInBounds_toArray, List.set_cons_zero, List.set_cons_succ, List.getElem_toArray, List.getElem_cons_zero, List.getElem_cons_succ])
            refine wpAnyH_take (i := 19) (v := ?_) rfl (by kernel_rfl) (by kernel_rfl) (by kernel_rfl) (fun _ _ _ h => h) (Or.inl ⟨by rfl, ?_⟩) (by assumption) ?_
            rotate_left
            · (intro wx hSw; have y0 := hSw.1.1; have y1 := hlt; have y2 := hlti; have y3 := g0'; have y4 := g1'; have y5 := g2'; have y6 := hg0; have y7 := hSw.1.2.1; have y8 := hSw.1.2.2; have y9 := hwj; have z0 := hj2; have z1 := hjn; have z2 := hjl; have z3 := hpos; go_simp; (try with_reducible rfl); (try omega))
            (try simp only [Act.put, List.setIfInBounds_toArray, List.set_cons_zero, List.set_cons_succ, List.getElem_toArray, List.getElem_cons_zero, List.getElem_cons_succ])
            refine wpAnyH_take (i := 20) (v := ?_) rfl (by kernel_rfl) (by kernel_rfl) (by kernel_rfl) (fun _ _ _ h => h) (Or.inl ⟨by rfl, ?_⟩) (by assumption) ?_
            rotate_left
            · (intro wx hSw; have y0 := hSw.1.1; have y1 := hlt; have y2 := hlti; have y3 := g0'; have y4 := g1'; have y5 := g2'; have y6 := hg0; have y7 := hSw.1.2.1; have y8 := hSw.1.2.2; have y9 := hwj; have z0 := hj2; have z1 := hjn; have z2 := hjl; have z3 := hpos; go_simp; (try with_reducible rfl); (try omega))
            (try simp only [Act.put, List.setIfInBounds_toArray, List.set_cons_zero, List.set_cons_succ, List.getElem_toArray, List.getElem_cons_zero, List.getElem_cons_succ])
            refine wpAnyH_take (i := 21) (v := ?_) rfl (by kernel_rfl) (by kernel_rfl) (by kernel_rfl) (fun _ _ _ h => h) (Or.inl ⟨by rfl, ?_⟩) (by assumption) ?_
            rotate_left
            · (intro wx hSw; have y0 := hSw.1.1; have y1 := hlt; have y2 := hlti; have y3 := g0'; have y4 := g1'; have y5 := g2'; have y6 := hg0; have y7 := hSw.1.2.1; have y8 := hSw.1.2.2; have y9 := hwj; have z0 := hj2; have z1 := hjn; have z2 := hjl; have z3 := hpos; go_simp; (try with_reducible rfl); (try omega))
            (try simp only [Act.put, List.setIfInBounds_toArray, List.set_cons_zero, List.set_cons_succ, List.getElem_toArray, List.getElem_cons_zero, List.getElem_cons_succ])
            refine wpAnyH_take (i := 22) (v := ?_) rfl (by kernel_rfl) (by kernel_rfl) (by kernel_rfl) (fun _ _ _ h => h) (Or.inl ⟨by rfl, ?_⟩) (by assumption) ?_
            rotate_left
            · (intro wx hSw; have y0 := hSw.1.1; have y1 := hlt; have y2 := hlti; have y3 := g0'; have y4 := g1'; have y5 := g2'; have y6 := hg0; have y7 := hSw.1.2.1; have y8 := hSw.1.2.2; have y9 := hwj; have z0 := hj2; have z1 := hjn; have z2 := hjl; have z3 := hpos; go_simp; (try with_reducible rfl); (try omega))
            (try simp only [Act.put, List.setIfInBounds_toArray, List.set_cons_zero, List.set_cons_succ, List.getElem_toArray, List.getElem_cons_zero, List.getElem_cons_succ])
            refine wpAnyH_take (i := 23) (v := ?_) rfl (by kernel_rfl) (by kernel_rfl) (by kernel_rfl) (fun _ _ _ h => h) (Or.inl ⟨by rfl, ?_⟩) (by assumption) ?_
            rotate_left
            · (intro wx hSw; have y0 := hSw.1.1; have y1 := hlt; have y2 := hlti; have y3 := g0'; have y4 := g1'; have y5 := g2'; have y6 := hg0; have y7 := hSw.1.2.1; have y8 := hSw.1.2.2; have y9 := hwj; have z0 := hj2; have z1 := hjn; have z2 := hjl; have z3 := hpos; go_simp; (try with_reducible rfl); (try omega))
            (try simp only [Act.put, List.setIfInBounds_toArray, List.set_cons_zero, List.set_cons_succ, List.getElem_toArray, List.getElem_cons_zero, List.getElem_cons_succ])
            refine wpAnyH_take (i := 24) (v := ?_) rfl (by kernel_rfl) (by kernel_rfl) (by kernel_rfl) (fun _ _ _ h => h) (Or.inl ⟨by rfl, ?_⟩) (by assumption) ?_
            rotate_left
            · (intro wx hSw; have y0 := hSw.1.1; have y1 := hlt; have y2 := hlti; have y3 := g0'; have y4 := g1'; have y5 := g2'; have y6 := hg0; have y7 := hSw.1.2.1; have y8 := hSw.1.2.2; have y9 := hwj; have z0 := hj2; have z1 := hjn; have z2 := hjl; have z3 := hpos; go_simp; (try with_reducible rfl); (try omega))
            (try simp only [Act.put, List.setIfInBounds_toArray, List.set_cons_zero, List.set_cons_succ, List.getElem_toArray, List.getElem_cons_zero, List.getElem_cons_succ])
            refine wpAnyH_take (i := 25) (v := ?_) rfl (by kernel_rfl) (by kernel_rfl) (by kernel_rfl) (fun _ _ _ h => h) (Or.inl ⟨by rfl, ?_⟩) (by assumption) ?_
            rotate_left
            · (intro wx hSw; have y0 := hSw.1.1; have y1 := hlt; have y2 := hlti; have y3 := g0'; have y4 := g1'; have y5 := g2'; have y6 := hg0; have y7 := hSw.1.2.1; have y8 := hSw.1.2.2; have y9 := hwj; have z0 := hj2; have z1 := hjn; have z2 := hjl; have z3 := hpos; go_simp; (try with_reducible rfl); (try omega))
            (try simp only [Act.put, List.setIfInBounds_toArray, List.set_cons_zero, List.set_cons_succ, List.getElem_toArray, List.getElem_cons_zero, List.getElem_cons_succ])
            refine wpAnyH_take (i := 26) (v := ?_) rfl (by kernel_rfl) (by kernel_rfl) (by kernel_rfl) (fun _ _ _ h => h) (Or.inl ⟨by rfl, ?_⟩) (by assumption) ?_
            rotate_left
            · (intro wx hSw; have y0 := hSw.1.1; have y1 := hlt; have y2 := hlti; have y3 := g0'; have y4 := g1'; have y5 := g2'; have y6 := hg0; have y7 := hSw.1.2.1; have y8 := hSw.1.2.2; have y9 := hwj; have z0 := hj2; have z1 := hjn; have z2 := hjl; have z3 := hpos; go_simp; (try with_reducible rfl); (try omega))
            (try simp only [Act.put, List.setIfInBounds_toArray, List.set_cons_zero, List.set_cons_succ, List.getElem_toArray, List.getElem_cons_zero, List.getElem_cons_succ])
            refine wpAnyH_take (i := 27) (v := ?_) rfl (by kernel_rfl) (by kernel_rfl) (by kernel_rfl) (fun _ _ _ h => h) (Or.inl ⟨by rfl, ?_⟩) (by assumption) ?_
            rotate_left
            · (intro wx hSw; have y0 := hSw.1.1; have y1 := hlt; have y2 := hlti; have y3 := g0'; have y4 := g1'; have y5 := g2'; have y6 := hg0; have y7 := hSw.1.2.1; have y8 := hSw.1.2.2; have y9 := hwj; have z0 := hj2; have z1 := hjn; have z2 := hjl; have z3 := hpos; go_simp; (try with_reducible rfl); (try omega))
            (try simp only [Act.put, List.setIfInBounds_toArray, List.set_cons_zero, List.set_cons_succ, List.getElem_toArray, List.getElem_cons_zero, List.getElem_cons_succ])
            refine wpAnyH_take (i := 28) (v := ?_) rfl (by kernel_rfl) (by kernel_rfl) (by kernel_rfl) (fun _ _ _ h => h) (Or.inl ⟨by rfl, ?_⟩) (by assumption) ?_
            rotate_left
            · (intro wx hSw; have y0 := hSw.1.1; have y1 := hlt; have y2 := hlti; have y3 := g0'; have y4 := g1'; have y5 := g2'; have y6 := hg0; have y7 := hSw.1.2.1; have y8 := hSw.1.2.2; have y9 := hwj; have z0 := hj2; have z1 := hjn; have z2 := hjl; have z3 := hpos; go_simp; (try with_reducible rfl); (try omega))
            (try simp only [Act.put, List.setIfInBounds_toArray, List.set_cons_zero, List.set_cons_succ, List.getElem_toArray, List.getElem_cons_zero, List.getElem_cons_succ])
            refine wpAnyH_take (i := 29) (v := ?_) rfl (by kernel_rfl) (by kernel_rfl) (by kernel_rfl) (fun _ _ _ h => h) (Or.inl ⟨by rfl, ?_⟩) (by assumption) ?_
            rotate_left
            · (intro wx hSw; have y0 := hSw.1.1; have y1 := hlt; have y2 := hlti; have y3 := g0'; have y4 := g1'; have y5 := g2'; have y6 := hg0; have y7 := hSw.1.2.1; have y8 := hSw.1.2.2; have y9 := hwj; have z0 := hj2; have z1 := hjn; have z2 := hjl; have z3 := hpos; go_simp; (try with_reducible rfl); (try omega))
            (try simp only [Act.put, List.setIfInBounds_toArray, List.set_cons_zero, List.set_cons_succ, List.getElem_toArray, List.getElem_cons_zero, List.getElem_cons_succ])
            refine wpAnyH_take (i := 30) (v := ?_) rfl (by kernel_rfl) (by kernel_rfl) (by kernel_rfl) (fun _ _ _ h => h) (Or.inl ⟨by rfl, ?_⟩) (by assumption) ?_
            rotate_left
            · (intro wx hSw; have y0 := hSw.1.1; have y1 := hlt; have y2 := hlti; have y3 := g0'; have y4 := g1'; have y5 := g2'; have y6 := hg0; have y7 := hSw.1.2.1; have y8 := hSw.1.2.2; have y9 := hwj; have z0 := hj2; have z1 := hjn; have z2 := hjl; have z3 := hpos; go_simp; (try with_reducible rfl); (try omega))
            (try simp only [Act.put, List.setIfInBounds_toArray, List.set_cons_zero, List.set_cons_succ, List.getElem_toArray, List.getElem_cons_zero, List.getElem_cons_succ])
            refine wpAnyH_take (i := 31) (v := ?_) rfl (by kernel_rfl) (by kernel_rfl) (by kernel_rfl) (fun _ _ _ h => h) (Or.inl ⟨by rfl, ?_⟩) (by assumption) ?_
            rotate_left
            · (intro wx hSw; have y0 := hSw.1.1; have y1 := hlt; have y2 := hlti; have y3 := g0'; have y4 := g1'; have y5 := g2'; have y6 := hg0; have y7 := hSw.1.2.1; have y8 := hSw.1.2.2; have y9 := hwj; have z0 := hj2; have z1 := hjn; have z2 := hjl; have z3 := hpos; go_simp; (try with_reducible rfl); (try omega))
            (try simp only [Act.put, List.setIfInBounds_toArray, List.set_cons_zero, List.set_cons_succ, List.getElem_toArray, List.getElem_cons_zero, List.getElem_cons_succ])
            refine wpAnyH_take (i := 32) (v := ?_) rfl (by kernel_rfl) (by kernel_rfl) (by kernel_rfl) (fun _ _ _ h => h) (Or.inl ⟨by rfl, ?_⟩) (by assumption) ?_
            rotate_left
            · (intro wx hSw; have y0 := hSw.1.1; have y1 := hlt; have y2 := hlti; have y3 := g0'; have y4 := g1'; have y5 := g2'; have y6 := hg0; have y7 := hSw.1.2.1; have y8 := hSw.1.2.2; have y9 := hwj; have z0 := hj2; have z1 := hjn; have z2 := hjl; have z3 := hpos; go_simp; (try with_reducible rfl); (try omega))
            (try simp only [Act.put, List.setIfInBounds_toArray, List.set_cons_zero, List.set_cons_succ, List.getElem_toArray, List.getElem_cons_zero, List.getElem_cons_succ])
            refine wpAnyH_take (i := 33) (v := ?_) rfl (by kernel_rfl) (by kernel_rfl) (by kernel_rfl) (fun _ _ _ h => h) (Or.inl ⟨by rfl, ?_⟩) (by assumption) ?_
            rotate_left
            · (intro wx hSw; have y0 := hSw.1.1; have y1 := hlt; have y2 := hlti; have y3 := g0'; have y4 := g1'; have y5 := g2'; have y6 := hg0; have y7 := hSw.1.2.1; have y8 := hSw.1.2.2; have y9 := hwj; have z0 := hj2; have z1 := hjn; have z2 := hjl; have z3 := hpos; go_simp; (try with_reducible rfl); (try omega))
            (try simp only [Act.put, List.setIfInBounds_toArray, List.set_cons_zero, List.set_cons_succ, List.getElem_toArray, List.getElem_cons_zero, List.getElem_cons_succ])
            refine wpAnyH_take (i := 34) (v := ?_) rfl (by kernel_rfl) (by kernel_rfl) (by kernel_rfl) (fun _ _ _ h => h) (Or.inl ⟨by rfl, ?_⟩) (by assumption) ?_
            rotate_left
            · (intro wx hSw; have y0 := hSw.1.1; have y1 := hlt; have y2 := hlti; have y3 := g0'; have y4 := g1'; have y5 := g2'; have y6 := hg0; have y7 := hSw.1.2.1; have y8 := hSw.1.2.2; have y9 := hwj; have z0 := hj2; have z1 := hjn; have z2 := hjl; have z3 := hpos; go_simp; (try with_reducible rfl); (try omega))
            (try simp only [Act.put, List.setIfInBounds_toArray, List.set_cons_zero, List.set_cons_succ, List.getElem_toArray, List.getElem_cons_zero, List.getElem_cons_succ])
            refine wpAnyH_take (i := 35) (v := ?_) rfl (by kernel_rfl) (by kernel_rfl) (by kernel_rfl) (fun _ _ _ h => h) (Or.inl ⟨by rfl, ?_⟩) (by assumption) ?_
            rotate_left
            · (intro wx hSw; have y0 := hSw.1.1; have y1 := hlt; have y2 := hlti; have y3 := g0'; have y4 := g1'; have y5 := g2'; have y6 := hg0; have y7 := hSw.1.2.1; have y8 := hSw.1.2.2; have y9 := hwj; have z0 := hj2; have z1 := hjn; have z2 := hjl; have z3 := hpos; go_simp; (try with_reducible rfl); (try omega))
            (try simp only [Act.put, List.setIfInBounds_toArray, List.set_cons_zero, List.set_cons_succ, List.getElem_toArray, List.getElem_cons_zero, List.getElem_cons_succ])
            refine wpAnyH_take (i := 36) (v := ?_) rfl (by kernel_rfl) (by kernel_rfl) (by kernel_rfl) (fun _ _ _ h => h) (Or.inl ⟨by rfl, ?_⟩) (by assumption) ?_
            rotate_left
            · (intro wx hSw; have y0 := hSw.1.1; have y1 := hlt; have y2 := hlti; have y3 := g0'; have y4 := g1'; have y5 := g2'; have y6 := hg0; have y7 := hSw.1.2.1; have y8 := hSw.1.2.2; have y9 := hwj; have z0 := hj2; have z1 := hjn; have z2 := hjl; have z3 := hpos; go_simp; (try with_reducible rfl); (try omega))
            (try simp only [Act.put, List.setIfInBounds_toArray, List.set_cons_zero, List.set_cons_succ, List.getElem_toArray, List.getElem_cons_zero, List.getElem_cons_succ])
            refine wpAnyH_ready (rs := [37]) (by kernel_rfl) (by simp) ?_
            refine AllReadyH.cons rfl (fun K hK => ?_) AllReadyH.nil
            go_simp
            refine (CR.out _ hS.2).mono ?_
            rintro e W3 ⟨rfl, hb⟩
            have hS := (⟨⟨cell_later hb hS.1.1, cell_later hb hS.1.2.1, cell_later hb hS.1.2.2⟩, below_through hb hS.2.size hS.2⟩ : (fun w' => (w'.cell? ⟨b1, o1 + i * 2 + 1, none⟩ = some (.int .i64 x) ∧ w'.cell? ⟨b1, o1 + i * 2, none⟩ = some (.slice ia im ic) ∧ w'.cell? ⟨b1, o1 + j * 2, none⟩ = some (.slice ja jm jc)) ∧ Below w.heap.size w w') W3)
            clear hb
            refine hK.out _ _ hS (fun hHeld => ?_)
            clear hK K
            (try simp only [Act.put, List.setIfInBounds_toArray, List.set_cons_zero, List.set_cons_succ, List.getElem_toArray, List.getElem_cons_zero, List.getElem_cons_succ])
            refine wpAnyH_take (i := 38) (v := ?_) rfl (by kernel_rfl) (by kernel_rfl) (by kernel_rfl) (fun _ _ _ h => h) (Or.inl ⟨by rfl, ?_⟩) (by assumption) ?_
            rotate_left
            · (intro wx hSw; have y0 := hSw.1.1; have y1 := hlt; have y2 := hlti; have y3 := g0'; have y4 := g1'; have y5 := g2'; have y6 := hg0; have y7 := hSw.1.2.1; have y8 := hSw.1.2.2; have y9 := hwj; have z0 := hj2; have z1 := hjn; have z2 := hjl; have z3 := hpos; go_simp; (try with_reducible rfl); (try omega))
            (try simp only [Act.put, List.setIfInBounds_toArray, List.set_cons_zero, List.set_cons_succ, List.getElem_toArray, List.getElem_cons_zero, List.getElem_cons_succ])
            refine wpAnyH_take (i := 39) (v := ?_) rfl (by kernel_rfl) (by kernel_rfl) (by kernel_rfl) (fun _ _ _ h => h) (Or.inl ⟨by rfl, ?_⟩) (by assumption) ?_
            rotate_left
            · (intro wx hSw; have y0 := hSw.1.1; have y1 := hlt; have y2 := hlti; have y3 := g0'; have y4 := g1'; have y5 := g2'; have y6 := hg0; have y7 := hSw.1.2.1; have y8 := hSw.1.2.2; have y9 := hwj; have z0 := hj2; have z1 := hjn; have z2 := hjl; have z3 := hpos; go_simp; (try with_reducible rfl); (try omega))
            (try simp only [Act.put, List.setIfInBounds_toArray, List.set_cons_zero, List.set_cons_succ, List.getElem_toArray, List.getElem_cons_zero, List.getElem_cons_succ])
            refine wpAnyH_take (i := 40) (v := ?_) rfl (by kernel_rfl) (by kernel_rfl) (by kernel_rfl) (fun _ _ _ h => h) (Or.inl ⟨by rfl, ?_⟩) (by assumption) ?_
            rotate_left
            · (intro wx hSw; have y0 := hSw.1.1; have y1 := hlt; have y2 := hlti; have y3 := g0'; have y4 := g1'; have y5 := g2'; have y6 := hg0; have y7 := hSw.1.2.1; have y8 := hSw.1.2.2; have y9 := hwj; have z0 := hj2; have z1 := hjn; have z2 := hjl; have z3 := hpos; go_simp; (try with_reducible rfl); (try omega))
            (try simp only [Act.put, List.setIfInBounds_toArray, List.set_cons_zero, List.set_cons_succ, List.getElem_toArray, List.getElem_cons_zero, List.getElem_cons_succ])
            refine wpAnyH_done (by kernel_rfl) ?_ _
            clear hHeld
            have hB9 := hS.2
            clear hS
            go_wp2_with fail
            go_ret
            exact ⟨ret_bool (by rw [← HR.out, hbad.out HK.out]), hB9⟩
        · have HK := hid0 (show rightAt E i = true by rw [HF.out]; simp; omega)
          have hcn' : decide ((0 : Int) ≤ cv) = false := by simpa using hcn
          as_aux_lemma =>
            have hS : (fun w' => (w'.cell? ⟨b1, o1 + i * 2 + 1, none⟩ = some (.int .i64 x) ∧ w'.cell? ⟨b1, o1 + i * 2, none⟩ = some (.slice ia im ic) ∧ w'.cell? ⟨b1, o1 + j * 2, none⟩ = some (.slice ja jm jc)) ∧ Below w.heap.size w w') wr.drew := ⟨⟨q1, q0, s0⟩, Below.drew hB⟩
            clear q0 q1 s0 hB
            go_wp2_with fail
            refine wp_region_held_drew (S := fun w' => (w'.cell? ⟨b1, o1 + i * 2 + 1, none⟩ = some (.int .i64 x) ∧ w'.cell? ⟨b1, o1 + i * 2, none⟩ = some (.slice ia im ic) ∧ w'.cell? ⟨b1, o1 + j * 2, none⟩ = some (.slice ja jm jc)) ∧ Below w.heap.size w w') (by kernel_rfl) hS (fun hHeld => ?_)
            refine wpAnyH_take (i := 0) (v := ?_) rfl (by kernel_rfl) (by kernel_rfl) (by kernel_rfl) (fun _ _ _ h => h) (Or.inl ⟨by rfl, ?_⟩) (by assumption) ?_
            rotate_left
            · (intro wx hSw; have y0 := hSw.1.1; have y1 := hlt; have y2 := hlti; have y3 := g0'; have y4 := g1'; have y5 := g2'; have y6 := hg0; have y7 := hSw.1.2.1; have y8 := hSw.1.2.2; have y9 := hwj; have z0 := hj2; have z1 := hjn; have z2 := hjl; have z3 := hpos; go_simp; (try with_reducible rfl); (try omega))
            (try simp only [Act.put, List.setIfInBounds_toArray, List.set_cons_zero, List.set_cons_succ, List.getElem_toArray, List.getElem_cons_zero])
            refine wpAnyH_take (i := 1) (v := ?_) rfl (by kernel_rfl) (by kernel_rfl) (by kernel_rfl) (fun _ _ _ h => h) (Or.inl ⟨by rfl, ?_⟩) (by assumption) ?_
            rotate_left
            · (intro wx hSw; have y0 := hSw.1.1; have y1 := hlt; have y2 := hlti; have y3 := g0'; have y4 := g1'; have y5 := g2'; have y6 := hg0; have y7 := hSw.1.2.1; have y8 := hSw.1.2.2; have y9 := hwj; have z0 := hj2; have z1 := hjn; have z2 := hjl; have z3 := hpos; go_simp; (try with_reducible rfl); (try omega))
            (try simp only [Act.put, List.setIfInBounds_toArray, List.set_cons_zero, List.set_cons_succ, List.getElem_toArray, List.getElem_cons_zero, List.getElem_cons_succ])
            refine wpAnyH_take (i := 2) (v := ?_) rfl (by kernel_rfl) (by kernel_rfl) (by kernel_rfl) (fun _ _ _ h => h) (Or.inl ⟨by rfl, ?_⟩) (by assumption) ?_
            rotate_left
            · (intro wx hSw; have y0 := hSw.1.1; have y1 := hlt; have y2 := hlti; have y3 := g0'; have y4 := g1'; have y5 := g2'; have y6 := hg0; have y7 := hSw.1.2.1; have y8 := hSw.1.2.2; have y9 := hwj; have z0 := hj2; have z1 := hjn; have z2 := hjl; have z3 := hpos; go_simp; (try with_reducible rfl); (try omega))
            (try simp only [Act.put, List.setIfInBounds_toArray, List.set_cons_zero, List.set_cons_succ, List.getElem_toArray, List.getElem_cons_zero, List.getElem_cons_succ])
            refine wpAnyH_take (i := 3) (v := ?_) rfl (by kernel_rfl) (by kernel_rfl) (by kernel_rfl) (fun _ _ _ h => h) (Or.inl ⟨by rfl, ?_⟩) (by assumption) ?_
            rotate_left
            · (intro wx hSw; have y0 := hSw.1.1; have y1 := hlt; have y2 := hlti; have y3 := g0'; have y4 := g1'; have y5 := g2'; have y6 := hg0; have y7 := hSw.1.2.1; have y8 := hSw.1.2.2; have y9 := hwj; have z0 := hj2; have z1 := hjn; have z2 := hjl; have z3 := hpos; go_simp; (try with_reducible rfl); (try omega))
            (try simp only [Act.put, List.setIfInBounds_toArray, List.set_cons_zero, List.set_cons_succ, List.getElem_toArray, List.getElem_cons_zero, List.getElem_cons_succ])
            refine wpAnyH_take (i := 4) (v := ?_) rfl (by kernel_rfl) (by kernel_rfl) (by kernel_rfl) (fun _ _ _ h => h) (Or.inl ⟨by rfl, ?_⟩) (by assumption) ?_
            rotate_left
            · (intro wx hSw; have y0 := hSw.1.1; have y1 := hlt; have y2 := hlti; have y3 := g0'; have y4 := g1'; have y5 := g2'; have y6 := hg0; have y7 := hSw.1.2.1; have y8 := hSw.1.2.2; have y9 := hwj; have z0 := hj2; have z1 := hjn; have z2 := hjl; have z3 := hpos; go_simp; (try with_reducible rfl); (try omega))
            (try simp only [Act.put, List.setIfInBounds_toArray, List.set_cons_zero, List.set_cons_succ, List.getElem_toArray, List.getElem_cons_zero, List.getElem_cons_succ])
            refine wpAnyH_take (i := 5) (v := ?_) rfl (by kernel_rfl) (by kernel_rfl) (by kernel_rfl) (fun _ _ _ h => h) (Or.inl ⟨by rfl, ?_⟩) (by assumption) ?_
            rotate_left
            · (intro wx hSw; have y0 := hSw.1.1; have y1 := hlt; have y2 := hlti; have y3 := g0'; have y4 := g1'; have y5 := g2'; have y6 := hg0; have y7 := hSw.1.2.1; have y8 := hSw.1.2.2; have y9 := hwj; have z0 := hj2; have z1 := hjn; have z2 := hjl; have z3 := hpos; go_simp; (try with_reducible rfl); (try omega))
            (try simp only [Act.put, List.setIfInBounds_toArray, List.set_cons_zero, List.set_cons_succ, List.getElem_toArray, List.getElem_cons_zero, List.getElem_cons_succ])
            refine wpAnyH_take (i := 6) (v := ?_) rfl (by kernel_rfl) (by kernel_rfl) (by kernel_rfl) (fun _ _ _ h => h) (Or.inl ⟨by rfl, ?_⟩) (by assumption) ?_
            rotate_left
            · (intro wx hSw; have y0 := hSw.1.1; have y1 := hlt; have y2 := hlti; have y3 := g0'; have y4 := g1'; have y5 := g2'; have y6 := hg0; have y7 := hSw.1.2.1; have y8 := hSw.1.2.2; have y9 := hwj; have z0 := hj2; have z1 := hjn; have z2 := hjl; have z3 := hpos; go_simp; (try with_reducible rfl); (try omega))
            (try simp only [Act.put, List.setIfInBounds_toArray, List.set_cons_zero, List.set_cons_succ, List.getElem_toArray, List.getElem_cons_zero, List.getElem_cons_succ])
            refine wpAnyH_take (i := 7) (v := ?_) rfl (by kernel_rfl) (by kernel_rfl) (by kernel_rfl) (fun _ _ _ h => h) (Or.inl ⟨by rfl, ?_⟩) (by assumption) ?_
            rotate_left
            · (intro wx hSw; have y0 := hSw.1.1; have y1 := hlt; have y2 := hlti; have y3 := g0'; have y4 := g1'; have y5 := g2'; have y6 := hg0; have y7 := hSw.1.2.1; have y8 := hSw.1.2.2; have y9 := hwj; have z0 := hj2; have z1 := hjn; have z2 := hjl; have z3 := hpos; go_simp; (try with_reducible rfl); (try omega))
            (try simp only [Act.put, List.setIfInBounds_toArray, List.set_cons_zero, List.set_cons_succ, List.getElem_toArray, List.getElem_cons_zero, List.getElem_cons_succ])
            refine wpAnyH_take (i := 8) (v := ?_) rfl (by kernel_rfl) (by kernel_rfl) (by kernel_rfl) (fun _ _ _ h => h) (Or.inl ⟨by rfl, ?_⟩) (by assumption) ?_
            rotate_left
            · (intro wx hSw; have y0 := hSw.1.1; have y1 := hlt; have y2 := hlti; have y3 := g0'; have y4 := g1'; have y5 := g2'; have y6 := hg0; have y7 := hSw.1.2.1; have y8 := hSw.1.2.2; have y9 := hwj; have z0 := hj2; have z1 := hjn; have z2 := hjl; have z3 := hpos; go_simp; (try with_reducible rfl); (try omega))
            (try simp only [Act.put, List.setIfInBounds_toArray, List.set_cons_zero, List.set_cons_succ, List.getElem_toArray, List.getElem_cons_zero, List.getElem_cons_succ])
            refine wpAnyH_take (i := 9) (v := ?_) rfl (by kernel_rfl) (by kernel_rfl) (by kernel_rfl) (fun _ _ _ h => h) (Or.inl ⟨by rfl, ?_⟩) (by assumption) ?_
            rotate_left
            · (intro wx hSw; have y0 := hSw.1.1; have y1 := hlt; have y2 := hlti; have y3 := g0'; have y4 := g1'; have y5 := g2'; have y6 := hg0; have y7 := hSw.1.2.1; have y8 := hSw.1.2.2; have y9 := hwj; have z0 := hj2; have z1 := hjn; have z2 := hjl; have z3 := hpos; go_simp; (try with_reducible rfl); (try omega))
            (try simp only [Act.put, List.setIfInBounds_toArray, List.set_cons_zero, List.set_cons_succ, List.getElem_toArray, List.getElem_cons_zero, List.getElem_cons_succ])
            refine wpAnyH_take (i := 10) (v := ?_) rfl (by kernel_rfl) (by kernel_rfl) (by kernel_rfl) (fun _ _ _ h => h) (Or.inl ⟨by rfl, ?_⟩) (by assumption) ?_
            rotate_left
            · (intro wx hSw; have y0 := hSw.1.1; have y1 := hlt; have y2 := hlti; have y3 := g0'; have y4 := g1'; have y5 := g2'; have y6 := hg0; have y7 := hSw.1.2.1; have y8 := hSw.1.2.2; have y9 := hwj; have z0 := hj2; have z1 := hjn; have z2 := hjl; have z3 := hpos; go_simp; (try with_reducible rfl); (try omega))
            (try simp only [Act.put, List.setIfInBounds_toArray, List.set_cons_zero, List.set_cons_succ, List.getElem_toArray, List.getElem_cons_zero, List.getElem_cons_succ])
            refine wpAnyH_take (i := 11) (v := ?_) rfl (by kernel_rfl) (by kernel_rfl) (by kernel_rfl) (fun _ _ _ h => h) (Or.inl ⟨by rfl, ?_⟩) (by assumption) ?_
            rotate_left
            · (intro wx hSw; have y0 := hSw.1.1; have y1 := hlt; have y2 := hlti; have y3 := g0'; have y4 := g1'; have y5 := g2'; have y6 := hg0; have y7 := hSw.1.2.1; have y8 := hSw.1.2.2; have y9 := hwj; have z0 := hj2; have z1 := hjn; have z2 := hjl; have z3 := hpos; go_simp; (try with_reducible rfl); (try omega))
            (try simp only [Act.put, List.setIfInBounds_toArray, List.set_cons_zero, List.set_cons_succ, List.getElem_toArray, List.getElem_cons_zero, List.getElem_cons_succ])
            refine wpAnyH_take (i := 12) (v := ?_) rfl (by kernel_rfl) (by kernel_rfl) (by kernel_rfl) (fun _ _ _ h => h) (Or.inl ⟨by rfl, ?_⟩) (by assumption) ?_
            rotate_left
            · (intro wx hSw; have y0 := hSw.1.1; have y1 := hlt; have y2 := hlti; have y3 := g0'; have y4 := g1'; have y5 := g2'; have y6 := hg0; have y7 := hSw.1.2.1; have y8 := hSw.1.2.2; have y9 := hwj; have z0 := hj2; have z1 := hjn; have z2 := hjl; have z3 := hpos; go_simp; (try with_reducible rfl); (try omega))
            (try simp only [Act.put, List.setIfInBounds_toArray, List.set_cons_zero, List.set_cons_succ, List.getElem_toArray, List.getElem_cons_zero, List.getElem_cons_succ])
            refine wpAnyH_take (i := 13) (v := ?_) rfl (by kernel_rfl) (by kernel_rfl) (by kernel_rfl) (fun _ _ _ h => h) (Or.inl ⟨by rfl, ?_⟩) (by assumption) ?_
            rotate_left
            · (intro wx hSw; have y0 := hSw.1.1; have y1 := hlt; have y2 := hlti; have y3 := g0'; have y4 := g1'; have y5 := g2'; have y6 := hg0; have y7 := hSw.1.2.1; have y8 := hSw.1.2.2; have y9 := hwj; have z0 := hj2; have z1 := hjn; have z2 := hjl; have z3 := hpos; go_simp; (try with_reducible rfl); (try omega))
            (try simp only [Act.put, List.setIfInBounds_toArray, List.set_cons_zero, List.set_cons_succ, List.getElem_toArray, List.getElem_cons_zero, List.getElem_cons_succ])
            refine wpAnyH_take (i := 14) (v := ?_) rfl (by kernel_rfl) (by kernel_rfl) (by kernel_rfl) (fun _ _ _ h => h) (Or.inl ⟨by rfl, ?_⟩) (by assumption) ?_
            rotate_left
            · (intro wx hSw; have y0 := hSw.1.1; have y1 := hlt; have y2 := hlti; have y3 := g0'; have y4 := g1'; have y5 := g2'; have y6 := hg0; have y7 := hSw.1.2.1; have y8 := hSw.1.2.2; have y9 := hwj; have z0 := hj2; have z1 := hjn; have z2 := hjl; have z3 := hpos; go_simp; (try with_reducible rfl); (try omega))
            (try simp only [Act.put, List.setIfInBounds_toArray, List.set_cons_zero, List.set_cons_succ, List.getElem_toArray, List.getElem_cons_zero, List.getElem_cons_succ])
            refine wpAnyH_take (i := 15) (v := ?_) rfl (by kernel_rfl) (by kernel_rfl) (by kernel_rfl) (fun _ _ _ h => h) (Or.inl ⟨by rfl, ?_⟩) (by assumption) ?_
            rotate_left
            · (intro wx hSw; have y0 := hSw.1.1; have y1 := hlt; have y2 := hlti; have y3 := g0'; have y4 := g1'; have y5 := g2'; have y6 := hg0; have y7 := hSw.1.2.1; have y8 := hSw.1.2.2; have y9 := hwj; have z0 := hj2; have z1 := hjn; have z2 := hjl; have z3 := hpos; go_simp; (try with_reducible rfl); (try omega))
            (try simp only [Act.put, List.setIfInBounds_toArray, List.set_cons_zero, List.set_cons_succ, List.getElem_toArray, List.getElem_cons_zero, List.getElem_cons_succ])
            refine wpAnyH_take (i := 16) (v := ?_) rfl (by kernel_rfl) (by kernel_rfl) (by kernel_rfl) (fun _ _ _ h => h) (Or.inl ⟨by rfl, ?_⟩) (by assumption) ?_
            rotate_left
            · (intro wx hSw; have y0 := hSw.1.1; have y1 := hlt; have y2 := hlti; have y3 := g0'; have y4 := g1'; have y5 := g2'; have y6 := hg0; have y7 := hSw.1.2.1; have y8 := hSw.1.2.2; have y9 := hwj; have z0 := hj2; have z1 := hjn; have z2 := hjl; have z3 := hpos; go_simp; (try with_reducible rfl); (try omega))
            (try simp only [Act.put, List.setIfInBounds_toArray, List.set_cons_zero, List.set_cons_succ, List.getElem_toArray, List.getElem_cons_zero, List.getElem_cons_succ])
            refine wpAnyH_take (i := 17) (v := ?_) rfl (by kernel_rfl) (by kernel_rfl) (by kernel_rfl) (fun _ _ _ h => h) (Or.inl ⟨by rfl, ?_⟩) (by assumption) ?_
            rotate_left
            · (intro wx hSw; have y0 := hSw.1.1; have y1 := hlt; have y2 := hlti; have y3 := g0'; have y4 := g1'; have y5 := g2'; have y6 := hg0; have y7 := hSw.1.2.1; have y8 := hSw.1.2.2; have y9 := hwj; have z0 := hj2; have z1 := hjn; have z2 := hjl; have z3 := hpos; go_simp; (try with_reducible rfl); (try omega))
            (try simp only [Act.put, List.setIfInBounds_toArray, List.set_cons_zero, List.set_cons_succ, List.getElem_toArray, List.getElem_cons_zero, List.getElem_cons_succ])
            refine wpAnyH_take (i := 18) (v := ?_) rfl (by kernel_rfl) (by kernel_rfl) (by kernel_rfl) (fun _ _ _ h => h) (Or.inl ⟨by rfl, ?_⟩) (by assumption) ?_
            rotate_left
            · (intro wx hSw; have y0 := hSw.1.1; have y1 := hlt; have y2 := hlti; have y3 := g0'; have y4 := g1'; have y5 := g2'; have y6 := hg0; have y7 := hSw.1.2.1; have y8 := hSw.1.2.2; have y9 := hwj; have z0 := hj2; have z1 := hjn; have z2 := hjl; have z3 := hpos; go_simp; (try with_reducible rfl); (try omega))
            (try simp only [Act.put, List.setIfInBounds_toArray, List.set_cons_zero, List.set_cons_succ, List.getElem_toArray, List.getElem_cons_zero, List.getElem_cons_succ])
            refine wpAnyH_take (i := 19) (v := ?_) rfl (by kernel_rfl) (by kernel_rfl) (by kernel_rfl) (fun _ _ _ h => h) (Or.inl ⟨by rfl, ?_⟩) (by assumption) ?_
            rotate_left
            · (intro wx hSw; have y0 := hSw.1.1; have y1 := hlt; have y2 := hlti; have y3 := g0'; have y4 := g1'; have y5 := g2'; have y6 := hg0; have y7 := hSw.1.2.1; have y8 := hSw.1.2.2; have y9 := hwj; have z0 := hj2; have z1 := hjn; have z2 := hjl; have z3 := hpos; go_simp; (try with_reducible rfl); (try omega))
            (try simp only [Act.put, List.setIfInBounds_toArray, List.set_cons_zero, List.set_cons_succ, List.getElem_toArray, List.getElem_cons_zero, List.getElem_cons_succ])
            refine wpAnyH_take (i := 20) (v := ?_) rfl (by kernel_rfl) (by kernel_rfl) (by kernel_rfl) (fun _ _ _ h => h) (Or.inl ⟨by rfl, ?_⟩) (by assumption) ?_
            rotate_left
            · (intro wx hSw; have y0 := hSw.1.1; have y1 := hlt; have y2 := hlti; have y3 := g0'; have y4 := g1'; have y5 := g2'; have y6 := hg0; have y7 := hSw.1.2.1; have y8 := hSw.1.2.2; have y9 := hwj; have z0 := hj2; have z1 := hjn; have z2 := hjl; have z3 := hpos; go_simp; (try with_reducible rfl); (try omega))
            (try simp only [Act.put, List.setIfInBounds_toArray, List.set_cons_zero, List.set_cons_succ, List.getElem_toArray, List.getElem_cons_zero, List.getElem_cons_succ])
            refine wpAnyH_take (i := 21) (v := ?_) rfl (by kernel_rfl) (by kernel_rfl) (by kernel_rfl) (fun _ _ _ h => h) (Or.inl ⟨by rfl, ?_⟩) (by assumption) ?_
            rotate_left
            · (intro wx hSw; have y0 := hSw.1.1; have y1 := hlt; have y2 := hlti; have y3 := g0'; have y4 := g1'; have y5 := g2'; have y6 := hg0; have y7 := hSw.1.2.1; have y8 := hSw.1.2.2; have y9 := hwj; have z0 := hj2; have z1 := hjn; have z2 := hjl; have z3 := hpos; go_simp; (try with_reducible rfl); (try omega))
            (try simp only [Act.put, List.setIfInBounds_toArray, List.set_cons_zero, List.set_cons_succ, List.getElem_toArray, List.getElem_cons_zero, List.getElem_cons_succ])
            refine wpAnyH_take (i := 22) (v := ?_) rfl (by kernel_rfl) (by kernel_rfl) (by kernel_rfl) (fun _ _ _ h => h) (Or.inl ⟨by rfl, ?_⟩) (by assumption) ?_
            rotate_left
            · (intro wx hSw; have y0 := hSw.1.1; have y1 := hlt; have y2 := hlti; have y3 := g0'; have y4 := g1'; have y5 := g2'; have y6 := hg0; have y7 := hSw.1.2.1; have y8 := hSw.1.2.2; have y9 := hwj; have z0 := hj2; have z1 := hjn; have z2 := hjl; have z3 := hpos; go_simp; (try with_reducible rfl); (try omega))
            (try simp only [Act.put, List.setIfInBounds_toArray, List.set_cons_zero, List.set_cons_succ, List.getElem_toArray, List.getElem_cons_zero, List.getElem_cons_succ])
            refine wpAnyH_take (i := 23) (v := ?_) rfl (by kernel_rfl) (by kernel_rfl) (by kernel_rfl) (fun _ _ _ h => h) (Or.inl ⟨by rfl, ?_⟩) (by assumption) ?_
            rotate_left
            · (intro wx hSw; have y0 := hSw.1.1; have y1 := hlt; have y2 := hlti; have y3 := g0'; have y4 := g1'; have y5 := g2'; have y6 := hg0; have y7 := hSw.1.2.1; have y8 := hSw.1.2.2; have y9 := hwj; have z0 := hj2; have z1 := hjn; have z2 := hjl; have z3 := hpos; go_simp; (try with_reducible rfl); (try omega))
            (try simp only [Act.put, List.setIfInBounds_toArray, List.set_cons_zero, List.set_cons_succ, List.getElem_toArray, List.getElem_cons_zero, List.getElem_cons_succ])
            refine wpAnyH_take (i := 24) (v := ?_) rfl (by kernel_rfl) (by kernel_rfl) (by kernel_rfl) (fun _ _ _ h => h) (Or.inl ⟨by rfl, ?_⟩) (by assumption) ?_
            rotate_left
            · (intro wx hSw; have y0 := hSw.1.1; have y1 := hlt; have y2 := hlti; have y3 := g0'; have y4 := g1'; have y5 := g2'; have y6 := hg0; have y7 := hSw.1.2.1; have y8 := hSw.1.2.2; have y9 := hwj; have z0 := hj2; have z1 := hjn; have z2 := hjl; have z3 := hpos; go_simp; (try with_reducible rfl); (try omega))
            (try simp only [Act.put, List.setIfInBounds_toArray, List.set_cons_zero, List.set_cons_succ, List.getElem_toArray, List.getElem_cons_zero, List.getElem_cons_succ])
            refine wpAnyH_take (i := 25) (v := ?_) rfl (by kernel_rfl) (by kernel_rfl) (by kernel_rfl) (fun _ _ _ h => h) (Or.inl ⟨by rfl, ?_⟩) (by assumption) ?_
            rotate_left
            · (intro wx hSw; have y0 := hSw.1.1; have y1 := hlt; have y2 := hlti; have y3 := g0'; have y4 := g1'; have y5 := g2'; have y6 := hg0; have y7 := hSw.1.2.1; have y8 := hSw.1.2.2; have y9 := hwj; have z0 := hj2; have z1 := hjn; have z2 := hjl; have z3 := hpos; go_simp; (try with_reducible rfl); (try omega))
            (try simp only [Act.put, List.setIfInBounds_toArray, List.set_cons_zero, List.set_cons_succ, List.getElem_toArray, List.getElem_cons_zero, List.getElem_cons_succ])
            refine wpAnyH_take (i := 26) (v := ?_) rfl (by kernel_rfl) (by kernel_rfl) (by kernel_rfl) (fun _ _ _ h => h) (Or.inl ⟨by rfl, ?_⟩) (by assumption) ?_
            rotate_left
            · (intro wx hSw; have y0 := hSw.1.1; have y1 := hlt; have y2 := hlti; have y3 := g0'; have y4 := g1'; have y5 := g2'; have y6 := hg0; have y7 := hSw.1.2.1; have y8 := hSw.1.2.2; have y9 := hwj; have z0 := hj2; have z1 := hjn; have z2 := hjl; have z3 := hpos; go_simp; (try with_reducible rfl); (try omega))
            (try simp only [Act.put, List.setIfInBounds_toArray, List.set_cons_zero, List.set_cons_succ, List.getElem_toArray, List.getElem_cons_zero, List.getElem_cons_succ])
            refine wpAnyH_take (i := 27) (v := ?_) rfl (by kernel_rfl) (by kernel_rfl) (by kernel_rfl) (fun _ _ _ h => h) (Or.inl ⟨by rfl, ?_⟩) (by assumption) ?_
            rotate_left
            · (intro wx hSw; have y0 := hSw.1.1; have y1 := hlt; have y2 := hlti; have y3 := g0'; have y4 := g1'; have y5 := g2'; have y6 := hg0; have y7 := hSw.1.2.1; have y8 := hSw.1.2.2; have y9 := hwj; have z0 := hj2; have z1 := hjn; have z2 := hjl; have z3 := hpos; go_simp; (try with_reducible rfl); (try omega))
            (try simp only [Act.put, List.setIfInBounds_toArray, List.set_cons_zero, List.set_cons_succ, List.getElem_toArray, List.getElem_cons_zero, List.getElem_cons_succ])
            refine wpAnyH_take (i := 28) (v := ?_) rfl (by kernel_rfl) (by kernel_rfl) (by kernel_rfl) (fun _ _ _ h => h) (Or.inl ⟨by rfl, ?_⟩) (by assumption) ?_
            rotate_left
            · (intro wx hSw; have y0 := hSw.1.1; have y1 := hlt; have y2 := hlti; have y3 := g0'; have y4 := g1'; have y5 := g2'; have y6 := hg0; have y7 := hSw.1.2.1; have y8 := hSw.1.2.2; have y9 := hwj; have z0 := hj2; have z1 := hjn; have z2 := hjl; have z3 := hpos; go_simp; (try with_reducible rfl); (try omega))
            (try simp only [Act.put, List.setIfInBounds_toArray, List.set_cons_zero, List.set_cons_succ, List.getElem_toArray, List.getElem_cons_zero, List.getElem_cons_succ])
            refine wpAnyH_take (i := 29) (v := ?_) rfl (by kernel_rfl) (by kernel_rfl) (by kernel_rfl) (fun _ _ _ h => h) (Or.inl ⟨by rfl, ?_⟩) (by assumption) ?_
            rotate_left
            · (intro wx hSw; have y0 := hSw.1.1; have y1 := hlt; have y2 := hlti; have y3 := g0'; have y4 := g1'; have y5 := g2'; have y6 := hg0; have y7 := hSw.1.2.1; have y8 := hSw.1.2.2; have y9 := hwj; have z0 := hj2; have z1 := hjn; have z2 := hjl; have z3 := hpos; go_simp; (try with_reducible rfl); (try omega))
            (try simp only [Act.put, List.setIfInBounds_toArray, List.set_cons_zero, List.set_cons_succ, List.getElem_toArray, List.getElem_cons_zero, List.getElem_cons_succ])
            refine wpAnyH_take (i := 30) (v := ?_) rfl (by kernel_rfl) (by kernel_rfl) (by kernel_rfl) (fun _ _ _ h => h) (Or.inl ⟨by rfl, ?_⟩) (by assumption) ?_
            rotate_left
            · (intro wx hSw; have y0 := hSw.1.1; have y1 := hlt; have y2 := hlti; have y3 := g0'; have y4 := g1'; have y5 := g2'; have y6 := hg0; have y7 := hSw.1.2.1; have y8 := hSw.1.2.2; have y9 := hwj; have z0 := hj2; have z1 := hjn; have z2 := hjl; have z3 := hpos; go_simp; (try with_reducible rfl); (try omega))
            (try simp only [Act.put, List.setIfInBounds_toArray, List.set_cons_zero, List.set_cons_succ, List.getElem_toArray, List.getElem_cons_zero, List.getElem_cons_succ])
            refine wpAnyH_take (i := 31) (v := ?_) rfl (by kernel_rfl) (by kernel_rfl) (by kernel_rfl) (fun _ _ _ h => h) (Or.inl ⟨by rfl, ?_⟩) (by assumption) ?_
            rotate_left
            · (intro wx hSw; have y0 := hSw.1.1; have y1 := hlt; have y2 := hlti; have y3 := g0'; have y4 := g1'; have y5 := g2'; have y6 := hg0; have y7 := hSw.1.2.1; have y8 := hSw.1.2.2; have y9 := hwj; have z0 := hj2; have z1 := hjn; have z2 := hjl; have z3 := hpos; go_simp; (try with_reducible rfl); (try omega))
            (try simp only [Act.put, List.setIfInBounds_toArray, List.set_cons_zero, List.set_cons_succ, List.getElem_toArray, List.getElem_cons_zero, List.getElem_cons_succ])
            refine wpAnyH_take (i := 32) (v := ?_) rfl (by kernel_rfl) (by kernel_rfl) (by kernel_rfl) (fun _ _ _ h => h) (Or.inl ⟨by rfl, ?_⟩) (by assumption) ?_
            rotate_left
            · (intro wx hSw; have y0 := hSw.1.1; have y1 := hlt; have y2 := hlti; have y3 := g0'; have y4 := g1'; have y5 := g2'; have y6 := hg0; have y7 := hSw.1.2.1; have y8 := hSw.1.2.2; have y9 := hwj; have z0 := hj2; have z1 := hjn; have z2 := hjl; have z3 := hpos; go_simp; (try with_reducible rfl); (try omega))
            (try simp only [Act.put, List.setIfInBounds_toArray, List.set_cons_zero, List.set_cons_succ, List.getElem_toArray, List.getElem_cons_zero, List.getElem_cons_succ])
            refine wpAnyH_take (i := 33) (v := ?_) rfl (by kernel_rfl) (by kernel_rfl) (by kernel_rfl) (fun _ _ _ h => h) (Or.inl ⟨by rfl, ?_⟩) (by assumption) ?_
            rotate_left
            · (intro wx hSw; have y0 := hSw.1.1; have y1 := hlt; have y2 := hlti; have y3 := g0'; have y4 := g1'; have y5 := g2'; have y6 := hg0; have y7 := hSw.1.2.1; have y8 := hSw.1.2.2; have y9 := hwj; have z0 := hj2; have z1 := hjn; have z2 := hjl; have z3 := hpos; go_simp; (try with_reducible rfl); (try omega))
            (try simp only [Act.put, List.setIfInBounds_toArray, List.set_cons_zero, List.set_cons_succ, List.getElem_toArray, List.getElem_cons_zero, List.getElem_cons_succ])
            refine wpAnyH_take (i := 34) (v := ?_) rfl (by kernel_rfl) (by kernel_rfl) (by kernel_rfl) (fun _ _ _ h => h) (Or.inl ⟨by rfl, ?_⟩) (by assumption) ?_
            rotate_left
            · (intro wx hSw; have y0 := hSw.1.1; have y1 := hlt; have y2 := hlti; have y3 := g0'; have y4 := g1'; have y5 := g2'; have y6 := hg0; have y7 := hSw.1.2.1; have y8 := hSw.1.2.2; have y9 := hwj; have z0 := hj2; have z1 := hjn; have z2 := hjl; have z3 := hpos; go_simp; (try with_reducible rfl); (try omega))
            (try simp only [Act.put, List.setIfInBounds_toArray, List.set_cons_zero, List.set_cons_succ, List.getElem_toArray, List.getElem_cons_zero, List.getElem_cons_succ])
            refine wpAnyH_take (i := 35) (v := ?_) rfl (by kernel_rfl) (by kernel_rfl) (by kernel_rfl) (fun _ _ _ h => h) (Or.inl ⟨by rfl, ?_⟩) (by assumption) ?_
            rotate_left
            · (intro wx hSw; have y0 := hSw.1.1; have y1 := hlt; have y2 := hlti; have y3 := g0'; have y4 := g1'; have y5 := g2'; have y6 := hg0; have y7 := hSw.1.2.1; have y8 := hSw.1.2.2; have y9 := hwj; have z0 := hj2; have z1 := hjn; have z2 := hjl; have z3 := hpos; go_simp; (try with_reducible rfl); (try omega))
            (try simp only [Act.put, List.setIfInBounds_toArray, List.set_cons_zero, List.set_cons_succ, List.getElem_toArray, List.getElem_cons_zero, List.getElem_cons_succ])
            refine wpAnyH_take (i := 36) (v := ?_) rfl (by kernel_rfl) (by kernel_rfl) (by kernel_rfl) (fun _ _ _ h => h) (Or.inl ⟨by rfl, ?_⟩) (by assumption) ?_
            rotate_left
            · (intro wx hSw; have y0 := hSw.1.1; have y1 := hlt; have y2 := hlti; have y3 := g0'; have y4 := g1'; have y5 := g2'; have y6 := hg0; have y7 := hSw.1.2.1; have y8 := hSw.1.2.2; have y9 := hwj; have z0 := hj2; have z1 := hjn; have z2 := hjl; have z3 := hpos; go_simp; (try with_reducible rfl); (try omega))
            (try simp only [Act.put, List.setIfInBounds_toArray, List.set_cons_zero, List.set_cons_succ, List.getElem_toArray, List.getElem_cons_zero, List.getElem_cons_succ])
            refine wpAnyH_ready (rs := [37]) (by kernel_rfl) (by simp) ?_
            refine AllReadyH.cons rfl (fun K hK => ?_) AllReadyH.nil
            go_simp
            refine (CR.out _ hS.2).mono ?_
            rintro e W3 ⟨rfl, hb⟩
            have hS := (⟨⟨cell_later hb hS.1.1, cell_later hb hS.1.2.1, cell_later hb hS.1.2.2⟩, below_through hb hS.2.size hS.2⟩ : (fun w' => (w'.cell? ⟨b1, o1 + i * 2 + 1, none⟩ = some (.int .i64 x) ∧ w'.cell? ⟨b1, o1 + i * 2, none⟩ = some (.slice ia im ic) ∧ w'.cell? ⟨b1, o1 + j * 2, none⟩ = some (.slice ja jm jc)) ∧ Below w.heap.size w w') W3)
            clear hb
            refine hK.out _ _ hS (fun hHeld => ?_)
            clear hK K
            (try simp only [Act.put, List.setIfInBounds_toArray, List.set_cons_zero, List.set_cons_succ, List.getElem_toArray, List.getElem_cons_zero, List.getElem_cons_succ])
            refine wpAnyH_take (i := 38) (v := ?_) rfl (by kernel_rfl) (by kernel_rfl) (by kernel_rfl) (fun _ _ _ h => h) (Or.inl ⟨by rfl, ?_⟩) (by assumption) ?_
            rotate_left
            · (intro wx hSw; have y0 := hSw.1.1; have y1 := hlt; have y2 := hlti; have y3 := g0'; have y4 := g1'; have y5 := g2'; have y6 := hg0; have y7 := hSw.1.2.1; have y8 := hSw.1.2.2; have y9 := hwj; have z0 := hj2; have z1 := hjn; have z2 := hjl; have z3 := hpos; go_simp; (try with_reducible rfl); (try omega))
            (try simp only [Act.put, List.setIfInBounds_toArray, List.set_cons_zero, List.set_cons_succ, List.getElem_toArray, List.getElem_cons_zero, List.getElem_cons_succ])
            refine wpAnyH_take (i := 39) (v := ?_) rfl (by kernel_rfl) (by kernel_rfl) (by kernel_rfl) (fun _ _ _ h => h) (Or.inl ⟨by rfl, ?_⟩) (by assumption) ?_
            rotate_left
            · (intro wx hSw; have y0 := hSw.1.1; have y1 := hlt; have y2 := hlti; have y3 := g0'; have y4 := g1'; have y5 := g2'; have y6 := hg0; have y7 := hSw.1.2.1; have y8 := hSw.1.2.2; have y9 := hwj; have z0 := hj2; have z1 := hjn; have z2 := hjl; have z3 := hpos; go_simp; (try with_reducible rfl); (try omega))
            (try simp only [Act.put, List.setIfInBounds_toArray, List.set_cons_zero, List.set_cons_succ, List.getElem_toArray, List.getElem_cons_zero, List.getElem_cons_succ])
            refine wpAnyH_take (i := 40) (v := ?_) rfl (by kernel_rfl) (by kernel_rfl) (by kernel_rfl) (fun _ _ _ h => h) (Or.inl ⟨by rfl, ?_⟩) (by assumption) ?_
            rotate_left
            · (intro wx hSw; have y0 := hSw.1.1; have y1 := hlt; have y2 := hlti; have y3 := g0'; have y4 := g1'; have y5 := g2'; have y6 := hg0; have y7 := hSw.1.2.1; have y8 := hSw.1.2.2; have y9 := hwj; have z0 := hj2; have z1 := hjn; have z2 := hjl; have z3 := hpos; go_simp; (try with_reducible rfl); (try omega))
            (try simp only [Act.put, List.setIfInBounds_toArray, List.set_cons_zero, List.set_cons_succ, List.getElem_toArray, List.getElem_cons_zero, List.getElem_cons_succ])
            refine wpAnyH_done (by kernel_rfl) ?_ _
            clear hHeld
            have hB9 := hS.2
            clear hS
            go_wp2_with fail
            exact ⟨⟨i + 1, by omega, by go_num, hid0 (hnext.out HK.out), hB9⟩, by simp [intOf]; omega⟩
    · have hie : ¬ (i : Int) < E.length := by omega
      rw [List.take_of_length_le (by simp; omega)] at hO
      go_wp2
      go_ret
      exact ⟨ret_bool (by rw [← HR.out, hO.out]), hB⟩
end Go.Proofs.Ytadidikegfiedaa
