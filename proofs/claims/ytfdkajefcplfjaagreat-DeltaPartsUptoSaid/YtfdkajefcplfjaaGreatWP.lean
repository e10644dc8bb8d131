/- Several of my texts laid together, each as it was: Xx, Xy, D59, D60. Conditions: each names its own. -/
import Derived.Test.YtfdkajefcplfjaaGreatH8
import Derived.Test.YtfdkajefcplfjaaGreatWO
import Derived.Test.YtfdkajefcplfjaaGreatWN
import Derived.Test.YtfdkajefcplfjaaGreatVA
import Derived.Test.YtfdkajefcplfjaaGreatVJ
/- The reference: products to MaxMany, how many rows a list has, what a plan costs. Conditions: the lists' cells are known. -/
namespace Go.Proofs.YtfdkajefcplfjaaGreat
open Go.RowKit

end Go.Proofs.YtfdkajefcplfjaaGreat

/- The reference: what is at a name. Conditions: the names' cells are known. -/
namespace Go.Proofs.YtfdkajefcplfjaaGreat
open Go.RowKit

def hasV (l : List Nx) (s : List UInt8) : Value := match findN l s with
  | none => .tuple #[.slice none 0 0, .bool false]
  | some x => .tuple #[.slice x.a x.E.length x.c, .bool true]
theorem hasV_cons (x : Nx) (l : List Nx) (s : List UInt8) : hasV (x :: l) s = if x.s.data.toList = s then .tuple #[.slice x.a x.E.length x.c, .bool true] else hasV l s := by
  unfold hasV findN
  by_cases h : x.s.data.toList = s
  · rw [if_pos h, List.find?_cons_of_pos (by simpa using h)]
  · rw [if_neg h, List.find?_cons_of_neg (by simpa using h)]
set_option maxRecDepth 100000 in
set_option maxHeartbeats 1000000 in
theorem refHas_any (a : Option Addr) (c : Nat) (l : List Nx) (s : ByteArray) (w : World) (h : NsOk w a l) :
    Calls Tryz.prog 32 #[.slice a l.length c, .string s] w fun e w' => e = .returned (hasV l s.data.toList) ∧ w' = w := by
  have A := hid0 h
  have hfew := h.few
  obtain ⟨R, hr⟩ : ∃ R, Ending.returned (hasV l s.data.toList) = R := ⟨_, rfl⟩
  have HR := hid0 (show Ending.returned (hasV (l.drop 0) s.data.toList) = R from hr)
  rw [hr]
  clear h hr
  obtain ⟨n, hn⟩ : ∃ n, l.length = n := ⟨_, rfl⟩
  have HN := hid0 hn
  rw [hn] at hfew ⊢
  clear hn
  go_enter Tryz.func32, Tryz.ntmps32
  go_wp2
  go_loopw [6] (fun iv wr => ∃ i : Nat, i ≤ n ∧ iv = .int .i64 i ∧ Hid (Ending.returned (hasV (l.drop i) s.data.toList) = R) ∧ wr = w) (fun iv _ => n - (intOf iv).toNat)
  case atStart => exact ⟨0, Nat.zero_le _, rfl, HR, rfl⟩
  case round =>
    obtain ⟨i, hi, rfl, hO, rfl⟩ := hrel
    by_cases hlt : i < n
    · have g1 : i < l.length := by rw [HN.out]; exact hlt
      obtain ⟨b1, o1, rfl, hb1, hR⟩ := A.out.name i g1
      have h0 := hO.out
      rw [List.drop_eq_getElem_cons g1, hasV_cons] at h0
      generalize l[i] = x at hR h0
      have q0 := rng hR 0 (u := .string x.s) rfl
      have q1 := rng hR 1 (u := .slice x.a x.E.length x.c) rfl
      rw [Nat.add_zero] at q0
      have H0 := hid0 h0
      clear hR h0 hO
      by_cases hs : x.s = s
      · have HS := hid0 hs
        rw [hs] at q0
        clear hs
        go_wp2
        go_ret2
        exact ⟨by rw [← H0.out, if_pos (by rw [HS.out])]; rfl, rfl⟩
      · have hne : ¬ x.s.data.toList = s.data.toList := fun e => hs (ByteArray.ext (Array.ext' e))
        have hne2 : ¬ x.s.toList = s.toList := fun e => hne (by rw [ByteArray.toList_eq, ByteArray.toList_eq] at e; exact e)
        have H1 := hid0 (show Ending.returned (hasV (l.drop (i + 1)) s.data.toList) = R by rw [← H0.out, if_neg hne])
        have hb : (x.s.toList == s.toList) = false := by simpa using hne2
        clear hne hne2 hs
        go_wp2
        exact ⟨⟨i + 1, by omega, by go_num, H1, trivial⟩, by simp [intOf]; omega⟩
    · have hie : ¬ (i : Int) < n := by omega
      have h0 := hO.out
      rw [List.drop_of_length_le (by rw [HN.out]; omega)] at h0
      have H0 := hid0 h0
      clear h0
      go_wp2
      go_ret2
      exact ⟨H0.out, rfl⟩
end Go.Proofs.YtfdkajefcplfjaaGreat

/- The reference's layer 14: what is there behind changes (Now), in whatever memory: the contract of the call, where the numbers may be any. Conditions: the names' cells are known; at most 400000 rows in a list. -/
namespace Go.Proofs.YtfdkajefcplfjaaGreat
open Go.RowKit

/-- What Add answers of lists whose numbers may be any. -/
structure AddE (A B E : List Elem) : Prop where
  some : SomeE (A ++ B) E
  is : absS (A.map pr ++ B.map pr) ≤ 4611686018427387904 → E.map pr = ofB (A.map pr ++ B.map pr)
theorem addE_any (a1 a2 : Option Addr) (c1 c2 : Nat) (A B : List Elem) (w : World) (h1 : ElemsI w a1 c1 A) (h2 : ElemsI w a2 c2 B) (hl : A.length + B.length ≤ 1000000) :
    Calls Tryz.prog 26 #[.slice a1 A.length c1, .slice a2 B.length c2] w fun e w' => (∃ a c E, e = .returned (.slice a E.length c) ∧ E.length ≤ c ∧ ElemsAt w' a E ∧ AddE A B E ∧ TagL w' a ∧ ∀ e ∈ E, GoodE w' e) ∧ Below w.heap.size w w' := by
  by_cases hs : absS (A.map pr ++ B.map pr) ≤ 4611686018427387904
  · refine (refAdd2 a1 a2 c1 c2 A B w h1.at_ h2.at_ hl hs).mono ?_
    rintro e w' ⟨⟨a, c, E, rfl, hc, hE, hm, ht, hg⟩, hb⟩
    refine ⟨⟨a, c, E, rfl, hc, hE, ⟨⟨?_, fun e he => ⟨?_, ?_⟩⟩, fun _ => hm⟩, ht, hg⟩, hb⟩
    · have e1 := congrArg List.length hm
      have e2 := len_ofB (A.map pr ++ B.map pr)
      rw [List.length_map] at e1
      rw [List.length_append, List.length_map, List.length_map] at e2
      rw [List.length_append]
      omega
    · have hme : pr e ∈ ofB (A.map pr ++ B.map pr) := by rw [← hm]; exact List.mem_map_of_mem he
      obtain ⟨z, hz, ez⟩ := mem_ofB' hme
      rw [← List.map_append] at hz
      obtain ⟨d, hd, rfl⟩ := List.mem_map.1 hz
      exact ⟨d, hd, ez⟩
    · have h3 := absS_mem (L := E.map pr) (List.mem_map_of_mem (f := pr) he)
      rw [hm] at h3
      have h4 := absS_ofB (A.map pr ++ B.map pr)
      have e1 : (pr e).2 = e.n := rfl
      rw [e1] at h3
      unfold in64
      omega
  · refine (refAddW a1 a2 c1 c2 A B w h1.at_ h2.at_ hl (fun e he => (h1.i e he).2.1) (fun e he => (h2.i e he).2.1)).mono ?_
    rintro e w' ⟨⟨a, c, E, rfl, hc, hE, hm, ht, hg⟩, hb⟩
    exact ⟨⟨a, c, E, rfl, hc, hE, ⟨hm, fun h => absurd h hs⟩, ht, hg⟩, hb⟩
theorem apart_some {W w : World} {s : ByteArray} {a5 a1 a2 : Option Addr} {c5 c1 c2 : Nat} {E A B : List Elem} (h1 : ElemsI w a1 c1 A) (h2 : ElemsI w a2 c2 B) (hl : A.length + B.length ≤ 1000000) (hE : ElemsAt W a5 E) (hc : E.length ≤ c5) (hm : AddE A B E) (ht : TagL W a5) (hg : ∀ e ∈ E, GoodE W e) : Apart W ⟨s, a5, c5, E⟩ := by
  have hfew := hm.some.few
  rw [List.length_append] at hfew
  refine ⟨⟨hE, fun e he => ⟨fun v hv => ?_, (hm.some.of e he).2, (hg e he).1⟩, by show E.length ≤ _; omega, hc⟩, ht, hg⟩
  obtain ⟨x, hx, ex⟩ := (hm.some.of e he).1
  rw [ex] at hv
  rcases List.mem_append.1 hx with hx | hx
  · exact (h1.i x hx).1 v hv
  · exact (h2.i x hx).1 v hv
/-- A name appended, in a region whose order is drawn. -/
theorem step_nx {w0 w : World} {ops : Array Oper} {o : Oper} {a : Act} {K : Act → World → Prop} {Q : Exit → Act → World → Prop} {X : Prop} (hgd : o.guard = none) (s x : Operand)
    (ho : o.op = .call { callee := .builtin .append, args := #[s, x], argTypes := #[25, 25] })
    {v : Value} {l : List Nx} (hs : a.eval s = v) (hm : WideAt w0 w v l)
    (e : Nx) (B : Nat) (hx : a.eval x = .slice (some ⟨B, 0, none⟩) 1 1) (h0 : w.cell? ⟨B, 0, none⟩ = some (.string e.s)) (h1 : w.cell? ⟨B, 1, none⟩ = some (.slice e.a e.E.length e.c))
    (he : e.s.size ≤ maxLen ∧ (ElemsI w0 e.a e.c e.E ∨ Apart w e)) (hlen : (l.length + 1) * 40 ≤ 140737488355328)
    (h : ∀ v' w', WideAt w0 w' v' (l ++ [e]) → KeptT 65 w0.heap.size w w' → K (a.put o.dst v') w') :
    if Region.wanted o (yielded ops a.tmps) = true then Oper.wp Tryz.prog o a w K Q else X := by
  rw [if_pos (by simp [Region.wanted, hgd])]
  obtain ⟨i0, hi, hz0, hz1, hz2⟩ := info_parts infoNx
  obtain ⟨v', w', hr, hown', hgrow, _, _⟩ := run_append_own_at (P := Tryz.prog) w w0.heap.size 25 o.type 65 i0 (.agg #[.string ⟨#[]⟩, .slice none 0 0]) 2 40 Tryz.underlying25 hi hz0 hz1 hz2 rfl (by decide) v l.length (cellsNx l) hm.own ⟨B, 0, none⟩ 1 1 [.string e.s, .slice e.a e.E.length e.c] rfl
    (by
      intro j u hj
      match j, hj with
      | 0, hj => simp at hj; subst hj; rw [WideShapes.add_plain]; exact h0
      | 1, hj => simp at hj; subst hj; rw [WideShapes.add_plain]; exact h1
      | j + 2, hj => simp at hj)
    (by intro u hu; simp at hu; rcases hu with rfl | rfl <;> rfl) (by unfold maxLen; omega) hlen hm.b.size
  have hK := keptT_grown hm.own hm.b.size hgrow
  unfold Oper.wp execOp
  simp only [ho, resolve, invoke, builtin, Sem.run_bind, Sem.run_pure, Result.andThen_ok, List.map_toArray, List.map_cons, List.map_nil, hs, hx, hr]
  refine h v' w' ⟨?_, fun y hy => ?_, hm.b.trans hK.below⟩ hK
  · rw [cellsNx_snoc, List.length_append]
    exact hown'
  · rcases List.mem_append.1 hy with hy | hy
    · exact ⟨(hm.ok y hy).1, (hm.ok y hy).2.imp id fun k => k.keptN hK⟩
    · obtain rfl := List.mem_singleton.1 hy
      exact ⟨he.1, he.2.imp id fun k => k.keptN hK⟩
theorem hasV_slc (l : List Nx) (s : List UInt8) : ∃ ok, hasV l s = .tuple #[slcOf l s, .bool ok] := by
  unfold hasV slcOf
  cases findN l s with
  | some x => exact ⟨true, rfl⟩
  | none => exact ⟨false, rfl⟩
/-- What Now answers, name by name. -/
structure NowX (ch : List Nx) (x y : Nx) : Prop where
  s : y.s = x.s
  few : y.E.length ≤ x.E.length + (bagN ch x.s.data.toList).length
  is : absS (x.E.map pr ++ bagN ch x.s.data.toList) ≤ 4611686018427387904 → y.E.map pr = ofB (x.E.map pr ++ bagN ch x.s.data.toList)
def NowL (ch : List Nx) : List Nx → List Nx → Prop
  | [], [] => True
  | x :: l, y :: m => NowX ch x y ∧ NowL ch l m
  | _, _ => False
theorem NowL.len {ch : List Nx} : ∀ {l m : List Nx}, NowL ch l m → l.length = m.length
  | [], [], _ => rfl
  | _ :: _, [], h => h.elim
  | [], _ :: _, h => h.elim
  | _ :: _, _ :: _, h => by rw [List.length_cons, List.length_cons, NowL.len h.2]
theorem NowL.snoc {ch : List Nx} {x y : Nx} (hx : NowX ch x y) : ∀ {l m : List Nx}, NowL ch l m → NowL ch (l ++ [x]) (m ++ [y])
  | [], [], _ => ⟨hx, trivial⟩
  | _ :: _, [], h => h.elim
  | [], _ :: _, h => h.elim
  | _ :: _, _ :: _, h => ⟨h.1, NowL.snoc hx h.2⟩
def NowAns (w : World) (old ch : List Nx) (e : Ending) (w' : World) : Prop :=
  (∃ a c N, e = .returned (.slice a N.length c) ∧ NsOk w' a N ∧ NowL ch old N) ∧ Below w.heap.size w w'
set_option maxHeartbeats 8000000 in
set_option maxRecDepth 1000000 in
theorem refNow_any (a1 : Option Addr) (c1 : Nat) (old : List Nx) (a2 : Option Addr) (c2 : Nat) (ch : List Nx) (w : World) (h1 : NsOk w a1 old) (h2 : NsOk w a2 ch) (hfew : old.length ≤ 1048576) (lo : ∀ x ∈ old, x.E.length ≤ 400000) (lc : ∀ x ∈ ch, x.E.length ≤ 400000) :
    Calls Tryz.prog 29 #[.slice a1 old.length c1, .slice a2 ch.length c2] w (NowAns w old ch) := by
  have A := hid0 h1
  have HC := hid0 h2
  have HLO := hid0 lo
  have HLC := hid0 lc
  have hM0 := WideAt.nil (w := w) (Below.refl _ w)
  clear h1 h2 lo lc
  obtain ⟨N, hNN⟩ : ∃ N, old.length = N := ⟨_, rfl⟩
  obtain ⟨m, hmm⟩ : ∃ m, ch.length = m := ⟨_, rfl⟩
  rw [hNN] at hfew
  rw [hNN, hmm]
  have HL := hid0 hNN
  have HM0 := hid0 hmm
  clear hNN hmm
  go_enter Tryz.func29, Tryz.ntmps29
  go_wp2_with fail
  go_loopw [5, 6, 7, 8] (fun rv iv _ _ wr => ∃ (i : Nat) (M : List Nx), i ≤ N ∧ iv = .int .i64 i ∧ WideAt w wr rv M ∧ Hid (NowL ch (old.take i) M)) (fun _ iv _ _ _ => N - (intOf iv).toNat)
  case atStart => exact ⟨0, [], Nat.zero_le _, rfl, hM0, hid0 trivial⟩
  case round =>
    clear hM0
    obtain ⟨i, M, hi, rfl, hM, hT⟩ := hrel
    have hml : M.length = i := by
      have h1 := hT.out.len
      rw [List.length_take, HL.out] at h1
      omega
    by_cases hlt : i < N
    · have hlt' : (i : Int) < (N : Int) := by omega
      have g1 : i < old.length := by rw [HL.out]; exact hlt
      obtain ⟨b, o, rfl, hbl, hR⟩ := A.out.name i g1
      have hxo := (A.out.ok _ (List.getElem_mem g1))
      have hlo := HLO.out _ (List.getElem_mem g1)
      have hstep : old.take (i + 1) = old.take i ++ [old[i]] := List.take_succ_eq_append_getElem g1
      generalize old[i] = x at hR hxo hlo hstep
      have p0 := rng hR 0 (u := .string x.s) rfl
      have p1 := rng hR 1 (u := .slice x.a x.E.length x.c) rfl
      rw [Nat.add_zero] at p0
      obtain ⟨s, hs⟩ : ∃ s, x.s = s := ⟨_, rfl⟩
      rw [hs] at p0
      obtain ⟨ra, rm, rc, hra, hrm⟩ : ∃ ra rm rc, x.a = ra ∧ x.E.length = rm := ⟨_, _, 0, rfl, rfl⟩
      clear hra hrm ra rm rc
      obtain ⟨aB, cB, B, eB, hBI, mB⟩ := slc_at (fun y hy => (HC.out.ok y hy).1) s.data.toList
      obtain ⟨ok, hok⟩ := hasV_slc ch s.data.toList
      rw [eB] at hok
      have hlB : B.length ≤ 400000 := by
        have h1 := bag_few HLC.out s.data.toList
        rw [← mB, List.length_map] at h1
        exact h1
      have CH := hid0 (fun (W : World) (hW : Below w.heap.size w W) => by
        have h := refHas_any a2 c2 ch s W (HC.out.later hW)
        rw [hok, HM0.out] at h
        exact h)
      have C12 := hid0 (fun (W : World) (hW : Below w.heap.size w W) => addE_any x.a aB x.c cB x.E B W (hxo.1.later hW) (hBI.later hW) (by omega))
      have HAp := hid0 (fun (W : World) (a5 : Option Addr) (c5 : Nat) (E5 : List Elem) (hE : ElemsAt W a5 E5) (hc : E5.length ≤ c5) (hm : AddE x.E B E5) (ht : TagL W a5) (hg : ∀ e ∈ E5, GoodE W e) => apart_some (s := s) hxo.1 hBI (by omega) hE hc hm ht hg)
      have HNX := hid0 (fun (y : Nx) (hy : y.s = s) (hm : AddE x.E B y.E) => (show NowL ch (old.take (i + 1)) (M ++ [y]) from by
        rw [hstep]
        refine NowL.snoc ⟨hy.trans hs.symm, ?_, ?_⟩ hT.out
        · rw [hs, ← mB, List.length_map]
          have := hm.some.few
          rwa [List.length_append] at this
        · rw [hs, ← mB]
          exact hm.is))
      have HM := hid0 (hM.below (Below.drew (Below.refl _ _)))
      have HSS := hid0 (show s.size ≤ maxLen from by rw [← hs]; exact hxo.2)
      have hlen8 : (M.length + 1) * 40 ≤ 140737488355328 := by omega
      have hB : Below w.heap.size w wr.drew := Below.drew hM.b
      have q0 := p0
      have q1 := p1
      have q0' := cell_later hM.b p0
      have HMb := hid0 hM.b
      generalize x.E.length = xn at *
      generalize x.a = xa at *
      generalize x.c = xc at *
      generalize B.length = bn at *
      clear hR hxo hlo hstep p0 p1 hBI mB eB hok hT hM hs g1 hbl hlB
      go_wp2_with (first | (go_at_call 32; go_must (refine (CH.out _ HMb.out).mono ?_; rintro e w7 ⟨rfl, hw7⟩; rw [hw7]; clear hw7)) | fail)
      refine wp_region_held_drew (S := (fun W => Below w.heap.size w W)) (by kernel_rfl) hB (fun hHeld => ?_)
      generalize wr.drew = W0 at hB HM hHeld ⊢
      refine wpAnyH_take (i := 0) (v := ?_) rfl (by kernel_rfl) (by kernel_rfl) (by kernel_rfl) (fun _ _ _ h => h) (Or.inl ⟨by rfl, ?_⟩) (by assumption) ?_
      rotate_left
      · (intro wx hSw; go_simp; (try with_reducible rfl); (try omega))
      (try simp only [Act.put, List.setIfInBounds_toArray, List.set_cons_zero, List.set_cons_succ, List.getElem_toArray, List.getElem_cons_zero])
      refine wpAnyH_take (i := 1) (v := ?_) rfl (by kernel_rfl) (by kernel_rfl) (by kernel_rfl) (fun _ _ _ h => h) (Or.inl ⟨by rfl, ?_⟩) (by assumption) ?_
      rotate_left
      · (intro wx hSw; go_simp; (try with_reducible rfl); (try omega))
      (try simp only [Act.put, List.setIfInBounds_toArray, List.set_cons_zero, List.set_cons_succ, List.getElem_toArray, List.getElem_cons_zero, List.getElem_cons_succ])
      refine wpAnyH_take (i := 2) (v := ?_) rfl (by kernel_rfl) (by kernel_rfl) (by kernel_rfl) (fun _ _ _ h => h) (Or.inl ⟨by rfl, ?_⟩) (by assumption) ?_
      rotate_left
      · (intro wx hSw; go_simp; (try with_reducible rfl); (try omega))
      (try simp only [Act.put, List.setIfInBounds_toArray, List.set_cons_zero, List.set_cons_succ, List.getElem_toArray, List.getElem_cons_zero, List.getElem_cons_succ])
      refine wpAnyH_take (i := 3) (v := ?_) rfl (by kernel_rfl) (by kernel_rfl) (by kernel_rfl) (fun _ _ _ h => h) (Or.inl ⟨by rfl, ?_⟩) (by assumption) ?_
      rotate_left
      · (intro wx hSw; go_simp; (try with_reducible rfl); (try omega))
      (try simp only [Act.put, List.setIfInBounds_toArray, List.set_cons_zero, List.set_cons_succ, List.getElem_toArray, List.getElem_cons_zero, List.getElem_cons_succ])
      refine wpAnyH_take (i := 4) (v := ?_) rfl (by kernel_rfl) (by kernel_rfl) (by kernel_rfl) (fun _ _ _ h => h) (Or.inl ⟨by rfl, ?_⟩) (by assumption) ?_
      rotate_left
      · (intro wx hSw; go_simp; (try with_reducible rfl); (try omega))
      (try simp only [Act.put, List.setIfInBounds_toArray, List.set_cons_zero, List.set_cons_succ, List.getElem_toArray, List.getElem_cons_zero, List.getElem_cons_succ])
      refine wpAnyH_take (i := 5) (v := ?_) rfl (by kernel_rfl) (by kernel_rfl) (by kernel_rfl) (fun _ _ _ h => h) (Or.inl ⟨by rfl, ?_⟩) (by assumption) ?_
      rotate_left
      · (intro wx hSw; have hk := cell_later hSw q0; go_simp; (try with_reducible rfl); (try omega))
      (try simp only [Act.put, List.setIfInBounds_toArray, List.set_cons_zero, List.set_cons_succ, List.getElem_toArray, List.getElem_cons_zero, List.getElem_cons_succ])
      refine wpAnyH_take (i := 6) (v := ?_) rfl (by kernel_rfl) (by kernel_rfl) (by kernel_rfl) (fun _ _ _ h => h) (Or.inl ⟨by rfl, ?_⟩) (by assumption) ?_
      rotate_left
      · (intro wx hSw; go_simp; (try with_reducible rfl); (try omega))
      (try simp only [Act.put, List.setIfInBounds_toArray, List.set_cons_zero, List.set_cons_succ, List.getElem_toArray, List.getElem_cons_zero, List.getElem_cons_succ])
      refine wpAnyH_take (i := 7) (v := ?_) rfl (by kernel_rfl) (by kernel_rfl) (by kernel_rfl) (fun _ _ _ h => h) (Or.inl ⟨by rfl, ?_⟩) (by assumption) ?_
      rotate_left
      · (intro wx hSw; go_simp; (try with_reducible rfl); (try omega))
      (try simp only [Act.put, List.setIfInBounds_toArray, List.set_cons_zero, List.set_cons_succ, List.getElem_toArray, List.getElem_cons_zero, List.getElem_cons_succ])
      refine wpAnyH_take (i := 8) (v := ?_) rfl (by kernel_rfl) (by kernel_rfl) (by kernel_rfl) (fun _ _ _ h => h) (Or.inl ⟨by rfl, ?_⟩) (by assumption) ?_
      rotate_left
      · (intro wx hSw; go_simp; (try with_reducible rfl); (try omega))
      (try simp only [Act.put, List.setIfInBounds_toArray, List.set_cons_zero, List.set_cons_succ, List.getElem_toArray, List.getElem_cons_zero, List.getElem_cons_succ])
      refine wpAnyH_take (i := 9) (v := ?_) rfl (by kernel_rfl) (by kernel_rfl) (by kernel_rfl) (fun _ _ _ h => h) (Or.inl ⟨by rfl, ?_⟩) (by assumption) ?_
      rotate_left
      · (intro wx hSw; go_simp; (try with_reducible rfl); (try omega))
      (try simp only [Act.put, List.setIfInBounds_toArray, List.set_cons_zero, List.set_cons_succ, List.getElem_toArray, List.getElem_cons_zero, List.getElem_cons_succ])
      refine wpAnyH_take (i := 10) (v := ?_) rfl (by kernel_rfl) (by kernel_rfl) (by kernel_rfl) (fun _ _ _ h => h) (Or.inl ⟨by rfl, ?_⟩) (by assumption) ?_
      rotate_left
      · (intro wx hSw; have hk := cell_later hSw q1; go_simp; (try with_reducible rfl); (try omega))
      (try simp only [Act.put, List.setIfInBounds_toArray, List.set_cons_zero, List.set_cons_succ, List.getElem_toArray, List.getElem_cons_zero, List.getElem_cons_succ])
      refine wpAnyH_take (i := 11) (v := ?_) rfl (by kernel_rfl) (by kernel_rfl) (by kernel_rfl) (fun _ _ _ h => h) (Or.inl ⟨by rfl, ?_⟩) (by assumption) ?_
      rotate_left
      · (intro wx hSw; go_simp; (try with_reducible rfl); (try omega))
      (try simp only [Act.put, List.setIfInBounds_toArray, List.set_cons_zero, List.set_cons_succ, List.getElem_toArray, List.getElem_cons_zero, List.getElem_cons_succ])
      refine wpAnyH_ready (rs := [12]) (by kernel_rfl) (by simp) ?_
      refine AllReadyH.cons rfl (fun K hK => ?_) ?_
      · (try simp only [Act.put, List.setIfInBounds_toArray, List.set_cons_zero, List.set_cons_succ, List.getElem_toArray, List.getElem_cons_zero, List.getElem_cons_succ])
        go_simp
        refine (C12.out _ hB).mono ?_
        rintro e W1 ⟨⟨a12, c12, E12, rfl, hc12, hE12, hA12, ht12, hg12⟩, hb12⟩
        have hM8 := hid0 (fun o => (HM.out.below hb12).below ((Below.refl _ _).alloc (Nat.le_refl _) o))
        have hB := below_through hb12 hB.size hB
        have HAP := hid0 (HAp.out _ _ _ _ hE12 hc12 hA12 ht12 hg12)
        have HAA := hid0 hA12
        obtain ⟨n12, hn12⟩ : ∃ n, E12.length = n := ⟨_, rfl⟩
        have HN12 := hid0 hn12
        rw [hn12]
        clear hE12 hA12 ht12 hg12 hc12 hn12
        refine hK.out _ _ hB (fun hHeld => ?_)
        clear hK K
        (try simp only [Act.put, List.setIfInBounds_toArray, List.set_cons_zero, List.set_cons_succ, List.getElem_toArray, List.getElem_cons_zero, List.getElem_cons_succ])
        refine wpAnyH_take (i := 13) (v := ?_) rfl (by kernel_rfl) (by kernel_rfl) (by kernel_rfl) (fun _ _ _ h => h) (Or.inl ⟨by rfl, ?_⟩) (by assumption) ?_
        rotate_left
        · (intro wx hSw; go_simp; (try with_reducible rfl); (try omega))
        (try simp only [Act.put, List.setIfInBounds_toArray, List.set_cons_zero, List.set_cons_succ, List.getElem_toArray, List.getElem_cons_zero, List.getElem_cons_succ])
        refine wpAnyH_ready (rs := [14]) (by kernel_rfl) (by simp) ?_
        refine AllReadyH.cons rfl (fun K hK => ?_) ?_
        · (try simp only [Act.put, List.setIfInBounds_toArray, List.set_cons_zero, List.set_cons_succ, List.getElem_toArray, List.getElem_cons_zero, List.getElem_cons_succ])
          go_simp
          have hB5 := hB.alloc hB.size (Obj.cells #[.string s, .slice a12 n12 c12] 65)
          refine hK.out _ _ hB5 (fun hHeld => ?_)
          clear hK K
          (try simp only [Act.put, List.setIfInBounds_toArray, List.set_cons_zero, List.set_cons_succ, List.getElem_toArray, List.getElem_cons_zero, List.getElem_cons_succ])
          refine wpAnyH_ready (rs := [15]) (by kernel_rfl) (by simp) ?_
          refine AllReadyH.cons rfl (fun K hK => ?_) ?_
          · refine step_nx (by rfl) _ _ (by rfl) (by rfl) (hM8.out _) ⟨s, a12, c12, E12⟩ W1.heap.size (by rw [← HN12.out]; rfl) (elem_new _ _ _ _).1 (by rw [HN12.out]; exact (elem_new _ _ _ _).2) ⟨HSS.out, .inr (HAP.out.later ((Below.refl _ _).alloc (Nat.le_refl _) _))⟩ hlen8 ?_
            intro v8 w8 hM9 _
            refine hK.out _ _ hM9.b (fun hHeld => ?_)
            clear hK K
            (try simp only [Act.put, List.setIfInBounds_toArray, List.set_cons_zero, List.set_cons_succ, List.getElem_toArray, List.getElem_cons_zero, List.getElem_cons_succ])
            refine wpAnyH_take (i := 16) (v := ?_) rfl (by kernel_rfl) (by kernel_rfl) (by kernel_rfl) (fun _ _ _ h => h) (Or.inl ⟨by rfl, ?_⟩) (by assumption) ?_
            rotate_left
            · (intro wx hSw; go_simp; (try with_reducible rfl); (try omega))
            (try simp only [Act.put, List.setIfInBounds_toArray, List.set_cons_zero, List.set_cons_succ, List.getElem_toArray, List.getElem_cons_zero, List.getElem_cons_succ])
            refine wpAnyH_done (by kernel_rfl) ?_ _
            go_wp2
            exact ⟨⟨i + 1, M ++ [⟨s, a12, c12, E12⟩], by omega, by go_num, hM9, hid0 (HNX.out _ rfl HAA.out)⟩, by simp [intOf]; omega⟩
          exact AllReadyH.nil
        exact AllReadyH.nil
      exact AllReadyH.nil
    · have hie : ¬ (i : Int) < (N : Int) := by omega
      obtain ⟨a4, c4, rfl, hN4⟩ := hM.names (by omega)
      have HN4 := hid0 hN4
      have hb := hM.b
      clear hN4 hM
      go_wp2
      go_ret
      exact ⟨⟨a4, c4, M, by rw [hml]; rfl, HN4.out, by have h := hT.out; rwa [List.take_of_length_le (by rw [HL.out]; omega)] at h⟩, hb⟩
end Go.Proofs.YtfdkajefcplfjaaGreat

/- DeltaNone, plainly: what is there behind changes is found as the model says; changes that are taken back are bags. Nothing of any program here. Conditions: each lemma names its own. -/
namespace Go.Proofs.YtfdkajefcplfjaaGreat
open Go.RowKit

theorem NowL.find {ch : List Nx} : ∀ {l m : List Nx}, NowL ch l m → ∀ {s : List UInt8} {x : Nx}, findN l s = some x → ∃ y, findN m s = some y ∧ NowX ch x y
  | [], [], _, _, _, h => by simp [findN] at h
  | _ :: _, [], h, _, _, _ => h.elim
  | [], _ :: _, h, _, _, _ => h.elim
  | a :: _, b :: _, h, s, x, hx => by
    unfold findN at hx ⊢
    rw [List.find?_cons] at hx ⊢
    rw [h.1.s]
    cases hb : (a.s.data.toList == s) with
    | true =>
      rw [hb] at hx
      obtain rfl : a = x := by simpa using hx
      exact ⟨b, rfl, h.1⟩
    | false =>
      rw [hb] at hx
      exact NowL.find h.2 hx
theorem NowL.mem {ch : List Nx} : ∀ {l m : List Nx}, NowL ch l m → ∀ {y : Nx}, y ∈ m → ∃ x ∈ l, NowX ch x y
  | [], [], _, _, h => absurd h (by simp)
  | _ :: _, [], h, _, _ => h.elim
  | [], _ :: _, h, _, _ => h.elim
  | a :: _, b :: _, h, y, hy => by
    rcases List.mem_cons.1 hy with rfl | hy
    · exact ⟨a, by simp, h.1⟩
    · obtain ⟨x, hx, hn⟩ := NowL.mem h.2 hy
      exact ⟨x, List.mem_cons_of_mem _ hx, hn⟩
theorem mid_ok {old ch mid : List Nx} {ps : List Px} (hG : GoD old ch ps) (h : NowL ch old mid) (lo : ∀ x ∈ old, x.E.length ≤ 400000) (lc : ∀ x ∈ ch, x.E.length ≤ 400000) : ∀ p ∈ ps, ∀ s ∈ p.fs, (findN mid s.data.toList).map nd = some (nowD old ch s) := fun p hp s hs => by
  obtain ⟨x, hx, _⟩ := old_find hG hp hs
  obtain ⟨y, hy, hn⟩ := h.find hx
  obtain ⟨_, _, hsm⟩ := fewN_of hG.ro hG.rc lo lc s (namesF_one hp hs)
  have e : bagN old s.data.toList = x.E.map pr := by unfold bagN; rw [hx]
  have hxs := find_name hx
  have hm := hn.is (by rw [absS_append, hxs, ← e]; exact hsm)
  rw [hy]
  show some (y.s, y.E.map pr) = some (s, ofB (bagN old s.data.toList ++ bagN ch s.data.toList))
  rw [hn.s, hxs, hm, hxs, e]
theorem mid_few {old ch mid : List Nx} (h : NowL ch old mid) (lo : ∀ x ∈ old, x.E.length ≤ 400000) (hj : ∀ x ∈ old, ∀ z ∈ ch, x.E.length + z.E.length ≤ 400000) : ∀ y ∈ mid, y.E.length ≤ 400000 := fun y hy => by
  obtain ⟨x, hx, hn⟩ := h.mem hy
  have h1 := hn.few
  have h2 : x.E.length + (bagN ch x.s.data.toList).length ≤ 400000 := by
    unfold bagN
    cases hf : findN ch x.s.data.toList with
    | none => simpa using lo x hx
    | some z =>
      show x.E.length + (z.E.map pr).length ≤ 400000
      rw [List.length_map]
      exact hj x hx z (findN_mem hf)
  omega
end Go.Proofs.YtfdkajefcplfjaaGreat
