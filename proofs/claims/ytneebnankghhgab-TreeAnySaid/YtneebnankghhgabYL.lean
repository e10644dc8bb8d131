/- Several of my texts laid together, each as it was: SyL, ScanL. Conditions: each names its own. -/
import Derived.Test.YtneebnankghhgabSxL
import Derived.Test.YtneebnankghhgabSn
import Derived.Test.YtneebnankghhgabSrL
import Derived.BigRegionIn
/- The project's tree over []int: the keys under a node, with what they have, one after the other, by its depth: a contract of the call, in whatever memory, for every loop's body that keeps the blocks in which the tree lies. Conditions: the node's memory is known; the tree may be. -/
namespace Go.Proofs.Ytneebnankghhgab
open Go.RowKit Go.Shelf

attribute [local go_sem] Oper.semAt_some

theorem lowL_kids {least most n : Nat} {frm : Key} : ∀ {ks : List Key} {cs : List (Tr (Nat) n)} {lo hi : Option Key}, Ch (Wf least most n least most) lo ks cs hi → ∀ x ∈ (cs.take (tw frm ks)).flatMap (flat n), x.1 < frm
  | [], _, _, _, _ => by simp [tw]
  | s :: ks, c :: cs, lo, hi, h => by
    unfold tw
    split
    · simp
    · rename_i hs
      intro x hx
      rw [List.take_succ_cons, List.flatMap_cons, List.mem_append] at hx
      rcases hx with hx | hx
      · exact k_lt_of_le ((wf_kids h.1).2 x hx |>.2 s rfl) hs
      · exact lowL_kids h.2 x hx
  | _ :: _, [], _, _, h => h.elim
theorem highL {X Y : List (Key × (Nat))} {to : Key} (h : Asc (X ++ Y)) (hx : ∃ x ∈ X, ¬ x.1 < to) : ∀ y ∈ Y, ¬ y.1 < to := by
  obtain ⟨x, hx, hxt⟩ := hx
  intro y hy hyt
  exact hxt (k_trans ((List.pairwise_append.1 h).2.2 x hx y hy) hyt)
set_option maxRecDepth 100000 in
set_option maxHeartbeats 8000000 in
theorem walkL_in (y N B0 : Nat) (T P : Nat → Prop) (hPT : ∀ b, P b → T b) (J Jx : List (Key × (Nat)) → World → Prop) (hJ : AbidesFrom B0 J)
    (hY : ∀ m pre x W1, J pre W1 → pre.length < N → YieldAt Fence.wide m Try.prog y #[.string (txt x.1), vL x.2] W1 (RoundL T J Jx pre x W1))
    (least most : Nat) (hmx : most ≤ 64) (frm to : Key) : ∀ (lev n a bb b : Nat) (lo hi : Option Key) (t : Tr (Nat) lev) (pre : List (Key × (Nat))) (W : World), Wf least most lev a bb lo hi t → bb ≤ 64 → NAL P W lev b t → J pre W → pre.length + (flt frm to (flat lev t)).length ≤ N →
    CallsIn Fence.wide n Try.prog 70 #[.pointer (some ⟨b, 0, none⟩), .string (txt frm), .string (txt to), .func (.yield y) #[] #[]] W (ToldL T J Jx frm to (flat lev t) pre W) := by
  intro lev
  induction lev with
  | zero =>
    intro n a bb b lo hi t pre W hw hbb hN h0 hlen
    obtain ⟨l, rfl⟩ : ∃ l : List (Key × (Nat)), l = t := ⟨t, rfl⟩
    obtain ⟨_, _, _, _, _, _, q2, _, _⟩ := hN.open_leaf
    have hl : l.length ≤ bb := hw.2.2.1
    have hT := hid0 (tellL_in (n - 1) y N B0 T P hPT J Jx hJ hY frm to l b pre W hN hw.2.2.2.1 (by omega) h0 hlen)
    have hL := leafL_yes b W q2
    clear hw hN hY
    refine callsIn_of_wp Try.func70 rfl trivial ?_ rfl
    simp only [Try.ntmps70, List.size_toArray, List.length_cons, List.length_nil, Nat.reduceAdd, Nat.reduceSub, Array.replicate_succ, Array.replicate_zero, List.push_toArray, List.append_toArray, List.nil_append, List.cons_append]
    gi_wp2
    refine ⟨trivial, fun h => (by cases h), (callsIn_wide.2 hL).mono ?_⟩
    rintro e w' ⟨rfl, rfl⟩
    gi_wp2
    refine ⟨trivial, fun h => (by cases h), hT.out.mono ?_⟩
    rintro e W' ⟨bb', rfl, hres⟩
    have HR := hid0 hres
    clear hres
    gi_wp2
    go_ret
    exact ⟨bb', rfl, HR.out⟩
  | succ lev ih =>
    intro n a bb b lo hi t pre W hw hbb hN h0 hlen
    have hPb : P b := hN.1
    obtain ⟨ak, ck, ac, cc, bs, q0, q1, hk, hc, hlb, hkd⟩ := hN.open_node
    have hch := hw.2.2.2
    have hlc := ch_len hch
    have hsz : t.1.length ≤ bb := hw.2.2.1
    have hT := fun W' (hb : Below W.heap.size W W') => towardL_any P (lev + 1) b t frm W' (hN.later hb) (wf_keys hw) (by change t.1.length ≤ 1000; omega)
    change ∀ W', Below W.heap.size W W' → Calls _ _ _ _ (fun e w' => e = .returned (.int .i64 (tw frm t.1 : Nat)) ∧ W' = w') at hT
    have hL := leafL_no b _ t.2.length cc W q1 (by omega)
    have htl := tw_le frm t.1
    have hlow := flt_low (frm := frm) (to := to) (lowL_kids (frm := frm) hch)
    have hasc : Asc (t.2.flatMap (flat lev)) := wf_asc hw
    have hkids : ∀ c ∈ t.2, ∃ lo hi, Wf least most lev least most lo hi c := ch_all (R := fun c => ∃ lo hi, Wf least most lev least most lo hi c) (fun lo hi c h => ⟨lo, hi, h⟩) hch
    obtain ⟨i0, hi0⟩ : ∃ i0, tw frm t.1 = i0 := ⟨_, rfl⟩
    rw [hi0] at hT htl hlow
    obtain ⟨a4, c4, s4, k4⟩ := Sl.high Try.underlying68 (fun W => by simp [go_sem]) hc i0 (by omega)
    obtain ⟨cs, hcs⟩ : ∃ cs, t.2 = cs := ⟨_, rfl⟩
    have hft : flat (lev + 1) t = cs.flatMap (flat lev) := by rw [← hcs]; rfl
    rw [hft] at hlen ⊢
    rw [hcs] at q1 hc hlb hkd hlc hlow hasc hkids
    obtain ⟨M, hM⟩ : ∃ M, cs.length = M := ⟨_, rfl⟩
    rw [hcs, hlb, hM] at s4
    rw [hlb, hM] at k4
    rw [hM] at q1 hlb hlc
    obtain ⟨K, hK⟩ : ∃ K, M - i0 = K := ⟨_, rfl⟩
    rw [hK] at s4 k4
    have hiM : i0 < M := by omega
    have hi0a : (0 : Int) ≤ (i0 : Int) := by omega
    have hSS : W.cell? ⟨b, 2, none⟩ = some (.slice ac M cc) ∧ Below W.heap.size W W := ⟨q1, Below.refl _ _⟩
    have HSS := hid0 hSS
    have HT := hid0 hT
    have HA := hid0 (And.intro hlow (And.intro hasc (And.intro hkids (And.intro hkd (And.intro hM k4)))))
    have HK := hid0 hK
    have HIH := hid0 ih
    have HL := hid0 hlen
    have hKi : K ≤ 100 := by omega
    have hJd := abides_drew hJ h0
    have HJ0 := hid0 h0
    clear hSS hT hlow hasc hkids hkd hM k4 hK hw hch hcs hft hc hlb hk hN ih hlen hlc hsz hi0 htl q0 hiM hY h0
    refine callsIn_of_wp Try.func70 rfl trivial ?_ rfl
    simp only [Try.ntmps70, List.size_toArray, List.length_cons, List.length_nil, Nat.reduceAdd, Nat.reduceSub, Array.replicate_succ, Array.replicate_zero, List.push_toArray, List.append_toArray, List.nil_append, List.cons_append]
    gi_wp2
    refine ⟨trivial, fun h => (by cases h), (callsIn_wide.2 hL).mono ?_⟩
    rintro e w' ⟨rfl, rfl⟩
    gi_wp2
    refine wpIn_wide.2 ?_
    go_region_held3 (fun w' => w'.cell? ⟨b, 2, none⟩ = some (.slice ac M cc) ∧ Below W.heap.size W w')
      (first
        | with_reducible assumption
        | (repeat (first | with_reducible exact HSS.out | with_reducible assumption | with_reducible refine hold1_drew ?_)))
      (first
        | (go_at_call 45; (try go_split_ands); refine (HT.out _ (by assumption)).mono ?_; rintro e w' ⟨rfl, rfl⟩))
    gi_wp2
    gi_loopw [27] (fun jv wr => ∃ j : Nat, j ≤ K ∧ jv = .int .i64 j ∧ J (pre ++ flt frm to ((cs.take (i0 + j)).flatMap (flat lev))) wr ∧ KeepB T W wr) (fun jv _ => K - (intOf jv).toNat)
    case atStart => exact ⟨0, Nat.zero_le _, rfl, by rw [Nat.add_zero, HA.out.1, List.append_nil]; exact hJd, KeepB.of_below (Below.drew (Below.refl _ _))⟩
    case round =>
      obtain ⟨j, hj, rfl, hJs, hKB⟩ := hrel
      clear hJd
      by_cases hlt : j < K
      · have hjK : (j : Int) < (K : Int) := by omega
        have hijM : i0 + j < cs.length := by rw [HA.out.2.2.2.2.1]; have := HK.out; omega
        obtain ⟨c, hc⟩ : ∃ c, cs[i0 + j]? = some c := ⟨cs[i0 + j], List.getElem?_eq_getElem hijM⟩
        obtain ⟨b', hb', hNc⟩ := HA.out.2.2.2.1.get hc
        obtain ⟨kb, ko, rfl, hPk, yq⟩ := HA.out.2.2.2.2.2.one (i := j) (by rw [List.getElem?_drop]; exact hb')
        replace yq := hKB.cell (hPT _ hPk) yq
        replace hNc := hNc.keepB hKB hPT
        obtain ⟨lo', hi', hwc⟩ := HA.out.2.2.1 c (List.mem_of_getElem? hc)
        have hsplit : cs.flatMap (flat lev) = (cs.take (i0 + j)).flatMap (flat lev) ++ (flat lev c ++ (cs.drop (i0 + j + 1)).flatMap (flat lev)) := by
          conv => lhs; rw [split_at hc]
          simp [List.flatMap_append]
        have hnext : (cs.take (i0 + (j + 1))).flatMap (flat lev) = (cs.take (i0 + j)).flatMap (flat lev) ++ flat lev c := by
          obtain ⟨hi, e⟩ := List.getElem?_eq_some_iff.1 hc
          rw [show i0 + (j + 1) = i0 + j + 1 by omega, List.take_succ_eq_append_getElem hi, e, List.flatMap_append]; simp
        have hlen2 : (pre ++ flt frm to ((cs.take (i0 + j)).flatMap (flat lev))).length + (flt frm to (flat lev c)).length ≤ N := by
          have := HL.out
          rw [hsplit, flt_append, flt_append, List.length_append, List.length_append] at this
          rw [List.length_append]; omega
        have CI := HIH.out (n - 1) least most b' lo' hi' c _ wr hwc hmx hNc hJs hlen2
        have HSP := hid0 hsplit
        have HNX := hid0 hnext
        have HKB := hid0 hKB
        have HCI := hid0 CI
        clear hsplit hnext hlen2 CI hNc hwc hb' hc hJs hKB hijM
        gi_wp2
        refine ⟨trivial, fun h => (by cases h), HCI.out.mono ?_⟩
        rintro e W' ⟨bb', rfl, hres⟩
        have HR := hid0 hres
        clear hres
        cases bb' with
        | true =>
          gi_wp2
          have hgo : J (pre ++ flt frm to ((cs.take (i0 + (j + 1))).flatMap (flat lev))) W' ∧ KeepB T W W' := by
            rcases HR.out with ⟨h1, h2, _⟩ | ⟨h1, _⟩
            · exact ⟨by rw [HNX.out, flt_append, ← List.append_assoc]; exact h1, HKB.out.trans h2⟩
            · cases h1
          go_roundw
          case rel => exact ⟨j + 1, by omega, by go_num, hgo.1, hgo.2⟩
          case measure => simp [intOf]; omega
        | false =>
          gi_wp2
          go_ret
          rcases HR.out with ⟨h1, h2, h3⟩ | ⟨_, q, hq, h1⟩
          · rcases h3 with h3 | ⟨h3, h4⟩
            · cases h3
            · have hhigh : flt frm to ((cs.drop (i0 + j + 1)).flatMap (flat lev)) = [] := by
                refine flt_high ?_ h3
                have ha := HA.out.2.1
                rw [HSP.out, ← List.append_assoc] at ha
                refine highL ha ?_
                obtain ⟨x, hx, hxt⟩ := h4
                exact ⟨x, List.mem_append.2 (.inr hx), hxt⟩
              refine ⟨false, rfl, .inl ⟨?_, HKB.out.trans h2, .inr ⟨h3, ?_⟩⟩⟩
              · rw [HSP.out, flt_append, flt_append, hhigh, List.append_nil, ← List.append_assoc]
                exact h1
              · obtain ⟨x, hx, hxt⟩ := h4
                exact ⟨x, by rw [HSP.out]; exact List.mem_append.2 (.inr (List.mem_append.2 (.inl hx))), hxt⟩
          · refine ⟨false, rfl, .inr ⟨rfl, flt frm to ((cs.take (i0 + j)).flatMap (flat lev)) ++ q, ?_, by rw [← List.append_assoc]; exact h1⟩⟩
            rw [HSP.out, flt_append, flt_append]
            obtain ⟨r, hr⟩ := hq
            exact ⟨r ++ flt frm to ((cs.drop (i0 + j + 1)).flatMap (flat lev)), by rw [← hr]; simp⟩
      · obtain rfl : j = K := by omega
        have hjj : ¬ (j : Int) < (j : Int) := by omega
        have hall : cs.take (i0 + j) = cs := List.take_of_length_le (by rw [HA.out.2.2.2.2.1]; have := HK.out; omega)
        rw [hall] at hJs
        have HJ := hid0 hJs
        clear hJs hall
        gi_wp2
        go_ret
        exact ⟨true, rfl, .inl ⟨HJ.out, hKB, .inl rfl⟩⟩
end Go.Proofs.Ytneebnankghhgab

/- The project's tree over []int: Scan hands out an iterator that goes through the keys from one on, and below another one, with what they have; Keys answers them: contracts of the calls, in whatever memory. Conditions: the tree's memory is known; it has 1000 keys at most. -/
namespace Go.Proofs.Ytneebnankghhgab
open Go.RowKit Go.Shelf

attribute [local go_sem] Oper.semAt_some

/-- What Scan hands out. -/
def ScanAnsL (w : World) (frm to : Key) (b : Nat) (e : Ending) (w' : World) : Prop :=
  (∃ R F C, e = .returned (.func (.func 69) #[] #[.pointer (some ⟨R, 0, none⟩), .pointer (some ⟨F, 0, none⟩), .pointer (some ⟨C, 0, none⟩)]) ∧ w'.cell? ⟨R, 0, none⟩ = some (.pointer (some ⟨b, 0, none⟩)) ∧ w'.cell? ⟨F, 0, none⟩ = some (.string (txt frm)) ∧ w'.cell? ⟨C, 0, none⟩ = some (.string (txt to))) ∧ Below w.heap.size w w'
set_option maxHeartbeats 1000000 in
theorem scanL_any (B b : Nat) (frm to : Key) (w : World) (h : w.cell? ⟨B, 2, none⟩ = some (.pointer (some ⟨b, 0, none⟩))) :
    Calls Try.prog 47 #[.pointer (some ⟨B, 0, none⟩), .string (txt frm), .string (txt to)] w (ScanAnsL w frm to b) := by
  have hb0 : Below w.heap.size w ((w.alloc (.cells #[.string (txt frm)] 9)).alloc (.cells #[.string (txt to)] 9)) := ((Below.refl _ _).alloc (Nat.le_refl _) _).alloc (by simp) _
  replace h := cell_later hb0 h
  clear hb0
  go_enter Try.func47, Try.ntmps47
  go_wp2_with fail
  refine (missingL_no B _ _ h).mono ?_
  rintro e w' ⟨rfl, rfl⟩
  go_wp2_with fail
  go_ret
  refine ⟨⟨_, _, _, rfl, by go_cell, by go_cell, by go_cell⟩, ?_⟩
  exact (((Below.refl _ _).alloc (Nat.le_refl _) _).alloc (by simp) _).alloc (by simp; omega) _

/-- It goes through the keys that are asked for. -/
theorem scanL_stops {P T : Nat → Prop} (hPT : ∀ b, P b → T b) {least most : Nat} (hmx : most ≤ 64) {w w1 : World} {frm to : Key} {n b a bb : Nat} {lo hi : Option Key} {t : Tr (Nat) n} {e : Ending} (hw : Wf least most n a bb lo hi t) (hbb : bb ≤ 64) (hN : NAL P w1 n b t) (h : ScanAnsL w frm to b e w1) :
    ∃ gf lb, e = .returned (.func (.func gf) #[] lb) ∧ (∀ args W, (callFunc gf args).run Try.prog W = .ok (.enter gf args) W) ∧ gf = 69 ∧
      ∀ k : Nat, SeqStopsK Fence.wide k Try.prog gf lb (fun x : Key × (Nat) => #[.string (txt x.1), vL x.2]) (KeepB T) (fun ys => ys = flt frm to (flat n t)) (fun pre => pre <+: flt frm to (flat n t)) (flt frm to (flat n t)).length w1 := by
  obtain ⟨⟨R, F, C, rfl, cR, cF, cC⟩, hb⟩ := h
  refine ⟨_, _, rfl, enters_of Try.func69 (by kernel_rfl) rfl, rfl, fun k y J Jx W hW hJ hJx hY h0 => ?_⟩
  have r0 := (hW.cell (p := ⟨R, 0, none⟩) (World.block_lt_of_cell? _ _ cR)).trans cR
  have r1 := (hW.cell (p := ⟨F, 0, none⟩) (World.block_lt_of_cell? _ _ cF)).trans cF
  have r2 := (hW.cell (p := ⟨C, 0, none⟩) (World.block_lt_of_cell? _ _ cC)).trans cC
  have hY' : ∀ m pre x W1, J pre W1 → pre.length < (flt frm to (flat n t)).length → YieldAt Fence.wide m Try.prog y #[.string (txt x.1), vL x.2] W1 (RoundL T J Jx pre x W1) := fun m pre x W1 hj hl => by
    obtain ⟨fn, tmps, assign, body, hy, hR⟩ := hY pre x W1 hj hl
    refine ⟨fn, tmps, assign, body, hy, ⟨hR.1, fun c cs hr => ?_⟩⟩
    obtain ⟨e, w', hres, hc⟩ := hR.2 c cs (room_wide _)
    refine ⟨e, w', ?_, hc⟩
    rcases hres with ⟨he, h1, h2⟩ | ⟨he, h1⟩
    · exact ⟨true, he, .inl ⟨rfl, h1, h2⟩⟩
    · exact ⟨false, he, .inr ⟨rfl, h1⟩⟩
  have HWK := hid0 (walkL_in y (flt frm to (flat n t)).length W.heap.size T P hPT J Jx hJ hY' least most hmx frm to n (k - 1) a bb b lo hi t [] W hw hbb (hN.later hW) h0 (by simp))
  clear hY hY' hW hw hN cR cF cC hb
  refine callsIn_of_wp Try.func69 rfl trivial ?_ rfl
  simp only [Try.ntmps69, List.size_toArray, List.length_cons, List.length_nil, Nat.reduceAdd, Nat.reduceSub, Array.replicate_succ, Array.replicate_zero, List.push_toArray, List.append_toArray, List.nil_append, List.cons_append]
  gi_wp2
  refine ⟨trivial, fun h => (by cases h), HWK.out.mono ?_⟩
  rintro e W' ⟨bb', rfl, hres⟩
  have HR := hid0 hres
  clear hres
  gi_wp2
  go_end0
  refine ⟨⟨_, rfl⟩, ?_⟩
  rcases HR.out with ⟨h1, _, _⟩ | ⟨_, q, hq, h1⟩
  · exact .inl ⟨_, rfl, by simpa using h1⟩
  · exact .inr ⟨q, hq, by simpa using h1⟩

/-! ### Keys -/
theorem KeepB.putL {T : Nat → Prop} {W : World} {l : Nat} {o' : Obj} (hT : ¬ T l) : KeepB T W (W.putObj l o') :=
  ⟨(grownBy_putObj' W l o').size, fun k hk hl => (grownBy_putObj' W l o').block k hl (fun e => by cases e; exact hT hk)⟩
def keyCellsL (L : List (Key × (Nat))) : List Value := L.map fun t => .string (txt t.1)
theorem keyCells_snocL (L : List (Key × (Nat))) (t : Key × (Nat)) : keyCellsL (L ++ [t]) = keyCellsL L ++ [.string (txt t.1)] := by simp [keyCellsL]
theorem keyCells_skL (L : List (Key × (Nat))) : keyCellsL L = (L.map (·.1)).flatMap sk := by
  unfold keyCellsL
  induction L with
  | nil => rfl
  | cons x L ih => rw [List.map_cons, List.map_cons, List.flatMap_cons, ih]; rfl
theorem row_base7L {w : World} {base base' : Nat} {e : TypeId} {s k : Nat} {v : Value} {xs : List Value} (h : w.ownsRow base e s v k xs) (hb : base' ≤ base) : w.ownsRow base' e s v k xs := by
  refine ⟨h.1, ?_⟩
  rcases h.2 with h | ⟨g, cap, cur, h1, h2, h3⟩
  · exact .inl h
  · exact .inr ⟨g, cap, cur, h1, by omega, h3⟩
/-- 'out = append(out, ..)': all that the walk owes. -/
theorem appended_oneL {W w1 : World} {n0 n1 B : Nat} {t e : TypeId} {size : Nat} {v v' : Value} {k m : Nat} {xs ys : List Value} {tmp : Obj} {T : Nat → Prop}
    (hv : Boxed W B t v) (hte : t ≠ e) (hrow : W.ownsRow n1 e size v k xs) (hn : n1 ≤ W.heap.size) (h01 : n0 ≤ n1) (hB : n0 ≤ B) (hT : ∀ j, T j → j < n1 ∧ j ≠ B)
    (hown' : w1.ownsRow n1 e size v' m ys) (hgrow : (W.alloc tmp).grownBy w1 v.ownBlock) :
    Boxed w1 B t v ∧ Boxed (w1.setCell ⟨B, 0, none⟩ v') B t v' ∧ (w1.setCell ⟨B, 0, none⟩ v').ownsRow n1 e size v' m ys ∧
      KeepsOthers W (w1.setCell ⟨B, 0, none⟩ v') ∧ Below n0 W (w1.setCell ⟨B, 0, none⟩ v') ∧ KeepB T W (w1.setCell ⟨B, 0, none⟩ v') := by
  have hv1 : Boxed w1 B t v := (hv.alloc tmp).kept hgrow (hv.not_row hte hrow)
  have hrowT := hrow.alloc tmp
  have hblk : ∀ j, some j = v.ownBlock → n1 ≤ j := fun j ej => (hrow.lt j ej.symm).1
  refine ⟨hv1, hv1.set v', hown'.kept (grownBy_setCell' w1 B v') (.inr (hv1.not_row hte hown').symm), ?_, ?_, ?_, ?_⟩
  · refine ((KeepsOthers.alloc W tmp).trans (KeepsOthers.of_grownBy hgrow fun j o ej hj => ?_)).trans (KeepsOthers.setCell _ _ _)
    rcases hrowT.2 with ⟨rfl, _⟩ | ⟨g, cap, cur, rfl, _, hgb, _⟩
    · simp [Value.ownBlock] at ej
    · obtain rfl : g = j := by simpa [Value.ownBlock] using ej
      rw [hgb] at hj; cases hj; rfl
  · exact (((Below.refl n0 W).alloc (by omega) tmp).grown hgrow (by simp; omega) fun j ej => by have := hblk j ej.symm; omega).setCell (p := ⟨B, 0, none⟩) hB v'
  · have h1 := hgrow.size
    simp at h1
    rw [World.size_setCell]; omega
  · intro j hj hl
    obtain ⟨h1, h2⟩ := hT j hj
    rw [Below.heap_setCell _ _ _ _ (by exact h2), hgrow.block j (by simp; omega) (fun ej => by have := hblk j ej; omega), Below.heap_alloc _ _ _ hl]
set_option maxRecDepth 1000000 in
set_option maxHeartbeats 8000000 in
theorem keysL_any (P : Nat → Prop) (B order : Nat) (L : List (Key × (Nat))) (frm to : Key) (w : World) (h : TAL P w B order L) (hlen : L.length ≤ 1000) :
    Calls Try.prog 18 #[.pointer (some ⟨B, 0, none⟩), .string (txt frm), .string (txt to)] w fun e w' => (∃ v, e = .returned v ∧ Sl 1 sk (fun b => w.heap.size ≤ b) w' v ((flt frm to L).map (·.1))) ∧ Below w.heap.size w w' := by
  obtain ⟨n, b, t, q2, hw, hN, hfl⟩ := h.root
  have hhi := h.hi
  obtain ⟨i0, hi, hz0, hz1, hz2⟩ := info_parts infoS
  have b7 := Boxed.new w 46 (.slice none 0 0)
  have hB0 : Below w.heap.size w (w.alloc (.cells #[.slice none 0 0] 46)) := (Below.refl _ w).alloc (Nat.le_refl _) _
  have hsz : (w.alloc (.cells #[.slice none 0 0] 46)).heap.size = w.heap.size + 1 := by simp
  have CA := scanL_any B b frm to _ (cell_later hB0 q2)
  have hN0 := (hN.weak (Q := fun q => q < w.heap.size) (fun q _ hq => hq) (fun x => by simp [eL])).later hB0
  have hl0 : (flt frm to L).length ≤ 1000 := Nat.le_trans (List.length_filter_le _ _) hlen
  refine (callsIn_wide (n := 3)).1 ?_
  refine callsIn_of_wp_marks Try.func18 rfl trivial ?_ rfl
  simp only [Try.ntmps18, List.size_toArray, List.length_cons, List.length_nil, Nat.reduceAdd, Nat.reduceSub, Array.replicate_succ, Array.replicate_zero, List.push_toArray, List.append_toArray, List.nil_append, List.cons_append]
  clear h hN q2
  gi_wp2_with fail
  refine ⟨trivial, (callsIn_wide.2 CA).mono ?_⟩
  rintro e w1 hAns
  have hb := hAns.2
  have hs1 := hb.size
  rw [hsz] at hs1
  have hB1 := hB0.trans (hb.mono hB0.size)
  have p7 : Boxed w1 w.heap.size 46 (.slice none 0 0) := (hb.block _ b7.lt).trans b7
  obtain ⟨gf, lb, rfl, eg, rfl, hst⟩ := scanL_stops (P := fun q => q < w.heap.size) (T := fun q => q < w1.heap.size ∧ q ≠ w.heap.size) (fun q hq => ⟨by omega, by omega⟩) hhi hw (by have := Nat.min_le_right n 1; omega) (hN0.later hb) hAns
  rw [hfl] at hst
  have hstT := hst 2
  clear hst hAns hb b7 hB0 hsz CA hN0 hw hfl
  gi_wp2_with fail
  refine wpIn_rangeFunc_ownH rfl (by omega) (gf := 69) (lb := lb) rfl trivial eg hstT (fun h k => h.trans k) (fun W l o o' h1 _ _ _ => KeepB.putL (fun hk => by have := hk.1; omega)) (Below.refl _ _) (fun _ => rfl)
    (fun pre W => (∃ v, Boxed W w.heap.size 46 v ∧ W.ownsRow w1.heap.size 9 1 v pre.length (keyCellsL pre) ∧ True) ∧ (Below w.heap.size w W ∧ w1.heap.size ≤ W.heap.size))
    (fun _ _ _ => False)
    (OwnFrom.and (Own.from (holdsRow_own w1.heap.size w.heap.size 46 9 1 List.length keyCellsL (fun _ _ => True)) _) (OwnFrom.and (ownFrom_below (Nat.le_refl _) hB1.size) (fun _ _ _ _ hs hg _ => Nat.le_trans hs hg.size)))
    (fun _ _ _ _ _ hs _ _ => hs)
    ⟨⟨_, p7, World.ownsRow_nil _ _ _ _, trivial⟩, hB1, Nat.le_refl _⟩
    (fun x a' W => a' = { tmps := #[.pointer (some ⟨B, 0, none⟩), .string (txt frm), .string (txt to), undef, undef, undef, .slice none 0 0, .pointer (some ⟨w.heap.size, 0, none⟩), .string (txt x.1), .pointer (some ⟨B, 0, none⟩), .string (txt frm), .string (txt to), .func (.func 69) #[] lb, .string (txt x.1), vL x.2, undef, undef, undef, undef, undef], defers := [] })
    (fun x a' _ X Y row hs hg hr => hs)
    ?assign ?body ?done ?stop
  case assign =>
    rintro l pre x W K ⟨⟨v1, p1, r1, -⟩, hB, hs⟩ hK
    gi_wp2
    exact hK _ _ ((KeepsOthers.refl _).from _) (KeepB.refl _ _) ⟨⟨v1, p1, r1, trivial⟩, hB, hs⟩ rfl
  case body =>
    rintro l pre x a' W hl ⟨r, hr⟩ ⟨⟨v1, p1, r1, -⟩, hB, hs⟩ rfl hlt
    have c1 := p1.cell
    gi_wp2_with (gi_at_builtin; refine wpListIn_append_own _ rfl _ _ 46 rfl w1.heap.size 9 i0 (.string ⟨#[]⟩) 1 16 Try.underlying46 hi hz0 hz1 hz2 rfl (by decide) _ _ _ rfl (r1.alloc _) ⟨W.heap.size, 0, none⟩ 1 1 [.string (txt x.1)] rfl rfl (cell_one_new _ _ _) (by simp [Value.oneCell']) (by unfold maxLen; omega) (by omega) (by rw [World.size_alloc]; omega) ?_; intro v' w2 hown' hgrow _; obtain ⟨g', cap', rfl⟩ := ownsRow_succ hown'; obtain ⟨hv1, hv2, hr2, hk2, hb2, hkb⟩ := appended_oneL (n0 := w.heap.size) (T := fun q => q < w1.heap.size ∧ q ≠ w.heap.size) p1 (by decide) r1 hs (by omega) (Nat.le_refl _) (fun j hj => hj) hown' hgrow; have hc1 := hv1.cell; have hf1 := hv1.frozen)
    exact ⟨hk2.from _, hkb, ⟨_, hv2, by rw [List.length_append, keyCells_snocL]; exact hr2, trivial⟩, hB.trans hb2, Nat.le_trans hs hkb.size⟩
  case done =>
    rintro D ys W hD rfl ⟨⟨v1, p1, r1, -⟩, hB, hs⟩ hK
    have c1 := p1.cell
    gi_wp2
    refine ⟨by simp, .inl ⟨_, _, rfl, run_takeDeferred hK, ?_⟩⟩
    have hrow := row_base7L (ownsRow_putObj r1 (.deferred none) hK rfl) hB1.size
    rw [keyCells_skL] at hrow
    refine ⟨_, results_tmp rfl _ _ _, ⟨_, rfl, Sl.of_own sk_len hrow (by simp)⟩, ?_⟩
    exact hB.trans ((Below.refl w.heap.size W).grown (grownBy_putObj' W D (.deferred none)) hB.size (fun k e => by cases e; have := hB1.size; omega))
  case stop =>
    rintro D c pre W _ _ h _
    exact h.elim
end Go.Proofs.Ytneebnankghhgab
