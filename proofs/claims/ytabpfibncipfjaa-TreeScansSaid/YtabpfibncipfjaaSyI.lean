/- The project's tree over int: the keys under a node, with what they have, one after the other, by its depth: a contract of the call, in whatever memory, for every loop's body that keeps the blocks in which the tree lies. Conditions: the node's memory is known; the tree may be. -/
import Derived.Test.YtabpfibncipfjaaSxI
import Derived.Test.YtabpfibncipfjaaSn
namespace Go.Proofs.Ytabpfibncipfjaa
open Go.RowKit Go.Shelf

attribute [local go_sem] Oper.semAt_some

theorem lowI_kids {least most n : Nat} {frm : Key} : ∀ {ks : List Key} {cs : List (Tr (Int) n)} {lo hi : Option Key}, Ch (Wf least most n least most) lo ks cs hi → ∀ x ∈ (cs.take (tw frm ks)).flatMap (flat n), x.1 < frm
  | [], _, _, _, _ => by simp [tw]
  | s :: ks, c :: cs, lo, hi, h => by
    unfold tw
    split
    · simp
    · rename_i hs
      intro x hx
      rw [List.take_succ_cons, List.flatMap_cons, List.mem_append] at hx
      rcases hx with hx | hx
      · exact k_lt_of_le ((wf_kids h.1).2 x hx |>.2 s rfl) hs
      · exact lowI_kids h.2 x hx
  | _ :: _, [], _, _, h => h.elim
theorem highI {X Y : List (Key × (Int))} {to : Key} (h : Asc (X ++ Y)) (hx : ∃ x ∈ X, ¬ x.1 < to) : ∀ y ∈ Y, ¬ y.1 < to := by
  obtain ⟨x, hx, hxt⟩ := hx
  intro y hy hyt
  exact hxt (k_trans ((List.pairwise_append.1 h).2.2 x hx y hy) hyt)
set_option maxRecDepth 100000 in
set_option maxHeartbeats 8000000 in
theorem walkI_in (y N B0 : Nat) (T P : Nat → Prop) (hPT : ∀ b, P b → T b) (J Jx : List (Key × (Int)) → World → Prop) (hJ : AbidesFrom B0 J)
    (hY : ∀ m pre x W1, J pre W1 → pre.length < N → YieldAt Fence.wide m Try.prog y #[.string (txt x.1), vI x.2] W1 (RoundI T J Jx pre x W1))
    (least most : Nat) (hmx : most ≤ 64) (frm to : Key) : ∀ (lev n a bb b : Nat) (lo hi : Option Key) (t : Tr (Int) lev) (pre : List (Key × (Int))) (W : World), Wf least most lev a bb lo hi t → bb ≤ 64 → NAI P W lev b t → J pre W → pre.length + (flt frm to (flat lev t)).length ≤ N →
    CallsIn Fence.wide n Try.prog 40 #[.pointer (some ⟨b, 0, none⟩), .string (txt frm), .string (txt to), .func (.yield y) #[] #[]] W (ToldI T J Jx frm to (flat lev t) pre W) := by
  intro lev
  induction lev with
  | zero =>
    intro n a bb b lo hi t pre W hw hbb hN h0 hlen
    obtain ⟨l, rfl⟩ : ∃ l : List (Key × (Int)), l = t := ⟨t, rfl⟩
    obtain ⟨_, _, _, _, _, _, q2, _, _⟩ := hN.open_leaf
    have hl : l.length ≤ bb := hw.2.2.1
    have hT := hid0 (tellI_in (n - 1) y N B0 T P hPT J Jx hJ hY frm to l b pre W hN hw.2.2.2.1 (by omega) h0 hlen)
    have hL := leafI_yes b W q2
    clear hw hN hY
    refine callsIn_of_wp Try.func40 rfl trivial ?_ rfl
    simp only [Try.ntmps40, List.size_toArray, List.length_cons, List.length_nil, Nat.reduceAdd, Nat.reduceSub, Array.replicate_succ, Array.replicate_zero, List.push_toArray, List.append_toArray, List.nil_append, List.cons_append]
    gi_wp2
    refine ⟨trivial, fun h => (by cases h), (callsIn_wide.2 hL).mono ?_⟩
    rintro e w' ⟨rfl, rfl⟩
    gi_wp2
    refine ⟨trivial, fun h => (by cases h), hT.out.mono ?_⟩
    rintro e W' ⟨bb', rfl, hres⟩
    have HR := hid0 hres
    clear hres
    gi_wp2
    go_ret
    exact ⟨bb', rfl, HR.out⟩
  | succ lev ih =>
    intro n a bb b lo hi t pre W hw hbb hN h0 hlen
    have hPb : P b := hN.1
    obtain ⟨ak, ck, ac, cc, bs, q0, q1, hk, hc, hlb, hkd⟩ := hN.open_node
    have hch := hw.2.2.2
    have hlc := ch_len hch
    have hsz : t.1.length ≤ bb := hw.2.2.1
    have hT := fun W' (hb : Below W.heap.size W W') => towardI_any P (lev + 1) b t frm W' (hN.later hb) (wf_keys hw) (by change t.1.length ≤ 1000; omega)
    change ∀ W', Below W.heap.size W W' → Calls _ _ _ _ (fun e w' => e = .returned (.int .i64 (tw frm t.1 : Nat)) ∧ W' = w') at hT
    have hL := leafI_no b _ t.2.length cc W q1 (by omega)
    have htl := tw_le frm t.1
    have hlow := flt_low (frm := frm) (to := to) (lowI_kids (frm := frm) hch)
    have hasc : Asc (t.2.flatMap (flat lev)) := wf_asc hw
    have hkids : ∀ c ∈ t.2, ∃ lo hi, Wf least most lev least most lo hi c := ch_all (R := fun c => ∃ lo hi, Wf least most lev least most lo hi c) (fun lo hi c h => ⟨lo, hi, h⟩) hch
    obtain ⟨i0, hi0⟩ : ∃ i0, tw frm t.1 = i0 := ⟨_, rfl⟩
    rw [hi0] at hT htl hlow
    obtain ⟨a4, c4, s4, k4⟩ := Sl.high Try.underlying78 (fun W => by simp [go_sem]) hc i0 (by omega)
    obtain ⟨cs, hcs⟩ : ∃ cs, t.2 = cs := ⟨_, rfl⟩
    have hft : flat (lev + 1) t = cs.flatMap (flat lev) := by rw [← hcs]; rfl
    rw [hft] at hlen ⊢
    rw [hcs] at q1 hc hlb hkd hlc hlow hasc hkids
    obtain ⟨M, hM⟩ : ∃ M, cs.length = M := ⟨_, rfl⟩
    rw [hcs, hlb, hM] at s4
    rw [hlb, hM] at k4
    rw [hM] at q1 hlb hlc
    obtain ⟨K, hK⟩ : ∃ K, M - i0 = K := ⟨_, rfl⟩
    rw [hK] at s4 k4
    have hiM : i0 < M := by omega
    have hi0a : (0 : Int) ≤ (i0 : Int) := by omega
    have hSS : W.cell? ⟨b, 2, none⟩ = some (.slice ac M cc) ∧ Below W.heap.size W W := ⟨q1, Below.refl _ _⟩
    have HSS := hid0 hSS
    have HT := hid0 hT
    have HA := hid0 (And.intro hlow (And.intro hasc (And.intro hkids (And.intro hkd (And.intro hM k4)))))
    have HK := hid0 hK
    have HIH := hid0 ih
    have HL := hid0 hlen
    have hKi : K ≤ 100 := by omega
    have hJd := abides_drew hJ h0
    have HJ0 := hid0 h0
    clear hSS hT hlow hasc hkids hkd hM k4 hK hw hch hcs hft hc hlb hk hN ih hlen hlc hsz hi0 htl q0 hiM hY h0
    refine callsIn_of_wp Try.func40 rfl trivial ?_ rfl
    simp only [Try.ntmps40, List.size_toArray, List.length_cons, List.length_nil, Nat.reduceAdd, Nat.reduceSub, Array.replicate_succ, Array.replicate_zero, List.push_toArray, List.append_toArray, List.nil_append, List.cons_append]
    gi_wp2
    refine ⟨trivial, fun h => (by cases h), (callsIn_wide.2 hL).mono ?_⟩
    rintro e w' ⟨rfl, rfl⟩
    gi_wp2
    refine wpIn_wide.2 ?_
    go_region_held3 (fun w' => w'.cell? ⟨b, 2, none⟩ = some (.slice ac M cc) ∧ Below W.heap.size W w')
      (first
        | with_reducible assumption
        | (repeat (first | with_reducible exact HSS.out | with_reducible assumption | with_reducible refine hold1_drew ?_)))
      (first
        | (go_at_call 51; (try go_split_ands); refine (HT.out _ (by assumption)).mono ?_; rintro e w' ⟨rfl, rfl⟩))
    gi_wp2
    gi_loopw [27] (fun jv wr => ∃ j : Nat, j ≤ K ∧ jv = .int .i64 j ∧ J (pre ++ flt frm to ((cs.take (i0 + j)).flatMap (flat lev))) wr ∧ KeepB T W wr) (fun jv _ => K - (intOf jv).toNat)
    case atStart => exact ⟨0, Nat.zero_le _, rfl, by rw [Nat.add_zero, HA.out.1, List.append_nil]; exact hJd, KeepB.of_below (Below.drew (Below.refl _ _))⟩
    case round =>
      obtain ⟨j, hj, rfl, hJs, hKB⟩ := hrel
      clear hJd
      by_cases hlt : j < K
      · have hjK : (j : Int) < (K : Int) := by omega
        have hijM : i0 + j < cs.length := by rw [HA.out.2.2.2.2.1]; have := HK.out; omega
        obtain ⟨c, hc⟩ : ∃ c, cs[i0 + j]? = some c := ⟨cs[i0 + j], List.getElem?_eq_getElem hijM⟩
        obtain ⟨b', hb', hNc⟩ := HA.out.2.2.2.1.get hc
        obtain ⟨kb, ko, rfl, hPk, yq⟩ := HA.out.2.2.2.2.2.one (i := j) (by rw [List.getElem?_drop]; exact hb')
        replace yq := hKB.cell (hPT _ hPk) yq
        replace hNc := hNc.keepB hKB hPT
        obtain ⟨lo', hi', hwc⟩ := HA.out.2.2.1 c (List.mem_of_getElem? hc)
        have hsplit : cs.flatMap (flat lev) = (cs.take (i0 + j)).flatMap (flat lev) ++ (flat lev c ++ (cs.drop (i0 + j + 1)).flatMap (flat lev)) := by
          conv => lhs; rw [split_at hc]
          simp [List.flatMap_append]
        have hnext : (cs.take (i0 + (j + 1))).flatMap (flat lev) = (cs.take (i0 + j)).flatMap (flat lev) ++ flat lev c := by
          obtain ⟨hi, e⟩ := List.getElem?_eq_some_iff.1 hc
          rw [show i0 + (j + 1) = i0 + j + 1 by omega, List.take_succ_eq_append_getElem hi, e, List.flatMap_append]; simp
        have hlen2 : (pre ++ flt frm to ((cs.take (i0 + j)).flatMap (flat lev))).length + (flt frm to (flat lev c)).length ≤ N := by
          have := HL.out
          rw [hsplit, flt_append, flt_append, List.length_append, List.length_append] at this
          rw [List.length_append]; omega
        have CI := HIH.out (n - 1) least most b' lo' hi' c _ wr hwc hmx hNc hJs hlen2
        have HSP := hid0 hsplit
        have HNX := hid0 hnext
        have HKB := hid0 hKB
        have HCI := hid0 CI
        clear hsplit hnext hlen2 CI hNc hwc hb' hc hJs hKB hijM
        gi_wp2
        refine ⟨trivial, fun h => (by cases h), HCI.out.mono ?_⟩
        rintro e W' ⟨bb', rfl, hres⟩
        have HR := hid0 hres
        clear hres
        cases bb' with
        | true =>
          gi_wp2
          have hgo : J (pre ++ flt frm to ((cs.take (i0 + (j + 1))).flatMap (flat lev))) W' ∧ KeepB T W W' := by
            rcases HR.out with ⟨h1, h2, _⟩ | ⟨h1, _⟩
            · exact ⟨by rw [HNX.out, flt_append, ← List.append_assoc]; exact h1, HKB.out.trans h2⟩
            · cases h1
          go_roundw
          case rel => exact ⟨j + 1, by omega, by go_num, hgo.1, hgo.2⟩
          case measure => simp [intOf]; omega
        | false =>
          gi_wp2
          go_ret
          rcases HR.out with ⟨h1, h2, h3⟩ | ⟨_, q, hq, h1⟩
          · rcases h3 with h3 | ⟨h3, h4⟩
            · cases h3
            · have hhigh : flt frm to ((cs.drop (i0 + j + 1)).flatMap (flat lev)) = [] := by
                refine flt_high ?_ h3
                have ha := HA.out.2.1
                rw [HSP.out, ← List.append_assoc] at ha
                refine highI ha ?_
                obtain ⟨x, hx, hxt⟩ := h4
                exact ⟨x, List.mem_append.2 (.inr hx), hxt⟩
              refine ⟨false, rfl, .inl ⟨?_, HKB.out.trans h2, .inr ⟨h3, ?_⟩⟩⟩
              · rw [HSP.out, flt_append, flt_append, hhigh, List.append_nil, ← List.append_assoc]
                exact h1
              · obtain ⟨x, hx, hxt⟩ := h4
                exact ⟨x, by rw [HSP.out]; exact List.mem_append.2 (.inr (List.mem_append.2 (.inl hx))), hxt⟩
          · refine ⟨false, rfl, .inr ⟨rfl, flt frm to ((cs.take (i0 + j)).flatMap (flat lev)) ++ q, ?_, by rw [← List.append_assoc]; exact h1⟩⟩
            rw [HSP.out, flt_append, flt_append]
            obtain ⟨r, hr⟩ := hq
            exact ⟨r ++ flt frm to ((cs.drop (i0 + j + 1)).flatMap (flat lev)), by rw [← hr]; simp⟩
      · obtain rfl : j = K := by omega
        have hjj : ¬ (j : Int) < (j : Int) := by omega
        have hall : cs.take (i0 + j) = cs := List.take_of_length_le (by rw [HA.out.2.2.2.2.1]; have := HK.out; omega)
        rw [hall] at hJs
        have HJ := hid0 hJs
        clear hJs hall
        gi_wp2
        go_ret
        exact ⟨true, rfl, .inl ⟨HJ.out, hKB, .inl rfl⟩⟩
end Go.Proofs.Ytabpfibncipfjaa
