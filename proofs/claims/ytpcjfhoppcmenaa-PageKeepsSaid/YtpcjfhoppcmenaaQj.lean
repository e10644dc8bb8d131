/- The reference of layer 5: a page's bytes: a contract of the call, in whatever memory. Conditions: the slots' cells are known. -/
import Derived.Test.YtpcjfhoppcmenaaQi
namespace Go.Proofs.Ytpcjfhoppcmenaa
open Go.RowKit

def bytD (p : Pg) : List UInt8 := if rightB p then bytesP p else []
def bytE (p : Pg) : Int := if rightB p then 0 else 1
theorem dataP_take {p : Pg} {i : Nat} (h : i < p.length) : dataP (p.take (i + 1)) = (p[i]).2 ++ dataP (p.take i) := by
  rw [List.take_succ_eq_append_getElem h, dataP_append]; rfl
theorem headsP_take {p : Pg} {i : Nat} (h : i < p.length) : headsP 0 (p.take (i + 1)) = headsP 0 (p.take i) ++ (twoB (if (p[i]).1 then 1024 - ((p[i]).2 ++ dataP (p.take i)).length else 0) ++ twoB (p[i]).2.length) := by
  rw [List.take_succ_eq_append_getElem h, headsP_split]
  simp only [headsP, List.append_nil, Nat.zero_add, List.length_append]
  rw [Nat.add_comm (dataP (p.take i)).length]
theorem dataP_few {p : Pg} (i : Nat) : (dataP (p.take i)).length ≤ (dataP p).length := by
  have := dataP_append (p.take i) (p.drop i)
  rw [List.take_append_drop] at this
  rw [this, List.length_append]; omega
theorem cat_run (x y : List UInt8) (h : x.length + y.length ≤ 9223372036854775807) (W : World) : (Op.stringOp .add (txt x) (txt y)).run Try.prog W = .ok (.string (txt (x ++ y))) W := by
  have h' : (txt x).size + (txt y).size ≤ 9223372036854775807 := by rw [txt_size, txt_size]; exact h
  rw [run_string_add_sum W _ _ h', txt_add]
structure TwoC (x : Int) (n : Nat) : Prop where
  out : ∀ W, Calls Try.prog 40 #[.int .i64 x] W fun e w' => e = .returned (.string (txt (twoB n))) ∧ Below W.heap.size W w'

set_option maxHeartbeats 4000000 in
theorem refBytes_any (a : Option Addr) (c : Nat) (p : Pg) (w : World) (h : SlotsAt w a p) (hl : p.length ≤ maxLen) (hs : slotsIn p) :
    Calls Try.prog 28 #[.agg #[.slice a p.length c]] w fun e w' => e = .returned (.tuple #[.string (txt (bytD p)), .int .i64 (bytE p)]) ∧ Below w.heap.size w w' := by
  have A := hid0 h
  have C24 := fun W (hb : Below w.heap.size w W) => refRight_any a c p W (A.out.later hb) hl hs
  have hB0 : Below w.heap.size w (w.alloc (Obj.cells #[.slice a p.length c] 24)) := (Below.refl _ _).alloc (Nat.le_refl _) _
  have v0 := VarAt.new w (.slice a p.length c) 24
  clear h hs
  cases hr : rightB p with
  | false =>
    have e1 : bytD p = [] := by unfold bytD; rw [hr]; rfl
    have e2 : bytE p = 1 := by unfold bytE; rw [hr]; rfl
    rw [e1, e2]
    rw [hr] at C24
    clear hr e1 e2
    go_enter Try.func28, Try.ntmps28
    obtain ⟨q, f⟩ := v0
    go_wp2_with (go_at_call 24; go_must (refine (C24 _ hB0).mono ?_; rintro e w1 ⟨rfl, hb⟩))
    go_returns
    exact ⟨rfl, below_through hb hB0.size hB0⟩
  | true =>
    have e1 : bytD p = bytesP p := by unfold bytD; rw [hr]; rfl
    have e2 : bytE p = 0 := by unfold bytE; rw [hr]; rfl
    rw [e1, e2]
    rw [hr] at C24
    have HR := hid0 ((rightB_iff p).1 hr)
    have hl256 : p.length ≤ 256 := HR.out.len
    have hdl : (dataP p).length + 4 * p.length + 4 ≤ 1024 := by have := sizeP_data p; have := HR.out.size; omega
    clear hr e1 e2 hl
    have CT := refTwo_any p.length
    go_enter Try.func28, Try.ntmps28
    obtain ⟨q, f⟩ := v0
    go_wp2_with (first
      | (go_at_call 24; go_must (refine (C24 _ hB0).mono ?_; rintro e w1 ⟨rfl, hb⟩; have y1 := (VarAt.mk q f).later hb; obtain ⟨q1, f1⟩ := y1; have hB1 := below_through hb hB0.size hB0; clear C24 hB0 hb q f))
      | (go_at_call 40; go_must (refine (CT _ (by omega)).mono ?_; rintro e w2 ⟨rfl, hb2⟩; have y2 := (VarAt.mk q1 f1).later hb2; have hB2 := below_through hb2 hB1.size hB1; clear CT hB1 hb2 q1 f1)))
    go_loopw [4, 5, 6] (fun hv dv iv wr => ∃ (i : Nat) (H D : List UInt8), i ≤ p.length ∧ iv = .int .i64 i ∧ hv = .string (txt H) ∧ dv = .string (txt D) ∧ Hid (H = twoB p.length ++ headsP 0 (p.take i)) ∧ Hid (D = dataP (p.take i)) ∧ VarAt wr w.heap.size (.slice a p.length c) ∧ Below w.heap.size w wr) (fun _ _ iv _ => p.length - (intOf iv).toNat)
    case atStart => exact ⟨0, twoB p.length, [], Nat.zero_le _, rfl, rfl, rfl, hid0 (by simp [headsP]), hid0 rfl, y2, hB2⟩
    case round =>
      clear y2 hB2
      obtain ⟨i, H, D, hi, rfl, rfl, rfl, hH, hD, y, hB⟩ := hrel
      have hsz := hB.size
      have hHl : H.length = 2 + 4 * i := by
        rw [hH.out, List.length_append, headsP_len, List.length_take]; simp [twoB]; omega
      have hDl : D.length ≤ (dataP p).length := by rw [hD.out]; exact dataP_few i
      by_cases hlt : i < p.length
      · obtain ⟨b, o, rfl, hc⟩ := (A.out.later hB) (by intro e; rw [e] at hlt; exact absurd hlt (by simp))
        obtain ⟨r0, r1⟩ := hc i hlt
        clear hc
        obtain ⟨q, f⟩ := y
        have hD' : Hid ((p[i]).2 ++ D = dataP (p.take (i + 1))) := hid0 (by rw [dataP_take hlt, hD.out])
        have hH' : Hid (H ++ (twoB (if (p[i]).1 then 1024 - ((p[i]).2 ++ D).length else 0) ++ twoB (p[i]).2.length) = twoB p.length ++ headsP 0 (p.take (i + 1))) := hid0 (by rw [headsP_take hlt, hH.out, hD.out, List.append_assoc])
        obtain ⟨⟨u, d⟩, hsi⟩ : ∃ s, p[i] = s := ⟨_, rfl⟩
        rw [hsi] at r0 r1 hD' hH'
        have hdd : (d ++ D).length ≤ 1024 := by
          have := dataP_few (p := p) (i + 1)
          have e := hD'.out
          dsimp only at e
          rw [e]; omega
        have HSI := hid0 hsi
        clear hsi
        dsimp only at r0 r1 hD' hH'
        have hdl' : d.length ≤ 1024 := by rw [List.length_append] at hdd; omega
        have k1 := cat_run d D (by rw [List.length_append] at hdd; omega)
        obtain ⟨D', hDD⟩ : ∃ D', d ++ D = D' := ⟨_, rfl⟩
        rw [hDD] at k1 hD' hH' hdd
        obtain ⟨n', hn'⟩ : ∃ n', D'.length = n' := ⟨_, rfl⟩
        have z1 : (txt D').size = n' := by rw [txt_size, hn']
        obtain ⟨m, hm⟩ : ∃ m, d.length = m := ⟨_, rfl⟩
        have z2 : (txt d).size = m := by rw [txt_size, hm]
        rw [hn'] at hdd hH'
        rw [hm] at hdl' hH'
        have T2 : TwoC m m := ⟨fun W => refTwo_any m W (by omega)⟩
        clear hDD hDl
        cases u with
        | true =>
          obtain ⟨at', hat⟩ : ∃ at', 1024 - n' = at' := ⟨_, rfl⟩
          have hw : IntKind.i64.wrap ((1024 : Int) - (n' : Int)) = (at' : Int) := by rw [IntWalk.i64_in _ (by omega)]; omega
          rw [if_pos rfl, hat] at hH'
          have T1 : TwoC at' at' := ⟨fun W => refTwo_any at' W (by omega)⟩
          have k2 := cat_run H (twoB at') (by rw [hHl]; simp [twoB]; omega)
          obtain ⟨H1, hH1⟩ : ∃ H1, H ++ twoB at' = H1 := ⟨_, rfl⟩
          rw [hH1] at k2
          have hH1l : H1.length = 4 + 4 * i := by rw [← hH1, List.length_append, hHl]; simp [twoB]; omega
          have k3 := cat_run H1 (twoB m) (by rw [hH1l]; simp [twoB]; omega)
          rw [← List.append_assoc, hH1] at hH'
          obtain ⟨H2, hH2⟩ : ∃ H2, H1 ++ twoB m = H2 := ⟨_, rfl⟩
          rw [hH2] at k3 hH'
          clear hat hH1 hH2 hH1l hHl hn' hm hdl'
          go_wp2_with fail
          go_region_held3 (fun w' => w'.cell? ⟨w.heap.size, 0, none⟩ = some (.slice (some ⟨b, o, none⟩) p.length c) ∧ w'.frozen? ⟨w.heap.size, 0, none⟩ = false ∧ w'.cell? ⟨b, o + i * 2 + 1, none⟩ = some (.string (txt d)) ∧ Below w.heap.size w w')
            ((go_split_ands; (try dsimp only); (repeat' apply And.intro); all_goals (first
              | assumption
              | exact cell_later hbn ‹_›
              | exact (hbn.frozen (p := ⟨w.heap.size, 0, none⟩) (World.block_lt_of_cell? _ _ (by assumption))).trans ‹_›
              | exact below_through hbn (Below.size ‹Below w.heap.size w _›) ‹_›
              | exact Below.drew hB
              | go_keep)))
            (first
              | (go_at_call 40; (try go_split_ands); refine ((by first | exact T1 | exact T2 : TwoC _ _).out _).mono ?_; rintro e wn ⟨rfl, hbn⟩))
          have HH := ‹wn.cell? ⟨w.heap.size, 0, none⟩ = some (.slice (some ⟨b, o, none⟩) p.length c) ∧ _›
          clear q f r0 r1 hB k1 k2 k3 T1 T2
          go_wp2
          exact ⟨⟨i + 1, H2, D', by omega, by go_num, rfl, rfl, hH', hD', ⟨HH.1, HH.2.1⟩, HH.2.2.2⟩, by simp [intOf]; omega⟩
        | false =>
          rw [if_neg (by simp)] at hH'
          have T1 : TwoC 0 0 := ⟨fun W => refTwo_any 0 W (by omega)⟩
          have k2 := cat_run H (twoB 0) (by rw [hHl]; simp [twoB]; omega)
          obtain ⟨H1, hH1⟩ : ∃ H1, H ++ twoB 0 = H1 := ⟨_, rfl⟩
          rw [hH1] at k2
          have hH1l : H1.length = 4 + 4 * i := by rw [← hH1, List.length_append, hHl]; simp [twoB]; omega
          have k3 := cat_run H1 (twoB m) (by rw [hH1l]; simp [twoB]; omega)
          rw [← List.append_assoc, hH1] at hH'
          obtain ⟨H2, hH2⟩ : ∃ H2, H1 ++ twoB m = H2 := ⟨_, rfl⟩
          rw [hH2] at k3 hH'
          clear  hH1 hH2 hH1l hHl hn' hm hdl'
          go_wp2_with fail
          go_region_held3 (fun w' => w'.cell? ⟨w.heap.size, 0, none⟩ = some (.slice (some ⟨b, o, none⟩) p.length c) ∧ w'.frozen? ⟨w.heap.size, 0, none⟩ = false ∧ w'.cell? ⟨b, o + i * 2 + 1, none⟩ = some (.string (txt d)) ∧ Below w.heap.size w w')
            ((go_split_ands; (try dsimp only); (repeat' apply And.intro); all_goals (first
              | assumption
              | exact cell_later hbn ‹_›
              | exact (hbn.frozen (p := ⟨w.heap.size, 0, none⟩) (World.block_lt_of_cell? _ _ (by assumption))).trans ‹_›
              | exact below_through hbn (Below.size ‹Below w.heap.size w _›) ‹_›
              | exact Below.drew hB
              | go_keep)))
            (first
              | (go_at_call 40; (try go_split_ands); refine ((by first | exact T1 | exact T2 : TwoC _ _).out _).mono ?_; rintro e wn ⟨rfl, hbn⟩))
          have HH := ‹wn.cell? ⟨w.heap.size, 0, none⟩ = some (.slice (some ⟨b, o, none⟩) p.length c) ∧ _›
          clear q f r0 r1 hB k1 k2 k3 T1 T2
          go_wp2
          exact ⟨⟨i + 1, H2, D', by omega, by go_num, rfl, rfl, hH', hD', ⟨HH.1, HH.2.1⟩, HH.2.2.2⟩, by simp [intOf]; omega⟩
      · rw [List.take_of_length_le (by omega)] at hH hD
        obtain rfl : i = p.length := by omega
        obtain ⟨q, f⟩ := y
        have hie : ¬ (p.length : Int) < p.length := by omega
        have zD : (txt D).size = D.length := txt_size D
        clear hlt
        have hDlen : D.length + H.length ≤ 1024 := by omega
        go_wp2
        go_loopw [4] (fun hv w2 => ∃ (X : List UInt8) (k : Nat), hv = .string (txt X) ∧ X.length + D.length ≤ 1024 ∧ Hid (X = H ++ List.replicate k 0) ∧ w2 = wr) (fun hv _ => 1024 - (match hv with | .string s => s.size | _ => 0))
        case atStart => exact ⟨H, 0, rfl, by omega, hid0 (by simp), rfl⟩
        case round =>
          obtain ⟨X, k, rfl, hX, hXH, rfl⟩ := hrel
          obtain ⟨x, hx⟩ : ∃ x, X.length = x := ⟨_, rfl⟩
          have zX : (txt X).size = x := by rw [txt_size, hx]
          obtain ⟨y, hy⟩ : ∃ y, D.length = y := ⟨_, rfl⟩
          rw [hx, hy] at hX
          rw [hy] at zD
          by_cases hlt : x + y < 1024
          · have k1 : ∀ W, (Op.stringOp .add (txt X) ⟨#[0]⟩).run Try.prog W = .ok (.string (txt (X ++ [0]))) W := cat_run X [0] (by simp; omega)
            obtain ⟨X', hX'⟩ : ∃ X', X ++ [0] = X' := ⟨_, rfl⟩
            rw [hX'] at k1
            have hX'l : X'.length = x + 1 := by rw [← hX']; simp [hx]
            have zX' : (txt X').size = x + 1 := by rw [txt_size, hX'l]
            have HN : Hid (X' = H ++ List.replicate (k + 1) 0) := hid0 (by rw [← hX', hXH.out, List.replicate_succ', List.append_assoc])
            have HXL := hid0 hX'l
            have hlti : (x : Int) + (y : Int) < 1024 := by omega
            clear hX' hx hX'l
            go_wp2
            exact ⟨⟨X', k + 1, rfl, by rw [HXL.out, hy]; omega, HN, trivial⟩, by simp [zX, zX']; omega⟩
          · have hge : ¬ (x : Int) + (y : Int) < 1024 := by omega
            have k1 := cat_run X D (by omega)
            have HXY := hid0 (show x + y = 1024 by omega)
            have HX := hid0 hx
            have HY := hid0 hy
            clear hx hy
            go_wp2
            go_returns
            refine ⟨?_, hB⟩
            have e : X ++ D = bytesP p := by
              have h1 := congrArg List.length hXH.out
              rw [HX.out, List.length_append, List.length_replicate, hHl] at h1
              have h2 := HXY.out
              have h3 := HY.out
              have h4 := hD.out
              unfold bytesP
              rw [← hD.out, ← hH.out, hXH.out]
              congr 3
              omega
            rw [e]; rfl
end Go.Proofs.Ytpcjfhoppcmenaa
