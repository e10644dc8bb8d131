/- The project's Below: the contract of the call. Conditions: the names' cells are known. -/
import Derived.Test.YtadlelhdjakmmaaN10
namespace Go.Proofs.Ytadlelhdjakmmaa
open Go.RowKit

theorem VarB.newAt (w : World) (us : List Value) (ty : TypeId) {B : Nat} (hB : B = w.heap.size) : VarB (w.alloc (.cells us.toArray ty)) B us := by subst hB; exact VarB.new w us ty
theorem once_len {L : List Nn} {D : List Gn} {n : Nat} (h : dat L = onceG D) (hn : D.length = n) : L.length = n := by
  have := congrArg List.length h
  unfold onceG at this
  rw [List.length_map, dat_len, hn] at this
  exact this
theorem pass_in {D : List Gn} (hk : knownG D) (name : ByteArray) (i k : Nat) : ∀ s ∈ passG ((onceG D).take k) (rounds (onceG D) name i), s ∈ name :: D.map (·.1) := by
  have hc : ∀ x ∈ onceG D, x.1 ∈ name :: D.map (·.1) → ∀ r ∈ x.2, r ∈ name :: D.map (·.1) := fun x hx _ r hr => by
    obtain ⟨y, hy, rfl⟩ := List.mem_map.1 hx
    exact List.mem_cons_of_mem _ (hk y hy r (onceN_mem.1 hr))
  exact passG_least (P := fun s => s ∈ name :: D.map (·.1)) (rounds_least (P := fun s => s ∈ name :: D.map (·.1)) (List.mem_cons_self) hc i) (fun x hx => hc x (List.mem_of_mem_take hx))
theorem pass_few {D : List Gn} (hk : knownG D) (name : ByteArray) (i k : Nat) : (passG ((onceG D).take k) (rounds (onceG D) name i)).length ≤ D.length + 1 := by
  have := nodup_few _ (name :: D.map (·.1)) (passG_nodup (l := (onceG D).take k) (rounds_nodup (onceG D) name i)) (pass_in hk name i k)
  simpa using this
theorem StrsA.other {W : World} {a : Option Addr} {l : List ByteArray} (h : StrsA W a l) (k o : Nat) (u : Value) (hne : ∀ ad, a = some ad → ad.block ≠ k) : StrsA (W.setCell ⟨k, o, none⟩ u) a l := ⟨fun hn => by
  obtain ⟨b, off, e, hc⟩ := h.out hn
  exact ⟨b, off, e, fun i hi => (World.cell?_of_block (a := ⟨b, off + i, none⟩) (Below.heap_setCell W ⟨k, o, none⟩ u b (hne _ e))).trans (hc i hi)⟩, h.small⟩
/-- The test's boxes, and the list in one of them. -/
structure BelS (b3 b8 : Nat) (name : ByteArray) (ab : Option Addr) (cb : Nat) (B : List ByteArray) (W : World) : Prop where
  c3 : W.cell? ⟨b3, 0, none⟩ = some (.string name)
  c8 : W.cell? ⟨b8, 0, none⟩ = some (.slice ab B.length cb)
  sa : StrsA W ab B
theorem bel_keep {b3 b8 : Nat} {name : ByteArray} {ab : Option Addr} {cb : Nat} {B : List ByteArray} {g : Option Nat} (h3 : g ≠ some b3) (h8 : g ≠ some b8) (ha : ∀ ad, ab = some ad → g ≠ some ad.block) : KeepS (BelS b3 b8 name ab cb B) g := by
  refine ⟨fun W W' h hb => ⟨cell_later hb h.c3, cell_later hb h.c8, h.sa.later hb⟩, fun W k o u hg h => ?_⟩
  subst hg
  have n3 : b3 ≠ k := fun e => h3 (by rw [e])
  have n8 : b8 ≠ k := fun e => h8 (by rw [e])
  exact ⟨(World.cell?_of_block (a := ⟨b3, 0, none⟩) (Below.heap_setCell W ⟨k, o, none⟩ u b3 n3)).trans h.c3, (World.cell?_of_block (a := ⟨b8, 0, none⟩) (Below.heap_setCell W ⟨k, o, none⟩ u b8 n8)).trans h.c8, h.sa.other k o u (fun ad e e' => ha ad e (by rw [e']))⟩
set_option maxHeartbeats 1000000 in
set_option maxRecDepth 100000 in
theorem ask_bel (b3 b8 : Nat) (name : ByteArray) (ab : Option Addr) (cb : Nat) (B E : List ByteArray) (hB : B.length ≤ 100000000) : AskS (BelS b3 b8 name ab cb B) b3 b8 E (fun y => decide (y = name) || !decide (y ∈ B)) := ⟨fun y _ W h => by
  have c3 := h.c3
  have c8 := h.c8
  have CX := containsS_any ab cb B y W h.sa (by omega)
  generalize B.length = M at c8 CX
  clear h
  show Calls _ _ _ _ (fun e' w' => e' = .returned (.bool (decide (y = name) || !decide (y ∈ B))) ∧ _)
  by_cases hn : y = name
  · rw [decide_eq_true hn, Bool.true_or]
    have g0 : (y.toList == name.toList) = true := by rw [eqB]; simpa using hn
    clear hn CX
    go_enter Try.func27, Try.ntmps27
    go_wp2
    go_ret
    exact ⟨rfl, Below.refl _ _⟩
  · rw [decide_eq_false hn, Bool.false_or]
    have g0 : (y.toList == name.toList) = false := by rw [eqB]; simpa using hn
    generalize decide (y ∈ B) = R at CX ⊢
    clear hn
    go_enter Try.func27, Try.ntmps27
    go_wp2_with (first | (go_at_call 24; go_must ((with_reducible refine CX.mono ?_); rintro e w6 ⟨rfl, hw6⟩; rw [hw6]; clear hw6)) | fail)
    go_ret
    exact ⟨rfl, Below.refl _ _⟩⟩
theorem dele_any (b3 b8 : Nat) (v : Value) (name : ByteArray) (ab : Option Addr) (cb : Nat) (B E : List ByteArray) (w0 w : World) (hM : SRow w0 w v E) (hsm : ∀ s ∈ E, s.size ≤ maxLen) (hfew : E.length ≤ 1000000) (hB : B.length ≤ 1000000) (h : BelS b3 b8 name ab cb B w) (h3 : v.ownBlock ≠ some b3) (h8 : v.ownBlock ≠ some b8) (ha : ∀ ad, ab = some ad → v.ownBlock ≠ some ad.block) :
    Calls Try.prog 26 #[v, .func (.func 27) #[] #[.pointer (some ⟨b3, 0, none⟩), .pointer (some ⟨b8, 0, none⟩)]] w fun e w' => ∃ v', e = .returned v' ∧ SRow w0 w' v' (E.filter fun x => !(decide (x = name) || !decide (x ∈ B))) :=
  deleteS_any (BelS b3 b8 name ab cb B) b3 b8 v E (fun y => decide (y = name) || !decide (y ∈ B)) w0 w hM hsm hfew (bel_keep h3 h8 ha) h (ask_bel b3 b8 name ab cb B E (by omega))
theorem belowM_err {D : List Gn} {name : ByteArray} (h : checkG D ≠ 0) : belowM D name = ([], checkG D) := by unfold belowM; rw [if_pos h]
theorem belowM_lost {D : List Gn} {name : ByteArray} (h : checkG D = 0) (hn : name ∉ nextAll D) : belowM D name = ([], 5) := by
  unfold belowM
  rw [if_neg (fun h' => h' h), if_neg (fun hm => hn (by
    obtain ⟨p, hp, e⟩ := (check_ok h).node hm
    rw [e]; exact List.getElem_mem hp))]
theorem belowM_is {D : List Gn} {name : ByteArray} (h : checkG D = 0) (hn : name ∈ nextAll D) : belowM D name = (belowG D (nextAll D) name, 0) := by
  unfold belowM
  rw [if_neg (fun h' => h' h), if_pos ((check_ok h).good.names name hn)]
set_option maxHeartbeats 8000000 in
set_option maxRecDepth 1000000 in
theorem below_any (a : Option Addr) (c : Nat) (l : List Nn) (name : ByteArray) (w : World) (h : NodesAt w a c l) (hns : name.size ≤ maxLen) :
    Calls Try.prog 12 #[.slice a l.length c, .string name] w fun e w' => (∃ v, e = .returned (.tuple #[v, .int .i64 (belowM (dat l) name).2]) ∧ SRow w w' v (belowM (dat l) name).1) ∧ Below w.heap.size w w' := by
  have hsm : ∀ s ∈ l.map Nn.s, s.size ≤ maxLen := fun s hs => by obtain ⟨x, hx, rfl⟩ := List.mem_map.1 hs; exact (h.ok x hx).small
  have hON : ∀ s ∈ nextAll (dat l), s.size ≤ maxLen := fun s hs => hsm s (order_names (i := (dat l).length) rfl s hs)
  have hDL := dat_len l
  obtain ⟨b3, hb3⟩ : ∃ b, w.heap.size = b := ⟨_, rfl⟩
  obtain ⟨wA, hwA⟩ : ∃ W, w.alloc (.cells #[.string name] 9) = W := ⟨_, rfl⟩
  have hbA : Below w.heap.size w wA := by rw [← hwA]; exact (Below.refl _ _).alloc (Nat.le_refl _) _
  have m0 : wA.cell? ⟨b3, 0, none⟩ = some (.string name) := by rw [← hwA, ← hb3]; exact (VarB.new w [.string name] 9).cell 0 rfl
  have hsA : wA.heap.size = b3 + 1 := by rw [← hwA, ← hb3]; simp
  have CN := order_any a c l wA (h.later hbA)
  have hfew := h.few
  obtain ⟨R, hR⟩ : ∃ R, belowM (dat l) name = R := ⟨_, rfl⟩
  rw [hR]
  obtain ⟨n, hn⟩ : ∃ n, l.length = n := ⟨_, rfl⟩
  have HN := hid0 hn
  rw [hn] at CN hDL hfew ⊢
  have HBA := hid0 hbA
  have HDL := hid0 hDL
  by_cases h0 : checkG (dat l) = 0
  · have hall := check_ok h0
    have CO0 := hid0 (fun (W : World) (hW : Below w.heap.size w W) => once_any a c l W (h.later hW) (fun x hx i => Nat.le_trans (join_take hall.known (x := x.dat) (List.mem_map_of_mem hx) i) (by have := hall.few; omega)))
    rw [hn] at CO0
    have e1 : orderM (dat l) = (nextAll (dat l), 0) := by unfold orderM; rw [if_pos h0]
    rw [e1] at CN
    have HBR := hid0 (below_rounds hall name)
    have hkn := hall.known
    have hn16 : n ≤ 16 := by have := hall.few; omega
    have hlen : (nextAll (dat l)).length = n := by rw [hall.len]; exact hDL
    have HLOST := hid0 (fun hx => hR.symm.trans (belowM_lost (name := name) h0 hx))
    have HIS := hid0 (fun hx => hR.symm.trans (belowM_is (name := name) h0 hx))
    have CRE0 := hid0 (fun (a1 : Option Addr) (c1 : Nat) (L : List Nn) (W1 : World) (_ : Below w.heap.size w W1) (hL : NodesAt W1 a1 c1 L) (hdL : dat L = onceG (dat l)) (W : World) (hW : Below W1.heap.size W1 W) => show Calls Try.prog 25 #[.slice a1 n c1, .string name] W (fun e w' => (∃ ab cb, e = .returned (.slice ab (rounds (onceG (dat l)) name n).length cb) ∧ (rounds (onceG (dat l)) name n).length ≤ cb ∧ StrsA w' ab (rounds (onceG (dat l)) name n) ∧ ∀ ad, ab = some ad → W.heap.size ≤ ad.block ∧ ad.block < w'.heap.size) ∧ Below W.heap.size W w') from by
      have hLn : L.length = n := once_len hdL hDL
      have e2 : ∀ k, dat (L.take k) = (onceG (dat l)).take k := fun k => by rw [← hdL]; unfold dat; rw [List.map_take]
      have hin : ∀ i k, ∀ s ∈ passG (dat (L.take k)) (rounds (dat L) name i), s.size ≤ maxLen := fun i k s hs => by
        rw [hdL, e2] at hs
        rcases List.mem_cons.1 (pass_in hkn name i k s hs) with e | h1
        · rw [e]; exact hns
        · rw [dat_names] at h1; exact hsm s h1
      have hc := reached_any a1 c1 L name W (hL.later hW) (fun x hx => Nat.le_trans (once_rs hkn hdL x hx) (by omega)) (fun i k => by
        rw [hdL, e2]
        have := pass_few hkn name i k
        omega) hin
      rw [hdL, hLn] at hc
      refine hc.mono ?_
      rintro e w' ⟨⟨v, rfl, hS⟩, hb⟩
      obtain ⟨ab, cb, rfl, hcb, hsb⟩ := (hS.sl (fun s hs => hin n 0 s (by rw [hdL]; exact hs))).out
      refine ⟨⟨ab, cb, rfl, hcb, hsb, fun ad e => ?_⟩, hb⟩
      subst e
      exact hS.own.lt ad.block (by
        rcases hS.own.2 with ⟨e, _⟩ | ⟨g, cap, cur, e, _⟩
        · cases e
        · cases e; rfl))
    have hBF : (rounds (onceG (dat l)) name n).length ≤ 1000000 := by
      have := rounds_few hkn name n
      omega
    have hBN : (rounds (onceG (dat l)) name (dat l).length) = rounds (onceG (dat l)) name n := by rw [hDL]
    rw [hBN] at HBR
    clear h hR h0 hall e1 hkn hBN
    generalize belowG (dat l) (nextAll (dat l)) name = BG at *
    generalize rounds (onceG (dat l)) name n = BL at *
    generalize nextAll (dat l) = O at *
    by_cases hin : name ∈ O
    · have HR := hid0 (HIS.out hin)
      have HON := hid0 hON
      have HOL := hid0 hlen
      have HBF := hid0 hBF
      have CX0 := hid0 (fun (ao : Option Addr) (co : Nat) (W : World) (hs : StrsA W ao O) => containsS_any ao co O name W hs (by rw [HOL.out]; omega))
      rw [decide_eq_true hin, HOL.out] at CX0
      obtain ⟨bn, hbn⟩ : ∃ k, BL.length = k := ⟨_, rfl⟩
      have HBN := hid0 hbn
      rw [hbn] at CRE0
      have M0 := hid0 m0
      clear hin hON hlen hBF HIS HLOST hbn hsm m0 hbA hDL
      go_enter Try.func12, Try.ntmps12
      go_wp2_with (first | (go_at_call 10; go_must ((with_reducible refine CN.mono ?_); rintro e w1 ⟨⟨v, rfl, hS⟩, hb1⟩; (obtain ⟨ao, co, rfl, hco, hSA⟩ := (hS.sl HON.out).out); rw [HOL.out] at hS hco ⊢; (have CX := hid0 (CX0.out ao co w1 hSA)); (have n0 := cell_later hb1 M0.out); (have HS := hid0 hS); (have HB1 := hid0 hb1); clear hS hSA hb1 CN)) | (go_at_call 24; go_must ((with_reducible refine CX.out.mono ?_); rintro e w6 ⟨rfl, hw6⟩; rw [hw6]; clear hw6)) | fail)
      have hB : Below w1.drew.heap.size w1.drew w1.drew := Below.refl _ _
      have n0 : w1.drew.cell? ⟨b3, 0, none⟩ = some (.string name) := cell_later (Below.drew (Below.refl _ _)) n0
      have hBW : Below w.heap.size w w1.drew := Below.drew (below_through HB1.out HBA.out.size HBA.out)
      have HSD := hid0 (HS.out.below (Below.drew (Below.refl _ _)))
      have CO := hid0 (fun (W : World) (hW : Below w1.drew.heap.size w1.drew W) => CO0.out W (below_through hW hBW.size hBW))
      have CRE := hid0 (fun (a1 : Option Addr) (c1 : Nat) (L : List Nn) (W1 : World) (hW : Below w1.drew.heap.size w1.drew W1) hL hdL => CRE0.out a1 c1 L W1 (below_through hW hBW.size hBW) hL hdL)
      have N0 := hid0 n0
      have BEL := hid0 (fun (b8 : Nat) (W : World) (ab : Option Addr) (cb : Nat) (hW : Below w1.drew.heap.size w1.drew W) (h8 : w1.drew.heap.size ≤ b8) (hV : VarB W b8 [.slice none 0 0]) (hsb : StrsA W ab BL) (hlo : ∀ ad, ab = some ad → w1.drew.heap.size ≤ ad.block ∧ ad.block ≠ b8) => show BelS b3 b8 name ab cb BL (W.setCell ⟨b8, 0, none⟩ (.slice ab bn cb)) from by
        have hV2 := hV.puts [.slice ab bn cb] rfl
        have e8 := hV2.cell 0 rfl
        have hlt3 : b3 < w1.drew.heap.size := World.block_lt_of_cell? w1.drew _ N0.out
        refine ⟨?_, by rw [HBN.out]; exact e8, hsb.other b8 0 _ (fun ad e => (hlo ad e).2)⟩
        refine (World.cell?_of_block (a := ⟨b3, 0, none⟩) (Below.heap_setCell W ⟨b8, 0, none⟩ _ b3 (by show b3 ≠ b8; omega))).trans (cell_later hW N0.out))
      have HDE := hid0 (fun (b8 : Nat) (W : World) (ab : Option Addr) (cb : Nat) (h8 : w1.drew.heap.size ≤ b8) (hW : Below w1.drew.heap.size w1.drew W) (hS : BelS b3 b8 name ab cb BL W) (hlo : ∀ ad, ab = some ad → w1.drew.heap.size ≤ ad.block) => show Calls Try.prog 26 #[.slice ao n co, .func (.func 27) #[] #[.pointer (some ⟨b3, 0, none⟩), .pointer (some ⟨b8, 0, none⟩)]] W (fun e w' => ∃ v', e = .returned v' ∧ SRow wA w' v' BG) from by
        have hown := HSD.out.own
        have hd := dele_any b3 b8 (.slice ao n co) name ab cb BL O wA W (HSD.out.below hW) HON.out (by rw [HOL.out]; omega) HBF.out hS (fun e => by have := (hown.lt _ e).1; omega) (fun e => by have := (hown.lt _ e).2; omega) (fun ad e e' => by have h1 := (hown.lt _ e').2; have h2 := hlo ad e; omega)
        rw [HBR.out] at hd
        exact hd)
      have HEND := hid0 (fun (v9 : Value) (w9 : World) (h9 : SRow wA w9 v9 BG) => show (∃ v, Ending.returned (.tuple #[v9, .int .i64 0]) = .returned (.tuple #[v, .int .i64 R.2]) ∧ SRow w w9 v R.1) ∧ Below w.heap.size w w9 from ⟨⟨_, ret_p HR.out, by rw [HR.out]; exact h9.lower HBA.out⟩, below_through h9.b HBA.out.size HBA.out⟩)
      clear HSD HS HB1 hBW N0 CX CX0 CO0 CRE0
      refine wp_region_held_drew (S := (fun W => Below w1.drew.heap.size w1.drew W)) (by kernel_rfl) hB (fun hHeld => ?_)
      generalize w1.drew = W0 at hB n0 CO CRE BEL HDE hHeld ⊢
      refine wpAnyH_take (i := 0) (v := ?_) rfl (by kernel_rfl) (by kernel_rfl) (by kernel_rfl) (fun _ _ _ h => h) (Or.inl ⟨by rfl, ?_⟩) (by assumption) ?_
      rotate_left
      · (intro wx hSw; go_simp; (try with_reducible rfl); (try omega))
      (try simp only [Act.put, List.setIfInBounds_toArray, List.set_cons_zero, List.set_cons_succ, List.getElem_toArray, List.getElem_cons_zero])
      refine wpAnyH_take (i := 2) (v := ?_) rfl (by kernel_rfl) (by kernel_rfl) (by kernel_rfl) (fun _ _ _ h => h) (Or.inl ⟨by rfl, ?_⟩) (by assumption) ?_
      rotate_left
      · (intro wx hSw; have hk := cell_later hSw n0; go_simp; (try with_reducible rfl); (try omega))
      (try simp only [Act.put, List.setIfInBounds_toArray, List.set_cons_zero, List.set_cons_succ, List.getElem_toArray, List.getElem_cons_zero, List.getElem_cons_succ])
      refine wpAnyH_ready (rs := [1, 4]) (by kernel_rfl) (by simp) ?_
      refine AllReadyH.cons rfl (fun K hK => ?_) ?_
      · (try simp only [Act.put, List.setIfInBounds_toArray, List.set_cons_zero, List.set_cons_succ, List.getElem_toArray, List.getElem_cons_zero, List.getElem_cons_succ])
        go_simp
        refine (CO.out _ hB).mono ?_
        rintro e W1 ⟨⟨a1, c1, L, rfl, hL, hdL⟩, hb1⟩
        have hB := below_through hb1 hB.size hB
        have hLn := once_len hdL HDL.out
        have CR := hid0 (CRE.out a1 c1 L W1 hB hL hdL)
        rw [hLn]
        clear hL hdL hLn
        clear hb1
        refine hK.out _ _ hB (fun hHeld => ?_)
        clear hK K
        (try simp only [Act.put, List.setIfInBounds_toArray, List.set_cons_zero, List.set_cons_succ, List.getElem_toArray, List.getElem_cons_zero, List.getElem_cons_succ])
        refine wpAnyH_ready (rs := [3, 4]) (by kernel_rfl) (by simp) ?_
        refine AllReadyH.cons rfl (fun K hK => ?_) ?_
        · (try simp only [Act.put, List.setIfInBounds_toArray, List.set_cons_zero, List.set_cons_succ, List.getElem_toArray, List.getElem_cons_zero, List.getElem_cons_succ])
          go_simp
          refine (CR.out _ (Below.refl _ _)).mono ?_
          rintro e W3 ⟨⟨ab, cb, rfl, hcb, hsb, hlo⟩, hb3⟩
          have HLO := hid0 (fun ad e => show W0.heap.size ≤ ad.block from Nat.le_trans hB.size (hlo ad e).1)
          have HL2 := hid0 (fun ad e => (hlo ad e).2)
          have hB := below_through hb3 hB.size hB
          have HSB := hid0 hsb
          clear hsb hlo hb3
          refine hK.out _ _ hB (fun hHeld => ?_)
          clear hK K
          (try simp only [Act.put, List.setIfInBounds_toArray, List.set_cons_zero, List.set_cons_succ, List.getElem_toArray, List.getElem_cons_zero, List.getElem_cons_succ])
          refine wpAnyH_ready (rs := [4]) (by kernel_rfl) (by simp) ?_
          refine AllReadyH.cons rfl (fun K hK => ?_) ?_
          · (try simp only [Act.put, List.setIfInBounds_toArray, List.set_cons_zero, List.set_cons_succ, List.getElem_toArray, List.getElem_cons_zero, List.getElem_cons_succ])
            go_simp
            obtain ⟨b8, hb8e⟩ : ∃ b, W3.heap.size = b := ⟨_, rfl⟩
            obtain ⟨W4, hW4⟩ : ∃ W', W3.alloc (Obj.cells #[.slice none 0 0] 26) = W' := ⟨_, rfl⟩
            have hV0 : VarB W4 b8 [.slice none 0 0] := by rw [← hW4, ← hb8e]; exact VarB.new W3 [.slice none 0 0] 26
            have HV := hid0 hV0
            have hlt8 : W0.heap.size ≤ b8 := by rw [← hb8e]; exact hB.size
            have hb8 := hid0 (show Below W3.heap.size W3 W4 from by rw [← hW4]; exact (Below.refl _ _).alloc (Nat.le_refl _) _)
            have hB := below_through hb8.out hB.size hB
            have HSB := hid0 (HSB.out.later hb8.out)
            have HNE := hid0 (fun ad e => show ad.block ≠ b8 from fun e' => absurd (HL2.out ad e) (by rw [e', hb8e]; exact Nat.lt_irrefl _))
            (try rw [hb8e])
            (try rw [hW4])
            clear hW4 hb8e hV0
            refine hK.out _ _ hB (fun hHeld => ?_)
            clear hK K
            (try simp only [Act.put, List.setIfInBounds_toArray, List.set_cons_zero, List.set_cons_succ, List.getElem_toArray, List.getElem_cons_zero, List.getElem_cons_succ])
            refine wpAnyH_ready (rs := [5]) (by kernel_rfl) (by simp) ?_
            refine AllReadyH.cons rfl (fun K hK => ?_) ?_
            · (try simp only [Act.put, List.getElem_toArray, List.getElem_cons_zero, List.getElem_cons_succ])
              have c8 := HV.out.cell 0 rfl
              have f8 := HV.out.frz 0 (by decide)
              go_simp
              have hB5 := hB.setCell (p := ⟨b8, 0, none⟩) hlt8 (.slice ab bn cb)
              have HS5 := hid0 (BEL.out b8 W4 ab cb hB hlt8 HV.out HSB.out (fun ad e => ⟨HLO.out ad e, HNE.out ad e⟩))
              refine hK.out _ _ hB5 (fun hHeld => ?_)
              clear hK K
              (try simp only [Act.put, List.setIfInBounds_toArray, List.set_cons_zero, List.set_cons_succ, List.getElem_toArray, List.getElem_cons_zero, List.getElem_cons_succ])
              refine wpAnyH_done (by kernel_rfl) ?_ _
              have CD := hid0 (HDE.out b8 _ ab cb hlt8 hB5 HS5.out HLO.out)
              go_wp2_with (first | (go_at_call 26; ((with_reducible refine CD.out.mono ?_); rintro e w9 ⟨v9, rfl, hS9⟩; (have HS9 := hid0 hS9); clear hS9)) | fail)
              go_ret2
              exact HEND.out _ _ HS9.out
            exact AllReadyH.nil
          exact AllReadyH.nil
        refine AllReadyH.cons rfl (fun K hK => ?_) ?_
        · (try simp only [Act.put, List.setIfInBounds_toArray, List.set_cons_zero, List.set_cons_succ, List.getElem_toArray, List.getElem_cons_zero, List.getElem_cons_succ])
          go_simp
          obtain ⟨b8, hb8e⟩ : ∃ b, W1.heap.size = b := ⟨_, rfl⟩
          obtain ⟨W4, hW4⟩ : ∃ W', W1.alloc (Obj.cells #[.slice none 0 0] 26) = W' := ⟨_, rfl⟩
          have hV0 : VarB W4 b8 [.slice none 0 0] := by rw [← hW4, ← hb8e]; exact VarB.new W1 [.slice none 0 0] 26
          have HV := hid0 hV0
          have hlt8 : W0.heap.size ≤ b8 := by rw [← hb8e]; exact hB.size
          have hb8 := hid0 (show Below W1.heap.size W1 W4 from by rw [← hW4]; exact (Below.refl _ _).alloc (Nat.le_refl _) _)
          have hB := below_through hb8.out hB.size hB
          (try rw [hb8e])
          (try rw [hW4])
          clear hW4 hb8e hV0
          refine hK.out _ _ hB (fun hHeld => ?_)
          clear hK K
          (try simp only [Act.put, List.setIfInBounds_toArray, List.set_cons_zero, List.set_cons_succ, List.getElem_toArray, List.getElem_cons_zero, List.getElem_cons_succ])
          refine wpAnyH_ready (rs := [3]) (by kernel_rfl) (by simp) ?_
          refine AllReadyH.cons rfl (fun K hK => ?_) ?_
          · (try simp only [Act.put, List.setIfInBounds_toArray, List.set_cons_zero, List.set_cons_succ, List.getElem_toArray, List.getElem_cons_zero, List.getElem_cons_succ])
            go_simp
            refine (CR.out _ hb8.out).mono ?_
            rintro e W3 ⟨⟨ab, cb, rfl, hcb, hsb, hlo⟩, hb3⟩
            have HLO := hid0 (fun ad e => show W0.heap.size ≤ ad.block from Nat.le_trans hB.size (hlo ad e).1)
            have HNE := hid0 (fun ad e => show ad.block ≠ b8 from fun e' => absurd (Nat.lt_of_lt_of_le HV.out.lt (hlo ad e).1) (by rw [e']; exact Nat.lt_irrefl _))
            have HV := hid0 (HV.out.below hb3)
            have hB := below_through hb3 hB.size hB
            have HSB := hid0 hsb
            clear hsb hlo hb3
            refine hK.out _ _ hB (fun hHeld => ?_)
            clear hK K
            (try simp only [Act.put, List.setIfInBounds_toArray, List.set_cons_zero, List.set_cons_succ, List.getElem_toArray, List.getElem_cons_zero, List.getElem_cons_succ])
            refine wpAnyH_ready (rs := [5]) (by kernel_rfl) (by simp) ?_
            refine AllReadyH.cons rfl (fun K hK => ?_) ?_
            · (try simp only [Act.put, List.getElem_toArray, List.getElem_cons_zero, List.getElem_cons_succ])
              have c8 := HV.out.cell 0 rfl
              have f8 := HV.out.frz 0 (by decide)
              go_simp
              have hB5 := hB.setCell (p := ⟨b8, 0, none⟩) hlt8 (.slice ab bn cb)
              have HS5 := hid0 (BEL.out b8 W3 ab cb hB hlt8 HV.out HSB.out (fun ad e => ⟨HLO.out ad e, HNE.out ad e⟩))
              refine hK.out _ _ hB5 (fun hHeld => ?_)
              clear hK K
              (try simp only [Act.put, List.setIfInBounds_toArray, List.set_cons_zero, List.set_cons_succ, List.getElem_toArray, List.getElem_cons_zero, List.getElem_cons_succ])
              refine wpAnyH_done (by kernel_rfl) ?_ _
              have CD := hid0 (HDE.out b8 _ ab cb hlt8 hB5 HS5.out HLO.out)
              go_wp2_with (first | (go_at_call 26; ((with_reducible refine CD.out.mono ?_); rintro e w9 ⟨v9, rfl, hS9⟩; (have HS9 := hid0 hS9); clear hS9)) | fail)
              go_ret2
              exact HEND.out _ _ HS9.out
            exact AllReadyH.nil
          exact AllReadyH.nil
        exact AllReadyH.nil
      refine AllReadyH.cons rfl (fun K hK => ?_) ?_
      · (try simp only [Act.put, List.setIfInBounds_toArray, List.set_cons_zero, List.set_cons_succ, List.getElem_toArray, List.getElem_cons_zero, List.getElem_cons_succ])
        go_simp
        obtain ⟨b8, hb8e⟩ : ∃ b, W0.heap.size = b := ⟨_, rfl⟩
        obtain ⟨W4, hW4⟩ : ∃ W', W0.alloc (Obj.cells #[.slice none 0 0] 26) = W' := ⟨_, rfl⟩
        have hV0 : VarB W4 b8 [.slice none 0 0] := by rw [← hW4, ← hb8e]; exact VarB.new W0 [.slice none 0 0] 26
        have HV := hid0 hV0
        have hlt8 : W0.heap.size ≤ b8 := by rw [← hb8e]; exact hB.size
        have hb8 := hid0 (show Below W0.heap.size W0 W4 from by rw [← hW4]; exact (Below.refl _ _).alloc (Nat.le_refl _) _)
        have hB := below_through hb8.out hB.size hB
        (try rw [hb8e])
        (try rw [hW4])
        clear hW4 hb8e hV0
        refine hK.out _ _ hB (fun hHeld => ?_)
        clear hK K
        (try simp only [Act.put, List.setIfInBounds_toArray, List.set_cons_zero, List.set_cons_succ, List.getElem_toArray, List.getElem_cons_zero, List.getElem_cons_succ])
        refine wpAnyH_ready (rs := [1]) (by kernel_rfl) (by simp) ?_
        refine AllReadyH.cons rfl (fun K hK => ?_) ?_
        · (try simp only [Act.put, List.setIfInBounds_toArray, List.set_cons_zero, List.set_cons_succ, List.getElem_toArray, List.getElem_cons_zero, List.getElem_cons_succ])
          go_simp
          refine (CO.out _ hB).mono ?_
          rintro e W1 ⟨⟨a1, c1, L, rfl, hL, hdL⟩, hb1⟩
          have hB := below_through hb1 hB.size hB
          have hLn := once_len hdL HDL.out
          have CR := hid0 (CRE.out a1 c1 L W1 hB hL hdL)
          rw [hLn]
          clear hL hdL hLn
          have HV := hid0 (HV.out.below hb1)
          clear hb1
          refine hK.out _ _ hB (fun hHeld => ?_)
          clear hK K
          (try simp only [Act.put, List.setIfInBounds_toArray, List.set_cons_zero, List.set_cons_succ, List.getElem_toArray, List.getElem_cons_zero, List.getElem_cons_succ])
          refine wpAnyH_ready (rs := [3]) (by kernel_rfl) (by simp) ?_
          refine AllReadyH.cons rfl (fun K hK => ?_) ?_
          · (try simp only [Act.put, List.setIfInBounds_toArray, List.set_cons_zero, List.set_cons_succ, List.getElem_toArray, List.getElem_cons_zero, List.getElem_cons_succ])
            go_simp
            refine (CR.out _ (Below.refl _ _)).mono ?_
            rintro e W3 ⟨⟨ab, cb, rfl, hcb, hsb, hlo⟩, hb3⟩
            have HLO := hid0 (fun ad e => show W0.heap.size ≤ ad.block from Nat.le_trans hB.size (hlo ad e).1)
            have HNE := hid0 (fun ad e => show ad.block ≠ b8 from fun e' => absurd (Nat.lt_of_lt_of_le HV.out.lt (hlo ad e).1) (by rw [e']; exact Nat.lt_irrefl _))
            have HV := hid0 (HV.out.below hb3)
            have hB := below_through hb3 hB.size hB
            have HSB := hid0 hsb
            clear hsb hlo hb3
            refine hK.out _ _ hB (fun hHeld => ?_)
            clear hK K
            (try simp only [Act.put, List.setIfInBounds_toArray, List.set_cons_zero, List.set_cons_succ, List.getElem_toArray, List.getElem_cons_zero, List.getElem_cons_succ])
            refine wpAnyH_ready (rs := [5]) (by kernel_rfl) (by simp) ?_
            refine AllReadyH.cons rfl (fun K hK => ?_) ?_
            · (try simp only [Act.put, List.getElem_toArray, List.getElem_cons_zero, List.getElem_cons_succ])
              have c8 := HV.out.cell 0 rfl
              have f8 := HV.out.frz 0 (by decide)
              go_simp
              have hB5 := hB.setCell (p := ⟨b8, 0, none⟩) hlt8 (.slice ab bn cb)
              have HS5 := hid0 (BEL.out b8 W3 ab cb hB hlt8 HV.out HSB.out (fun ad e => ⟨HLO.out ad e, HNE.out ad e⟩))
              refine hK.out _ _ hB5 (fun hHeld => ?_)
              clear hK K
              (try simp only [Act.put, List.setIfInBounds_toArray, List.set_cons_zero, List.set_cons_succ, List.getElem_toArray, List.getElem_cons_zero, List.getElem_cons_succ])
              refine wpAnyH_done (by kernel_rfl) ?_ _
              have CD := hid0 (HDE.out b8 _ ab cb hlt8 hB5 HS5.out HLO.out)
              go_wp2_with (first | (go_at_call 26; ((with_reducible refine CD.out.mono ?_); rintro e w9 ⟨v9, rfl, hS9⟩; (have HS9 := hid0 hS9); clear hS9)) | fail)
              go_ret2
              exact HEND.out _ _ HS9.out
            exact AllReadyH.nil
          exact AllReadyH.nil
        exact AllReadyH.nil
      exact AllReadyH.nil
    · have HR := hid0 (HLOST.out hin)
      have HON := hid0 hON
      have HOL := hid0 hlen
      have CX0 := hid0 (fun (ao : Option Addr) (co : Nat) (W : World) (hs : StrsA W ao O) => containsS_any ao co O name W hs (by rw [HOL.out]; omega))
      rw [decide_eq_false hin, HOL.out] at CX0
      have M0 := hid0 m0
      clear hin hON hlen hBF HIS HLOST hsm m0 hbA hDL CRE0 CO0
      go_enter Try.func12, Try.ntmps12
      go_wp2_with (first | (go_at_call 10; go_must ((with_reducible refine CN.mono ?_); rintro e w1 ⟨⟨v, rfl, hS⟩, hb1⟩; (obtain ⟨ao, co, rfl, hco, hSA⟩ := (hS.sl HON.out).out); rw [HOL.out] at hco ⊢; (have CX := hid0 (CX0.out ao co w1 hSA)); (have n0 := cell_later hb1 M0.out); (have HB1 := hid0 (below_through hb1 HBA.out.size HBA.out)); clear hS hSA hb1 CN)) | (go_at_call 24; go_must ((with_reducible refine CX.out.mono ?_); rintro e w6 ⟨rfl, hw6⟩; rw [hw6]; clear hw6)) | fail)
      go_ret2
      exact ⟨⟨_, ret_p HR.out, by rw [HR.out]; exact SRow.nil HB1.out⟩, HB1.out⟩
  · have HR := hid0 (hR.symm.trans (belowM_err h0))
    have e1 : orderM (dat l) = ([], checkG (dat l)) := by unfold orderM; rw [if_neg h0]
    rw [e1] at CN
    obtain ⟨k, hk⟩ : ∃ k, checkG (dat l) = k := ⟨_, rfl⟩
    rw [hk] at h0 HR CN
    clear h hR hsm hn hk HN hON hDL e1 m0
    go_enter Try.func12, Try.ntmps12
    go_wp2_with (first | (go_at_call 10; go_must ((with_reducible refine CN.mono ?_); rintro e w1 ⟨⟨v, rfl, hS⟩, hb1⟩; (have HB1 := hid0 (below_through hb1 hbA.size hbA)); clear hS CN hb1)) | fail)
    go_ret2
    exact ⟨⟨_, ret_p HR.out, by rw [HR.out]; exact SRow.nil HB1.out⟩, HB1.out⟩
end Go.Proofs.Ytadlelhdjakmmaa
