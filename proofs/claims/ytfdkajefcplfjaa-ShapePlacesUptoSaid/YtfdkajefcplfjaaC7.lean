/- Several of my texts laid together, each as it was: S0, S1, S5. Conditions: each names its own. -/
import Derived.Test.YtfdkajefcplfjaaB8
import Derived.Test.YtfdkajefcplfjaaShelf
import Derived.Test.YtfdkajefcplfjaaB4
import Derived.Sort.OwnSorted
import Derived.Maps.AppendAt
import Derived.Laws.OwnMore
import Derived.Lib.Walk
/- Texts rising, each once: plainly, and the project's Refs: the contract of the call, in whatever memory. Conditions: the plan's cells are known, it reads not too many names. -/
namespace Go.Proofs.Ytfdkajefcplfjaa
open Go.RowKit

/-- A text's bytes, and back. -/
def bl (s : ByteArray) : List UInt8 := s.data.toList
def bs (l : List UInt8) : ByteArray := ⟨l.toArray⟩
theorem bs_bl (s : ByteArray) : bs (bl s) = s := rfl
theorem bl_bs (l : List UInt8) : bl (bs l) = l := rfl
def strs (F : List ByteArray) : List Value := F.map Value.string
theorem strs_len (F : List ByteArray) : (strs F).length = F.length := by simp [strs]
theorem strs_app (F G : List ByteArray) : strs (F ++ G) = strs F ++ strs G := by simp [strs]
theorem strs_enc (F : List ByteArray) : strs F = (F.map bl).map Go.Proofs.encStr := by
  unfold strs
  rw [List.map_map]
  rfl
theorem enc_strs (l : List (List UInt8)) : l.map Go.Proofs.encStr = strs (l.map bs) := by
  unfold strs
  rw [List.map_map]
  rfl
/-- Texts rising, each once. -/
def riseB (F : List ByteArray) : List ByteArray := (Lib.compact ((F.map bl).mergeSort fun x y => decide (x ≤ y))).map bs
theorem compactB_len (zs : List (List UInt8)) : (Lib.compact zs).length ≤ zs.length := by
  unfold Lib.compact Lib.compactUpTo
  rw [List.length_map]
  exact Nat.le_trans (List.length_filter_le _ _) (by simp)
theorem compactB_at (zs : List (List UInt8)) (x : List UInt8) : x ∈ Lib.compact zs ↔ ∃ i, ∃ h : i < zs.length, zs[i] = x ∧ (i = 0 ∨ ∃ h' : i - 1 < zs.length, zs[i - 1] ≠ zs[i]) := by
  unfold Lib.compact Lib.compactUpTo
  simp only [List.mem_map, List.mem_filter, List.mem_range]
  constructor
  · rintro ⟨i, ⟨hi, hk⟩, rfl⟩
    refine ⟨i, hi, by simp [hi], ?_⟩
    rcases Nat.eq_zero_or_pos i with h0 | h0
    · exact .inl h0
    · refine .inr ⟨by omega, fun e => ?_⟩
      simp [Lib.keeps, show i ≠ 0 by omega, hi, show i - 1 < zs.length by omega] at hk
      exact hk e.symm
  · rintro ⟨i, hi, rfl, hk⟩
    refine ⟨i, ⟨hi, ?_⟩, by simp [hi]⟩
    rcases Nat.eq_zero_or_pos i with h0 | h0
    · simp [Lib.keeps, h0]
    · rcases hk with h | ⟨h1, h2⟩
      · omega
      · simp [Lib.keeps, show i ≠ 0 by omega, hi, show i - 1 < zs.length by omega]
        exact fun e => h2 e.symm
theorem mem_compactB (zs : List (List UInt8)) (x : List UInt8) : x ∈ Lib.compact zs ↔ x ∈ zs := by
  rw [compactB_at]
  constructor
  · rintro ⟨i, hi, rfl, _⟩; exact List.getElem_mem hi
  · intro hx
    obtain ⟨i, hi, rfl⟩ := List.mem_iff_getElem.1 hx
    clear hx
    induction i with
    | zero => exact ⟨0, hi, rfl, .inl rfl⟩
    | succ i ih =>
      by_cases h : zs[i] = zs[i + 1]
      · rw [← h]; exact ih (by omega)
      · exact ⟨i + 1, hi, rfl, .inr ⟨by omega, h⟩⟩
theorem mem_riseB (F : List ByteArray) (x : ByteArray) : x ∈ riseB F ↔ x ∈ F := by
  unfold riseB
  rw [List.mem_map]
  constructor
  · rintro ⟨y, hy, rfl⟩
    rw [mem_compactB, List.mem_mergeSort, List.mem_map] at hy
    obtain ⟨z, hz, rfl⟩ := hy
    exact hz
  · intro hx
    exact ⟨bl x, by rw [mem_compactB, List.mem_mergeSort, List.mem_map]; exact ⟨x, hx, rfl⟩, rfl⟩
theorem riseB_len (F : List ByteArray) : (riseB F).length ≤ F.length := by
  have := compactB_len ((F.map bl).mergeSort fun x y => decide (x ≤ y))
  rw [List.length_mergeSort, List.length_map] at this
  unfold riseB
  rw [List.length_map]
  exact this
/-- A list of texts of one's own. -/
structure SRow (w0 w : World) (v : Value) (F : List ByteArray) : Prop where
  own : w.ownsRow w0.heap.size 9 1 v F.length (strs F)
  b : Below w0.heap.size w0 w
theorem SRow.lo {w0 w : World} {v : Value} {F : List ByteArray} (h : SRow w0 w v F) : ∀ k, v.ownBlock = some k → w0.heap.size ≤ k := fun k hk => (h.own.lt k hk).1
theorem SRow.nil {w0 w : World} (h : Below w0.heap.size w0 w) : SRow w0 w (.slice none 0 0) [] := ⟨World.ownsRow_nil _ _ _ _, h⟩
theorem SRow.alloc {w0 w : World} {v : Value} {F : List ByteArray} (h : SRow w0 w v F) (o : Obj) : SRow w0 (w.alloc o) v F := ⟨h.own.alloc o, h.b.alloc h.b.size o⟩
theorem SRow.below {w0 w w' : World} {v : Value} {F : List ByteArray} (h : SRow w0 w v F) (hb : Below w.heap.size w w') : SRow w0 w' v F := ⟨own_belowY h.own hb, below_through hb h.b.size h.b⟩
theorem strs_owned {B n : Nat} {ty : TypeId} {w : World} {v : Value} {F : List ByteArray} (h : w.ownsRow B ty 1 v n (strs F)) (hn : F.length = n) (hs : ∀ s ∈ F, s.size ≤ maxLen) : ∃ a c, v = .slice a n c ∧ n ≤ c ∧ StrsA w a F := by
  rcases h.2 with ⟨rfl, e⟩ | ⟨g, cap, cur, rfl, _, _, h1, _⟩
  · subst e
    obtain rfl : F = [] := List.length_eq_zero_iff.1 hn
    exact ⟨none, 0, rfl, Nat.le_refl _, ⟨fun h => absurd rfl h, hs⟩⟩
  · refine ⟨some ⟨g, 0, none⟩, cap, rfl, h1, ⟨fun _ => ⟨g, 0, rfl, fun i hi => ?_⟩, hs⟩⟩
    have := h.cellAt i (by omega)
    rw [Nat.zero_add, this]
    simp [strs, hi]
theorem infoStrD : (Try.prog.info? 9).map (fun i => (i.zero, i.size, i.bytes)) = some (some (.string ⟨#[]⟩), 1, 16) := by kernel_rfl
theorem append_nilD {P : Program} (w : World) (t ty e : TypeId) (i : TypeInfo) (ht : P.underlying t = some (.slice e)) (hi : P.info? e = some i) (b : Option Addr) (n c c' : Nat) (hn : n ≤ c) :
    (Builtin.append_ #[t, t] ty #[.slice b n c, .slice none 0 c']).run P w = .ok (.slice b n c) w := by
  cases b <;> simp [Builtin.append_, run_underlying ht, sizeOf, typeInfo, hi, Builtin.lenOf, Builtin.firstCells, storeCells, hn]
theorem own_shapeD {w : World} {base n k : Nat} {e : TypeId} {v : Value} {xs : List Value} (h : w.ownsRow base e k v n xs) : ∃ a c, v = .slice a n c ∧ n ≤ c := by
  rcases h.2 with ⟨rfl, rfl⟩ | ⟨g, cap, cur, rfl, _, _, h1, _⟩
  · exact ⟨_, _, rfl, Nat.le_refl _⟩
  · exact ⟨_, _, rfl, h1⟩
/-- An append of texts to a list of one's own. -/
theorem app_strD {w : World} {o : Oper} {a : Act} {K : Act → World → Prop} {Q : Exit → Act → World → Prop} (s x : Operand)
    (ho : o.op = .call { callee := .builtin .append, args := #[s, x], argTypes := #[25, 25] })
    {v : Value} (hs : a.eval s = v) {w0 : World} {F : List ByteArray} (hown : SRow w0 w v F)
    (ad : Option Addr) (m c : Nat) (hx : a.eval x = .slice ad m c) (L : List ByteArray) (hm : L.length = m) (hnews : StrsA w ad L)
    (hlen : F.length + m ≤ 8000000)
    (h : ∀ v' w', SRow w0 w' v' (F ++ L) → K (a.put o.dst v') w') : Oper.wp Try.prog o a w K Q := by
  obtain ⟨i0, hi, hz0, hz1, hz2⟩ := info_parts infoStrD
  have h1 : ∀ u ∈ strs L, u.oneCell' = true := fun u hu => by
    obtain ⟨y, _, rfl⟩ := List.mem_map.1 hu; rfl
  have hlo : ∀ k, v.ownBlock = some k → w0.heap.size ≤ k := hown.lo
  have hnil : ad = none → L = [] := fun e => by
    by_cases hL : L = []
    · exact hL
    · obtain ⟨b, off, e2, _⟩ := hnews.out hL
      rw [e] at e2; cases e2
  cases ad with
  | some ad =>
    obtain ⟨v', w', hr, h2, h3, h4, h5⟩ := run_append_own_at (P := Try.prog) w w0.heap.size 25 o.type 9 i0 (.string ⟨#[]⟩) 1 16 Try.underlying25 hi hz0 hz1 hz2 rfl (by decide) v F.length (strs F) hown.own ad m c (strs L) (by rw [strs_len]; omega)
      (fun j u hj => by
        have hL : L ≠ [] := fun e => by rw [e] at hj; simp [strs] at hj
        obtain ⟨b, off, e, hc⟩ := hnews.out hL
        cases e
        rw [WideShapes.add_plain]
        have hj' : j < L.length := by rw [← strs_len]; exact (List.getElem?_eq_some_iff.1 hj).1
        rw [hc j hj']
        simp [strs, hj'] at hj ⊢
        exact hj) h1 (by unfold maxLen; omega) (by omega) hown.b.size
    unfold Oper.wp execOp
    simp only [ho, resolve, invoke, builtin, Sem.run_bind, Sem.run_pure, Result.andThen_ok, List.map_toArray, List.map_cons, List.map_nil, hs, hx, hr]
    exact h v' w' ⟨by rw [List.length_append, hm, strs_app]; exact h2, hown.b.grown h3 hown.b.size hlo⟩
  | none =>
    have hN := hnil rfl
    subst hN
    obtain rfl : m = 0 := by simpa using hm.symm
    obtain ⟨b, c', hv, hc'⟩ := own_shapeD hown.own
    have hr := append_nilD (P := Try.prog) w 25 o.type 9 i0 Try.underlying25 hi b F.length c' c hc'
    rw [← hv] at hr
    unfold Oper.wp execOp
    simp only [ho, resolve, invoke, builtin, Sem.run_bind, Sem.run_pure, Result.andThen_ok, List.map_toArray, List.map_cons, List.map_nil, hs, hx, hr]
    exact h v w (by simpa using hown)

open Go.Sort
def sortB (F : List ByteArray) : List ByteArray := ((F.map bl).mergeSort fun x y => decide (x ≤ y)).map bs
theorem sortB_len (F : List ByteArray) : (sortB F).length = F.length := by simp [sortB]
theorem sortB_bl (F : List ByteArray) : (sortB F).map bl = (F.map bl).mergeSort fun x y => decide (x ≤ y) := by
  unfold sortB
  rw [List.map_map]
  exact List.map_id _
theorem mem_sortB {F : List ByteArray} {s : ByteArray} (h : s ∈ sortB F) : s ∈ F := by
  unfold sortB at h
  rw [List.mem_map] at h
  obtain ⟨y, hy, rfl⟩ := h
  rw [List.mem_mergeSort, List.mem_map] at hy
  obtain ⟨z, hz, rfl⟩ := hy
  exact hz
theorem sortB_any {w0 w : World} {v : Value} {F : List ByteArray} (hF : SRow w0 w v F) (hs : F.length ≤ 8000000) :
    Calls Try.prog 14 #[v] w fun e w' => e = .returned (.tuple #[]) ∧ SRow w0 w' v (sortB F) := by
  rcases hF.own.2 with ⟨rfl, hn⟩ | ⟨g, cap, cur, rfl, hg, hh, hnc, hcm, hsz, htake⟩
  · obtain rfl : F = [] := List.length_eq_zero_iff.1 hn
    refine (Try.slices_Sort_string_none none 0 w).mono ?_
    rintro e w1 ⟨rfl, rfl⟩
    exact ⟨rfl, by simpa [sortB] using hF⟩
  · have hgs := (hF.own.lt g rfl).2
    have htk : cur.toList.take (F.map bl).length = (F.map bl).map encStr := by rw [List.length_map, ← strs_enc]; simpa using htake
    have hH := holds_of_block hh htk
    have C1 := Try.slices_Sort_string g 0 cap (F.map bl) w hH hgs (by rw [List.length_map]; omega)
    rw [List.length_map] at C1
    refine C1.mono ?_
    rintro e w' ⟨rfl, n, os, rfl⟩
    refine ⟨rfl, ?_, hF.b.grown (grownBy_sorted _) hF.b.size (fun k hk => by cases hk; exact hg)⟩
    have := ownsRow_sorted (n := n) (os := os) (ts := (F.map bl).mergeSort fun x y => decide (x ≤ y)) (ss := F.map bl) (by simp) hg hh (by rw [List.length_map]; exact hnc) hcm (by simpa using hsz)
    rw [List.length_map, enc_strs] at this
    rw [sortB_len]
    exact this
theorem compactB_any {w0 w : World} {v : Value} {F : List ByteArray} (hF : SRow w0 w v F) (hs : F.length ≤ 8000000) (hz : ∀ s ∈ F, s.size ≤ maxLen) :
    Calls Try.prog 15 #[v] w fun e w' => (∃ a c, e = .returned (.slice a (Lib.compact (F.map bl)).length c) ∧ StrsA w' a ((Lib.compact (F.map bl)).map bs)) ∧ Below w0.heap.size w0 w' := by
  have hzm : ∀ s ∈ (Lib.compact (F.map bl)).map bs, s.size ≤ maxLen := fun s h => by
    obtain ⟨y, hy, rfl⟩ := List.mem_map.1 h
    rw [mem_compactB] at hy
    obtain ⟨z, hz', rfl⟩ := List.mem_map.1 hy
    exact hz _ hz'
  rcases hF.own.2 with ⟨rfl, hn⟩ | ⟨g, cap, cur, rfl, hg, hh, hnc, hcm, hsz, htake⟩
  · obtain rfl : F = [] := List.length_eq_zero_iff.1 hn
    refine (Try.slices_Compact_string_empty none 0 w).mono ?_
    rintro e w1 ⟨rfl, rfl⟩
    exact ⟨⟨none, 0, rfl, ⟨fun h => absurd rfl h, hzm⟩⟩, hF.b⟩
  · have htk : cur.toList.take (F.map bl).length = (F.map bl).map encStr := by rw [List.length_map, ← strs_enc]; simpa using htake
    have hH := holds_of_block hh htk
    have hlz : (F.map bl).length = F.length := List.length_map ..
    generalize F.map bl = zs at hH hlz hzm ⊢
    have hcl := compactB_len zs
    have C2 := Try.slices_Compact_string g 0 cap zs w hH (by omega) (by omega)
    rw [hlz] at C2
    refine C2.mono ?_
    rintro e w' ⟨rfl, q, hw⟩
    have hgrow0 : ∀ W : World, grow W #[] = W := fun W => by simp [grow]
    have hw' : w' = grow (putRow encStr (Sort.ahead w q) g 0 (Lib.compact zs ++ List.replicate (zs.length - (Lib.compact zs).length) []).toArray) #[] := by rw [hgrow0, hlz]; exact hw
    clear hw
    have hl2 : (Lib.compact zs ++ List.replicate (zs.length - (Lib.compact zs).length) []).length = zs.length := by simp; omega
    have O2 := ownsRow_sorted (n := q) (os := #[]) hl2 hg hh (by omega) hcm (by simpa using hsz)
    rw [← hw', enc_strs, List.map_append] at O2
    obtain ⟨a, c, ev, _, hS⟩ := strs_owned O2 (by rw [← List.map_append, List.length_map, hl2]) (fun s h => by
      rcases List.mem_append.1 h with h | h
      · exact hzm s h
      · obtain ⟨y, hy, rfl⟩ := List.mem_map.1 h
        rw [List.eq_of_mem_replicate hy]
        exact Nat.zero_le _)
    obtain rfl : a = some ⟨g, 0, none⟩ := (Value.slice.inj ev).1.symm
    refine ⟨⟨some ⟨g, 0, none⟩, cap, rfl, ⟨fun hne => ?_, hzm⟩⟩, ?_⟩
    · obtain ⟨b, o, e, hc⟩ := hS.out (fun e => hne (List.append_eq_nil_iff.1 e).1)
      refine ⟨b, o, e, fun i hi => ?_⟩
      rw [hc i (by rw [List.length_append]; omega), List.getElem_append_left hi]
    · rw [hw']
      exact hF.b.grown (grownBy_sorted _) hF.b.size (fun k hk => by cases hk; exact hg)

theorem app_strL {w : World} {ops : Array Oper} {rest : List Oper} {o : Oper} {a : Act} {Q : Exit → Act → World → Prop} (hgd : o.guard = none) (s x : Operand)
    (ho : o.op = .call { callee := .builtin .append, args := #[s, x], argTypes := #[25, 25] })
    {v : Value} (hs : a.eval s = v) {w0 : World} {F : List ByteArray} (hown : SRow w0 w v F)
    (ad : Option Addr) (m c : Nat) (hx : a.eval x = .slice ad m c) (L : List ByteArray) (hm : L.length = m) (hnews : StrsA w ad L)
    (hlen : F.length + m ≤ 8000000)
    (h : ∀ v' w', SRow w0 w' v' (F ++ L) → wpList Try.prog ops Q rest (a.put o.dst v') w') : wpList Try.prog ops Q (o :: rest) a w :=
  wpList_plain hgd fun _ hK => app_strD s x ho hs hown ad m c hx L hm hnews hlen fun v' w' h1 => hK _ _ (h v' w' h1)
def namesF (ps : List Px) : List ByteArray := ps.flatMap Px.fs
theorem namesF_take {ps : List Px} {i : Nat} (h : i < ps.length) : namesF (ps.take (i + 1)) = namesF (ps.take i) ++ ps[i].fs := by
  unfold namesF
  rw [List.take_succ_eq_append_getElem h, List.flatMap_append]
  simp
theorem namesF_le {ps : List Px} {i : Nat} : (namesF (ps.take i)).length ≤ (namesF ps).length := by
  unfold namesF
  conv => rhs; rw [← List.take_append_drop i ps, List.flatMap_append, List.length_append]
  omega
theorem namesF_small {w : World} {n : Nat} {a : Option Addr} {c : Nat} {ps : List Px} (h : PsOk w n a c ps) : ∀ s ∈ namesF ps, s.size ≤ maxLen := fun s hs => by
  obtain ⟨p, hp, hs⟩ := List.mem_flatMap.1 hs
  exact (h.ok p hp).fs.small s hs
set_option maxRecDepth 100000 in
set_option maxHeartbeats 4000000 in
theorem shRefs_any {n : Nat} (a : Option Addr) (c : Nat) (ps : List Px) (w : World) (hp : PsOk w n a c ps) (hN : (namesF ps).length ≤ 4000000) :
    Calls Try.prog 6 #[planV a ps.length c] w fun e w' => (∃ a c, e = .returned (.slice a (riseB (namesF ps)).length c) ∧ StrsA w' a (riseB (namesF ps))) ∧ Below w.heap.size w w' := by
  have hfew := hp.few
  have HP := hid0 hp
  have hsm := hid0 (namesF_small hp)
  have hS0 : SRow w (w.alloc (.cells #[.slice a ps.length c] 24)) (.slice none 0 0) [] := SRow.nil ((Below.refl _ _).alloc (Nat.le_refl _) _)
  have hnx : riseB (namesF ps) = (Lib.compact ((sortB (namesF ps)).map bl)).map bs := by rw [sortB_bl]; rfl
  have hnx := hid0 hnx
  clear hp
  unfold planV
  go_enter Try.func6, Try.ntmps6
  go_wp2
  go_loopw [3, 9] (fun lv iv wr => ∃ i : Nat, i ≤ ps.length ∧ iv = .int .i64 i ∧ SRow w wr lv (namesF (ps.take i))) (fun _ iv _ => ps.length - (intOf iv).toNat)
  case atStart => exact ⟨0, Nat.zero_le _, rfl, hS0⟩
  case round =>
    obtain ⟨i, hi, rfl, hS⟩ := hrel
    clear hS0
    have hB := hS.b
    have hsz := hB.size
    by_cases hlt : i < ps.length
    · obtain ⟨b1, o1, rfl, hb1, hR⟩ := (HP.out.later hB).part i hlt
      have hok := HP.out.ok _ (List.getElem_mem hlt)
      have hst := namesF_take hlt
      have hle := namesF_le (ps := ps) (i := i + 1)
      have hfs : ∀ W, Below w.heap.size w W → StrsA W ps[i].fp ps[i].fs := fun W hW => hok.fs.later hW
      generalize ps[i] = p at hR hfs hst
      generalize namesF (ps.take i) = F at hst hS ⊢
      have hlen : F.length + p.fs.length ≤ 4000000 := by rw [hst, List.length_append] at hle; omega
      have HST := hid0 hst
      have V0 : VarB (wr.alloc (Obj.cells #[.bool false, .slice none 0 0, .slice none 0 0, .int .i64 0, .int .i64 0, .int .i64 0, .int .i64 0, .int .i64 0, .int .i64 0, .string ⟨#[]⟩, .slice none 0 0, .int .i64 0, .int .i64 0, .int .i64 0, .int .i64 0, .string ⟨#[]⟩, .slice none 0 0, .slice none 0 0, .slice none 0 0, .slice none 0 0] 40)) wr.heap.size zPx := VarB.new wr zPx 40
      have hl := p.cells_len
      have h1' := p.one
      have hf1 : p.cells[1]? = some (.slice p.fp p.fs.length p.fc) := rfl
      have hSA := hS.alloc (Obj.cells #[.bool false, .slice none 0 0, .slice none 0 0, .int .i64 0, .int .i64 0, .int .i64 0, .int .i64 0, .int .i64 0, .int .i64 0, .string ⟨#[]⟩, .slice none 0 0, .int .i64 0, .int .i64 0, .int .i64 0, .int .i64 0, .string ⟨#[]⟩, .slice none 0 0, .slice none 0 0, .slice none 0 0, .slice none 0 0] 40)
      have hSm : ∀ W, Below wr.heap.size wr W → Below w.heap.size w W := fun W hW => below_through hW hsz hB
      have HSm := hid0 hSm
      have HS := hid0 hS
      have HF := hid0 hfs
      clear hst hB hok hS hle hSA hSm hfs
      generalize p.cells = us at hR hl h1' hf1
      go_wp2_with (first | ((with_reducible refine wp_getB hR Try.underlying40 ?_ ?_ ?_ ?_); (rfl); (rw [hl]; exact sizePx); (rfl); simp only [Act.put]) | ((with_reducible refine wp_putB V0 h1' ?_ ?_ ?_ ?_ ?_); (exact hl); (exact sizePx); (rfl); (rfl); intro w5 hV5 hw5; (have hb5 : Below wr.heap.size wr w5 := by rw [hw5.out]; exact below_setCells _ 0 ((Below.refl _ _).alloc (Nat.le_refl _) _) (Nat.le_refl _)); (have c5 := hV5.cell 1 hf1); clear hw5 V0; simp only [Act.put]) | (at_builtin; refine app_strL rfl _ _ rfl rfl (HS.out.below hb5) p.fp p.fs.length p.fc rfl p.fs rfl (HF.out _ (HSm.out _ hb5)) (by omega) ?_; intro v6 w6 hS6; (have HS6 := hid0 hS6); clear hS6) | fail)
      exact ⟨⟨i + 1, by omega, by go_num, by rw [HST.out]; exact HS6.out⟩, by simp [intOf]; omega⟩
    · have hie : ¬ (i : Int) < ps.length := by omega
      rw [List.take_of_length_le (by omega)] at hS
      go_wp2_with fail
      go_at_call 14
      refine (sortB_any hS (by omega)).mono ?_
      rintro e w2 ⟨rfl, hS2⟩
      go_wp2_with fail
      go_at_call 15
      refine (compactB_any hS2 (by rw [sortB_len]; omega) (fun s hs => hsm.out s (mem_sortB hs))).mono ?_
      rintro e w3 ⟨⟨a2, c2, rfl, hA⟩, hB3⟩
      have HA := hid0 hA
      clear hA
      go_wp2_with fail
      go_ret
      refine ⟨⟨a2, c2, ?_, ?_⟩, hB3⟩
      · rw [hnx.out, List.length_map]
        rfl
      · rw [hnx.out]; exact HA.out
end Go.Proofs.Ytfdkajefcplfjaa

/- Texts rising, each once, plainly: with one more; and places of what is told. Nothing of any program here. Conditions: none. -/
namespace Go.Proofs.Ytfdkajefcplfjaa
open Go.RowKit

theorem less_lt : ∀ (x y : List UInt8), Op.bytesLess x y = decide (x < y)
  | [], [] => by simp [Op.bytesLess]
  | _ :: _, [] => by simp [Op.bytesLess]
  | [], _ :: _ => by simp [Op.bytesLess]
  | a :: x, b :: y => by
    rw [Op.bytesLess, less_lt x y]
    simp only [List.cons_lt_cons_iff]
    by_cases h1 : a < b <;> by_cases h2 : a = b <;> by_cases h3 : x < y <;> simp [h1, h2, h3]
theorem bl_inj {x y : ByteArray} (h : bl x = bl y) : x = y := by
  have := congrArg bs h
  rwa [bs_bl, bs_bl] at this
theorem ltL_of {a b c : List UInt8} (h1 : a ≤ b) (h2 : b ≤ c) (h3 : b ≠ c) : a < c := by
  by_cases h : a < c
  · exact h
  · have h4 : c ≤ a := List.not_lt.1 h
    exact absurd (List.le_antisymm h2 (List.le_trans h4 h1)) h3
theorem compactB_lt (zs : List (List UInt8)) (hs : zs.Pairwise (· ≤ ·)) : (Lib.compact zs).Pairwise (· < ·) := by
  unfold Lib.compact Lib.compactUpTo
  rw [List.pairwise_map]
  have h0 := (List.pairwise_lt_range (n := zs.length)).filter (Lib.keeps zs.toArray)
  refine List.Pairwise.imp_of_mem ?_ h0
  intro i j hi hj hij
  simp only [List.mem_filter, List.mem_range] at hi hj
  have hk := hj.2
  simp [Lib.keeps, show j ≠ 0 by omega, hj.1, show j - 1 < zs.length by omega] at hk
  have h1 : zs[i]'hi.1 ≤ zs[j - 1]'(by omega) := by
    rcases Nat.lt_or_ge i (j - 1) with h | h
    · exact List.pairwise_iff_getElem.1 hs i (j - 1) hi.1 (by omega) h
    · obtain rfl : i = j - 1 := by omega
      exact List.le_refl _
  have h2 : zs[j - 1]'(by omega) ≤ zs[j]'hj.1 := List.pairwise_iff_getElem.1 hs (j - 1) j (by omega) hj.1 (by omega)
  simp only [List.size_toArray, hi.1, hj.1, getElem!_pos]
  exact ltL_of h1 h2 (fun e => hk e.symm)
theorem sortB_pair (F : List (List UInt8)) : (F.mergeSort fun x y => decide (x ≤ y)).Pairwise (· ≤ ·) := by
  have h := List.pairwise_mergeSort (le := fun x y : List UInt8 => decide (x ≤ y)) (fun a b c h1 h2 => by
    simp only [decide_eq_true_eq] at *
    exact List.le_trans h1 h2) (fun a b => by
    have := List.le_total a b
    simpa using this) F
  exact h.imp (fun h => by simpa using h)
theorem riseB_lt (F : List ByteArray) : (riseB F).Pairwise (fun x y => bl x < bl y) := by
  unfold riseB
  rw [List.pairwise_map]
  exact compactB_lt _ (sortB_pair _)
theorem ltB_same : ∀ (a b : List ByteArray), a.Pairwise (fun x y => bl x < bl y) → b.Pairwise (fun x y => bl x < bl y) → (∀ x, x ∈ a ↔ x ∈ b) → a = b
  | [], [], _, _, _ => rfl
  | [], y :: b, _, _, h => absurd ((h y).2 (by simp)) (by simp)
  | x :: a, [], _, _, h => absurd ((h x).1 (by simp)) (by simp)
  | x :: a, y :: b, ha, hb, h => by
    rw [List.pairwise_cons] at ha hb
    have e : x = y := by
      rcases List.mem_cons.1 ((h x).1 (by simp)) with e | e
      · exact e
      · rcases List.mem_cons.1 ((h y).2 (by simp)) with e' | e'
        · exact e'.symm
        · exact absurd (List.lt_trans (ha.1 y e') (hb.1 x e)) (List.lt_irrefl _)
    subst e
    rw [ltB_same a b ha.2 hb.2 (fun z => ⟨fun hz => by
      rcases List.mem_cons.1 ((h z).1 (by simp [hz])) with e | e
      · subst e; exact absurd (ha.1 z hz) (List.lt_irrefl _)
      · exact e, fun hz => by
      rcases List.mem_cons.1 ((h z).2 (by simp [hz])) with e | e
      · subst e; exact absurd (hb.1 z hz) (List.lt_irrefl _)
      · exact e⟩)]
theorem riseB_same {F G : List ByteArray} (h : ∀ x, x ∈ F ↔ x ∈ G) : riseB F = riseB G :=
  ltB_same _ _ (riseB_lt F) (riseB_lt G) (fun x => by rw [mem_riseB, mem_riseB, h])
theorem riseB_nil : riseB [] = [] := List.length_eq_zero_iff.1 (by have := riseB_len []; simpa using this)
theorem riseB_has {F : List ByteArray} {x : ByteArray} (h : x ∈ riseB F) : riseB (F ++ [x]) = riseB F := riseB_same fun y => by
  rw [List.mem_append, List.mem_singleton]
  constructor
  · rintro (h1 | rfl)
    · exact h1
    · exact (mem_riseB F y).1 h
  · exact .inl
theorem riseB_ins {F : List ByteArray} {x : ByteArray} (k : Nat) (hk : k ≤ (riseB F).length) (hlo : ∀ j (h : j < (riseB F).length), j < k → bl (riseB F)[j] < bl x) (hhi : ∀ (h : k < (riseB F).length), bl x < bl (riseB F)[k]) :
    riseB (F ++ [x]) = (riseB F).take k ++ ([x] ++ (riseB F).drop k) := by
  have hp := riseB_lt F
  refine ltB_same _ _ (riseB_lt _) ?_ (fun y => ?_)
  · have hd : ∀ y ∈ (riseB F).drop k, bl x < bl y := fun y hy => by
      obtain ⟨j, hj, rfl⟩ := List.mem_iff_getElem.1 hy
      rw [List.length_drop] at hj
      rw [List.getElem_drop]
      have h1 := hhi (by omega)
      rcases Nat.eq_zero_or_pos j with h0 | h0
      · subst h0; simpa using h1
      · have := List.pairwise_iff_getElem.1 hp k (k + j) (by omega) (by omega) (by omega)
        exact List.lt_trans h1 this
    have ht : ∀ y ∈ (riseB F).take k, bl y < bl x := fun y hy => by
      obtain ⟨j, hj, rfl⟩ := List.mem_iff_getElem.1 hy
      rw [List.length_take] at hj
      rw [List.getElem_take]
      exact hlo j (by omega) (by omega)
    refine List.pairwise_append.2 ⟨hp.sublist (List.take_sublist _ _), ?_, fun a ha b hb => ?_⟩
    · exact List.pairwise_cons.2 ⟨hd, hp.sublist (List.drop_sublist _ _)⟩
    · rcases List.mem_cons.1 hb with rfl | hb
      · exact ht a ha
      · exact List.lt_trans (ht a ha) (hd b hb)
  · rw [mem_riseB, List.mem_append, List.mem_singleton, List.mem_append, List.mem_append, List.mem_singleton, ← mem_riseB]
    conv => lhs; rw [← List.take_append_drop k (riseB F), List.mem_append]
    constructor
    · rintro ((h | h) | h)
      · exact .inl h
      · exact .inr (.inr h)
      · exact .inr (.inl h)
    · rintro (h | h | h)
      · exact .inl (.inl h)
      · exact .inr h
      · exact .inl (.inr h)
/-- What a comparison of two texts tells. -/
theorem less_bl (x y : ByteArray) : Op.bytesLess x.toList y.toList = decide (bl x < bl y) := by
  rw [less_lt, ByteArray.toList_eq, ByteArray.toList_eq]
  rfl
theorem eq_bl (x y : ByteArray) : (x.toList == y.toList) = decide (x = y) := by
  rw [ByteArray.toList_eq, ByteArray.toList_eq]
  by_cases h : x = y
  · subst h; simp
  · have h2 : ¬ x.data = y.data := fun e => h (ByteArray.ext e)
    simp [h, h2]
end Go.Proofs.Ytfdkajefcplfjaa

/- Appends of texts to a list of one's own; a list's beginning and its end. Nothing of any program here but the types. Conditions: each names its own. -/
namespace Go.Proofs.Ytfdkajefcplfjaa
open Go.RowKit

/-- An append of texts to a row of one's own. -/
theorem appS_wp {w : World} {o : Oper} {a : Act} {K : Act → World → Prop} {Q : Exit → Act → World → Prop} (s x : Operand)
    (ho : o.op = .call { callee := .builtin .append, args := #[s, x], argTypes := #[25, 25] })
    {v : Value} (hs : a.eval s = v) (base n : Nat) (xs : List Value) (hown : w.ownsRow base 9 1 v n xs)
    (ad : Option Addr) (m c : Nat) (hx : a.eval x = .slice ad m c) (L : List ByteArray) (hm : L.length = m) (hnews : StrsA w ad L)
    (hlen : n + m ≤ 8000000) (hbase : base ≤ w.heap.size)
    (h : ∀ v' w', w'.ownsRow base 9 1 v' (n + m) (xs ++ strs L) → w.grownBy w' v.ownBlock → (v'.ownBlock = v.ownBlock ∨ v'.ownBlock = some w.heap.size) → K (a.put o.dst v') w') : Oper.wp Try.prog o a w K Q := by
  obtain ⟨i0, hi, hz0, hz1, hz2⟩ := info_parts infoStrD
  have h1 : ∀ u ∈ strs L, u.oneCell' = true := fun u hu => by
    obtain ⟨y, _, rfl⟩ := List.mem_map.1 hu; rfl
  have hnil : ad = none → L = [] := fun e => by
    by_cases hL : L = []
    · exact hL
    · obtain ⟨b, off, e2, _⟩ := hnews.out hL
      rw [e] at e2; cases e2
  cases ad with
  | some ad =>
    obtain ⟨v', w', hr, h2, h3, h4, h5⟩ := run_append_own_at (P := Try.prog) w base 25 o.type 9 i0 (.string ⟨#[]⟩) 1 16 Try.underlying25 hi hz0 hz1 hz2 rfl (by decide) v n xs hown ad m c (strs L) (by rw [strs_len]; omega)
      (fun j u hj => by
        have hL : L ≠ [] := fun e => by rw [e] at hj; simp [strs] at hj
        obtain ⟨b, off, e, hc⟩ := hnews.out hL
        cases e
        rw [WideShapes.add_plain]
        have hj' : j < L.length := by rw [← strs_len]; exact (List.getElem?_eq_some_iff.1 hj).1
        rw [hc j hj']
        simp [strs, hj'] at hj ⊢
        exact hj) h1 (by unfold maxLen; omega) (by omega) hbase
    unfold Oper.wp execOp
    simp only [ho, resolve, invoke, builtin, Sem.run_bind, Sem.run_pure, Result.andThen_ok, List.map_toArray, List.map_cons, List.map_nil, hs, hx, hr]
    exact h v' w' h2 h3 h5
  | none =>
    have hN := hnil rfl
    subst hN
    obtain rfl : m = 0 := by simpa using hm.symm
    obtain ⟨b, c', hv, hc'⟩ := own_shapeD hown
    have hr := append_nilD (P := Try.prog) w 25 o.type 9 i0 Try.underlying25 hi b n c' c hc'
    rw [← hv] at hr
    unfold Oper.wp execOp
    simp only [ho, resolve, invoke, builtin, Sem.run_bind, Sem.run_pure, Result.andThen_ok, List.map_toArray, List.map_cons, List.map_nil, hs, hx, hr]
    exact h v w (by simpa [strs] using hown) ⟨rfl, rfl, rfl, Nat.le_refl _, fun _ _ _ => rfl⟩ (.inl rfl)
theorem appS_if {w : World} {ops : Array Oper} {o : Oper} {a : Act} {K : Act → World → Prop} {Q : Exit → Act → World → Prop} {X : Prop} (hgd : o.guard = none) (s x : Operand)
    (ho : o.op = .call { callee := .builtin .append, args := #[s, x], argTypes := #[25, 25] })
    {v : Value} (hs : a.eval s = v) (base n : Nat) (xs : List Value) (hown : w.ownsRow base 9 1 v n xs)
    (ad : Option Addr) (m c : Nat) (hx : a.eval x = .slice ad m c) (L : List ByteArray) (hm : L.length = m) (hnews : StrsA w ad L)
    (hlen : n + m ≤ 8000000) (hbase : base ≤ w.heap.size)
    (h : ∀ v' w', w'.ownsRow base 9 1 v' (n + m) (xs ++ strs L) → w.grownBy w' v.ownBlock → (v'.ownBlock = v.ownBlock ∨ v'.ownBlock = some w.heap.size) → K (a.put o.dst v') w') : if Region.wanted o (yielded ops a.tmps) = true then Oper.wp Try.prog o a w K Q else X := by
  rw [if_pos (by simp [Region.wanted, hgd])]
  exact appS_wp s x ho hs base n xs hown ad m c hx L hm hnews hlen hbase h
theorem StrsA.head {w : World} {a : Option Addr} {l : List ByteArray} (k : Nat) (h : StrsA w a l) : StrsA w a (l.take k) := ⟨fun hne => by
  obtain ⟨b, off, e, hc⟩ := h.out (fun e => hne (by simp [e]))
  exact ⟨b, off, e, fun i hi => by
    have hi' : i < l.length := by rw [List.length_take] at hi; omega
    rw [hc i hi', List.getElem_take]⟩, fun s hs => h.small s (List.mem_of_mem_take hs)⟩
theorem StrsA.tail {w : World} {a : Option Addr} {l : List ByteArray} (k : Nat) (h : StrsA w a l) : StrsA w (a.map (·.add (k * 1))) (l.drop k) := ⟨fun hne => by
  obtain ⟨b, off, rfl, hc⟩ := h.out (fun e => hne (by simp [e]))
  refine ⟨b, off + k, by simp [WideShapes.add_plain], fun i hi => ?_⟩
  have hi' : k + i < l.length := by rw [List.length_drop] at hi; omega
  rw [Nat.add_assoc, hc (k + i) hi', List.getElem_drop], fun s hs => h.small s (List.mem_of_mem_drop hs)⟩
theorem StrsA.here {w : World} {a a' : Option Addr} {l : List ByteArray} (k : Nat) (hk : l.length ≤ k) (h : StrsA w a' l) : StrsA w a (l.drop k) := ⟨fun hne => absurd (List.drop_eq_nil_of_le hk) hne, fun s hs => h.small s (List.mem_of_mem_drop hs)⟩
set_option maxRecDepth 1000000 in
theorem strs_lo (a : Option Addr) (n c k : Nat) (hk : k ≤ n) (hc : n ≤ c) (_hn : n ≤ 16000000) (W : World) :
    (Instr.slice 25 (.slice a n c) none (some (.int .i64 k)) none).run Try.prog W = .ok (.slice a k c) W := by
  rw [run_slice_h W 25 a n c Try.underlying25 .i64 k (by omega) (by omega)]
  simp [go_sem, Result.andThen, sliced]
set_option maxRecDepth 1000000 in
theorem strs_hi (a : Option Addr) (l : List ByteArray) (n c k : Nat) (hl : l.length = n) (hk : k ≤ n) (hc : n ≤ c) (_hn : n ≤ 16000000) :
    ∃ a1 c1, (∀ W : World, (Instr.slice 25 (.slice a n c) (some (.int .i64 k)) none none).run Try.prog W = .ok (.slice a1 (n - k) c1) W) ∧ ∀ W, StrsA W a l → StrsA W a1 (l.drop k) := by
  refine ⟨if c = k then a else a.map (·.add (k * 1)), c - k, fun W => ?_, fun W h => ?_⟩
  · rw [run_slice_l W 25 a n c Try.underlying25 .i64 k (by omega) (by omega)]
    simp [go_sem, Result.andThen, sliced]
  · split
    · exact h.here k (by omega)
    · exact h.tail k
theorem madeS (W : World) (base : Nat) (hb : base ≤ W.heap.size) : (W.alloc (.cells #[] 9)).ownsRow base 9 1 (.slice (some ⟨W.heap.size, 0, none⟩) 0 0) 0 (strs []) := World.ownsRow_made W #[] 0 hb (by unfold maxLen; omega) rfl
/-- A list of texts that lies somewhere, as a slice has it. -/
structure SL (w : World) (v : Value) (L : List ByteArray) : Prop where
  out : ∃ a c, v = .slice a L.length c ∧ L.length ≤ c ∧ StrsA w a L
theorem SL.later {w w' : World} {v : Value} {L : List ByteArray} (h : SL w v L) (hb : Below w.heap.size w w') : SL w' v L := by
  obtain ⟨a, c, e, hc, hI⟩ := h.out
  exact ⟨a, c, e, hc, hI.later hb⟩
theorem StrsA.nil (w : World) (a : Option Addr) : StrsA w a [] := ⟨fun h => absurd rfl h, fun _ h => absurd h (by simp)⟩
theorem SL.nil (w : World) : SL w (.slice none 0 0) [] := ⟨none, 0, rfl, Nat.le_refl _, StrsA.nil _ _⟩
theorem SL.own {B n : Nat} {w : World} {v : Value} {l : List ByteArray} (h : w.ownsRow B 9 1 v n (strs l)) (hn : l.length = n) (hs : ∀ s ∈ l, s.size ≤ maxLen) : SL w v l := by
  obtain ⟨a, c, e, hc, hS⟩ := strs_owned h hn hs
  subst hn
  exact ⟨a, c, e, hc, hS⟩
theorem strs_one {w : World} {b : Nat} {x : ByteArray} (h : w.cell? ⟨b, 0, none⟩ = some (.string x)) (hx : x.size ≤ maxLen) : StrsA w (some ⟨b, 0, none⟩) [x] := ⟨fun _ => ⟨b, 0, rfl, fun i hi => by
  match i, hi with
  | 0, _ => exact h
  | i + 1, hi => exact absurd hi (by simp)⟩, fun s hs => by obtain rfl := List.mem_singleton.1 hs; exact hx⟩
end Go.Proofs.Ytfdkajefcplfjaa
