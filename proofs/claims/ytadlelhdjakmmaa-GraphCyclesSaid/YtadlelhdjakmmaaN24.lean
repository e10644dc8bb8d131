/- Names made of letters (layer 17): plainly, which errors their rows and rounds have; a name made of a byte; a struct's list that is appended to; the first name's list laid anew. Conditions: each names its own. -/
import Derived.Test.YtadlelhdjakmmaaN19
import Derived.Laws.IdiomStrings
namespace Go.Proofs.Ytadlelhdjakmmaa
open Go.RowKit

def nm (k : Nat) : ByteArray := ⟨#[UInt8.ofNat (97 + k)]⟩
theorem nm_inj {i j : Nat} (hi : i ≤ 16) (hj : j ≤ 16) (h : nm i = nm j) : i = j := by
  unfold nm at h
  have h1 : (⟨#[UInt8.ofNat (97 + i)]⟩ : ByteArray).data.toList = (⟨#[UInt8.ofNat (97 + j)]⟩ : ByteArray).data.toList := by rw [h]
  simp at h1
  have h2 := congrArg UInt8.toNat h1
  simp at h2
  omega
theorem nm_small (k : Nat) : (nm k).size ≤ maxLen := by
  show 1 ≤ maxLen
  unfold maxLen
  omega
/-- The names made so far: each reads only earlier ones, and the one ahead of it. -/
structure Made (L : List Nn) (k : Nat) : Prop where
  len : L.length = k
  s : ∀ i (h : i < L.length), L[i].s = nm i
  rs : ∀ i (h : i < L.length), ∀ r ∈ L[i].rs, ∃ j, j < i ∧ r = nm j
  ne : ∀ i (h : i < L.length), 0 < i → L[i].rs ≠ []
theorem Made.nil : Made [] 0 := ⟨rfl, fun i h => absurd h (by simp), fun i h => absurd h (by simp), fun i h => absurd h (by simp)⟩
theorem Made.snoc {L : List Nn} {k : Nat} (h : Made L k) {x : Nn} (hs : x.s = nm k) (hr : ∀ r ∈ x.rs, ∃ j, j < k ∧ r = nm j) (hn : 0 < k → x.rs ≠ []) : Made (L ++ [x]) (k + 1) := by
  have hl := h.len
  have hcase : ∀ i (hi : i < (L ++ [x]).length), (∃ h' : i < L.length, (L ++ [x])[i] = L[i]) ∨ (i = k ∧ (L ++ [x])[i] = x) := fun i hi => by
    rw [List.length_append, List.length_singleton] at hi
    by_cases h' : i < L.length
    · exact .inl ⟨h', List.getElem_append_left h'⟩
    · have : i = L.length := by omega
      subst this
      exact .inr ⟨hl, by simp⟩
  refine ⟨by rw [List.length_append, hl]; rfl, fun i hi => ?_, fun i hi => ?_, fun i hi => ?_⟩
  · rcases hcase i hi with ⟨h', e⟩ | ⟨rfl, e⟩
    · rw [e]; exact h.s i h'
    · rw [e]; exact hs
  · rcases hcase i hi with ⟨h', e⟩ | ⟨rfl, e⟩
    · rw [e]; exact h.rs i h'
    · rw [e]; exact hr
  · rcases hcase i hi with ⟨h', e⟩ | ⟨rfl, e⟩
    · rw [e]; exact h.ne i h'
    · rw [e]; exact hn
theorem Made.names {L : List Nn} {k : Nat} (h : Made L k) : L.map Nn.s = (List.range k).map nm := by
  refine List.ext_getElem (by simp [h.len]) (fun i h1 h2 => ?_)
  rw [List.getElem_map, List.getElem_map, List.getElem_range]
  exact h.s i (by simpa using h1)
theorem nm_nodup (k : Nat) (hk : k ≤ 16) : ((List.range k).map nm).Nodup := by
  unfold List.Nodup
  rw [List.pairwise_map]
  refine (List.pairwise_lt_range (n := k)).imp_of_mem (fun {a b} ha hb hlt e => ?_)
  have := nm_inj (by have := List.mem_range.1 ha; omega) (by have := List.mem_range.1 hb; omega) e
  omega
theorem Made.check {L : List Nn} {k : Nat} (h : Made L k) (hk : k ≤ 16) : checkG (dat L) = 0 := by
  have hl := h.len
  refine row_check (by rw [dat_len]; omega) (by rw [dat_names, h.names]; exact nm_nodup k hk) (fun i hi r hr => ?_)
  rw [dat_len] at hi
  have e : (dat L)[i] = (L[i].s, L[i].rs) := by simp [dat, Nn.dat]
  rw [e] at hr
  obtain ⟨j, hj, rfl⟩ := h.rs i hi r hr
  have e2 : ((dat L).take i).map (·.1) = (L.take i).map Nn.s := by
    rw [← dat_names]; unfold dat; rw [← List.map_take, List.map_take (f := Nn.dat)]
  rw [e2]
  have hjl : j < L.length := Nat.lt_trans hj hi
  exact List.mem_map.2 ⟨L[j], List.mem_take_iff_getElem.2 ⟨j, by omega, rfl⟩, h.s j hjl⟩
/-- With the first reading the last one. -/
theorem Made.round {x : Nn} {L : List Nn} {k : Nat} (h : Made (x :: L) k) (hk : k ≤ 16) (y : Nn) (hy : y.s = x.s) (hr : y.rs = [nm (k - 1)]) : checkG (dat (y :: L)) = 20 := by
  have hl := h.len
  have hnames : (y :: L).map Nn.s = (List.range k).map nm := by
    rw [List.map_cons, hy, ← List.map_cons (f := Nn.s), h.names]
  rw [List.length_cons] at hl
  refine round_check (by rw [dat_len, List.length_cons]; omega) (by rw [dat_names, hnames]; exact nm_nodup k hk) (fun z hz r hr2 => ?_) (fun z hz => ?_) (by unfold dat; simp)
  · rw [dat_names, hnames]
    obtain ⟨v, hv, rfl⟩ := List.mem_map.1 hz
    rcases List.mem_cons.1 hv with rfl | hv
    · have hr3 : r ∈ v.rs := hr2
      rw [hr] at hr3
      rw [List.mem_singleton.1 hr3]
      exact List.mem_map_of_mem (List.mem_range.2 (by omega))
    · obtain ⟨i, hi, rfl⟩ := List.mem_iff_getElem.1 hv
      obtain ⟨j, hj, rfl⟩ := h.rs (i + 1) (by simpa using hi) r hr2
      exact List.mem_map_of_mem (List.mem_range.2 (by omega))
  · obtain ⟨v, hv, rfl⟩ := List.mem_map.1 hz
    show v.rs ≠ []
    rcases List.mem_cons.1 hv with rfl | hv
    · rw [hr]; simp
    · obtain ⟨i, hi, rfl⟩ := List.mem_iff_getElem.1 hv
      exact h.ne (i + 1) (by simpa using hi) (by omega)
/-- A byte, as a text. -/
theorem conv_nm (w : World) (k : Nat) (hk : k ≤ 16) :
    (convert 38 9 (.slice (some ⟨w.heap.size, 0, none⟩) 1 1)).run Try.prog (w.alloc (.cells #[.int .u8 (97 + (k : Int))] 5)) = .ok (.string (nm k)) (w.alloc (.cells #[.int .u8 (97 + (k : Int))] 5)) :=
  run_convert_bytes_back (P := Try.prog) _ 38 9 5 ⟨w.heap.size, 0, none⟩ 1 [UInt8.ofNat (97 + k)] Try.underlying38 Try.underlying5 Try.underlying9 (fun j hj => by
    match j, hj with
    | 0, _ =>
      have := (VarB.new w [.int .u8 (97 + (k : Int))] 5).cell 0 rfl
      have e : ((UInt8.ofNat (97 + k)).toNat : Int) = 97 + (k : Int) := by
        simp
        omega
      show (w.alloc (.cells #[.int .u8 (97 + (k : Int))] 5)).cell? ⟨w.heap.size, 0, none⟩ = some (.int .u8 ((UInt8.ofNat (97 + k)).toNat : Int))
      rw [e]
      exact this
    | j + 1, hj => exact absurd hj (by simp))
theorem VarB.setQ {w : World} {B i : Nat} {us : List Value} (h : VarB w B us) (u : Value) (hi : i < us.length) : VarB (w.setCell ⟨B, i, none⟩ u) B (us.set i u) := by
  refine ⟨fun j v hv => ?_, fun j hj => ⟨?_, ?_⟩, by simpa using h.lt⟩
  · rw [List.getElem?_set] at hv
    by_cases e : i = j
    · subst e
      simp [hi] at hv
      subst hv
      rw [Nat.zero_add]
      obtain ⟨u0, hu0⟩ := Option.isSome_iff_exists.1 (h.there i hi).1
      rw [Nat.zero_add] at hu0
      exact World.cell?_setCell_same _ _ _ hu0
    · rw [if_neg e] at hv
      rw [World.cell?_setCell_other _ _ _ _ (by simp)]
      exact h.at_ j v hv
  · exact World.isSome_setCells B [u] i w _ (h.there j (by simpa using hj)).1
  · rw [World.frozen?_setCell]; exact (h.there j (by simpa using hj)).2
/-- A box of a name whose list is being made: the box, the list. -/
structure BoxR (w0 : World) (bx : Nat) (s : ByteArray) (v : Value) (rs : List ByteArray) (W : World) : Prop where
  box : VarB W bx [.string s, v]
  own : W.ownsRow w0.heap.size 9 1 v rs.length (strs rs)
  ne : v.ownBlock ≠ some bx
  b : Below w0.heap.size w0 W
  lo : w0.heap.size ≤ bx
theorem BoxR.below {w0 : World} {bx : Nat} {s : ByteArray} {v : Value} {rs : List ByteArray} {W W' : World} (h : BoxR w0 bx s v rs W) (hb : Below W.heap.size W W') : BoxR w0 bx s v rs W' := ⟨h.box.below hb, own_belowY h.own hb, h.ne, below_through hb h.b.size h.b, h.lo⟩
/-- One name more behind the list, not yet laid into the box. -/
theorem wp_box {w0 w : World} {ops : Array Oper} {rest : List Oper} {o : Oper} {a : Act} {Q : Exit → Act → World → Prop} (hgd : o.guard = none) (s x : Operand)
    (ho : o.op = .call { callee := .builtin .append, args := #[s, x], argTypes := #[26, 26] })
    {v : Value} {bx : Nat} {sn : ByteArray} {rs : List ByteArray} (hs : a.eval s = v) (hm : BoxR w0 bx sn v rs w)
    (ad : Option Addr) (hx : a.eval x = .slice ad 1 1) (y : ByteArray) (hnews : StrsA w ad [y]) (hlen : rs.length ≤ 1000)
    (h : ∀ v' w', VarB w' bx [.string sn, v] → w'.ownsRow w0.heap.size 9 1 v' (rs ++ [y]).length (strs (rs ++ [y])) → v'.ownBlock ≠ some bx → Below w0.heap.size w0 w' → wpList Try.prog ops Q rest (a.put o.dst v') w') : wpList Try.prog ops Q (o :: rest) a w :=
  wpList_plain hgd fun _ hK => appS_wp s x ho hs w0.heap.size rs.length (strs rs) hm.own ad 1 1 hx [y] rfl hnews (by omega) hm.b.size fun v' w' h1 h2 h3 => by
    have hlt := hm.box.lt
    have hk : w'.heap[bx]? = w.heap[bx]? := h2.block bx hlt (fun e => hm.ne e.symm)
    refine hK _ _ (h v' w' (hm.box.keep hk h2.size) (by rw [List.length_append, strs_app]; exact h1) (fun e => ?_) (hm.b.grown h2 hm.b.size (fun k hk => (hm.own.lt k hk).1)))
    rcases h3 with h3 | h3
    · exact hm.ne (by rw [← h3]; exact e)
    · rw [h3] at e
      have := Option.some.inj e
      omega
/-- The list goes into the box. -/
theorem BoxR.laid {w0 W : World} {bx : Nat} {s : ByteArray} {u v : Value} {rs : List ByteArray} (hb : VarB W bx [.string s, u]) (ho : W.ownsRow w0.heap.size 9 1 v rs.length (strs rs)) (hne : v.ownBlock ≠ some bx) (hbw : Below w0.heap.size w0 W) (hlo : w0.heap.size ≤ bx) : BoxR w0 bx s v rs (W.setCell ⟨bx, 1, none⟩ v) := by
  have hg : W.grownBy (W.setCell ⟨bx, 1, none⟩ v) (some bx) := ⟨rfl, rfl, rfl, by simp, fun k _ hk => Below.heap_setCell W ⟨bx, 1, none⟩ v k (fun e => hk (by rw [e]))⟩
  exact ⟨hb.setQ (i := 1) v (by simp), ho.kept hg (.inr hne), hne, hbw.setCell (p := ⟨bx, 1, none⟩) hlo v, hlo⟩
/-- The first name's list laid anew. -/
theorem OnceAt.relay {w W : World} {g n c : Nat} {x : Nn} {L : List Nn} (h : OnceAt w W (.slice (some ⟨g, 0, none⟩) n c) (x :: L)) (hn : (x :: L).length = n) (a : Option Addr) (d : Nat) (rs : List ByteArray) (hr : NodeOk W ⟨x.s, a, d, rs⟩ ∧ TagS W a) :
    OnceAt w (W.setCell ⟨g, 1, none⟩ (.slice a rs.length d)) (.slice (some ⟨g, 0, none⟩) n c) (⟨x.s, a, d, rs⟩ :: L) := by
  subst hn
  have s1 := World.ownsRow.stored h.own 1 (.slice a rs.length d)
  have hK := keptT_grown h.own h.b.size s1.2
  refine ⟨?_, fun y hy => ?_, h.b.trans hK.below⟩
  · have := s1.1
    exact this
  · rcases List.mem_cons.1 hy with rfl | hy
    · exact NodeOk.keptN hr hK
    · exact NodeOk.keptN (h.ok y (List.mem_cons_of_mem _ hy)) hK
/-- A name appended. -/
theorem wp_nn {w0 w : World} {ops : Array Oper} {rest : List Oper} {o : Oper} {a : Act} {Q : Exit → Act → World → Prop} (hgd : o.guard = none) (s x : Operand)
    (ho : o.op = .call { callee := .builtin .append, args := #[s, x], argTypes := #[22, 22] })
    {v : Value} {l : List Nn} (hs : a.eval s = v) (hm : OnceAt w0 w v l)
    (e : Nn) (B : Nat) (hx : a.eval x = .slice (some ⟨B, 0, none⟩) 1 1) (h0 : w.cell? ⟨B, 0, none⟩ = some (.string e.s)) (h1 : w.cell? ⟨B, 1, none⟩ = some (.slice e.a e.rs.length e.c))
    (he : NodeOk w e ∧ TagS w e.a) (hlen : (l.length + 1) * 40 ≤ 140737488355328)
    (h : ∀ v' w', OnceAt w0 w' v' (l ++ [e]) → wpList Try.prog ops Q rest (a.put o.dst v') w') : wpList Try.prog ops Q (o :: rest) a w := by
  obtain ⟨i0, hi, hz0, hz1, hz2⟩ := info_parts infoNn
  refine wpList_append_own w hgd s x 22 ho w0.heap.size 35 i0 (.agg #[.string ⟨#[]⟩, .slice none 0 0]) 2 40 Try.underlying22 hi hz0 hz1 hz2 rfl (by decide) v l.length (cellsNn l) hs hm.own ⟨B, 0, none⟩ 1 1 [.string e.s, .slice e.a e.rs.length e.c] hx rfl ?_ ?_ (by unfold maxLen; omega) hlen hm.b.size ?_
  · intro j u hj
    match j, hj with
    | 0, hj => simp at hj; subst hj; rw [WideShapes.add_plain]; exact h0
    | 1, hj => simp at hj; subst hj; rw [WideShapes.add_plain]; exact h1
    | j + 2, hj => simp at hj
  · intro u hu; simp at hu; rcases hu with rfl | rfl <;> rfl
  · intro v' w' hown' hgrow _
    have hK := keptT_grown hm.own hm.b.size hgrow
    refine h v' w' ⟨?_, fun y hy => ?_, hm.b.trans hK.below⟩
    · rw [cellsNn_snoc, List.length_append]
      exact hown'
    · rcases List.mem_append.1 hy with hy | hy
      · exact NodeOk.keptN (hm.ok y hy) hK
      · obtain rfl := List.mem_singleton.1 hy
        exact NodeOk.keptN he hK
end Go.Proofs.Ytadlelhdjakmmaa
