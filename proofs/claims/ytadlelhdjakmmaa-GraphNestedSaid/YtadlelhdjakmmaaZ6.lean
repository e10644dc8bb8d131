/- What reads what (layer 17), plainly: the same answers as one comes to them by lists without repeats, by the least of all that may come next, and by going over all names again and again. -/
import Derived.Test.YtadlelhdjakmmaaZ2
namespace Go.Proofs.Ytadlelhdjakmmaa

def addJ (a : List ByteArray) (s : ByteArray) : List ByteArray := if s ∈ a then a else a ++ [s]
/-- Those that aren't there yet, behind what is there. -/
def joinG (a m : List ByteArray) : List ByteArray := m.foldl addJ a
theorem addJ_mem {a : List ByteArray} {s x : ByteArray} : x ∈ addJ a s ↔ x ∈ a ∨ x = s := by
  unfold addJ
  split
  · rename_i h
    exact ⟨.inl, fun h' => h'.elim id fun e => e ▸ h⟩
  · simp
theorem joinG_mem {x : ByteArray} : ∀ {m a : List ByteArray}, x ∈ joinG a m ↔ x ∈ a ∨ x ∈ m
  | [], _ => by simp [joinG]
  | s :: m, a => by
    show x ∈ joinG (addJ a s) m ↔ _
    rw [joinG_mem, addJ_mem, List.mem_cons, or_assoc]
theorem joinG_take (a m : List ByteArray) (i : Nat) (h : i < m.length) : joinG a (m.take (i + 1)) = addJ (joinG a (m.take i)) m[i] := by
  unfold joinG
  rw [List.take_succ_eq_append_getElem h, List.foldl_append]
  rfl
theorem addJ_nodup {a : List ByteArray} {s : ByteArray} (h : a.Nodup) : (addJ a s).Nodup := by
  unfold addJ
  split
  · exact h
  · rename_i hs
    exact List.nodup_append.2 ⟨h, by simp, fun x hx y hy => by rw [List.mem_singleton.1 hy]; exact fun e => hs (e ▸ hx)⟩
theorem joinG_nodup : ∀ {m a : List ByteArray}, a.Nodup → (joinG a m).Nodup
  | [], _, h => h
  | s :: m, _, h => joinG_nodup (m := m) (addJ_nodup (s := s) h)
def onceN (x : Gn) : Gn := (x.1, joinG [] x.2)
def onceG (l : List Gn) : List Gn := l.map onceN
theorem onceG_names (l : List Gn) : (onceG l).map (·.1) = l.map (·.1) := by
  unfold onceG
  rw [List.map_map]
  rfl
theorem onceN_mem {x : Gn} {r : ByteArray} : r ∈ (onceN x).2 ↔ r ∈ x.2 := by
  unfold onceN
  rw [joinG_mem]
  simp
theorem ok_once {out : List ByteArray} {x : Gn} : okG out (onceN x) ↔ okG out x := by
  unfold okG
  exact and_congr Iff.rfl (forall_congr' fun r => by rw [onceN_mem])
/-- What may come next. -/
def readyG (l : List Gn) (out : List ByteArray) : List ByteArray := (l.filter fun x => decide (okG out x)).map (·.1)
theorem ready_mem {l : List Gn} {out : List ByteArray} {s : ByteArray} : s ∈ readyG l out ↔ ∃ x ∈ l, okG out x ∧ x.1 = s := by
  unfold readyG
  simp only [List.mem_map, List.mem_filter, decide_eq_true_eq, and_assoc]
theorem ready_once (l : List Gn) (out : List ByteArray) : readyG (onceG l) out = readyG l out := by
  unfold readyG onceG
  rw [List.filter_map, List.map_map]
  have : ((fun x => decide (okG out x)) ∘ onceN) = fun x => decide (okG out x) := by
    funext x
    exact decide_eq_decide.2 ok_once
  rw [this]
  rfl
theorem ready_take (l : List Gn) (out : List ByteArray) (i : Nat) (h : i < l.length) : readyG (l.take (i + 1)) out = if okG out l[i] then readyG (l.take i) out ++ [l[i].1] else readyG (l.take i) out := by
  unfold readyG
  rw [List.take_succ_eq_append_getElem h, List.filter_append, List.map_append]
  by_cases hc : okG out l[i]
  · rw [if_pos hc, List.filter_cons_of_pos (by simpa using hc)]
    rfl
  · rw [if_neg hc, List.filter_cons_of_neg (by simpa using hc)]
    simp
theorem ready_len (l : List Gn) (out : List ByteArray) : (readyG l out).length ≤ l.length := by
  unfold readyG
  rw [List.length_map]
  exact List.length_filter_le _ _
theorem ready_nil {l : List Gn} {out : List ByteArray} (h : readyG l out = []) : bestG out l = none := by
  cases hb : bestG out l with
  | none => rfl
  | some x =>
    obtain ⟨h1, h2⟩ := bestG_some hb
    have := ready_mem.2 ⟨x, h1, h2, rfl⟩
    rw [h] at this
    exact absurd this (by simp)
theorem ready_min {l : List Gn} {out : List ByteArray} {m : ByteArray} (hm : m ∈ readyG l out) (hl : ∀ y ∈ readyG l out, ¬ gb y < gb m) : ∃ z, bestG out l = some z ∧ z.1 = m := by
  obtain ⟨x, hx, ho, rfl⟩ := ready_mem.1 hm
  exact bestG_name hx ho fun y hy hoy => hl _ (ready_mem.2 ⟨y, hy, hoy, rfl⟩)
theorem orderG_stuck {l : List Gn} {out : List ByteArray} (h : bestG out l = none) : ∀ k, orderG l k out = out
  | 0 => rfl
  | k + 1 => by unfold orderG; rw [h]
theorem orderG_add {l : List Gn} (k : Nat) : ∀ (i : Nat) (out : List ByteArray), orderG l (i + k) out = orderG l k (orderG l i out)
  | 0, out => by rw [Nat.zero_add]; rfl
  | i + 1, out => by
    rw [show i + 1 + k = (i + k) + 1 by omega]
    cases hb : bestG out l with
    | none => rw [orderG_stuck hb, orderG_stuck hb, orderG_stuck hb]
    | some x =>
      show (match bestG out l with | none => out | some x => orderG l (i + k) (out ++ [x.1])) = orderG l k (match bestG out l with | none => out | some x => orderG l i (out ++ [x.1]))
      rw [hb]
      exact orderG_add k i _
theorem order_step {l : List Gn} {out : List ByteArray} {i : Nat} {m : ByteArray} (ho : orderG l i [] = out) (hm : m ∈ readyG l out) (hl : ∀ y ∈ readyG l out, ¬ gb y < gb m) : orderG l (i + 1) [] = out ++ [m] := by
  obtain ⟨z, hz, rfl⟩ := ready_min hm hl
  rw [orderG_add 1 i [], ho]
  show (match bestG out l with | none => out | some x => orderG l 0 (out ++ [x.1])) = _
  rw [hz]
  rfl
theorem order_stop {l : List Gn} {out : List ByteArray} {i n : Nat} (ho : orderG l i [] = out) (hi : i ≤ n) (h : readyG l out = []) : orderG l n [] = out := by
  obtain ⟨k, rfl⟩ := Nat.exists_eq_add_of_le hi
  rw [orderG_add k i [], ho, orderG_stuck (ready_nil h)]
/-- Are they few, each once, and all that is read there? -/
def namedG (l : List Gn) : Int := if 16 < l.length then 3 else if ¬ (l.map (·.1)).Nodup then 6 else if ¬ knownG l then 5 else 0
theorem named_check (l : List Gn) : checkG l = if namedG l ≠ 0 then namedG l else if (nextAll l).length < l.length then 20 else 0 := by
  unfold checkG namedG
  by_cases h1 : 16 < l.length
  · rw [if_pos h1, if_pos h1]; rfl
  · rw [if_neg h1, if_neg h1]
    by_cases h2 : ¬ (l.map (·.1)).Nodup
    · rw [if_pos h2, if_pos h2]; rfl
    · rw [if_neg h2, if_neg h2]
      by_cases h3 : ¬ knownG l
      · rw [if_pos h3, if_pos h3]; rfl
      · rw [if_neg h3, if_neg h3]; rfl
theorem named_few {l : List Gn} (h : namedG l = 0) : l.length ≤ 16 := by
  unfold namedG at h
  by_cases h1 : 16 < l.length
  · rw [if_pos h1] at h; exact absurd h (by decide)
  · omega
theorem named_known {l : List Gn} (h : namedG l = 0) : knownG l := by
  unfold namedG at h
  by_cases h1 : 16 < l.length
  · rw [if_pos h1] at h; exact absurd h (by decide)
  · rw [if_neg h1] at h
    by_cases h2 : ¬ (l.map (·.1)).Nodup
    · rw [if_pos h2] at h; exact absurd h (by decide)
    · rw [if_neg h2] at h
      by_cases h3 : knownG l
      · exact h3
      · rw [if_pos h3] at h; exact absurd h (by decide)
/-- Names without repeats, all among those of l, are few. -/
theorem join_few {l : List Gn} (hk : knownG l) {x : Gn} (hx : x ∈ l) : (joinG [] x.2).length ≤ l.length := by
  have := nodup_few (joinG [] x.2) (l.map (·.1)) (joinG_nodup List.nodup_nil) (fun r hr => hk x hx r (by simpa using joinG_mem.1 hr))
  rwa [List.length_map] at this
/-- One round over all names. -/
def passS (nm : List ByteArray) (x : Gn) : List ByteArray := if x.1 ∈ nm then joinG nm x.2 else nm
def passG (l : List Gn) (nm : List ByteArray) : List ByteArray := l.foldl passS nm
def rounds (l : List Gn) (name : ByteArray) : Nat → List ByteArray
  | 0 => [name]
  | k + 1 => passG l (rounds l name k)
theorem passG_take (l : List Gn) (nm : List ByteArray) (i : Nat) (h : i < l.length) : passG (l.take (i + 1)) nm = passS (passG (l.take i) nm) l[i] := by
  unfold passG
  rw [List.take_succ_eq_append_getElem h, List.foldl_append]
  rfl
theorem passS_mono {nm : List ByteArray} {x : Gn} {s : ByteArray} (h : s ∈ nm) : s ∈ passS nm x := by
  unfold passS
  split
  · exact joinG_mem.2 (.inl h)
  · exact h
theorem passG_mono : ∀ {l : List Gn} {nm : List ByteArray} {s : ByteArray}, s ∈ nm → s ∈ passG l nm
  | [], _, _, h => h
  | x :: l, nm, _, h => passG_mono (l := l) (nm := passS nm x) (passS_mono h)
theorem passG_read : ∀ {l : List Gn} {nm : List ByteArray} {x : Gn}, x ∈ l → x.1 ∈ nm → ∀ r ∈ x.2, r ∈ passG l nm
  | y :: l, nm, x, hx, hn, r, hr => by
    rcases List.mem_cons.1 hx with rfl | hx
    · exact passG_mono (l := l) (nm := passS nm x) (by unfold passS; rw [if_pos hn]; exact joinG_mem.2 (.inr hr))
    · exact passG_read (l := l) (nm := passS nm y) hx (passS_mono hn) r hr
theorem passG_least {P : ByteArray → Prop} : ∀ {l : List Gn} {nm : List ByteArray}, (∀ s ∈ nm, P s) → (∀ x ∈ l, P x.1 → ∀ r ∈ x.2, P r) → ∀ s ∈ passG l nm, P s
  | [], _, h, _, s, hs => h s hs
  | y :: l, nm, h, hc, s, hs => by
    refine passG_least (l := l) (nm := passS nm y) (fun z hz => ?_) (fun x hx => hc x (List.mem_cons_of_mem _ hx)) s hs
    unfold passS at hz
    split at hz
    · rename_i hy
      rcases joinG_mem.1 hz with hz | hz
      · exact h z hz
      · exact hc y (by simp) (h _ hy) z hz
    · exact h z hz
theorem passS_nodup {nm : List ByteArray} {x : Gn} (h : nm.Nodup) : (passS nm x).Nodup := by
  unfold passS
  split
  · exact joinG_nodup h
  · exact h
theorem passG_nodup : ∀ {l : List Gn} {nm : List ByteArray}, nm.Nodup → (passG l nm).Nodup
  | [], _, h => h
  | x :: l, nm, h => passG_nodup (l := l) (nm := passS nm x) (passS_nodup h)
theorem rounds_nodup (l : List Gn) (name : ByteArray) : ∀ k, (rounds l name k).Nodup
  | 0 => by simp [rounds]
  | k + 1 => passG_nodup (rounds_nodup l name k)
theorem rounds_least {P : ByteArray → Prop} {l : List Gn} {name : ByteArray} (h : P name) (hc : ∀ x ∈ l, P x.1 → ∀ r ∈ x.2, P r) : ∀ k, ∀ s ∈ rounds l name k, P s
  | 0, _, hs => by rw [List.mem_singleton.1 hs]; exact h
  | k + 1, s, hs => passG_least (rounds_least h hc k) hc s hs
theorem rounds_sweep {l : List Gn} {name : ByteArray} : ∀ (t nd : List ByteArray) (k : Nat), (∀ s ∈ nd, s ∈ rounds (onceG l) name k) → ∀ s ∈ sweepG l t nd, s ∈ rounds (onceG l) name (k + t.length)
  | [], _, _, h, s, hs => h s hs
  | y :: t, nd, k, h, s, hs => by
    rw [List.length_cons, show k + (t.length + 1) = (k + 1) + t.length by omega]
    unfold sweepG at hs
    refine rounds_sweep t _ (k + 1) (fun z hz => ?_) s hs
    have key : ∀ z ∈ nd, z ∈ rounds (onceG l) name (k + 1) := fun z hz => passG_mono (h z hz)
    split at hz
    · rename_i hy
      rcases List.mem_append.1 hz with hz | hz
      · exact key z hz
      · obtain ⟨x, hx, e, hr⟩ := refsG_node hz
        exact passG_read (x := onceN x) (List.mem_map_of_mem hx) (by show x.1 ∈ _; rw [e]; exact h y hy) z (onceN_mem.2 hr)
    · exact key z hz
theorem rounds_need {l : List Gn} (h : AllG l) {name : ByteArray} (s : ByteArray) : s ∈ rounds (onceG l) name l.length ↔ s ∈ needG l (nextAll l) name := by
  constructor
  · refine rounds_least (P := fun s => s ∈ needG l (nextAll l) name) need_self (fun x hx hP r hr => ?_) _ s
    obtain ⟨y, hy, rfl⟩ := List.mem_map.1 hx
    rw [onceN_mem] at hr
    exact need_closed h.good h.once (h.has hy) hP r (by rw [refsG_of h.once hy]; exact hr)
  · intro hs
    have := rounds_sweep (l := l) (name := name) (nextAll l).reverse [name] 0 (fun s hs => hs) s hs
    rwa [List.length_reverse, h.len, Nat.zero_add] at this
theorem below_rounds {l : List Gn} (h : AllG l) (name : ByteArray) : ((nextAll l).filter fun s => !(decide (s = name) || !decide (s ∈ rounds (onceG l) name l.length))) = belowG l (nextAll l) name := by
  unfold belowG
  refine List.filter_congr fun s _ => ?_
  rw [Bool.eq_iff_iff]
  simp [rounds_need h]
/-- What is gone over stays few: all names are among those of l, or the name. -/
theorem rounds_few {l : List Gn} (hk : knownG l) (name : ByteArray) (k : Nat) : (rounds (onceG l) name k).length ≤ l.length + 1 := by
  have := nodup_few (rounds (onceG l) name k) (name :: l.map (·.1)) (rounds_nodup _ _ k) (rounds_least (P := fun s => s ∈ name :: l.map (·.1)) (by simp) (fun x hx _ r hr => by
    obtain ⟨y, hy, rfl⟩ := List.mem_map.1 hx
    exact List.mem_cons_of_mem _ (hk y hy r (onceN_mem.1 hr))) k)
  simpa using this
end Go.Proofs.Ytadlelhdjakmmaa
