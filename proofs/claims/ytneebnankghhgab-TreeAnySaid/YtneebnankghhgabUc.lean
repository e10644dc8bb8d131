/- Several of my texts laid together, each as it was: Uc. Conditions: each names its own. -/
import Derived.Test.YtneebnankghhgabUb
import Derived.Test.YtneebnankghhgabSvI
import Derived.Laws.OwnMore
/- The document's own tree: a key that is there is put, a key is cut: contracts of the calls, in whatever memory. Conditions: the tree's memory is known; its keys rise; 1000 keys at most. -/
namespace Go.Proofs.Ytneebnankghhgab
open Go.RowKit

theorem own_apart {w : World} {b1 b2 n1 n2 : Nat} {e1 e2 : TypeId} {v1 v2 : Value} {xs ys : List Value} (h1 : w.ownsRow b1 e1 1 v1 n1 xs) (h2 : w.ownsRow b2 e2 1 v2 n2 ys) (hne : e1 ≠ e2) : v1.ownBlock = none ∨ v1.ownBlock ≠ v2.ownBlock := by
  rcases h1.2 with ⟨rfl, _⟩ | ⟨g, cap, cur, rfl, _, hh, _⟩
  · exact .inl rfl
  · right
    rcases h2.2 with ⟨rfl, _⟩ | ⟨g', cap', cur', rfl, _, hh', _⟩
    · simp [Value.ownBlock]
    · intro e
      simp only [Value.ownBlock, Option.some.injEq] at e
      subst e
      rw [hh] at hh'
      cases hh'
      exact hne rfl
theorem ins_set {L : List (Key × Int)} {k : Key} {x : Int} {i : Nat} {y : Key × Int} (hs : Asc L) (hp : pl k (L.map (·.1)) = i) (hy : L[i]? = some y) (hk : y.1 = k) : insA k x L = L.set i (k, x) := by
  have h := ins_at (k := k) (v := x) hs
  have hlt := (List.getElem?_eq_some_iff.1 hy).1
  have hh : hasK k (L.map (·.1)) = true := by unfold hasK; rw [hp, List.getElem?_map, hy]; simp [hk]
  rw [hh, hp] at h
  rw [h, List.set_eq_take_append_cons_drop, if_pos hlt]; simp
theorem rk_set {L : List (Key × Int)} {k : Key} {x : Int} {i : Nat} {y : Key × Int} (hy : L[i]? = some y) (hk : y.1 = k) : rkC (L.set i (k, x)) = rkC L := by
  obtain ⟨hlt, e⟩ := List.getElem?_eq_some_iff.1 hy
  unfold rkC
  rw [List.map_set]
  have : Value.string (txt k) = (L.map fun x => Value.string (txt x.1))[i]'(by simpa using hlt) := by simp [e, hk]
  show List.set _ i (Value.string (txt k)) = _
  rw [this, List.set_getElem_self]
theorem store_of {B g c i n : Nat} {w : World} {vk : Value} {L : List (Key × Int)} {k : Key} {x : Int} {y : Key × Int} (h : RefAt w B vk (.slice (some ⟨g, 0, none⟩) n c) L) (hn : L.length = n) (hy : L[i]? = some y) (hk : y.1 = k) (he : insA k x L = L.set i (k, x)) :
    RefAt (w.setCell ⟨g, i, none⟩ (.int .i64 x)) B vk (.slice (some ⟨g, 0, none⟩) n c) (insA k x L) ∧ TurnR B (.slice (some ⟨g, 0, none⟩) n c) (.slice (some ⟨g, 0, none⟩) n c) w (w.setCell ⟨g, i, none⟩ (.int .i64 x)) := by
  have hb := h.rv.lt g rfl
  have hrv := h.rv
  rw [hn] at hrv
  have hst := World.ownsRow.stored hrv i (.int .i64 x)
  have hgb : B ≠ g := by omega
  rw [he]
  refine ⟨⟨by rw [World.cell?_setCell_other _ _ _ _ (by simp <;> omega)]; exact h.c0, by rw [World.cell?_setCell_other _ _ _ _ (by simp <;> omega)]; exact h.c1, fun j => by rw [World.frozen?_setCell]; exact h.f j, ?_, ?_⟩, ⟨by rw [World.size_setCell]; exact Nat.le_refl _, fun j hj _ hv => ?_, .inl rfl, ⟨rfl, rfl, rfl⟩⟩⟩
  · rw [List.length_set, rk_set hy hk]
    exact h.rk.kept hst.2 ((own_apart h.rk h.rv (by decide)).imp id (fun q => by simpa [Value.ownBlock] using q))
  · have e' : rvC (L.set i (k, x)) = (rvC L).set i (.int .i64 x) := by unfold rvC; rw [List.map_set]
    rw [e', List.length_set, hn]
    exact hst.1
  · exact Deep.blk_setCell_other w ⟨g, i, none⟩ (.int .i64 x) j (fun e => hv (by rw [e]; rfl))
set_option maxRecDepth 100000 in
set_option maxHeartbeats 4000000 in
theorem refPutHas (B : Nat) (vk vv : Value) (L : List (Key × Int)) (k : Key) (x u : Int) (w : World) (h : RefAt w B vk vv L) (hl : L.length ≤ 1000) (hs : Asc L) (hg : getA k L = some u) :
    Calls Try.prog 22 #[.pointer (some ⟨B, 0, none⟩), .string (txt k), .int .i64 x] w fun e w' => e = .returned (.tuple #[.int .i64 u, .bool true]) ∧ ∃ vk' vv', RefAt w' B vk' vv' (insA k x L) ∧ TurnR B vv vv' w w' := by
  have CP := refPlace_any B vk vv L k w h hl
  obtain ⟨i, hi⟩ : ∃ i, pl k (L.map (·.1)) = i := ⟨_, rfl⟩
  have hh := ref_here hs hi
  rw [hi] at CP
  rcases hh with ⟨_, hq⟩ | ⟨y, hy, ⟨hk, hq⟩ | ⟨_, hq⟩⟩
  · rw [hg] at hq; cases hq
  · rw [hg] at hq
    cases hq
    obtain ⟨g, c, g', c', rfl, rfl, q0, q1, qf⟩ := h.at hy
    obtain ⟨n, hn⟩ : ∃ n, L.length = n := ⟨_, rfl⟩
    have hin : (i : Int) < (n : Int) := by have := (List.getElem?_eq_some_iff.1 hy).1; omega
    have z0 := h.c0
    have z1 := h.c1
    have hqf := qf i
    rw [hn] at z0 z1 h
    have HF := hid0 (store_of (k := k) (x := x) h hn hy hk (ins_set hs hi hy hk))
    subst hk
    rw [hn]
    clear h hs hi hg hn hy hl qf
    go_enter Try.func22, Try.ntmps22
    go_wp2_with fail
    refine CP.mono ?_
    rintro e w' ⟨rfl, rfl⟩
    go_wp2_with fail
    go_ret2
    exact ⟨rfl, _, _, HF.out.1, HF.out.2⟩
  · rw [hg] at hq; cases hq
theorem refPut_any (B : Nat) (vk vv : Value) (L : List (Key × Int)) (k : Key) (x : Int) (w : World) (h : RefAt w B vk vv L) (hl : L.length ≤ 1000) (hs : Asc L) :
    Calls Try.prog 22 #[.pointer (some ⟨B, 0, none⟩), .string (txt k), vI x] w fun e w' => e = .returned (.tuple #[ovI (getA k L), .bool (hasO (getA k L))]) ∧ ∃ vk' vv', RefAt w' B vk' vv' (insA k x L) ∧ TurnR B vv vv' w w' := by
  cases hg : getA k L with
  | none => exact refPutNew B vk vv L k x w h hl hs hg
  | some u => exact refPutHas B vk vv L k x u w h hl hs hg
end Go.Proofs.Ytneebnankghhgab
