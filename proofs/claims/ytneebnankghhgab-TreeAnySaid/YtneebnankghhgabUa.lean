/- Several of my texts laid together, each as it was: Ua. Conditions: each names its own. -/
import Derived.Test.YtneebnankghhgabSrI
import Derived.OwnWalk
/- The document's own tree in memory: two rows of its own; New, place, Len, Get: contracts of the calls, in whatever memory. Conditions: the tree's memory is known. -/
namespace Go.Proofs.Ytneebnankghhgab
open Go.RowKit

def rkC {β : Type} (L : List (Key × β)) : List Value := L.map fun x => .string (txt x.1)
def rvC (L : List (Key × Int)) : List Value := L.map fun x => .int .i64 x.2
structure RefAt (w : World) (B : Nat) (vk vv : Value) (L : List (Key × Int)) : Prop where
  c0 : w.cell? ⟨B, 0, none⟩ = some vk
  c1 : w.cell? ⟨B, 1, none⟩ = some vv
  f : ∀ j, w.frozen? ⟨B, j, none⟩ = false
  rk : w.ownsRow (B + 1) 9 1 vk L.length (rkC L)
  rv : w.ownsRow (B + 1) 3 1 vv L.length (rvC L)
theorem own_below7 {B : Nat} {e : TypeId} {k : Nat} {v : Value} {n : Nat} {xs : List Value} {w w' : World} (h : w.ownsRow B e k v n xs) (hb : Below w.heap.size w w') : w'.ownsRow B e k v n xs :=
  h.kept (row := none) ⟨hb.os, hb.tape, hb.output, hb.size, fun j hj _ => hb.block j hj⟩ (by cases hv : v.ownBlock <;> simp)
theorem own_at {w : World} {base n i : Nat} {e : TypeId} {v u : Value} {xs : List Value} (h : w.ownsRow base e 1 v n xs) (hi : xs[i]? = some u) : ∃ g c, v = .slice (some ⟨g, 0, none⟩) n c ∧ base ≤ g ∧ n ≤ c ∧ c ≤ maxLen ∧ w.cell? ⟨g, i, none⟩ = some u ∧ (∀ j, w.frozen? ⟨g, j, none⟩ = false) := by
  have h0 := h
  have hl := (List.getElem?_eq_some_iff.1 hi).1
  rw [h.1] at hl
  rcases h.2 with ⟨rfl, rfl⟩ | ⟨g, cap, cur, rfl, hg, hh, h1, h2, _⟩
  · simp at hl
  · exact ⟨g, cap, rfl, hg, h1, h2, (h0.cellAt _ hl).trans hi, fun j => h0.frozenAt j⟩
section
variable {w w' : World} {B : Nat} {vk vv : Value} {L : List (Key × Int)}
theorem RefAt.lt (h : RefAt w B vk vv L) : B < w.heap.size := World.block_lt_of_cell? _ _ h.c0
theorem RefAt.later (h : RefAt w B vk vv L) (hb : Below w.heap.size w w') : RefAt w' B vk vv L :=
  ⟨cell_later hb h.c0, cell_later hb h.c1, fun j => (hb.frozen (p := ⟨B, j, none⟩) h.lt).trans (h.f j), own_below7 h.rk hb, own_below7 h.rv hb⟩
/-- Where a key and what it has lie. -/
theorem RefAt.at (h : RefAt w B vk vv L) {i : Nat} {x : Key × Int} (hi : L[i]? = some x) : ∃ g c g' c', vk = .slice (some ⟨g, 0, none⟩) L.length c ∧ vv = .slice (some ⟨g', 0, none⟩) L.length c' ∧ w.cell? ⟨g, i, none⟩ = some (.string (txt x.1)) ∧ w.cell? ⟨g', i, none⟩ = some (.int .i64 x.2) ∧ (∀ j, w.frozen? ⟨g', j, none⟩ = false) := by
  obtain ⟨g, c, e1, _, _, _, e2, _⟩ := own_at (u := .string (txt x.1)) h.rk (by unfold rkC; rw [List.getElem?_map, hi]; rfl)
  obtain ⟨g', c', e3, _, _, _, e4, e5⟩ := own_at (u := .int .i64 x.2) h.rv (by unfold rvC; rw [List.getElem?_map, hi]; rfl)
  exact ⟨g, c, g', c', e1, e3, e2, e4, e5⟩
theorem RefAt.shape (h : RefAt w B vk vv L) : ∃ a c a' c', vk = .slice a L.length c ∧ vv = .slice a' L.length c' := by
  obtain ⟨a, c, e, _⟩ := own_shape h.rk
  obtain ⟨a', c', e', _⟩ := own_shape h.rv
  exact ⟨a, c, a', c', e, e'⟩
end

theorem refNew_no (o : Int) (w : World) (h : o < 3 ∨ 64 < o) : Calls Try.prog 20 #[.int .i64 o] w fun e w' => e = .returned (.tuple #[.pointer none, .int .i64 1]) ∧ w = w' := by
  rcases h with h | h
  · go_enter Try.func20, Try.ntmps20
    go_wp2
    go_ret2
    exact ⟨rfl, rfl⟩
  · have h3 : ¬ o < 3 := by omega
    go_enter Try.func20, Try.ntmps20
    go_wp2
    go_ret2
    exact ⟨rfl, rfl⟩
theorem refNew_yes (o : Nat) (w : World) (h1 : 3 ≤ o) (h2 : o ≤ 64) : Calls Try.prog 20 #[.int .i64 (o : Int)] w fun e w' => e = .returned (.tuple #[.pointer (some ⟨w.heap.size, 0, none⟩), .int .i64 0]) ∧ RefAt w' w.heap.size (.slice none 0 0) (.slice none 0 0) [] ∧ Below w.heap.size w w' := by
  have h3 : ¬ (o : Int) < 3 := by omega
  have h4 : ¬ (64 : Int) < (o : Int) := by omega
  go_enter Try.func20, Try.ntmps20
  go_wp2
  go_ret2
  refine ⟨rfl, ⟨by go_cell, by go_cell, fun j => World.frozen?_alloc_at _ _ _ _ (by simp), World.ownsRow_nil _ _ _ _, World.ownsRow_nil _ _ _ _⟩, (Below.refl _ _).alloc (Nat.le_refl _) _⟩
theorem refLen_any (B : Nat) (vk vv : Value) (L : List (Key × Int)) (w : World) (h : RefAt w B vk vv L) : Calls Try.prog 27 #[.pointer (some ⟨B, 0, none⟩)] w fun e w' => e = .returned (.int .i64 (L.length : Int)) ∧ w = w' := by
  obtain ⟨a, c, a', c', rfl, rfl⟩ := h.shape
  have q := h.c0
  obtain ⟨n, hn⟩ : ∃ n, L.length = n := ⟨_, rfl⟩
  rw [hn] at q ⊢
  clear h hn
  go_enter Try.func27, Try.ntmps27
  go_wp2
  go_ret
  exact ⟨rfl, rfl⟩
set_option maxHeartbeats 2000000 in
theorem refPlace_any (B : Nat) (vk vv : Value) (L : List (Key × Int)) (k : Key) (w : World) (h : RefAt w B vk vv L) (hl : L.length ≤ 1000) :
    Calls Try.prog 50 #[.pointer (some ⟨B, 0, none⟩), .string (txt k)] w fun e w' => e = .returned (.int .i64 ((pl k (L.map (·.1)) : Nat) : Int)) ∧ w = w' := by
  have A := hid0 h
  obtain ⟨a, c, a', c', rfl, rfl⟩ := h.shape
  have q := h.c0
  obtain ⟨n, hn⟩ : ∃ n, L.length = n := ⟨_, rfl⟩
  rw [hn] at q hl
  have HN := hid0 hn
  clear h hn
  go_enter Try.func50, Try.ntmps50
  go_wp2
  go_loopw [5] (fun iv wr => ∃ i : Nat, i ≤ n ∧ iv = .int .i64 i ∧ Hid (∀ j (h : j < (L.map (·.1)).length), j < i → (L.map (·.1))[j] < k) ∧ w = wr) (fun iv _ => n - (intOf iv).toNat)
  case atStart => exact ⟨0, Nat.zero_le _, rfl, hid0 (fun j h hj => absurd hj (Nat.not_lt_zero _)), rfl⟩
  case round =>
    obtain ⟨i, hi, rfl, I, rfl⟩ := hrel
    by_cases hlt : i < n
    · have hil : i < L.length := by have := HN.out; omega
      obtain ⟨x, hx⟩ : ∃ x, L[i] = x := ⟨_, rfl⟩
      obtain ⟨g, c0, g', c1, e1, e2, q0, -⟩ := A.out.at (x := x) (by rw [List.getElem?_eq_getElem hil, hx])
      simp only [Value.slice.injEq] at e1
      obtain ⟨rfl, -, -⟩ := e1
      have hin : (i : Int) < (n : Int) := by omega
      have hlb := less_key x.1 k
      have HX := hid0 (fun h : i < L.length => (show L[i] = x from hx))
      have HIL := hid0 hil
      clear e2 hx hil
      by_cases hk : x.1 < k
      · have hb : Op.bytesLess (txt x.1).toList (txt k).toList = true := by rw [hlb]; simpa using hk
        have I2 : Hid (∀ j (h : j < (L.map (·.1)).length), j < i + 1 → (L.map (·.1))[j] < k) := hid0 fun j h hj => by
          rcases Nat.lt_or_ge j i with hji | hji
          · exact I.out j h hji
          · obtain rfl : j = i := by omega
            rw [List.getElem_map, HX.out HIL.out]; exact hk
        clear hlb hk
        go_wp2
        exact ⟨⟨i + 1, by omega, by go_num, I2, trivial⟩, by simp [intOf]; omega⟩
      · have hb : Op.bytesLess (txt x.1).toList (txt k).toList = false := by rw [hlb]; simpa using hk
        have HP := hid0 (pl_of (k := k) (ks := L.map (·.1)) (i := i) (by rw [List.length_map]; exact Nat.le_of_lt HIL.out) I.out (fun h => by rw [List.getElem_map, HX.out HIL.out]; exact hk))
        clear hlb hk
        go_wp2
        go_ret
        exact ⟨ret_i64 (by rw [HP.out]), rfl⟩
    · obtain rfl : i = n := by omega
      have hii : ¬ (i : Int) < (i : Int) := by omega
      have HP := hid0 (pl_of (k := k) (ks := L.map (·.1)) (i := i) (by rw [List.length_map, HN.out]; exact Nat.le_refl _) I.out (fun h => absurd h (by rw [List.length_map, HN.out]; omega)))
      go_wp2
      go_ret
      exact ⟨ret_i64 (by rw [HP.out]), rfl⟩
/-- What stands at a key's place. -/
theorem ref_here {L : List (Key × Int)} (hs : Asc L) {k : Key} {i : Nat} (hp : pl k (L.map (·.1)) = i) :
    (L.length ≤ i ∧ getA k L = none) ∨ ∃ x, L[i]? = some x ∧ ((x.1 = k ∧ getA k L = some x.2) ∨ (x.1 ≠ k ∧ getA k L = none)) := by
  have hg := get_at (k := k) hs
  unfold hasK at hg
  rw [hp] at hg
  rcases Nat.lt_or_ge i L.length with hlt | hge
  · right
    refine ⟨L[i], List.getElem?_eq_getElem hlt, ?_⟩
    rw [List.getElem?_map, List.getElem?_eq_getElem hlt] at hg
    by_cases hk : L[i].1 = k
    · left; refine ⟨hk, ?_⟩; rw [hg]; simp [hk]
    · right; refine ⟨hk, ?_⟩; rw [hg]; simp [hk]
  · left
    refine ⟨hge, ?_⟩
    rw [hg, List.getElem?_eq_none (by rw [List.length_map]; exact hge)]; simp
theorem txt_ne {x k : Key} (h : x ≠ k) : ((txt x).toList == (txt k).toList) = false := by
  have hne : ¬ (txt x).toList = (txt k).toList := fun e => h (by rw [ByteArray.toList_eq, ByteArray.toList_eq] at e; exact e)
  simpa using hne
set_option maxHeartbeats 2000000 in
theorem refGet_any (B : Nat) (vk vv : Value) (L : List (Key × Int)) (k : Key) (w : World) (h : RefAt w B vk vv L) (hl : L.length ≤ 1000) (hs : Asc L) :
    Calls Try.prog 25 #[.pointer (some ⟨B, 0, none⟩), .string (txt k)] w fun e w' => e = .returned (.tuple #[ovI (getA k L), .bool (hasO (getA k L))]) ∧ w = w' := by
  have CP := refPlace_any B vk vv L k w h hl
  have hle := map_pl k L
  obtain ⟨i, hi⟩ : ∃ i, pl k (L.map (·.1)) = i := ⟨_, rfl⟩
  have hh := ref_here hs hi
  rw [hi] at CP hle
  obtain ⟨n, hn⟩ : ∃ n, L.length = n := ⟨_, rfl⟩
  rw [hn] at hle
  rcases hh with ⟨hge, hg⟩ | ⟨x, hx, hg⟩
  · obtain rfl : i = n := by omega
    obtain ⟨a, c, a', c', rfl, rfl⟩ := h.shape
    have q := h.c0
    rw [hn] at q
    rw [hg]
    clear h hs hi hg hge hn
    go_enter Try.func25, Try.ntmps25
    go_wp2_with fail
    refine CP.mono ?_
    rintro e w' ⟨rfl, rfl⟩
    go_wp2_with fail
    go_ret2
    exact ⟨rfl, rfl⟩
  · obtain ⟨g, c, g', c', rfl, rfl, q0, q1, -⟩ := h.at hx
    have hlt : i < n := by have := (List.getElem?_eq_some_iff.1 hx).1; omega
    have z0 := h.c0
    have z1 := h.c1
    rw [hn] at z0 z1
    have hne : ¬ (i : Int) = (n : Int) := by omega
    have hin : (i : Int) < (n : Int) := by omega
    rcases hg with ⟨hk, hg⟩ | ⟨hk, hg⟩
    · rw [hg]
      subst hk
      clear h hs hi hg hn hx
      go_enter Try.func25, Try.ntmps25
      go_wp2_with fail
      refine CP.mono ?_
      rintro e w' ⟨rfl, rfl⟩
      go_wp2_with fail
      go_ret2
      exact ⟨rfl, rfl⟩
    · rw [hg]
      have hb := txt_ne hk
      clear h hs hi hg hn hx hk
      go_enter Try.func25, Try.ntmps25
      go_wp2_with fail
      refine CP.mono ?_
      rintro e w' ⟨rfl, rfl⟩
      go_wp2_with fail
      go_ret2
      exact ⟨rfl, rfl⟩
end Go.Proofs.Ytneebnankghhgab
