/- The document's own tree: its keys, from one on and below another one: a contract of the call, in whatever memory. Conditions: the tree's memory is known; 1000 keys at most. -/
import Derived.Test.YtabpfibncipfjaaUa
import Derived.Test.YtabpfibncipfjaaSz
namespace Go.Proofs.Ytabpfibncipfjaa
open Go.RowKit

theorem flt_step {frm to : Key} {L : List (Key × Int)} {i : Nat} {x : Key × Int} (h : L[i]? = some x) : flt frm to (L.take (i + 1)) = flt frm to (L.take i) ++ if inR frm to x = true then [x] else [] := by
  obtain ⟨hi, e⟩ := List.getElem?_eq_some_iff.1 h
  rw [List.take_succ_eq_append_getElem hi, flt_append, e]
  congr 1
  unfold flt
  cases hx : inR frm to x <;> simp [hx]
theorem txt_nil {to : Key} : (txt to).toList = to := by rw [ByteArray.toList_eq]; rfl
set_option maxRecDepth 100000 in
set_option maxHeartbeats 4000000 in
theorem refKeys_any (B : Nat) (vk vv : Value) (L : List (Key × Int)) (frm to : Key) (w : World) (h : RefAt w B vk vv L) (hl : L.length ≤ 1000) :
    Calls Try.prog 13 #[.pointer (some ⟨B, 0, none⟩), .string (txt frm), .string (txt to)] w fun e w' => (∃ v, e = .returned v ∧ Sl 1 sk (fun b => w.heap.size ≤ b) w' v ((flt frm to L).map (·.1))) ∧ Below w.heap.size w w' := by
  have A := hid0 h
  obtain ⟨i0, hi0, hz0, hz1, hz2⟩ := info_parts infoS
  obtain ⟨a, c, a', c', rfl, rfl⟩ := h.shape
  have q := h.c0
  obtain ⟨n, hn⟩ : ∃ n, L.length = n := ⟨_, rfl⟩
  rw [hn] at q hl
  have HN := hid0 hn
  clear h hn
  go_enter Try.func13, Try.ntmps13
  go_wp2
  go_loopw [7, 8] (fun vv iv wr => ∃ (i m : Nat) (ao : Option Addr) (co : Nat), i ≤ n ∧ vv = .slice ao m co ∧ iv = .int .i64 i ∧ Hid (m = (flt frm to (L.take i)).length ∧ m ≤ i) ∧ Hid (wr.ownsRow w.heap.size 9 1 (.slice ao m co) m (((flt frm to (L.take i)).map (·.1)).flatMap sk)) ∧ Hid (Below w.heap.size w wr)) (fun _ iv _ => n - (intOf iv).toNat)
  case atStart => exact ⟨0, 0, none, 0, Nat.zero_le _, rfl, rfl, hid0 ⟨rfl, Nat.le_refl _⟩, hid0 (World.ownsRow_nil _ _ _ _), hid0 (Below.refl _ _)⟩
  case round =>
    obtain ⟨i, m, ao, co, hi, rfl, rfl, hm, hrow, hB⟩ := hrel
    have z0 := cell_later hB.out q
    by_cases hlt : i < n
    · have hil : i < L.length := by have := HN.out; omega
      obtain ⟨x, hx⟩ : ∃ x, L[i]? = some x := ⟨_, List.getElem?_eq_getElem hil⟩
      obtain ⟨g, c0, g', c1, e1, e2, q0, -⟩ := A.out.at hx
      simp only [Value.slice.injEq] at e1
      obtain ⟨rfl, -, -⟩ := e1
      have z1 := cell_later hB.out q0
      have hin : (i : Int) < (n : Int) := by omega
      have hst := flt_step (frm := frm) (to := to) hx
      have h1 := less_key x.1 frm
      have h2 := less_key x.1 to
      have h3 := txt_nil (to := to)
      clear e2 hx hil q0
      by_cases hR : inR frm to x = true
      · rw [if_pos hR] at hst
        have HST := hid0 hst
        have hf : ¬ x.1 < frm := by unfold inR at hR; simp at hR; exact hR.1
        have ht : to = [] ∨ x.1 < to := by unfold inR at hR; simp at hR; exact hR.2
        have b1 : Op.bytesLess (txt x.1).toList (txt frm).toList = false := by rw [h1]; simpa using hf
        have hrow' := hrow.out
        rcases ht with ht | ht
        · have b3 : (txt to).toList.isEmpty = true := by rw [h3]; simpa using ht
          have b4 : (txt to).toList = [] := by rw [h3]; exact ht
          clear ht h1 h2 h3 hst hR
          go_wp2_with (at_builtin; go_loud (refine wpList_append_own _ rfl _ _ 29 rfl w.heap.size 9 i0 (.string ⟨#[]⟩) 1 16 Try.underlying29 hi0 hz0 hz1 hz2 rfl (by decide) _ _ _ rfl (hrow'.alloc _) ⟨wr.heap.size, 0, none⟩ 1 1 [.string (txt x.1)] rfl rfl (cell_one_new _ _ _) (by simp [Value.oneCell']) (by have := hm.out.2; unfold maxLen; omega) (by have := hm.out.2; omega) (by have := hB.out.size; simp; omega) ?_))
          intro v' w2 hown' hgrow _
          obtain ⟨a2, c2, rfl, -⟩ := own_shape hown'
          have hb2 : Below w.heap.size w w2 := ((hB.out.alloc hB.out.size _).grown hgrow (by have := hB.out.size; simp; omega) (fun k hk => (hrow'.lt k hk).1))
          have HB2 := hid0 hb2
          have HO2 := hid0 hown'
          clear hown' hgrow hb2 hrow'
          go_wp2
          exact ⟨⟨i + 1, m + 1, _, _, by omega, rfl, by go_num, hid0 ⟨by rw [HST.out, List.length_append, ← hm.out.1]; rfl, by have := hm.out.2; omega⟩, hid0 (by rw [HST.out, List.map_append, List.flatMap_append]; exact HO2.out), HB2⟩, by simp [intOf]; omega⟩
        · by_cases hte : to = []
          · have b3 : (txt to).toList.isEmpty = true := by rw [h3]; simpa using hte
            have b4 : (txt to).toList = [] := by rw [h3]; exact hte
            clear hte ht h1 h2 h3 hst hR
            go_wp2_with (at_builtin; go_loud (refine wpList_append_own _ rfl _ _ 29 rfl w.heap.size 9 i0 (.string ⟨#[]⟩) 1 16 Try.underlying29 hi0 hz0 hz1 hz2 rfl (by decide) _ _ _ rfl (hrow'.alloc _) ⟨wr.heap.size, 0, none⟩ 1 1 [.string (txt x.1)] rfl rfl (cell_one_new _ _ _) (by simp [Value.oneCell']) (by have := hm.out.2; unfold maxLen; omega) (by have := hm.out.2; omega) (by have := hB.out.size; simp; omega) ?_))
            intro v' w2 hown' hgrow _
            obtain ⟨a2, c2, rfl, -⟩ := own_shape hown'
            have hb2 : Below w.heap.size w w2 := ((hB.out.alloc hB.out.size _).grown hgrow (by have := hB.out.size; simp; omega) (fun k hk => (hrow'.lt k hk).1))
            have HB2 := hid0 hb2
            have HO2 := hid0 hown'
            clear hown' hgrow hb2 hrow'
            go_wp2
            exact ⟨⟨i + 1, m + 1, _, _, by omega, rfl, by go_num, hid0 ⟨by rw [HST.out, List.length_append, ← hm.out.1]; rfl, by have := hm.out.2; omega⟩, hid0 (by rw [HST.out, List.map_append, List.flatMap_append]; exact HO2.out), HB2⟩, by simp [intOf]; omega⟩
          · have b3 : (txt to).toList.isEmpty = false := by rw [h3]; simpa using hte
            have b4 : ¬ (txt to).toList = [] := by rw [h3]; exact hte
            have b2 : Op.bytesLess (txt x.1).toList (txt to).toList = true := by rw [h2]; simpa using ht
            clear h1 h2 h3 hst hR
            go_wp2_with (at_builtin; go_loud (refine wpList_append_own _ rfl _ _ 29 rfl w.heap.size 9 i0 (.string ⟨#[]⟩) 1 16 Try.underlying29 hi0 hz0 hz1 hz2 rfl (by decide) _ _ _ rfl (hrow'.alloc _) ⟨wr.heap.size, 0, none⟩ 1 1 [.string (txt x.1)] rfl rfl (cell_one_new _ _ _) (by simp [Value.oneCell']) (by have := hm.out.2; unfold maxLen; omega) (by have := hm.out.2; omega) (by have := hB.out.size; simp; omega) ?_))
            intro v' w2 hown' hgrow _
            obtain ⟨a2, c2, rfl, -⟩ := own_shape hown'
            have hb2 : Below w.heap.size w w2 := ((hB.out.alloc hB.out.size _).grown hgrow (by have := hB.out.size; simp; omega) (fun k hk => (hrow'.lt k hk).1))
            have HB2 := hid0 hb2
            have HO2 := hid0 hown'
            clear hown' hgrow hb2 hrow'
            go_wp2
            exact ⟨⟨i + 1, m + 1, _, _, by omega, rfl, by go_num, hid0 ⟨by rw [HST.out, List.length_append, ← hm.out.1]; rfl, by have := hm.out.2; omega⟩, hid0 (by rw [HST.out, List.map_append, List.flatMap_append]; exact HO2.out), HB2⟩, by simp [intOf]; omega⟩
      · rw [if_neg hR, List.append_nil] at hst
        have HST := hid0 hst
        by_cases hf : x.1 < frm
        · have b1 : Op.bytesLess (txt x.1).toList (txt frm).toList = true := by rw [h1]; simpa using hf
          clear h1 h2 h3 hst hR
          go_wp2
          exact ⟨⟨i + 1, m, _, _, by omega, rfl, by go_num, hid0 ⟨by rw [HST.out]; exact hm.out.1, by have := hm.out.2; omega⟩, hid0 (by rw [HST.out]; exact hrow.out), hB⟩, by simp [intOf]; omega⟩
        · have hn2 : to ≠ [] ∧ ¬ x.1 < to := by unfold inR at hR; simp [hf] at hR; exact hR
          have b1 : Op.bytesLess (txt x.1).toList (txt frm).toList = false := by rw [h1]; simpa using hf
          have b3 : (txt to).toList.isEmpty = false := by rw [h3]; simpa using hn2.1
          have b4 : ¬ (txt to).toList = [] := by rw [h3]; exact hn2.1
          have b2 : Op.bytesLess (txt x.1).toList (txt to).toList = false := by rw [h2]; simpa using hn2.2
          clear h1 h2 h3 hst hR
          go_wp2
          exact ⟨⟨i + 1, m, _, _, by omega, rfl, by go_num, hid0 ⟨by rw [HST.out]; exact hm.out.1, by have := hm.out.2; omega⟩, hid0 (by rw [HST.out]; exact hrow.out), hB⟩, by simp [intOf]; omega⟩
    · obtain rfl : i = n := by omega
      have hii : ¬ (i : Int) < (i : Int) := by omega
      have hall : L.take i = L := List.take_of_length_le (by have := HN.out; omega)
      rw [hall] at hm hrow
      go_wp2
      go_ret
      exact ⟨⟨_, rfl, Sl.of_own sk_len hrow.out (by rw [List.length_map]; exact hm.out.1)⟩, hB.out⟩
end Go.Proofs.Ytabpfibncipfjaa
