/- CodeUnlike: unlike rows that may be have unlike bytes, and the bytes of a row are those of its beginning and of what is behind, at most 600; the document's example stands: the row. Conditions: none. -/
import Derived.Test.YtblleknmofbhiaaZa
import Derived.Test.YtblleknmofbhiaaLu
namespace Go.Proofs.Ytblleknmofbhiaa
open Go.ChangeShapes Go.WideShapes Go.ChangeAt Go.RowKit Go.Joins

set_option maxRecDepth 100000 in
theorem unlike_lifted (os : Os) (started : os.Started) (H : Type) (enc : TypeId × Value → H) :
    ReturnsInHanded {} Try.checked os 9 .any (Rows.codeUnlikeSpec.pre6 enc Try.prog Try.f9 Rows.codeUnlikeRow.domain false) (Rows.codeUnlikeSpec.post enc Try.prog Try.f9 false true false false) := by
  refine returnsInHanded_of_change_sized (C := Try.checked) own started (by kernel_rfl) Try.func9
    (ChangeSpec.witness6 (enc := enc) (C := Try.checked) false ⟨#[], #[.slice none 0 0, .slice none 0 0, .int .u8 0], []⟩ 8 (by kernel_rfl) (by kernel_rfl) (by kernel_rfl) (by kernel_rfl)) ?_
  intro W base args ds gs before hval0 hW _ hsz0 _
  have hval : ∀ (j : Nat) t v, Try.f9.params[j]? = some t → args[j]? = some v → Value.okWide Try.prog W .any base t v := hval0
  have hsz : (DataW.weightsEach Try.prog (Try.f9.params.toList ++ Rows.codeUnlikeSpec.plain.varTypes Try.prog) (ds ++ gs)).all (· ≤ reachBytes) = true := hsz0
  clear hsz0
  have hW' := hW
  obtain ⟨p, q, hA0, hV, rfl, _, _⟩ := hW
  have hA : DataW.TrodAll enc Try.prog W 0 (fun _ => true) true Try.f9.params.toList args.toList ds p := hA0
  rw [Try.params9] at hA hval hsz
  obtain ⟨v0, v1, v2, d0, d1, d2, p0, p1, p2, rfl, rfl, rfl, h0, h1, h2⟩ := trodAll_three hA
  obtain ⟨rfl, rfl⟩ := trodVars_none hV
  have hlt : ∀ x ∈ p0 ++ (p1 ++ p2), x.block < W.heap.size := fun x hx => hW'.lt x (by simpa using hx)
  have h0k := h0
  obtain ⟨a0, l0, c0, rfl, hm0, hc0, hr0, hi0, hd0⟩ := open_row (hval 0 22 v0 rfl rfl) h0
  have hz0 : l0.length ≤ 140737488351232 := by
    by_cases hne : l0 = []
    · simp [hne]
    · obtain ⟨es, sp', rfl, hle⟩ := hd0 hne
      have := sized_slice hsz (j := 0) (t := 22) (e := 38) rfl rfl Try.underlying22
      rw [bytes23] at this
      simp only [reachBytes] at this
      omega
  have h1k := h1
  obtain ⟨a1, l1, c1, rfl, hm1, hc1, hr1, hi1, hd1⟩ := open_row (hval 1 22 v1 rfl rfl) h1
  have hz1 : l1.length ≤ 140737488351232 := by
    by_cases hne : l1 = []
    · simp [hne]
    · obtain ⟨es, sp', rfl, hle⟩ := hd1 hne
      have := sized_slice hsz (j := 1) (t := 22) (e := 38) rfl rfl Try.underlying22
      rw [bytes23] at this
      simp only [reachBytes] at this
      omega
  obtain ⟨n2, rfl, rfl, rfl, wn2⟩ := open_int Try.underlying5 (hval 2 5 v2 rfl rfl) h2
  have bn2 := bounds_u8 wn2
  refine (lawCodeUnlike a0 a1 c0 c1 l0 l1 n2 W hr0 hr1 hm0 hm1 hc0 hz0 hi0 hi1 bn2.1 bn2.2).mono fun e W' ⟨he, hb⟩ => ?_
  subst he
  have shr : ∀ {v : Value} {d : DataW H} {ps : List MemPlace}, DataW.Trod enc Try.prog W 0 (fun _ => true) true 22 v d ps → (∀ x ∈ ps, x.block < W.heap.size) → DataW.Trod enc Try.prog W' 0 (fun b => decide (b < W.heap.size)) true 22 v d ps :=
    fun h hl => Below.trod laidOut (by kernel_rfl) (of_decide_eq_true (by kernel_rfl)) h hb hl
  exact ⟨_, rfl, _, _, _, [], _, [], hW', trodAll_mk1 (shut_bool Try.underlying4 true), trodAll_mk3 (shr h0k (fun x hx => hlt x (by simp [hx]))) (shr h1k (fun x hx => hlt x (by simp [hx]))) (shut_int Try.underlying5 wn2), rfl, hb.frame _, fun h => by cases h⟩

theorem unlike_row : Rows.CodeUnlikeSaid :=
  OpenClaim.holds_of_wide 9 Try.f9 rfl rfl rfl rfl rfl rfl rfl ⟨rfl, rfl, rfl, rfl, rfl⟩ rfl rfl rfl rfl rfl (by kernel_rfl) Try.func9 (by kernel_rfl)
    (of_decide_eq_true (by kernel_rfl)) (by unfold Func.isWrapper; first | (rw [if_pos (by decide +kernel)]; kernel_rfl) | (rw [if_neg (by decide +kernel)]; exact ⟨rfl, rfl⟩))
    (fun os started H enc _ => unlike_lifted os started H enc)
end Go.Proofs.Ytblleknmofbhiaa
