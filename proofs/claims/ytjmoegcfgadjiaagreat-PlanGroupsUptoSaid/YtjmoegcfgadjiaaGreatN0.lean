/- Several of my texts laid together, each as it was: P0. Conditions: each names its own. -/
import Derived.Test.YtjmoegcfgadjiaaGreatG9
import Derived.Test.YtjmoegcfgadjiaaGreatJ1
import Derived.Test.YtjmoegcfgadjiaaGreatJ2
/- A part's box whose fields are laid anew while lists lie elsewhere. Conditions: each lemma names its own. -/
namespace Go.Proofs.YtjmoegcfgadjiaaGreat
open Go.RowKit

/-- What holds anything else than what is overwritten stays. -/
theorem cell_put {w : World} {B k : Nat} {u v : Value} (hu : w.cell? ⟨B, k, none⟩ = some u) {x : Addr} {y : Value} (hx : w.cell? x = some y) (hne : y ≠ u) : (w.setCell ⟨B, k, none⟩ v).cell? x = some y := by
  rw [World.cell?_setCell_other _ _ _ _ (by rintro rfl; rw [hu] at hx; exact hne (Option.some.inj hx).symm)]
  exact hx
theorem RowAt.bool {w : World} {a : Option Addr} {r : List Val} (h : RowAt w a r) {B k : Nat} {b : Bool} {v : Value} (hu : w.cell? ⟨B, k, none⟩ = some (.bool b)) : RowAt (w.setCell ⟨B, k, none⟩ v) a r := fun hn => by
  obtain ⟨b', o, e, hc⟩ := h hn
  exact ⟨b', o, e, fun i hi => ⟨cell_put hu (hc i hi).1 (by simp), cell_put hu (hc i hi).2.1 (by simp), cell_put hu (hc i hi).2.2 (by simp)⟩⟩
/-- A list of elements stays where a truth is laid anew. -/
theorem ElemsAt.bool {w : World} {a : Option Addr} {E : List Elem} (h : ElemsAt w a E) {B k : Nat} {b : Bool} {v : Value} (hu : w.cell? ⟨B, k, none⟩ = some (.bool b)) : ElemsAt (w.setCell ⟨B, k, none⟩ v) a E := by
  refine ⟨fun hn => ?_, fun e he => ⟨(h.2 e he).1.bool hu, (h.2 e he).2⟩⟩
  obtain ⟨b', o, e, hc⟩ := h.1 hn
  exact ⟨b', o, e, fun i hi => ⟨cell_put hu (hc i hi).1 (by simp), cell_put hu (hc i hi).2 (by simp)⟩⟩
theorem VarB.setQ {w : World} {B i : Nat} {us : List Value} (h : VarB w B us) (u : Value) (hi : i < us.length) : VarB (w.setCell ⟨B, i, none⟩ u) B (us.set i u) := by
  refine ⟨fun j v hv => ?_, fun j hj => ⟨?_, ?_⟩, by simpa using h.lt⟩
  · rw [List.getElem?_set] at hv
    by_cases e : i = j
    · subst e
      simp [hi] at hv
      subst hv
      rw [Nat.zero_add]
      obtain ⟨u0, hu0⟩ := Option.isSome_iff_exists.1 (h.there i hi).1
      rw [Nat.zero_add] at hu0
      exact World.cell?_setCell_same _ _ _ hu0
    · rw [if_neg e] at hv
      rw [World.cell?_setCell_other _ _ _ _ (by simp)]
      exact h.at_ j v hv
  · exact World.isSome_setCells B [u] i w _ (h.there j (by simpa using hj)).1
  · rw [World.frozen?_setCell]; exact (h.there j (by simpa using hj)).2
theorem fold_zipQ : ∀ (us : List Value) (z : Array Value) (k : Nat), k + us.length ≤ z.size → (List.foldl (fun (cs : Array Value) (x : Value × Nat) => cs.setIfInBounds x.snd x.fst) z (us.zipIdx k)).toList = z.toList.take k ++ us ++ z.toList.drop (k + us.length)
  | [], z, k, _ => by simp
  | u :: us, z, k, h => by
    rw [List.zipIdx_cons, List.foldl_cons, fold_zipQ us _ (k + 1) (by simp at h ⊢; omega)]
    have hk : k < z.toList.length := by simp at h ⊢; omega
    simp only [Array.toList_setIfInBounds, List.length_cons]
    rw [List.take_succ_eq_append_getElem (by simpa using hk), List.take_set_of_le (Nat.le_refl _), List.drop_set_of_lt (by omega)]
    simp [Nat.add_assoc, Nat.add_comm 1]
theorem fold20Q (us : List Value) (z : Array Value) (h : us.length = 20) (hz : z.size = 20) : List.foldl (fun cs x => cs.setIfInBounds x.snd x.fst) z us.zipIdx = us.toArray := by
  apply Array.toList_inj.1
  rw [fold_zipQ us z 0 (by omega)]
  simp [h, hz]
/-- What a call of Rows answers of a plan of one part, whose cells lie in a block. -/
structure RwP (w : World) (us : List Value) (a2 : Option Addr) (n2 c2 : Nat) (R : List Pair) (f : Int) : Prop where
  out : ∀ W B, VarB W B us → Below w.heap.size w W → Calls Tryz.prog 14 #[.agg #[.slice (some ⟨B, 0, none⟩) 1 1], .slice a2 n2 c2] W fun e w' => (∃ a' c' E', e = .returned (.tuple #[.slice a' E'.length c', .int .i64 f]) ∧ E'.length ≤ c' ∧ ElemsAt w' a' E' ∧ E'.map pr = R) ∧ Below W.heap.size W w'
theorem rwP_of {n : Nat} {p : Px} {us : List Value} {a2 : Option Addr} {c2 : Nat} {l : List Nx} {w : World} (hus : p.cells = us) (hP : PxOk w n p) (hL : NsOk w a2 l) : RwP w us a2 l.length c2 (rowsM l [p]).1 (rowsM l [p]).2 := ⟨fun W B hB hW => by
  subst hus
  exact planRows_all (some ⟨B, 0, none⟩) 1 [p] a2 c2 l W ⟨rowC1 p.cells_len hB, fun q hq => by obtain rfl := List.mem_singleton.1 hq; exact hP.later hW, by simp, by simp⟩ (hL.later hW)⟩
theorem rows_few1 {l : List Nx} {p : Px} (hv : ∀ x ∈ l, ∀ e ∈ x.E, ∀ v ∈ e.r, inI v) (h : (rowsM l [p]).2 = 0) : (rowsM l [p]).1.length ≤ 2001 := by
  obtain ⟨h1, h2, _, e⟩ := rowsM_ok h
  rw [e, allL_one]
  have hC := (ready_parts h1 h2 p (by simp)).cheap
  have h5 := kept_small hC hv
  have h6 := toldM_small p (keptB l p)
  have h7 := len_ofB (toldM p (keptB l p))
  omega
end Go.Proofs.YtjmoegcfgadjiaaGreat
