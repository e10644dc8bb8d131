/- Several of my texts laid together, each as it was: R6. Conditions: each names its own. -/
import Derived.Test.YtjmoegcfgadjiaaGreatG7
import Derived.Test.YtjmoegcfgadjiaaGreatG8
import Derived.Test.YtjmoegcfgadjiaaGreatI8
/- What any plan tells of what is there (plan.Rows): a contract of the call, in whatever memory. Conditions: the plan's and the names' cells are known. -/
namespace Go.Proofs.YtjmoegcfgadjiaaGreat
open Go.RowKit

theorem ready_gs {l : List Nx} {p : Px} (hr : readyE l [p] = 0) : p.gs.length ≤ 4 ∧ ∀ g ∈ p.gs, 0 ≤ g ∧ g < sumW p.ws := by
  have hb : planB [p] = true := by
    unfold readyE at hr
    by_cases hb : planB [p] = true
    · exact hb
    · rw [if_neg hb] at hr; exact absurd hr (by decide)
  unfold planB partB listsB at hb
  simp only [Bool.and_eq_true, List.all_cons, decide_eq_true_eq] at hb
  obtain ⟨_, ⟨⟨⟨_, ⟨⟨⟨⟨_, h1⟩, h2⟩, _⟩, _⟩⟩, _⟩, _⟩, _⟩ := hb
  refine ⟨by omega, fun g hg => ?_⟩
  have := List.all_eq_true.1 h2 g hg
  unfold inN at this
  simp only [Bool.and_eq_true, decide_eq_true_eq] at this
  omega
theorem alikeAll_any {n : Nat} {a : Option Addr} {c : Nat} {ps : List Px} {l : List Nx} {w : World} (hP : PsOk w n a c ps) : AlikeAll w l ps := fun hr p hp _ _ w0 v E hw hE hk => by
  have h1 := ready_one hr hp
  obtain ⟨h2, h3⟩ := ready_gs h1
  refine alikeC_any w0 v E p.gp p.gc p.gs hk ((hP.ok p hp).gs.later hw).at_ (by omega) (fun e he g hg => ?_)
  have h4 := kept_len h1 (pr e) (by rw [← hE]; exact List.mem_map_of_mem (f := pr) he)
  have h5 := h3 g hg
  have h6 : ((pr e).1.length : Int) = (e.r.length : Int) := rfl
  omega
theorem planRows_all {n : Nat} (a : Option Addr) (c : Nat) (ps : List Px) (a2 : Option Addr) (c2 : Nat) (l : List Nx) (w : World) (hP : PsOk w n a c ps) (hL : NsOk w a2 l) :
    Calls Tryz.prog 14 #[planV a ps.length c, .slice a2 l.length c2] w fun e w' => (∃ a' c' E', e = .returned (.tuple #[.slice a' E'.length c', .int .i64 (rowsM l ps).2]) ∧ E'.length ≤ c' ∧ ElemsAt w' a' E' ∧ E'.map pr = (rowsM l ps).1) ∧ Below w.heap.size w w' :=
  planRows_any a c ps a2 c2 l w hP hL (alikeAll_any hP)
end Go.Proofs.YtjmoegcfgadjiaaGreat
