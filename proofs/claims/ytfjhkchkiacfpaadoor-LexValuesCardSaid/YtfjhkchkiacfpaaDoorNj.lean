/- The document's example of a command's words: a contract of the call. Conditions: what strconv.ErrRange holds is an error. -/
import Derived.Test.YtfjhkchkiacfpaaDoorNi
namespace Go.Proofs.YtfjhkchkiacfpaaDoor
open Go.RowKit

def exA : List UInt8 := [97, 60, 61, 49, 50, 32, 39, 120, 39, 39, 121, 39]
def exB : List UInt8 := [97, 32, 48, 49]
theorem exA_is : lexR exA = .ok [⟨1, [97], 0, 0⟩, ⟨4, [60, 61], 0, 1⟩, ⟨2, [], 12, 3⟩, ⟨3, [120, 39, 121], 0, 6⟩] := by decide +kernel
theorem exB_is : lexR exB = .syn 2 := by decide +kernel

theorem exA_any (W : World) (hE : ErAt W) : Calls Tryd.prog 13 #[.string (txt exA)] W fun e w' => (∃ b c, e = .returned (.tuple #[.slice (some ⟨b, 0, none⟩) 5 c, .int .i64 0, .int .i64 0]) ∧ w'.cell? ⟨b, 5, none⟩ = some (.string ⟨#[60, 61]⟩) ∧ w'.cell? ⟨b, 10, none⟩ = some (.int .u64 12) ∧ w'.cell? ⟨b, 13, none⟩ = some (.string ⟨#[120, 39, 121]⟩) ∧ w'.cell? ⟨b, 15, none⟩ = some (.int .i64 6) ∧ w'.cell? ⟨b, 16, none⟩ = some (.int .i64 5)) ∧ Below W.heap.size W w' := by
  refine (lxWords_any exA W (by decide) hE).mono ?_
  rintro e w' ⟨⟨v, rfl, hO⟩, hb⟩
  rw [exA_is] at hO ⊢
  obtain ⟨b, c, rfl, hc⟩ := hO.row0 (by simp [outW])
  exact ⟨⟨b, c, rfl, hc 5 _ rfl, hc 10 _ rfl, hc 13 _ rfl, hc 15 _ rfl, hc 16 _ rfl⟩, hb⟩
theorem exB_any (W : World) (hE : ErAt W) : Calls Tryd.prog 13 #[.string (txt exB)] W fun e w' => (∃ v, e = .returned (.tuple #[v, .int .i64 2, .int .i64 4])) ∧ Below W.heap.size W w' := by
  refine (lxWords_any exB W (by decide) hE).mono ?_
  rintro e w' ⟨⟨v, rfl, hO⟩, hb⟩
  rw [exB_is]
  exact ⟨⟨v, rfl⟩, hb⟩

/-- What a call on a text answers: offered at another text it is refused at once. -/
structure CallAt (f : FuncId) (t : ByteArray) (R : World → Ending → World → Prop) : Prop where
  out : ∀ W, ErAt W → Calls Tryd.prog f #[.string t] W (R W)
def RA (W : World) (e : Ending) (w' : World) : Prop := (∃ b c, e = .returned (.tuple #[.slice (some ⟨b, 0, none⟩) 5 c, .int .i64 0, .int .i64 0]) ∧ w'.cell? ⟨b, 5, none⟩ = some (.string ⟨#[60, 61]⟩) ∧ w'.cell? ⟨b, 10, none⟩ = some (.int .u64 12) ∧ w'.cell? ⟨b, 13, none⟩ = some (.string ⟨#[120, 39, 121]⟩) ∧ w'.cell? ⟨b, 15, none⟩ = some (.int .i64 6) ∧ w'.cell? ⟨b, 16, none⟩ = some (.int .i64 5)) ∧ Below W.heap.size W w'
def RB (W : World) (e : Ending) (w' : World) : Prop := (∃ v, e = .returned (.tuple #[v, .int .i64 2, .int .i64 4])) ∧ Below W.heap.size W w'
theorem exA_at : CallAt 13 ⟨#[97, 60, 61, 49, 50, 32, 39, 120, 39, 39, 121, 39]⟩ RA := ⟨exA_any⟩
theorem exB_at : CallAt 13 ⟨#[97, 32, 48, 49]⟩ RB := ⟨exB_any⟩

set_option maxRecDepth 100000 in
set_option maxHeartbeats 2000000 in
theorem awake8_any (w : World) (er : ErAt w) :
    Calls Tryd.prog 8 #[] w fun e w' => e = .returned (.bool true) ∧ Below w.heap.size w w' := by
  have ER := hid0 er
  clear er
  go_enter Tryd.func8, Tryd.ntmps8
  go_wp2_with fail
  go_at_call 13
  refine ((by exact exA_at : CallAt _ _ RA).out _ ER.out).mono ?_
  rintro e w1 ⟨⟨b, c, rfl, p0, p1, p2, p3, p4⟩, hb1⟩
  have hE1 := ER.out.later hb1
  go_wp2_with fail
  go_at_call 13
  refine ((by exact exB_at : CallAt _ _ RB).out _ hE1).mono ?_
  rintro e w2 ⟨⟨v, rfl⟩, hb2⟩
  have q0 := cell_later hb2 p0
  have q1 := cell_later hb2 p1
  have q2 := cell_later hb2 p2
  have q3 := cell_later hb2 p3
  have q4 := cell_later hb2 p4
  clear p0 p1 p2 p3 p4
  go_wp2_with fail
  go_ret
  exact ⟨rfl, below_through hb2 hb1.size hb1⟩
end Go.Proofs.YtfjhkchkiacfpaaDoor
