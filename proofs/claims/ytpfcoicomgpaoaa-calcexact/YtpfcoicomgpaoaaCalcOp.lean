/- What calc.Op, and the document's own answer to it, tell: contracts of the calls, over the turned program. -/
import Derived.Test.YtpfcoicomgpaoaaCalcSign
import Derived.Deep.Light
namespace Go.Proofs.Ytpfcoicomgpaoaa
open Go.RowKit
set_option linter.unusedVariables false
namespace Calc
/-- is s written as the operation behind i is? -/
def opB (s : ByteArray) (i : Nat) : Bool := (signF (i + 1)).toList == s.toList
/-- the operation that is written s, if there is one -/
def opF (s : ByteArray) : Int × Bool := match (List.range 11).find? (opB s) with | some i => ((i : Int) + 1, true) | none => (0, false)
theorem op_hit {s : ByteArray} {k : Nat} (hk : k < 11) (hno : ∀ j : Nat, j < k → opB s j = false) (h : ((signF (k + 1)).toList == s.toList) = true) : opF s = ((k : Int) + 1, true) := by
  have : (List.range 11).find? (opB s) = some k := by
    rw [List.find?_range_eq_some]
    exact ⟨h, by simpa using hk, fun j hj => by rw [hno j hj]; rfl⟩
  simp only [opF, this]
theorem op_miss {s : ByteArray} {k : Nat} (hk : 11 ≤ k) (hno : ∀ j : Nat, j < k → opB s j = false) : opF s = (0, false) := by
  have : (List.range 11).find? (opB s) = none := by
    rw [List.find?_range_eq_none]
    exact fun j hj => by rw [hno j (by omega)]; rfl
  simp only [opF, this]

set_option maxHeartbeats 1000000 in
theorem op_any (s : ByteArray) (w : World) :
    Calls Try.prog 15 #[.string s] w fun e w' => e = .returned (.tuple #[.int .i64 (opF s).1, .bool (opF s).2]) ∧ w' = w := by
  go_enter Try.func15, Try.ntmps15
  go_wp2
  go_loop [4] (fun o => ∃ k : Nat, k ≤ 11 ∧ o = .int .i64 (k + 1) ∧ Hid (∀ j, j < k → opB s j = false)) (fun o => 12 - (intOf o).toNat)
  case atStart => exact ⟨0, by omega, rfl, fun j h => by omega⟩
  case round =>
    obtain ⟨k, hk, rfl, hno⟩ := hrel
    by_cases hlt : k < 11
    · go_wp2_with (go_at_call 17; refine (sign_any _ _).mono ?_; rintro e w' ⟨rfl, rfl⟩)
      · go_ret2
        exact ⟨ret2b (op_hit hlt hno.out ‹_›), rfl⟩
      · go_round
        case rel => exact ⟨k + 1, by omega, by go_num, fun j hj => if e : j = k then by subst e; assumption else hno.out j (by omega)⟩
        case measure => simp [intOf]; omega
    · go_wp2
      go_ret2
      exact ⟨ret2b (op_miss (by omega) hno.out), rfl⟩

theorem signs_cell (w : World) (k : Nat) (hk : k < 11) : (w.alloc (Obj.cells #[Value.string ⟨#[43]⟩, Value.string ⟨#[45]⟩, Value.string ⟨#[42]⟩, Value.string ⟨#[47]⟩, Value.string ⟨#[37]⟩, Value.string ⟨#[61, 61]⟩, Value.string ⟨#[33, 61]⟩, Value.string ⟨#[60]⟩, Value.string ⟨#[60, 61]⟩, Value.string ⟨#[38, 38]⟩, Value.string ⟨#[124, 124]⟩] 9)).cell? ⟨w.heap.size, k, none⟩ = some (.string (signF (k + 1))) := by
  rcases (by omega : k = 0 ∨ k = 1 ∨ k = 2 ∨ k = 3 ∨ k = 4 ∨ k = 5 ∨ k = 6 ∨ k = 7 ∨ k = 8 ∨ k = 9 ∨ k = 10) with h | h | h | h | h | h | h | h | h | h | h
  all_goals subst h; simp [go_sem]; rfl

set_option maxHeartbeats 1000000 in
theorem rop_any (s : ByteArray) (w : World) :
    Calls Try.prog 16 #[.string s] w fun e w' => e = .returned (.tuple #[.int .i64 (opF s).1, .bool (opF s).2]) ∧ Below w.heap.size w w' := by
  go_enter Try.func16, Try.ntmps16
  go_wp2_with (go_at_call 33; refine (signs_any _).mono ?_; rintro e w' ⟨rfl, rfl⟩)
  go_loop [5] (fun o => ∃ k : Nat, k ≤ 11 ∧ o = .int .i64 k ∧ Hid (∀ j, j < k → opB s j = false)) (fun o => 11 - (intOf o).toNat)
  case atStart => exact ⟨0, by omega, rfl, fun j h => by omega⟩
  case round =>
    obtain ⟨k, hk, rfl, hno⟩ := hrel
    by_cases hlt : k < 11
    · have hc := signs_cell w k hlt
      go_wp2
      · go_ret2
        exact ⟨ret2b (op_hit hlt hno.out ‹_›), (Below.refl _ _).alloc (Nat.le_refl _) _⟩
      · go_round
        case rel => exact ⟨k + 1, by omega, by go_num, fun j hj => if e : j = k then by subst e; assumption else hno.out j (by omega)⟩
        case measure => simp [intOf]; omega
    · go_wp2
      go_ret2
      exact ⟨ret2b (op_miss (by omega) hno.out), (Below.refl _ _).alloc (Nat.le_refl _) _⟩
end Calc
end Go.Proofs.Ytpfcoicomgpaoaa
