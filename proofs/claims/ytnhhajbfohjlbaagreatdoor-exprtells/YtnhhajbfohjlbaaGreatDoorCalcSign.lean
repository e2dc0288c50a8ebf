/- What calc.Sign, Strength and Op, and the document's own answers to them, tell: contracts of the calls, over the turned program. -/
import Derived.Test.YtnhhajbfohjlbaaGreatDoorCalcDo
namespace Go.Proofs.YtnhhajbfohjlbaaGreatDoor
open Go.RowKit
set_option linter.unusedVariables false
namespace Calc
/-- how an operation is written -/
def signF (op : Int) : ByteArray :=
  if op = 1 then ⟨#[43]⟩ else if op = 2 then ⟨#[45]⟩ else if op = 3 then ⟨#[42]⟩ else if op = 4 then ⟨#[47]⟩ else if op = 5 then ⟨#[37]⟩ else if op = 6 then ⟨#[61, 61]⟩ else if op = 7 then ⟨#[33, 61]⟩ else if op = 8 then ⟨#[60]⟩ else if op = 9 then ⟨#[60, 61]⟩ else if op = 10 then ⟨#[38, 38]⟩ else if op = 11 then ⟨#[124, 124]⟩ else ⟨#[63]⟩
def strengthF (op : Int) : Int :=
  if op = 1 then 4 else if op = 2 then 4 else if op = 3 then 5 else if op = 4 then 5 else if op = 5 then 5 else if op = 6 then 3 else if op = 7 then 3 else if op = 8 then 3 else if op = 9 then 3 else if op = 10 then 2 else if op = 11 then 1 else 0
theorem sign_not {op : Int} (h : op < 1 ∨ 11 < op) : signF op = ⟨#[63]⟩ := by
  unfold signF
  repeat rw [if_neg (by omega)]
theorem strength_not {op : Int} (h : op < 1 ∨ 11 < op) : strengthF op = 0 := by
  unfold strengthF
  repeat rw [if_neg (by omega)]
theorem rets {a b : ByteArray} (h : a = b) : Ending.returned (.string a) = .returned (.string b) := by rw [h]

set_option maxHeartbeats 1000000 in
theorem sign_any (op : Int) (w : World) :
    Calls Tryz.prog 75 #[.int .i64 op] w fun e w' => e = .returned (.string (signF op)) ∧ w' = w := by
  rcases op_cases op with h | h | h | h | h | h | h | h | h | h | h | h
  · subst h
    go_enter Tryz.func75, Tryz.ntmps75
    go_wp2
    go_ret
    exact ⟨rfl, rfl⟩
  · subst h
    go_enter Tryz.func75, Tryz.ntmps75
    go_wp2
    go_ret
    exact ⟨rfl, rfl⟩
  · subst h
    go_enter Tryz.func75, Tryz.ntmps75
    go_wp2
    go_ret
    exact ⟨rfl, rfl⟩
  · subst h
    go_enter Tryz.func75, Tryz.ntmps75
    go_wp2
    go_ret
    exact ⟨rfl, rfl⟩
  · subst h
    go_enter Tryz.func75, Tryz.ntmps75
    go_wp2
    go_ret
    exact ⟨rfl, rfl⟩
  · subst h
    go_enter Tryz.func75, Tryz.ntmps75
    go_wp2
    go_ret
    exact ⟨rfl, rfl⟩
  · subst h
    go_enter Tryz.func75, Tryz.ntmps75
    go_wp2
    go_ret
    exact ⟨rfl, rfl⟩
  · subst h
    go_enter Tryz.func75, Tryz.ntmps75
    go_wp2
    go_ret
    exact ⟨rfl, rfl⟩
  · subst h
    go_enter Tryz.func75, Tryz.ntmps75
    go_wp2
    go_ret
    exact ⟨rfl, rfl⟩
  · subst h
    go_enter Tryz.func75, Tryz.ntmps75
    go_wp2
    go_ret
    exact ⟨rfl, rfl⟩
  · subst h
    go_enter Tryz.func75, Tryz.ntmps75
    go_wp2
    go_ret
    exact ⟨rfl, rfl⟩
  · have N := sign_not h
    have h1 : ¬ op = 1 := by omega
    have h2 : ¬ op = 2 := by omega
    have h3 : ¬ op = 3 := by omega
    have h4 : ¬ op = 4 := by omega
    have h5 : ¬ op = 5 := by omega
    have h6 : ¬ op = 6 := by omega
    have h7 : ¬ op = 7 := by omega
    have h8 : ¬ op = 8 := by omega
    have h9 : ¬ op = 9 := by omega
    have h10 : ¬ op = 10 := by omega
    have h11 : ¬ op = 11 := by omega
    clear h
    have N : Hid (signF op = _) := N
    go_enter Tryz.func75, Tryz.ntmps75
    go_wp2
    go_ret
    exact ⟨by rw [N.out]; rfl, rfl⟩

set_option maxHeartbeats 1000000 in
theorem strength_any (op : Int) (w : World) :
    Calls Tryz.prog 73 #[.int .i64 op] w fun e w' => e = .returned (.int .i64 (strengthF op)) ∧ w' = w := by
  rcases op_cases op with h | h | h | h | h | h | h | h | h | h | h | h
  · subst h
    go_enter Tryz.func73, Tryz.ntmps73
    go_wp2
    go_ret
    exact ⟨rfl, rfl⟩
  · subst h
    go_enter Tryz.func73, Tryz.ntmps73
    go_wp2
    go_ret
    exact ⟨rfl, rfl⟩
  · subst h
    go_enter Tryz.func73, Tryz.ntmps73
    go_wp2
    go_ret
    exact ⟨rfl, rfl⟩
  · subst h
    go_enter Tryz.func73, Tryz.ntmps73
    go_wp2
    go_ret
    exact ⟨rfl, rfl⟩
  · subst h
    go_enter Tryz.func73, Tryz.ntmps73
    go_wp2
    go_ret
    exact ⟨rfl, rfl⟩
  · subst h
    go_enter Tryz.func73, Tryz.ntmps73
    go_wp2
    go_ret
    exact ⟨rfl, rfl⟩
  · subst h
    go_enter Tryz.func73, Tryz.ntmps73
    go_wp2
    go_ret
    exact ⟨rfl, rfl⟩
  · subst h
    go_enter Tryz.func73, Tryz.ntmps73
    go_wp2
    go_ret
    exact ⟨rfl, rfl⟩
  · subst h
    go_enter Tryz.func73, Tryz.ntmps73
    go_wp2
    go_ret
    exact ⟨rfl, rfl⟩
  · subst h
    go_enter Tryz.func73, Tryz.ntmps73
    go_wp2
    go_ret
    exact ⟨rfl, rfl⟩
  · subst h
    go_enter Tryz.func73, Tryz.ntmps73
    go_wp2
    go_ret
    exact ⟨rfl, rfl⟩
  · have N := strength_not h
    have h1 : ¬ op = 1 := by omega
    have h2 : ¬ op = 2 := by omega
    have h3 : ¬ op = 3 := by omega
    have h4 : ¬ op = 4 := by omega
    have h5 : ¬ op = 5 := by omega
    have h6 : ¬ op = 6 := by omega
    have h7 : ¬ op = 7 := by omega
    have h8 : ¬ op = 8 := by omega
    have h9 : ¬ op = 9 := by omega
    have h10 : ¬ op = 10 := by omega
    have h11 : ¬ op = 11 := by omega
    clear h
    have N : Hid (strengthF op = _) := N
    go_enter Tryz.func73, Tryz.ntmps73
    go_wp2
    go_ret
    exact ⟨by rw [N.out]; rfl, rfl⟩

set_option maxHeartbeats 1000000 in
theorem signs_any (w : World) :
    Calls Tryz.prog 39 #[] w fun e w' => e = .returned (.slice (some ⟨w.heap.size, 0, none⟩) 11 11) ∧
      w.alloc (Obj.cells #[Value.string ⟨#[43]⟩, Value.string ⟨#[45]⟩, Value.string ⟨#[42]⟩, Value.string ⟨#[47]⟩, Value.string ⟨#[37]⟩, Value.string ⟨#[61, 61]⟩, Value.string ⟨#[33, 61]⟩, Value.string ⟨#[60]⟩, Value.string ⟨#[60, 61]⟩, Value.string ⟨#[38, 38]⟩, Value.string ⟨#[124, 124]⟩] 9) = w' := by
  go_enter Tryz.func39, Tryz.ntmps39
  go_wp2
  go_ret
  exact ⟨rfl, rfl⟩

set_option maxHeartbeats 1000000 in
theorem rsign_any (op : Int) (w : World) :
    Calls Tryz.prog 29 #[.int .i64 op] w fun e w' => e = .returned (.string (signF op)) ∧ Below w.heap.size w w' := by
  rcases op_cases op with h | h | h | h | h | h | h | h | h | h | h | h
  · subst h
    have H : Hid (knownB 1 = true) := rfl
    go_enter Tryz.func29, Tryz.ntmps29
    go_wp2_with (first | (go_at_call 37; refine (rknown_any _ _).mono ?_; rintro e w' ⟨rfl, rfl⟩; rw [H.out]) | (go_at_call 39; refine (signs_any _).mono ?_; rintro e w' ⟨rfl, rfl⟩))
    go_ret
    exact ⟨rfl, (Below.refl _ _).alloc (Nat.le_refl _) _⟩
  · subst h
    have H : Hid (knownB 2 = true) := rfl
    go_enter Tryz.func29, Tryz.ntmps29
    go_wp2_with (first | (go_at_call 37; refine (rknown_any _ _).mono ?_; rintro e w' ⟨rfl, rfl⟩; rw [H.out]) | (go_at_call 39; refine (signs_any _).mono ?_; rintro e w' ⟨rfl, rfl⟩))
    go_ret
    exact ⟨rfl, (Below.refl _ _).alloc (Nat.le_refl _) _⟩
  · subst h
    have H : Hid (knownB 3 = true) := rfl
    go_enter Tryz.func29, Tryz.ntmps29
    go_wp2_with (first | (go_at_call 37; refine (rknown_any _ _).mono ?_; rintro e w' ⟨rfl, rfl⟩; rw [H.out]) | (go_at_call 39; refine (signs_any _).mono ?_; rintro e w' ⟨rfl, rfl⟩))
    go_ret
    exact ⟨rfl, (Below.refl _ _).alloc (Nat.le_refl _) _⟩
  · subst h
    have H : Hid (knownB 4 = true) := rfl
    go_enter Tryz.func29, Tryz.ntmps29
    go_wp2_with (first | (go_at_call 37; refine (rknown_any _ _).mono ?_; rintro e w' ⟨rfl, rfl⟩; rw [H.out]) | (go_at_call 39; refine (signs_any _).mono ?_; rintro e w' ⟨rfl, rfl⟩))
    go_ret
    exact ⟨rfl, (Below.refl _ _).alloc (Nat.le_refl _) _⟩
  · subst h
    have H : Hid (knownB 5 = true) := rfl
    go_enter Tryz.func29, Tryz.ntmps29
    go_wp2_with (first | (go_at_call 37; refine (rknown_any _ _).mono ?_; rintro e w' ⟨rfl, rfl⟩; rw [H.out]) | (go_at_call 39; refine (signs_any _).mono ?_; rintro e w' ⟨rfl, rfl⟩))
    go_ret
    exact ⟨rfl, (Below.refl _ _).alloc (Nat.le_refl _) _⟩
  · subst h
    have H : Hid (knownB 6 = true) := rfl
    go_enter Tryz.func29, Tryz.ntmps29
    go_wp2_with (first | (go_at_call 37; refine (rknown_any _ _).mono ?_; rintro e w' ⟨rfl, rfl⟩; rw [H.out]) | (go_at_call 39; refine (signs_any _).mono ?_; rintro e w' ⟨rfl, rfl⟩))
    go_ret
    exact ⟨rfl, (Below.refl _ _).alloc (Nat.le_refl _) _⟩
  · subst h
    have H : Hid (knownB 7 = true) := rfl
    go_enter Tryz.func29, Tryz.ntmps29
    go_wp2_with (first | (go_at_call 37; refine (rknown_any _ _).mono ?_; rintro e w' ⟨rfl, rfl⟩; rw [H.out]) | (go_at_call 39; refine (signs_any _).mono ?_; rintro e w' ⟨rfl, rfl⟩))
    go_ret
    exact ⟨rfl, (Below.refl _ _).alloc (Nat.le_refl _) _⟩
  · subst h
    have H : Hid (knownB 8 = true) := rfl
    go_enter Tryz.func29, Tryz.ntmps29
    go_wp2_with (first | (go_at_call 37; refine (rknown_any _ _).mono ?_; rintro e w' ⟨rfl, rfl⟩; rw [H.out]) | (go_at_call 39; refine (signs_any _).mono ?_; rintro e w' ⟨rfl, rfl⟩))
    go_ret
    exact ⟨rfl, (Below.refl _ _).alloc (Nat.le_refl _) _⟩
  · subst h
    have H : Hid (knownB 9 = true) := rfl
    go_enter Tryz.func29, Tryz.ntmps29
    go_wp2_with (first | (go_at_call 37; refine (rknown_any _ _).mono ?_; rintro e w' ⟨rfl, rfl⟩; rw [H.out]) | (go_at_call 39; refine (signs_any _).mono ?_; rintro e w' ⟨rfl, rfl⟩))
    go_ret
    exact ⟨rfl, (Below.refl _ _).alloc (Nat.le_refl _) _⟩
  · subst h
    have H : Hid (knownB 10 = true) := rfl
    go_enter Tryz.func29, Tryz.ntmps29
    go_wp2_with (first | (go_at_call 37; refine (rknown_any _ _).mono ?_; rintro e w' ⟨rfl, rfl⟩; rw [H.out]) | (go_at_call 39; refine (signs_any _).mono ?_; rintro e w' ⟨rfl, rfl⟩))
    go_ret
    exact ⟨rfl, (Below.refl _ _).alloc (Nat.le_refl _) _⟩
  · subst h
    have H : Hid (knownB 11 = true) := rfl
    go_enter Tryz.func29, Tryz.ntmps29
    go_wp2_with (first | (go_at_call 37; refine (rknown_any _ _).mono ?_; rintro e w' ⟨rfl, rfl⟩; rw [H.out]) | (go_at_call 39; refine (signs_any _).mono ?_; rintro e w' ⟨rfl, rfl⟩))
    go_ret
    exact ⟨rfl, (Below.refl _ _).alloc (Nat.le_refl _) _⟩
  · have N := sign_not h
    have H : Hid (knownB op = false) := by unfold knownB; exact decide_eq_false (by omega)
    clear h
    have N : Hid (signF op = _) := N
    go_enter Tryz.func29, Tryz.ntmps29
    go_wp2_with (first | (go_at_call 37; refine (rknown_any _ _).mono ?_; rintro e w' ⟨rfl, rfl⟩; rw [H.out]) | (go_at_call 39; refine (signs_any _).mono ?_; rintro e w' ⟨rfl, rfl⟩))
    go_ret
    exact ⟨by rw [N.out]; rfl, Below.refl _ _⟩

set_option maxHeartbeats 1000000 in
theorem rstrength_any (op : Int) (w : World) :
    Calls Tryz.prog 28 #[.int .i64 op] w fun e w' => e = .returned (.int .i64 (strengthF op)) ∧ Below w.heap.size w w' := by
  rcases op_cases op with h | h | h | h | h | h | h | h | h | h | h | h
  · subst h
    have H : Hid (knownB 1 = true) := rfl
    go_enter Tryz.func28, Tryz.ntmps28
    go_wp2_with (go_at_call 37; refine (rknown_any _ _).mono ?_; rintro e w' ⟨rfl, rfl⟩; rw [H.out])
    go_ret
    exact ⟨rfl, (Below.refl _ _).alloc (Nat.le_refl _) _⟩
  · subst h
    have H : Hid (knownB 2 = true) := rfl
    go_enter Tryz.func28, Tryz.ntmps28
    go_wp2_with (go_at_call 37; refine (rknown_any _ _).mono ?_; rintro e w' ⟨rfl, rfl⟩; rw [H.out])
    go_ret
    exact ⟨rfl, (Below.refl _ _).alloc (Nat.le_refl _) _⟩
  · subst h
    have H : Hid (knownB 3 = true) := rfl
    go_enter Tryz.func28, Tryz.ntmps28
    go_wp2_with (go_at_call 37; refine (rknown_any _ _).mono ?_; rintro e w' ⟨rfl, rfl⟩; rw [H.out])
    go_ret
    exact ⟨rfl, (Below.refl _ _).alloc (Nat.le_refl _) _⟩
  · subst h
    have H : Hid (knownB 4 = true) := rfl
    go_enter Tryz.func28, Tryz.ntmps28
    go_wp2_with (go_at_call 37; refine (rknown_any _ _).mono ?_; rintro e w' ⟨rfl, rfl⟩; rw [H.out])
    go_ret
    exact ⟨rfl, (Below.refl _ _).alloc (Nat.le_refl _) _⟩
  · subst h
    have H : Hid (knownB 5 = true) := rfl
    go_enter Tryz.func28, Tryz.ntmps28
    go_wp2_with (go_at_call 37; refine (rknown_any _ _).mono ?_; rintro e w' ⟨rfl, rfl⟩; rw [H.out])
    go_ret
    exact ⟨rfl, (Below.refl _ _).alloc (Nat.le_refl _) _⟩
  · subst h
    have H : Hid (knownB 6 = true) := rfl
    go_enter Tryz.func28, Tryz.ntmps28
    go_wp2_with (go_at_call 37; refine (rknown_any _ _).mono ?_; rintro e w' ⟨rfl, rfl⟩; rw [H.out])
    go_ret
    exact ⟨rfl, (Below.refl _ _).alloc (Nat.le_refl _) _⟩
  · subst h
    have H : Hid (knownB 7 = true) := rfl
    go_enter Tryz.func28, Tryz.ntmps28
    go_wp2_with (go_at_call 37; refine (rknown_any _ _).mono ?_; rintro e w' ⟨rfl, rfl⟩; rw [H.out])
    go_ret
    exact ⟨rfl, (Below.refl _ _).alloc (Nat.le_refl _) _⟩
  · subst h
    have H : Hid (knownB 8 = true) := rfl
    go_enter Tryz.func28, Tryz.ntmps28
    go_wp2_with (go_at_call 37; refine (rknown_any _ _).mono ?_; rintro e w' ⟨rfl, rfl⟩; rw [H.out])
    go_ret
    exact ⟨rfl, (Below.refl _ _).alloc (Nat.le_refl _) _⟩
  · subst h
    have H : Hid (knownB 9 = true) := rfl
    go_enter Tryz.func28, Tryz.ntmps28
    go_wp2_with (go_at_call 37; refine (rknown_any _ _).mono ?_; rintro e w' ⟨rfl, rfl⟩; rw [H.out])
    go_ret
    exact ⟨rfl, (Below.refl _ _).alloc (Nat.le_refl _) _⟩
  · subst h
    have H : Hid (knownB 10 = true) := rfl
    go_enter Tryz.func28, Tryz.ntmps28
    go_wp2_with (go_at_call 37; refine (rknown_any _ _).mono ?_; rintro e w' ⟨rfl, rfl⟩; rw [H.out])
    go_ret
    exact ⟨rfl, (Below.refl _ _).alloc (Nat.le_refl _) _⟩
  · subst h
    have H : Hid (knownB 11 = true) := rfl
    go_enter Tryz.func28, Tryz.ntmps28
    go_wp2_with (go_at_call 37; refine (rknown_any _ _).mono ?_; rintro e w' ⟨rfl, rfl⟩; rw [H.out])
    go_ret
    exact ⟨rfl, (Below.refl _ _).alloc (Nat.le_refl _) _⟩
  · have N := strength_not h
    have H : Hid (knownB op = false) := by unfold knownB; exact decide_eq_false (by omega)
    clear h
    have N : Hid (strengthF op = _) := N
    go_enter Tryz.func28, Tryz.ntmps28
    go_wp2_with (go_at_call 37; refine (rknown_any _ _).mono ?_; rintro e w' ⟨rfl, rfl⟩; rw [H.out])
    go_ret
    exact ⟨by rw [N.out]; rfl, Below.refl _ _⟩
end Calc
end Go.Proofs.YtnhhajbfohjlbaaGreatDoor
