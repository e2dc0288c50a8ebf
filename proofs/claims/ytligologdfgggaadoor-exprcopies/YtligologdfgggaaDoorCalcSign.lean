/- What calc.Sign, Strength and Op, and the document's own answers to them, tell: contracts of the calls, over the turned program. -/
import Derived.Test.YtligologdfgggaaDoorCalcDo
namespace Go.Proofs.YtligologdfgggaaDoor
open Go.RowKit
set_option linter.unusedVariables false
namespace Calc
/-- how an operation is written -/
def signF (op : Int) : ByteArray :=
  if op = 1 then ⟨#[43]⟩ else if op = 2 then ⟨#[45]⟩ else if op = 3 then ⟨#[42]⟩ else if op = 4 then ⟨#[47]⟩ else if op = 5 then ⟨#[37]⟩ else if op = 6 then ⟨#[61, 61]⟩ else if op = 7 then ⟨#[33, 61]⟩ else if op = 8 then ⟨#[60]⟩ else if op = 9 then ⟨#[60, 61]⟩ else if op = 10 then ⟨#[38, 38]⟩ else if op = 11 then ⟨#[124, 124]⟩ else ⟨#[63]⟩
def strengthF (op : Int) : Int :=
  if op = 1 then 4 else if op = 2 then 4 else if op = 3 then 5 else if op = 4 then 5 else if op = 5 then 5 else if op = 6 then 3 else if op = 7 then 3 else if op = 8 then 3 else if op = 9 then 3 else if op = 10 then 2 else if op = 11 then 1 else 0
theorem sign_not {op : Int} (h : op < 1 ∨ 11 < op) : signF op = ⟨#[63]⟩ := by
  unfold signF
  repeat rw [if_neg (by omega)]
theorem strength_not {op : Int} (h : op < 1 ∨ 11 < op) : strengthF op = 0 := by
  unfold strengthF
  repeat rw [if_neg (by omega)]
theorem rets {a b : ByteArray} (h : a = b) : Ending.returned (.string a) = .returned (.string b) := by rw [h]

set_option maxHeartbeats 1000000 in
theorem sign_any (op : Int) (w : World) :
    Calls Tryd.prog 77 #[.int .i64 op] w fun e w' => e = .returned (.string (signF op)) ∧ w' = w := by
  rcases op_cases op with h | h | h | h | h | h | h | h | h | h | h | h
  · subst h
    go_enter Tryd.func77, Tryd.ntmps77
    go_wp2
    go_ret
    exact ⟨rfl, rfl⟩
  · subst h
    go_enter Tryd.func77, Tryd.ntmps77
    go_wp2
    go_ret
    exact ⟨rfl, rfl⟩
  · subst h
    go_enter Tryd.func77, Tryd.ntmps77
    go_wp2
    go_ret
    exact ⟨rfl, rfl⟩
  · subst h
    go_enter Tryd.func77, Tryd.ntmps77
    go_wp2
    go_ret
    exact ⟨rfl, rfl⟩
  · subst h
    go_enter Tryd.func77, Tryd.ntmps77
    go_wp2
    go_ret
    exact ⟨rfl, rfl⟩
  · subst h
    go_enter Tryd.func77, Tryd.ntmps77
    go_wp2
    go_ret
    exact ⟨rfl, rfl⟩
  · subst h
    go_enter Tryd.func77, Tryd.ntmps77
    go_wp2
    go_ret
    exact ⟨rfl, rfl⟩
  · subst h
    go_enter Tryd.func77, Tryd.ntmps77
    go_wp2
    go_ret
    exact ⟨rfl, rfl⟩
  · subst h
    go_enter Tryd.func77, Tryd.ntmps77
    go_wp2
    go_ret
    exact ⟨rfl, rfl⟩
  · subst h
    go_enter Tryd.func77, Tryd.ntmps77
    go_wp2
    go_ret
    exact ⟨rfl, rfl⟩
  · subst h
    go_enter Tryd.func77, Tryd.ntmps77
    go_wp2
    go_ret
    exact ⟨rfl, rfl⟩
  · have N := sign_not h
    have h1 : ¬ op = 1 := by omega
    have h2 : ¬ op = 2 := by omega
    have h3 : ¬ op = 3 := by omega
    have h4 : ¬ op = 4 := by omega
    have h5 : ¬ op = 5 := by omega
    have h6 : ¬ op = 6 := by omega
    have h7 : ¬ op = 7 := by omega
    have h8 : ¬ op = 8 := by omega
    have h9 : ¬ op = 9 := by omega
    have h10 : ¬ op = 10 := by omega
    have h11 : ¬ op = 11 := by omega
    clear h
    have N : Hid (signF op = _) := N
    go_enter Tryd.func77, Tryd.ntmps77
    go_wp2
    go_ret
    exact ⟨by rw [N.out]; rfl, rfl⟩

set_option maxHeartbeats 1000000 in
theorem strength_any (op : Int) (w : World) :
    Calls Tryd.prog 75 #[.int .i64 op] w fun e w' => e = .returned (.int .i64 (strengthF op)) ∧ w' = w := by
  rcases op_cases op with h | h | h | h | h | h | h | h | h | h | h | h
  · subst h
    go_enter Tryd.func75, Tryd.ntmps75
    go_wp2
    go_ret
    exact ⟨rfl, rfl⟩
  · subst h
    go_enter Tryd.func75, Tryd.ntmps75
    go_wp2
    go_ret
    exact ⟨rfl, rfl⟩
  · subst h
    go_enter Tryd.func75, Tryd.ntmps75
    go_wp2
    go_ret
    exact ⟨rfl, rfl⟩
  · subst h
    go_enter Tryd.func75, Tryd.ntmps75
    go_wp2
    go_ret
    exact ⟨rfl, rfl⟩
  · subst h
    go_enter Tryd.func75, Tryd.ntmps75
    go_wp2
    go_ret
    exact ⟨rfl, rfl⟩
  · subst h
    go_enter Tryd.func75, Tryd.ntmps75
    go_wp2
    go_ret
    exact ⟨rfl, rfl⟩
  · subst h
    go_enter Tryd.func75, Tryd.ntmps75
    go_wp2
    go_ret
    exact ⟨rfl, rfl⟩
  · subst h
    go_enter Tryd.func75, Tryd.ntmps75
    go_wp2
    go_ret
    exact ⟨rfl, rfl⟩
  · subst h
    go_enter Tryd.func75, Tryd.ntmps75
    go_wp2
    go_ret
    exact ⟨rfl, rfl⟩
  · subst h
    go_enter Tryd.func75, Tryd.ntmps75
    go_wp2
    go_ret
    exact ⟨rfl, rfl⟩
  · subst h
    go_enter Tryd.func75, Tryd.ntmps75
    go_wp2
    go_ret
    exact ⟨rfl, rfl⟩
  · have N := strength_not h
    have h1 : ¬ op = 1 := by omega
    have h2 : ¬ op = 2 := by omega
    have h3 : ¬ op = 3 := by omega
    have h4 : ¬ op = 4 := by omega
    have h5 : ¬ op = 5 := by omega
    have h6 : ¬ op = 6 := by omega
    have h7 : ¬ op = 7 := by omega
    have h8 : ¬ op = 8 := by omega
    have h9 : ¬ op = 9 := by omega
    have h10 : ¬ op = 10 := by omega
    have h11 : ¬ op = 11 := by omega
    clear h
    have N : Hid (strengthF op = _) := N
    go_enter Tryd.func75, Tryd.ntmps75
    go_wp2
    go_ret
    exact ⟨by rw [N.out]; rfl, rfl⟩