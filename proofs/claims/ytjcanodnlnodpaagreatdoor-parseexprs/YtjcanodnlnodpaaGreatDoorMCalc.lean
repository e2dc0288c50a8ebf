/- Contracts and plain mathematics, together: CalcPlain, CalcWalks, CalcDo, CalcSign, CalcOp. -/
import Derived.WalkKit
import Derived.Test.YtjcanodnlnodpaaGreatDoorRows
import Derived.WalkSpells
import Derived.WalkLawsBesides
import Derived.Deep.Light
/- Plain arithmetic for layer 1 (calc): what each operation tells of two numbers, as Lean functions on Int. Nothing of the program is in sight. -/
namespace Go.Proofs.YtjcanodnlnodpaaGreatDoor
open Go.RowKit
set_option linter.unusedVariables false

namespace Calc
def lo : Int := -9223372036854775808
def hi : Int := 9223372036854775807
/-- an int -/
def inR (n : Int) : Bool := decide (lo ≤ n ∧ n ≤ hi)
/-- n, if it is an int; else ErrOver -/
def ovf (n : Int) : Int × Int := if inR n then (n, 0) else (0, 6)
def addF (a b : Int) : Int × Int := ovf (a + b)
def subF (a b : Int) : Int × Int := ovf (a - b)
def mulF (a b : Int) : Int × Int := ovf (a * b)
def divF (a b : Int) : Int × Int := if b = 0 then (0, 7) else ovf (a.tdiv b)
def remF (a b : Int) : Int × Int := if b = 0 then (0, 7) else if a = lo ∧ b = -1 then (0, 6) else (a.tmod b, 0)
def goesB (a b : Int) : Bool := decide (a = lo ∧ b = -1)
def divisF (a b : Int) : Int := if b = 0 then 7 else if goesB a b then 6 else 0
def bit (p : Bool) : Int := if p then 1 else 0
def doF (op a b : Int) : Int × Int :=
  if op = 1 then addF a b else if op = 2 then subF a b else if op = 3 then mulF a b else if op = 4 then divF a b else if op = 5 then remF a b
  else if op = 6 then (bit (decide (a = b)), 0) else if op = 7 then (bit (decide (a ≠ b)), 0) else if op = 8 then (bit (decide (a < b)), 0) else if op = 9 then (bit (decide (a ≤ b)), 0)
  else if op = 10 then (bit (decide (a ≠ 0 ∧ b ≠ 0)), 0) else if op = 11 then (bit (decide (a ≠ 0 ∨ b ≠ 0)), 0) else (0, 1)

theorem ovf_in {n : Int} (h1 : -9223372036854775808 ≤ n) (h2 : n ≤ 9223372036854775807) : ovf n = (n, 0) := by
  simp [ovf, inR, lo, hi, h1, h2]
theorem ovf_out {n : Int} (h : n < -9223372036854775808 ∨ 9223372036854775807 < n) : ovf n = (0, 6) := by
  have : ¬ (lo ≤ n ∧ n ≤ hi) := by unfold lo hi; omega
  simp [ovf, inR, this]
/-- a pair's two values, as a call tells them -/
theorem ret2 {k1 k2 : IntKind} {p : Int × Int} {x y : Int} (h : p = (x, y)) : Ending.returned (.tuple #[.int k1 x, .int k2 y]) = .returned (.tuple #[.int k1 p.1, .int k2 p.2]) := by
  rw [h]
theorem ret1 {k : IntKind} {a b : Int} (h : a = b) : Ending.returned (.int k a) = .returned (.int k b) := by rw [h]

theorem goes_iff {a b : Int} : goesB a b = true ↔ a = -9223372036854775808 ∧ b = -1 := by unfold goesB lo; exact decide_eq_true_iff
theorem retb {p q : Bool} (h : p = q) : Ending.returned (.bool p) = .returned (.bool q) := by rw [h]
theorem goes_min {a b : Int} (h : a = -9223372036854775808) : (b == -1) = goesB a b := by
  rw [Bool.eq_iff_iff, goes_iff]; simp [h]
theorem goes_not {a b : Int} (h : ¬ a = -9223372036854775808) : false = goesB a b := by
  rw [Bool.eq_iff_iff, goes_iff]; simp [h]
theorem tmod_bd (p b : Int) (hb : b ≠ 0) : (p.tmod b).natAbs < b.natAbs := by
  rw [Int.natAbs_tmod]; exact Nat.mod_lt _ (Int.natAbs_pos.2 hb)
theorem tdiv_range {p b : Int} (hb : b ≠ 0) (h1 : -9223372036854775808 ≤ p) (h2 : p ≤ 9223372036854775807) (h : ¬ (p = -9223372036854775808 ∧ b = -1)) :
    -9223372036854775808 ≤ p.tdiv b ∧ p.tdiv b ≤ 9223372036854775807 := by
  by_cases e1 : b = 1
  · subst e1; rw [Int.tdiv_one]; exact ⟨h1, h2⟩
  by_cases e2 : b = -1
  · subst e2; rw [Int.tdiv_neg, Int.tdiv_one]; omega
  have hq : (p.tdiv b).natAbs = p.natAbs / b.natAbs := Int.natAbs_tdiv p b
  have h3 : p.natAbs / b.natAbs ≤ p.natAbs / 2 := Nat.div_le_div_left (by omega) (by omega)
  omega
theorem mul_ok {a b : Int} (a1 : -9223372036854775808 ≤ a) (a2 : a ≤ 9223372036854775807) (b1 : -9223372036854775808 ≤ b) (b2 : b ≤ 9223372036854775807)
    (hb : b ≠ 0) (hg : ¬ goesB a b = true) (h : (wrap64 ((wrap64 (a * b)).tdiv b) != a) = false) : mulF a b = (wrap64 (a * b), 0) := by
  have h' : wrap64 ((wrap64 (a * b)).tdiv b) = a := by simpa using h
  rw [goes_iff] at hg
  have hr : -9223372036854775808 ≤ wrap64 (a * b) ∧ wrap64 (a * b) ≤ 9223372036854775807 := by unfold wrap64; omega
  have hm : ∃ k : Int, wrap64 (a * b) = a * b + k * 18446744073709551616 := ⟨-((a * b + 9223372036854775808) / 18446744073709551616), by unfold wrap64; omega⟩
  obtain ⟨k, hk⟩ := hm
  generalize hp : wrap64 (a * b) = p at *
  by_cases hx : p = -9223372036854775808 ∧ b = -1
  · obtain ⟨hx1, hx2⟩ := hx
    subst hx2; rw [hx1] at h'
    exact absurd ⟨by rw [← h']; decide +kernel, rfl⟩ hg
  have ht := tdiv_range hb hr.1 hr.2 hx
  rw [Go.IntWalk.wrap64_in _ ht] at h'
  have hd := Int.tmod_add_mul_tdiv p b
  have hl := tmod_bd p b hb
  rw [h'] at hd
  have hc : b * a = a * b := Int.mul_comm b a
  have k0 : k = 0 := by omega
  have hpe : p = a * b := by omega
  show ovf (a * b) = _
  rw [← hpe]
  exact ovf_in hr.1 hr.2
theorem mul_bad {a b : Int} (a1 : -9223372036854775808 ≤ a) (a2 : a ≤ 9223372036854775807)
    (hb : b ≠ 0) (h : (wrap64 ((wrap64 (a * b)).tdiv b) != a) = true) : mulF a b = (0, 6) := by
  refine ovf_out ?_
  by_cases hin : -9223372036854775808 ≤ a * b ∧ a * b ≤ 9223372036854775807
  · rw [Go.IntWalk.wrap64_in _ hin, Int.mul_tdiv_cancel _ hb, Go.IntWalk.wrap64_in _ ⟨a1, a2⟩] at h
    simp at h
  · omega
theorem mul_goes {a b : Int} (h : goesB a b = true) : mulF a b = (0, 6) := by
  rw [goes_iff] at h; obtain ⟨rfl, rfl⟩ := h; exact ovf_out (by omega)
theorem mul_zero' (a : Int) : mulF a 0 = (0, 0) := by simp [mulF, ovf, inR, lo, hi]
theorem divis_0 {a : Int} : divisF a 0 = 7 := by simp [divisF]
theorem divis_6 {a b : Int} (hb : ¬ b = 0) (h : goesB a b = true) : divisF a b = 6 := by simp [divisF, hb, h]
theorem divis_ok {a b : Int} (hb : ¬ b = 0) (h : goesB a b = false) : divisF a b = 0 := by simp [divisF, hb, h]
theorem div_0 (a : Int) : divF a 0 = (0, 7) := by simp [divF]
theorem div_6 {a b : Int} (h : goesB a b = true) : divF a b = (0, 6) := by
  rw [goes_iff] at h; obtain ⟨rfl, rfl⟩ := h
  unfold divF; rw [if_neg (by decide)]
  exact ovf_out (by decide +kernel)
theorem div_ok {a b : Int} (a1 : -9223372036854775808 ≤ a) (a2 : a ≤ 9223372036854775807) (hb : ¬ b = 0) (h : goesB a b = false) : divF a b = (wrap64 (a.tdiv b), 0) := by
  have hn : ¬ (a = -9223372036854775808 ∧ b = -1) := by rw [← goes_iff]; simp [h]
  have ht := tdiv_range hb a1 a2 hn
  rw [Go.IntWalk.wrap64_in _ ht]
  show (if b = 0 then _ else _) = _
  rw [if_neg hb]
  exact ovf_in ht.1 ht.2
theorem rem_0 (a : Int) : remF a 0 = (0, 7) := by simp [remF]
theorem rem_6 {a b : Int} (h : goesB a b = true) : remF a b = (0, 6) := by
  rw [goes_iff] at h; obtain ⟨rfl, rfl⟩ := h; rfl
theorem tmod_range {p b : Int} (h1 : -9223372036854775808 ≤ p) (h2 : p ≤ 9223372036854775807) : -9223372036854775808 ≤ p.tmod b ∧ p.tmod b ≤ 9223372036854775807 := by
  have hq : (p.tmod b).natAbs = p.natAbs % b.natAbs := Int.natAbs_tmod p b
  have h3 : p.natAbs % b.natAbs ≤ p.natAbs := Nat.mod_le _ _
  have h4 : 0 ≤ p → 0 ≤ p.tmod b := fun h => Int.tmod_nonneg b h
  have h5 : p < 0 → 0 ≤ -(p.tmod b) := fun h => by rw [← Int.neg_tmod]; exact Int.tmod_nonneg b (by omega)
  omega
theorem rem_ok {a b : Int} (a1 : -9223372036854775808 ≤ a) (a2 : a ≤ 9223372036854775807) (hb : ¬ b = 0) (h : goesB a b = false) : remF a b = (a.tmod b, 0) := by
  have hn : ¬ (a = lo ∧ b = -1) := by unfold lo; rw [← goes_iff]; simp [h]
  unfold remF
  rw [if_neg hb, if_neg hn]
theorem do1 (a b : Int) : doF 1 a b = addF a b := rfl
theorem do2 (a b : Int) : doF 2 a b = subF a b := rfl
theorem do3 (a b : Int) : doF 3 a b = mulF a b := rfl
theorem do4 (a b : Int) : doF 4 a b = divF a b := rfl
theorem do5 (a b : Int) : doF 5 a b = remF a b := rfl
theorem do6 (a b : Int) : doF 6 a b = (bit (a == b), 0) := by unfold doF; simp [BEq.beq]
theorem do7 (a b : Int) : doF 7 a b = (bit (a != b), 0) := by unfold doF; simp [bne, BEq.beq]
theorem do8 (a b : Int) : doF 8 a b = (bit (decide (a < b)), 0) := rfl
theorem do9 (a b : Int) : doF 9 a b = (bit (decide (a ≤ b)), 0) := rfl
theorem do10t {a b : Int} (h : ¬ a = 0) : doF 10 a b = (bit (b != 0), 0) := by unfold doF; simp [h, bne, BEq.beq]
theorem do10f (b : Int) : doF 10 0 b = (bit false, 0) := by unfold doF; simp
theorem do11t {a : Int} (b : Int) (h : ¬ a = 0) : doF 11 a b = (bit true, 0) := by unfold doF; simp [h]
theorem do11f (b : Int) : doF 11 0 b = (bit (b != 0), 0) := by unfold doF; simp [bne, BEq.beq]
theorem do_not {op : Int} (a b : Int) (h : op < 1 ∨ 11 < op) : doF op a b = (0, 1) := by
  unfold doF
  repeat rw [if_neg (by omega)]
def knownB (op : Int) : Bool := decide (1 ≤ op ∧ op ≤ 11)
theorem known_t {op : Int} (h1 : 1 ≤ op) : decide (op ≤ 11) = knownB op := by simp [knownB, h1]
theorem known_f {op : Int} (h1 : op < 1) : false = knownB op := by
  have : ¬ (1 ≤ op ∧ op ≤ 11) := by omega
  simp [knownB, this]
theorem op_cases (op : Int) : op = 1 ∨ op = 2 ∨ op = 3 ∨ op = 4 ∨ op = 5 ∨ op = 6 ∨ op = 7 ∨ op = 8 ∨ op = 9 ∨ op = 10 ∨ op = 11 ∨ (op < 1 ∨ 11 < op) := by omega
/-- a number and whether it is one, as the document's own answer tells it -/
def okF (n : Int) : Int × Bool := if inR n then (n, true) else (0, false)
theorem ok_in {n : Int} (h1 : -9223372036854775808 ≤ n) (h2 : n ≤ 9223372036854775807) : okF n = (n, true) := by
  simp [okF, inR, lo, hi, h1, h2]
theorem ok_out {n : Int} (h : n < -9223372036854775808 ∨ 9223372036854775807 < n) : okF n = (0, false) := by
  have : ¬ (lo ≤ n ∧ n ≤ hi) := by unfold lo hi; omega
  simp [okF, inR, this]
theorem ret2b {k1 : IntKind} {p : Int × Bool} {x : Int} {y : Bool} (h : p = (x, y)) : Ending.returned (.tuple #[.int k1 x, .bool y]) = .returned (.tuple #[.int k1 p.1, .bool p.2]) := by
  rw [h]
end Calc
end Go.Proofs.YtjcanodnlnodpaaGreatDoor
/- What each function of package calc, and the document's own answer, does: contracts of the calls, over the turned program. -/
namespace Go.Proofs.YtjcanodnlnodpaaGreatDoor
open Go.RowKit
set_option linter.unusedVariables false
namespace Calc
end Calc
end Go.Proofs.YtjcanodnlnodpaaGreatDoor
/- What calc.Do, Neg and Known, and the document's own answers to them, tell: contracts of the calls, over the turned program. -/
namespace Go.Proofs.YtjcanodnlnodpaaGreatDoor
open Go.RowKit
set_option linter.unusedVariables false
namespace Calc

set_option maxHeartbeats 400000 in
theorem known_any (op : Int) (w : World) :
    Calls Tryz.prog 162 #[.int .i64 op] w fun e w' => e = .returned (.bool (knownB op)) ∧ w' = w := by
  go_enter Tryz.func162, Tryz.ntmps162
  go_wp2
  all_goals go_ret
  all_goals first | exact ⟨retb (known_t (by omega)), rfl⟩ | exact ⟨retb (known_f (by omega)), rfl⟩

set_option maxHeartbeats 400000 in
theorem rknown_any (op : Int) (w : World) :
    Calls Tryz.prog 155 #[.int .i64 op] w fun e w' => e = .returned (.bool (knownB op)) ∧ w' = w := by
  go_enter Tryz.func155, Tryz.ntmps155
  go_wp2
  all_goals go_ret
  all_goals first | exact ⟨retb (known_t (by omega)), rfl⟩ | exact ⟨retb (known_f (by omega)), rfl⟩

end Calc
end Go.Proofs.YtjcanodnlnodpaaGreatDoor
/- What calc.Sign, Strength and Op, and the document's own answers to them, tell: contracts of the calls, over the turned program. -/
namespace Go.Proofs.YtjcanodnlnodpaaGreatDoor
open Go.RowKit
set_option linter.unusedVariables false
namespace Calc
/-- how an operation is written -/
def signF (op : Int) : ByteArray :=
  if op = 1 then ⟨#[43]⟩ else if op = 2 then ⟨#[45]⟩ else if op = 3 then ⟨#[42]⟩ else if op = 4 then ⟨#[47]⟩ else if op = 5 then ⟨#[37]⟩ else if op = 6 then ⟨#[61, 61]⟩ else if op = 7 then ⟨#[33, 61]⟩ else if op = 8 then ⟨#[60]⟩ else if op = 9 then ⟨#[60, 61]⟩ else if op = 10 then ⟨#[38, 38]⟩ else if op = 11 then ⟨#[124, 124]⟩ else ⟨#[63]⟩
def strengthF (op : Int) : Int :=
  if op = 1 then 4 else if op = 2 then 4 else if op = 3 then 5 else if op = 4 then 5 else if op = 5 then 5 else if op = 6 then 3 else if op = 7 then 3 else if op = 8 then 3 else if op = 9 then 3 else if op = 10 then 2 else if op = 11 then 1 else 0
theorem sign_not {op : Int} (h : op < 1 ∨ 11 < op) : signF op = ⟨#[63]⟩ := by
  unfold signF
  repeat rw [if_neg (by omega)]
theorem strength_not {op : Int} (h : op < 1 ∨ 11 < op) : strengthF op = 0 := by
  unfold strengthF
  repeat rw [if_neg (by omega)]
theorem rets {a b : ByteArray} (h : a = b) : Ending.returned (.string a) = .returned (.string b) := by rw [h]

set_option maxHeartbeats 1000000 in
theorem sign_any (op : Int) (w : World) :
    Calls Tryz.prog 211 #[.int .i64 op] w fun e w' => e = .returned (.string (signF op)) ∧ w' = w := by
  rcases op_cases op with h | h | h | h | h | h | h | h | h | h | h | h
  · subst h
    go_enter Tryz.func211, Tryz.ntmps211
    go_wp2
    go_ret
    exact ⟨rfl, rfl⟩
  · subst h
    go_enter Tryz.func211, Tryz.ntmps211
    go_wp2
    go_ret
    exact ⟨rfl, rfl⟩
  · subst h
    go_enter Tryz.func211, Tryz.ntmps211
    go_wp2
    go_ret
    exact ⟨rfl, rfl⟩
  · subst h
    go_enter Tryz.func211, Tryz.ntmps211
    go_wp2
    go_ret
    exact ⟨rfl, rfl⟩
  · subst h
    go_enter Tryz.func211, Tryz.ntmps211
    go_wp2
    go_ret
    exact ⟨rfl, rfl⟩
  · subst h
    go_enter Tryz.func211, Tryz.ntmps211
    go_wp2
    go_ret
    exact ⟨rfl, rfl⟩
  · subst h
    go_enter Tryz.func211, Tryz.ntmps211
    go_wp2
    go_ret
    exact ⟨rfl, rfl⟩
  · subst h
    go_enter Tryz.func211, Tryz.ntmps211
    go_wp2
    go_ret
    exact ⟨rfl, rfl⟩
  · subst h
    go_enter Tryz.func211, Tryz.ntmps211
    go_wp2
    go_ret
    exact ⟨rfl, rfl⟩
  · subst h
    go_enter Tryz.func211, Tryz.ntmps211
    go_wp2
    go_ret
    exact ⟨rfl, rfl⟩
  · subst h
    go_enter Tryz.func211, Tryz.ntmps211
    go_wp2
    go_ret
    exact ⟨rfl, rfl⟩
  · have N := sign_not h
    have h1 : ¬ op = 1 := by omega
    have h2 : ¬ op = 2 := by omega
    have h3 : ¬ op = 3 := by omega
    have h4 : ¬ op = 4 := by omega
    have h5 : ¬ op = 5 := by omega
    have h6 : ¬ op = 6 := by omega
    have h7 : ¬ op = 7 := by omega
    have h8 : ¬ op = 8 := by omega
    have h9 : ¬ op = 9 := by omega
    have h10 : ¬ op = 10 := by omega
    have h11 : ¬ op = 11 := by omega
    clear h
    have N : Hid (signF op = _) := N
    go_enter Tryz.func211, Tryz.ntmps211
    go_wp2
    go_ret
    exact ⟨by rw [N.out]; rfl, rfl⟩

set_option maxHeartbeats 1000000 in
theorem strength_any (op : Int) (w : World) :
    Calls Tryz.prog 151 #[.int .i64 op] w fun e w' => e = .returned (.int .i64 (strengthF op)) ∧ w' = w := by
  rcases op_cases op with h | h | h | h | h | h | h | h | h | h | h | h
  · subst h
    go_enter Tryz.func151, Tryz.ntmps151
    go_wp2
    go_ret
    exact ⟨rfl, rfl⟩
  · subst h
    go_enter Tryz.func151, Tryz.ntmps151
    go_wp2
    go_ret
    exact ⟨rfl, rfl⟩
  · subst h
    go_enter Tryz.func151, Tryz.ntmps151
    go_wp2
    go_ret
    exact ⟨rfl, rfl⟩
  · subst h
    go_enter Tryz.func151, Tryz.ntmps151
    go_wp2
    go_ret
    exact ⟨rfl, rfl⟩
  · subst h
    go_enter Tryz.func151, Tryz.ntmps151
    go_wp2
    go_ret
    exact ⟨rfl, rfl⟩
  · subst h
    go_enter Tryz.func151, Tryz.ntmps151
    go_wp2
    go_ret
    exact ⟨rfl, rfl⟩
  · subst h
    go_enter Tryz.func151, Tryz.ntmps151
    go_wp2
    go_ret
    exact ⟨rfl, rfl⟩
  · subst h
    go_enter Tryz.func151, Tryz.ntmps151
    go_wp2
    go_ret
    exact ⟨rfl, rfl⟩
  · subst h
    go_enter Tryz.func151, Tryz.ntmps151
    go_wp2
    go_ret
    exact ⟨rfl, rfl⟩
  · subst h
    go_enter Tryz.func151, Tryz.ntmps151
    go_wp2
    go_ret
    exact ⟨rfl, rfl⟩
  · subst h
    go_enter Tryz.func151, Tryz.ntmps151
    go_wp2
    go_ret
    exact ⟨rfl, rfl⟩
  · have N := strength_not h
    have h1 : ¬ op = 1 := by omega
    have h2 : ¬ op = 2 := by omega
    have h3 : ¬ op = 3 := by omega
    have h4 : ¬ op = 4 := by omega
    have h5 : ¬ op = 5 := by omega
    have h6 : ¬ op = 6 := by omega
    have h7 : ¬ op = 7 := by omega
    have h8 : ¬ op = 8 := by omega
    have h9 : ¬ op = 9 := by omega
    have h10 : ¬ op = 10 := by omega
    have h11 : ¬ op = 11 := by omega
    clear h
    have N : Hid (strengthF op = _) := N
    go_enter Tryz.func151, Tryz.ntmps151
    go_wp2
    go_ret
    exact ⟨by rw [N.out]; rfl, rfl⟩

set_option maxHeartbeats 1000000 in
theorem signs_any (w : World) :
    Calls Tryz.prog 154 #[] w fun e w' => e = .returned (.slice (some ⟨w.heap.size, 0, none⟩) 11 11) ∧
      w.alloc (Obj.cells #[Value.string ⟨#[43]⟩, Value.string ⟨#[45]⟩, Value.string ⟨#[42]⟩, Value.string ⟨#[47]⟩, Value.string ⟨#[37]⟩, Value.string ⟨#[61, 61]⟩, Value.string ⟨#[33, 61]⟩, Value.string ⟨#[60]⟩, Value.string ⟨#[60, 61]⟩, Value.string ⟨#[38, 38]⟩, Value.string ⟨#[124, 124]⟩] 9) = w' := by
  go_enter Tryz.func154, Tryz.ntmps154
  go_wp2
  go_ret
  exact ⟨rfl, rfl⟩

set_option maxHeartbeats 1000000 in
theorem rstrength_any (op : Int) (w : World) :
    Calls Tryz.prog 104 #[.int .i64 op] w fun e w' => e = .returned (.int .i64 (strengthF op)) ∧ Below w.heap.size w w' := by
  rcases op_cases op with h | h | h | h | h | h | h | h | h | h | h | h
  · subst h
    have H : Hid (knownB 1 = true) := rfl
    go_enter Tryz.func104, Tryz.ntmps104
    go_wp2_with (go_at_call 155; refine (rknown_any _ _).mono ?_; rintro e w' ⟨rfl, rfl⟩; rw [H.out])
    go_ret
    exact ⟨rfl, (Below.refl _ _).alloc (Nat.le_refl _) _⟩
  · subst h
    have H : Hid (knownB 2 = true) := rfl
    go_enter Tryz.func104, Tryz.ntmps104
    go_wp2_with (go_at_call 155; refine (rknown_any _ _).mono ?_; rintro e w' ⟨rfl, rfl⟩; rw [H.out])
    go_ret
    exact ⟨rfl, (Below.refl _ _).alloc (Nat.le_refl _) _⟩
  · subst h
    have H : Hid (knownB 3 = true) := rfl
    go_enter Tryz.func104, Tryz.ntmps104
    go_wp2_with (go_at_call 155; refine (rknown_any _ _).mono ?_; rintro e w' ⟨rfl, rfl⟩; rw [H.out])
    go_ret
    exact ⟨rfl, (Below.refl _ _).alloc (Nat.le_refl _) _⟩
  · subst h
    have H : Hid (knownB 4 = true) := rfl
    go_enter Tryz.func104, Tryz.ntmps104
    go_wp2_with (go_at_call 155; refine (rknown_any _ _).mono ?_; rintro e w' ⟨rfl, rfl⟩; rw [H.out])
    go_ret
    exact ⟨rfl, (Below.refl _ _).alloc (Nat.le_refl _) _⟩
  · subst h
    have H : Hid (knownB 5 = true) := rfl
    go_enter Tryz.func104, Tryz.ntmps104
    go_wp2_with (go_at_call 155; refine (rknown_any _ _).mono ?_; rintro e w' ⟨rfl, rfl⟩; rw [H.out])
    go_ret
    exact ⟨rfl, (Below.refl _ _).alloc (Nat.le_refl _) _⟩
  · subst h
    have H : Hid (knownB 6 = true) := rfl
    go_enter Tryz.func104, Tryz.ntmps104
    go_wp2_with (go_at_call 155; refine (rknown_any _ _).mono ?_; rintro e w' ⟨rfl, rfl⟩; rw [H.out])
    go_ret
    exact ⟨rfl, (Below.refl _ _).alloc (Nat.le_refl _) _⟩
  · subst h
    have H : Hid (knownB 7 = true) := rfl
    go_enter Tryz.func104, Tryz.ntmps104
    go_wp2_with (go_at_call 155; refine (rknown_any _ _).mono ?_; rintro e w' ⟨rfl, rfl⟩; rw [H.out])
    go_ret
    exact ⟨rfl, (Below.refl _ _).alloc (Nat.le_refl _) _⟩
  · subst h
    have H : Hid (knownB 8 = true) := rfl
    go_enter Tryz.func104, Tryz.ntmps104
    go_wp2_with (go_at_call 155; refine (rknown_any _ _).mono ?_; rintro e w' ⟨rfl, rfl⟩; rw [H.out])
    go_ret
    exact ⟨rfl, (Below.refl _ _).alloc (Nat.le_refl _) _⟩
  · subst h
    have H : Hid (knownB 9 = true) := rfl
    go_enter Tryz.func104, Tryz.ntmps104
    go_wp2_with (go_at_call 155; refine (rknown_any _ _).mono ?_; rintro e w' ⟨rfl, rfl⟩; rw [H.out])
    go_ret
    exact ⟨rfl, (Below.refl _ _).alloc (Nat.le_refl _) _⟩
  · subst h
    have H : Hid (knownB 10 = true) := rfl
    go_enter Tryz.func104, Tryz.ntmps104
    go_wp2_with (go_at_call 155; refine (rknown_any _ _).mono ?_; rintro e w' ⟨rfl, rfl⟩; rw [H.out])
    go_ret
    exact ⟨rfl, (Below.refl _ _).alloc (Nat.le_refl _) _⟩
  · subst h
    have H : Hid (knownB 11 = true) := rfl
    go_enter Tryz.func104, Tryz.ntmps104
    go_wp2_with (go_at_call 155; refine (rknown_any _ _).mono ?_; rintro e w' ⟨rfl, rfl⟩; rw [H.out])
    go_ret
    exact ⟨rfl, (Below.refl _ _).alloc (Nat.le_refl _) _⟩
  · have N := strength_not h
    have H : Hid (knownB op = false) := by unfold knownB; exact decide_eq_false (by omega)
    clear h
    have N : Hid (strengthF op = _) := N
    go_enter Tryz.func104, Tryz.ntmps104
    go_wp2_with (go_at_call 155; refine (rknown_any _ _).mono ?_; rintro e w' ⟨rfl, rfl⟩; rw [H.out])
    go_ret
    exact ⟨by rw [N.out]; rfl, Below.refl _ _⟩
end Calc
end Go.Proofs.YtjcanodnlnodpaaGreatDoor
/- What calc.Op, and the document's own answer to it, tell: contracts of the calls, over the turned program. -/
namespace Go.Proofs.YtjcanodnlnodpaaGreatDoor
open Go.RowKit
set_option linter.unusedVariables false
namespace Calc
/-- is s written as the operation behind i is? -/
def opB (s : ByteArray) (i : Nat) : Bool := (signF (i + 1)).toList == s.toList
/-- the operation that is written s, if there is one -/
def opF (s : ByteArray) : Int × Bool := match (List.range 11).find? (opB s) with | some i => ((i : Int) + 1, true) | none => (0, false)
theorem op_hit {s : ByteArray} {k : Nat} (hk : k < 11) (hno : ∀ j : Nat, j < k → opB s j = false) (h : ((signF (k + 1)).toList == s.toList) = true) : opF s = ((k : Int) + 1, true) := by
  have : (List.range 11).find? (opB s) = some k := by
    rw [List.find?_range_eq_some]
    exact ⟨h, by simpa using hk, fun j hj => by rw [hno j hj]; rfl⟩
  simp only [opF, this]
theorem op_miss {s : ByteArray} {k : Nat} (hk : 11 ≤ k) (hno : ∀ j : Nat, j < k → opB s j = false) : opF s = (0, false) := by
  have : (List.range 11).find? (opB s) = none := by
    rw [List.find?_range_eq_none]
    exact fun j hj => by rw [hno j (by omega)]; rfl
  simp only [opF, this]

set_option maxHeartbeats 1000000 in
theorem op_any (s : ByteArray) (w : World) :
    Calls Tryz.prog 202 #[.string s] w fun e w' => e = .returned (.tuple #[.int .i64 (opF s).1, .bool (opF s).2]) ∧ w' = w := by
  go_enter Tryz.func202, Tryz.ntmps202
  go_wp2
  go_loop [4] (fun o => ∃ k : Nat, k ≤ 11 ∧ o = .int .i64 (k + 1) ∧ Hid (∀ j, j < k → opB s j = false)) (fun o => 12 - (intOf o).toNat)
  case atStart => exact ⟨0, by omega, rfl, fun j h => by omega⟩
  case round =>
    obtain ⟨k, hk, rfl, hno⟩ := hrel
    by_cases hlt : k < 11
    · go_wp2_with (go_at_call 211; refine (sign_any _ _).mono ?_; rintro e w' ⟨rfl, rfl⟩)
      · go_ret2
        exact ⟨ret2b (op_hit hlt hno.out ‹_›), rfl⟩
      · go_round
        case rel => exact ⟨k + 1, by omega, by go_num, fun j hj => if e : j = k then by subst e; assumption else hno.out j (by omega)⟩
        case measure => simp [intOf]; omega
    · go_wp2
      go_ret2
      exact ⟨ret2b (op_miss (by omega) hno.out), rfl⟩

theorem signs_cell (w : World) (k : Nat) (hk : k < 11) : (w.alloc (Obj.cells #[Value.string ⟨#[43]⟩, Value.string ⟨#[45]⟩, Value.string ⟨#[42]⟩, Value.string ⟨#[47]⟩, Value.string ⟨#[37]⟩, Value.string ⟨#[61, 61]⟩, Value.string ⟨#[33, 61]⟩, Value.string ⟨#[60]⟩, Value.string ⟨#[60, 61]⟩, Value.string ⟨#[38, 38]⟩, Value.string ⟨#[124, 124]⟩] 9)).cell? ⟨w.heap.size, k, none⟩ = some (.string (signF (k + 1))) := by
  rcases (by omega : k = 0 ∨ k = 1 ∨ k = 2 ∨ k = 3 ∨ k = 4 ∨ k = 5 ∨ k = 6 ∨ k = 7 ∨ k = 8 ∨ k = 9 ∨ k = 10) with h | h | h | h | h | h | h | h | h | h | h
  all_goals subst h; simp [go_sem]; rfl

set_option maxHeartbeats 1000000 in
theorem rop_any (s : ByteArray) (w : World) :
    Calls Tryz.prog 103 #[.string s] w fun e w' => e = .returned (.tuple #[.int .i64 (opF s).1, .bool (opF s).2]) ∧ Below w.heap.size w w' := by
  go_enter Tryz.func103, Tryz.ntmps103
  go_wp2_with (go_at_call 154; refine (signs_any _).mono ?_; rintro e w' ⟨rfl, rfl⟩)
  go_loop [5] (fun o => ∃ k : Nat, k ≤ 11 ∧ o = .int .i64 k ∧ Hid (∀ j, j < k → opB s j = false)) (fun o => 11 - (intOf o).toNat)
  case atStart => exact ⟨0, by omega, rfl, fun j h => by omega⟩
  case round =>
    obtain ⟨k, hk, rfl, hno⟩ := hrel
    by_cases hlt : k < 11
    · have hc := signs_cell w k hlt
      go_wp2
      · go_ret2
        exact ⟨ret2b (op_hit hlt hno.out ‹_›), (Below.refl _ _).alloc (Nat.le_refl _) _⟩
      · go_round
        case rel => exact ⟨k + 1, by omega, by go_num, fun j hj => if e : j = k then by subst e; assumption else hno.out j (by omega)⟩
        case measure => simp [intOf]; omega
    · go_wp2
      go_ret2
      exact ⟨ret2b (op_miss (by omega) hno.out), (Below.refl _ _).alloc (Nat.le_refl _) _⟩
end Calc
end Go.Proofs.YtjcanodnlnodpaaGreatDoor
