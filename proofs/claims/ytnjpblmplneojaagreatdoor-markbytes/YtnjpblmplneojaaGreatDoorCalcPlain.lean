/- Plain arithmetic for layer 1 (calc): what each operation tells of two numbers, as Lean functions on Int. Nothing of the program is in sight. -/
import Derived.WalkKit
namespace Go.Proofs.YtnjpblmplneojaaGreatDoor
open Go.RowKit
set_option linter.unusedVariables false

namespace Calc
def lo : Int := -9223372036854775808
def hi : Int := 9223372036854775807
/-- an int -/
def inR (n : Int) : Bool := decide (lo ≤ n ∧ n ≤ hi)
/-- n, if it is an int; else ErrOver -/
def ovf (n : Int) : Int × Int := if inR n then (n, 0) else (0, 6)
def addF (a b : Int) : Int × Int := ovf (a + b)
def subF (a b : Int) : Int × Int := ovf (a - b)
def mulF (a b : Int) : Int × Int := ovf (a * b)
def divF (a b : Int) : Int × Int := if b = 0 then (0, 7) else ovf (a.tdiv b)
def remF (a b : Int) : Int × Int := if b = 0 then (0, 7) else if a = lo ∧ b = -1 then (0, 6) else (a.tmod b, 0)
def goesB (a b : Int) : Bool := decide (a = lo ∧ b = -1)
def divisF (a b : Int) : Int := if b = 0 then 7 else if goesB a b then 6 else 0
def bit (p : Bool) : Int := if p then 1 else 0
def doF (op a b : Int) : Int × Int :=
  if op = 1 then addF a b else if op = 2 then subF a b else if op = 3 then mulF a b else if op = 4 then divF a b else if op = 5 then remF a b
  else if op = 6 then (bit (decide (a = b)), 0) else if op = 7 then (bit (decide (a ≠ b)), 0) else if op = 8 then (bit (decide (a < b)), 0) else if op = 9 then (bit (decide (a ≤ b)), 0)
  else if op = 10 then (bit (decide (a ≠ 0 ∧ b ≠ 0)), 0) else if op = 11 then (bit (decide (a ≠ 0 ∨ b ≠ 0)), 0) else (0, 1)

theorem ovf_in {n : Int} (h1 : -9223372036854775808 ≤ n) (h2 : n ≤ 9223372036854775807) : ovf n = (n, 0) := by
  simp [ovf, inR, lo, hi, h1, h2]
theorem ovf_out {n : Int} (h : n < -9223372036854775808 ∨ 9223372036854775807 < n) : ovf n = (0, 6) := by
  have : ¬ (lo ≤ n ∧ n ≤ hi) := by unfold lo hi; omega
  simp [ovf, inR, this]
/-- a pair's two values, as a call tells them -/
theorem ret2 {k1 k2 : IntKind} {p : Int × Int} {x y : Int} (h : p = (x, y)) : Ending.returned (.tuple #[.int k1 x, .int k2 y]) = .returned (.tuple #[.int k1 p.1, .int k2 p.2]) := by
  rw [h]
theorem ret1 {k : IntKind} {a b : Int} (h : a = b) : Ending.returned (.int k a) = .returned (.int k b) := by rw [h]

theorem goes_iff {a b : Int} : goesB a b = true ↔ a = -9223372036854775808 ∧ b = -1 := by unfold goesB lo; exact decide_eq_true_iff
theorem retb {p q : Bool} (h : p = q) : Ending.returned (.bool p) = .returned (.bool q) := by rw [h]
theorem goes_min {a b : Int} (h : a = -9223372036854775808) : (b == -1) = goesB a b := by
  rw [Bool.eq_iff_iff, goes_iff]; simp [h]
theorem goes_not {a b : Int} (h : ¬ a = -9223372036854775808) : false = goesB a b := by
  rw [Bool.eq_iff_iff, goes_iff]; simp [h]
theorem tmod_bd (p b : Int) (hb : b ≠ 0) : (p.tmod b).natAbs < b.natAbs := by
  rw [Int.natAbs_tmod]; exact Nat.mod_lt _ (Int.natAbs_pos.2 hb)
theorem tdiv_range {p b : Int} (hb : b ≠ 0) (h1 : -9223372036854775808 ≤ p) (h2 : p ≤ 9223372036854775807) (h : ¬ (p = -9223372036854775808 ∧ b = -1)) :
    -9223372036854775808 ≤ p.tdiv b ∧ p.tdiv b ≤ 9223372036854775807 := by
  by_cases e1 : b = 1
  · subst e1; rw [Int.tdiv_one]; exact ⟨h1, h2⟩
  by_cases e2 : b = -1
  · subst e2; rw [Int.tdiv_neg, Int.tdiv_one]; omega
  have hq : (p.tdiv b).natAbs = p.natAbs / b.natAbs := Int.natAbs_tdiv p b
  have h3 : p.natAbs / b.natAbs ≤ p.natAbs / 2 := Nat.div_le_div_left (by omega) (by omega)
  omega
theorem mul_ok {a b : Int} (a1 : -9223372036854775808 ≤ a) (a2 : a ≤ 9223372036854775807) (b1 : -9223372036854775808 ≤ b) (b2 : b ≤ 9223372036854775807)
    (hb : b ≠ 0) (hg : ¬ goesB a b = true) (h : (wrap64 ((wrap64 (a * b)).tdiv b) != a) = false) : mulF a b = (wrap64 (a * b), 0) := by
  have h' : wrap64 ((wrap64 (a * b)).tdiv b) = a := by simpa using h
  rw [goes_iff] at hg
  have hr : -9223372036854775808 ≤ wrap64 (a * b) ∧ wrap64 (a * b) ≤ 9223372036854775807 := by unfold wrap64; omega
  have hm : ∃ k : Int, wrap64 (a * b) = a * b + k * 18446744073709551616 := ⟨-((a * b + 9223372036854775808) / 18446744073709551616), by unfold wrap64; omega⟩
  obtain ⟨k, hk⟩ := hm
  generalize hp : wrap64 (a * b) = p at *
  by_cases hx : p = -9223372036854775808 ∧ b = -1
  · obtain ⟨hx1, hx2⟩ := hx
    subst hx2; rw [hx1] at h'
    exact absurd ⟨by rw [← h']; decide +kernel, rfl⟩ hg
  have ht := tdiv_range hb hr.1 hr.2 hx
  rw [Go.IntWalk.wrap64_in _ ht] at h'
  have hd := Int.tmod_add_mul_tdiv p b
  have hl := tmod_bd p b hb
  rw [h'] at hd
  have hc : b * a = a * b := Int.mul_comm b a
  have k0 : k = 0 := by omega
  have hpe : p = a * b := by omega
  show ovf (a * b) = _
  rw [← hpe]
  exact ovf_in hr.1 hr.2
theorem mul_bad {a b : Int} (a1 : -9223372036854775808 ≤ a) (a2 : a ≤ 9223372036854775807)
    (hb : b ≠ 0) (h : (wrap64 ((wrap64 (a * b)).tdiv b) != a) = true) : mulF a b = (0, 6) := by
  refine ovf_out ?_
  by_cases hin : -9223372036854775808 ≤ a * b ∧ a * b ≤ 9223372036854775807
  · rw [Go.IntWalk.wrap64_in _ hin, Int.mul_tdiv_cancel _ hb, Go.IntWalk.wrap64_in _ ⟨a1, a2⟩] at h
    simp at h
  · omega
theorem mul_goes {a b : Int} (h : goesB a b = true) : mulF a b = (0, 6) := by
  rw [goes_iff] at h; obtain ⟨rfl, rfl⟩ := h; exact ovf_out (by omega)
theorem mul_zero' (a : Int) : mulF a 0 = (0, 0) := by simp [mulF, ovf, inR, lo, hi]
theorem divis_0 {a : Int} : divisF a 0 = 7 := by simp [divisF]
theorem divis_6 {a b : Int} (hb : ¬ b = 0) (h : goesB a b = true) : divisF a b = 6 := by simp [divisF, hb, h]
theorem divis_ok {a b : Int} (hb : ¬ b = 0) (h : goesB a b = false) : divisF a b = 0 := by simp [divisF, hb, h]
theorem div_0 (a : Int) : divF a 0 = (0, 7) := by simp [divF]
theorem div_6 {a b : Int} (h : goesB a b = true) : divF a b = (0, 6) := by
  rw [goes_iff] at h; obtain ⟨rfl, rfl⟩ := h
  unfold divF; rw [if_neg (by decide)]
  exact ovf_out (by decide +kernel)
theorem div_ok {a b : Int} (a1 : -9223372036854775808 ≤ a) (a2 : a ≤ 9223372036854775807) (hb : ¬ b = 0) (h : goesB a b = false) : divF a b = (wrap64 (a.tdiv b), 0) := by
  have hn : ¬ (a = -9223372036854775808 ∧ b = -1) := by rw [← goes_iff]; simp [h]
  have ht := tdiv_range hb a1 a2 hn
  rw [Go.IntWalk.wrap64_in _ ht]
  show (if b = 0 then _ else _) = _
  rw [if_neg hb]
  exact ovf_in ht.1 ht.2
theorem rem_0 (a : Int) : remF a 0 = (0, 7) := by simp [remF]
theorem rem_6 {a b : Int} (h : goesB a b = true) : remF a b = (0, 6) := by
  rw [goes_iff] at h; obtain ⟨rfl, rfl⟩ := h; rfl
theorem tmod_range {p b : Int} (h1 : -9223372036854775808 ≤ p) (h2 : p ≤ 9223372036854775807) : -9223372036854775808 ≤ p.tmod b ∧ p.tmod b ≤ 9223372036854775807 := by
  have hq : (p.tmod b).natAbs = p.natAbs % b.natAbs := Int.natAbs_tmod p b
  have h3 : p.natAbs % b.natAbs ≤ p.natAbs := Nat.mod_le _ _
  have h4 : 0 ≤ p → 0 ≤ p.tmod b := fun h => Int.tmod_nonneg b h
  have h5 : p < 0 → 0 ≤ -(p.tmod b) := fun h => by rw [← Int.neg_tmod]; exact Int.tmod_nonneg b (by omega)
  omega
theorem rem_ok {a b : Int} (a1 : -9223372036854775808 ≤ a) (a2 : a ≤ 9223372036854775807) (hb : ¬ b = 0) (h : goesB a b = false) : remF a b = (a.tmod b, 0) := by
  have hn : ¬ (a = lo ∧ b = -1) := by unfold lo; rw [← goes_iff]; simp [h]
  unfold remF
  rw [if_neg hb, if_neg hn]
theorem do1 (a b : Int) : doF 1 a b = addF a b := rfl
theorem do2 (a b : Int) : doF 2 a b = subF a b := rfl
theorem do3 (a b : Int) : doF 3 a b = mulF a b := rfl
theorem do4 (a b : Int) : doF 4 a b = divF a b := rfl
theorem do5 (a b : Int) : doF 5 a b = remF a b := rfl
theorem do6 (a b : Int) : doF 6 a b = (bit (a == b), 0) := by unfold doF; simp [BEq.beq]
theorem do7 (a b : Int) : doF 7 a b = (bit (a != b), 0) := by unfold doF; simp [bne, BEq.beq]
theorem do8 (a b : Int) : doF 8 a b = (bit (decide (a < b)), 0) := rfl
theorem do9 (a b : Int) : doF 9 a b = (bit (decide (a ≤ b)), 0) := rfl
theorem do10t {a b : Int} (h : ¬ a = 0) : doF 10 a b = (bit (b != 0), 0) := by unfold doF; simp [h, bne, BEq.beq]
theorem do10f (b : Int) : doF 10 0 b = (bit false, 0) := by unfold doF; simp
theorem do11t {a : Int} (b : Int) (h : ¬ a = 0) : doF 11 a b = (bit true, 0) := by unfold doF; simp [h]
theorem do11f (b : Int) : doF 11 0 b = (bit (b != 0), 0) := by unfold doF; simp [bne, BEq.beq]
theorem do_not {op : Int} (a b : Int) (h : op < 1 ∨ 11 < op) : doF op a b = (0, 1) := by
  unfold doF
  repeat rw [if_neg (by omega)]
def knownB (op : Int) : Bool := decide (1 ≤ op ∧ op ≤ 11)
theorem known_t {op : Int} (h1 : 1 ≤ op) : decide (op ≤ 11) = knownB op := by simp [knownB, h1]
theorem known_f {op : Int} (h1 : op < 1) : false = knownB op := by
  have : ¬ (1 ≤ op ∧ op ≤ 11) := by omega
  simp [knownB, this]
theorem op_cases (op : Int) : op = 1 ∨ op = 2 ∨ op = 3 ∨ op = 4 ∨ op = 5 ∨ op = 6 ∨ op = 7 ∨ op = 8 ∨ op = 9 ∨ op = 10 ∨ op = 11 ∨ (op < 1 ∨ 11 < op) := by omega
/-- a number and whether it is one, as the document's own answer tells it -/
def okF (n : Int) : Int × Bool := if inR n then (n, true) else (0, false)
theorem ok_in {n : Int} (h1 : -9223372036854775808 ≤ n) (h2 : n ≤ 9223372036854775807) : okF n = (n, true) := by
  simp [okF, inR, lo, hi, h1, h2]
theorem ok_out {n : Int} (h : n < -9223372036854775808 ∨ 9223372036854775807 < n) : okF n = (0, false) := by
  have : ¬ (lo ≤ n ∧ n ≤ hi) := by unfold lo hi; omega
  simp [okF, inR, this]
theorem ret2b {k1 : IntKind} {p : Int × Bool} {x : Int} {y : Bool} (h : p = (x, y)) : Ending.returned (.tuple #[.int k1 x, .bool y]) = .returned (.tuple #[.int k1 p.1, .bool p.2]) := by
  rw [h]
end Calc
end Go.Proofs.YtnjpblmplneojaaGreatDoor
