/- CalcExact holds: for all a, b the law returns true, and leaves its arguments as they were. No condition. -/
import Derived.Test.YtpfcoicomgpaoaaCalcExactW
namespace Go.Proofs.Ytpfcoicomgpaoaa.calcExact
open Go.ChangeShapes Go.WideShapes Go.ChangeAt Go.RowKit Go.Proofs.Ytpfcoicomgpaoaa.Calc Go.Proofs.Ytpfcoicomgpaoaa.Frame
set_option linter.unusedVariables false

theorem add_pair (a b : Int) (a1 : -9223372036854775808 ≤ a) (a2 : a ≤ 9223372036854775807) : ∃ n e, doF 1 a b = (n, e) ∧ (e = 0 ∧ doF 2 n b = (a, 0) ∨ e = 6) ∧ Fits n := by
  by_cases hin : -9223372036854775808 ≤ a + b ∧ a + b ≤ 9223372036854775807
  · refine ⟨_, _, ovf_in hin.1 hin.2, .inl ⟨rfl, ?_⟩, hin⟩
    show ovf (a + b - b) = _
    rw [Int.add_sub_cancel]
    exact ovf_in a1 a2
  · exact ⟨_, _, ovf_out (by omega), .inr rfl, by unfold Fits; decide⟩
theorem order_pair (a b : Int) : ∃ x y, doF 8 a b = (x, 0) ∧ doF 9 b a = (y, 0) ∧ (x = 0 ∧ y = 1 ∨ x = 1 ∧ y = 0) := by
  refine ⟨_, _, do8 a b, do9 b a, ?_⟩
  by_cases h : a < b
  · rw [decide_eq_true h, decide_eq_false (by omega)]; exact .inr ⟨rfl, rfl⟩
  · rw [decide_eq_false h, decide_eq_true (by omega)]; exact .inl ⟨rfl, rfl⟩
theorem mul_pair (a b : Int) (a1 : -9223372036854775808 ≤ a) (a2 : a ≤ 9223372036854775807) (hb : ¬ b = 0) : ∃ p g, doF 3 a b = (p, g) ∧ (g = 0 ∧ doF 4 p b = (a, 0) ∨ g = 6) ∧ Fits p := by
  by_cases hin : -9223372036854775808 ≤ a * b ∧ a * b ≤ 9223372036854775807
  · refine ⟨_, _, ovf_in hin.1 hin.2, .inl ⟨rfl, ?_⟩, hin⟩
    rw [do4]; unfold divF; rw [if_neg hb, Int.mul_tdiv_cancel _ hb]
    exact ovf_in a1 a2
  · exact ⟨_, _, ovf_out (by omega), .inr rfl, by unfold Fits; decide⟩

theorem walk (a0 a1 : Int) (w : World) (w0 : (Lit.int .i64 a0).wf = true) (w1 : (Lit.int .i64 a1).wf = true) :
    Calls Try.prog 6 #[.int .i64 a0, .int .i64 a1] w fun e w' => e = .returned (.bool true) ∧ Below w.heap.size w w' := by
  obtain ⟨l0, u0⟩ := bounds_i64 w0
  obtain ⟨l1, u1⟩ := bounds_i64 w1
  obtain ⟨n, e, hA, hA', hn⟩ := add_pair a0 a1 l0 u0
  obtain ⟨x, y, hL, hG, hxy⟩ := order_pair a0 a1
  by_cases hb : a1 = 0
  · subst hb
    exact walk_err a0 0 w l0 u0 l1 u1 n e 7 0 0 x y hA hA' hn (div_0 a0) (rem_0 a0) (by decide) (mul_zero' a0) (.inl ⟨rfl, by decide⟩) (by unfold Fits; decide) hL hG (do6 a0 0) hxy
  cases hg : goesB a0 a1 with
  | true => exact walk_err a0 a1 w l0 u0 l1 u1 n e 6 0 6 x y hA hA' hn (div_6 hg) (rem_6 hg) (by decide) (mul_goes hg) (.inr rfl) (by unfold Fits; decide) hL hG (do6 a0 a1) hxy
  | false =>
    obtain ⟨p, g, hM, hM', hp⟩ := mul_pair a0 a1 l0 u0 hb
    have hn' : ¬ (a0 = -9223372036854775808 ∧ a1 = -1) := by rw [← goes_iff]; simp [hg]
    have hqr := tdiv_range hb l0 u0 hn'
    have hD : doF 4 a0 a1 = (a0.tdiv a1, 0) := by rw [do4, div_ok l0 u0 hb hg, Go.IntWalk.wrap64_in _ hqr]
    have hmod := tmod_bd a0 a1 hb
    have hid := Int.tmod_add_mul_tdiv a0 a1
    have hs1 : 0 ≤ a0 → 0 ≤ a0.tmod a1 := fun h => Int.tmod_nonneg a1 h
    have hs2 : a0 ≤ 0 → 0 ≤ -(a0.tmod a1) := fun h => by rw [← Int.neg_tmod]; exact Int.tmod_nonneg a1 (by omega)
    have hq : (wrap64 (wrap64 (a0.tdiv a1 * a1) + a0.tmod a1) != a0) = false := by
      rw [Int.mul_comm (a0.tdiv a1) a1]
      have h1 : a1 * a0.tdiv a1 = a0 - a0.tmod a1 := by omega
      rw [h1]
      have : wrap64 (wrap64 (a0 - a0.tmod a1) + a0.tmod a1) = a0 := by unfold wrap64; omega
      rw [this]; simp
    exact walk_ok a0 a1 w l0 u0 l1 u1 n e (a0.tdiv a1) (a0.tmod a1) p g x y (by simpa using hb) hA hA' hn hD (rem_ok l0 u0 hb hg) hM hM' hp hL hG (do6 a0 a1) hxy hq
      (by show _ ∨ _; omega) (by show _ ∨ _; omega)

set_option maxRecDepth 100000 in
theorem lifted (os : Os) (started : os.Started) (H : Type) (enc : TypeId × Value → H) :
    ReturnsInHanded {} Try.checked os 6 .any (Rows.calcExactSpec.pre6 enc Try.prog Try.f6 Rows.calcExactRow.domain false) (Rows.calcExactSpec.post enc Try.prog Try.f6 false true false false) := by
  refine returnsInHanded_of_change (C := Try.checked) Frame.own started (by kernel_rfl) Try.func6
    (ChangeSpec.witness6 (enc := enc) (C := Try.checked) false ⟨#[], #[.int .i64 0, .int .i64 0], []⟩ 8 (by kernel_rfl) (by kernel_rfl) (by kernel_rfl) (by kernel_rfl)) ?_
  intro W base args ds gs before hval0 hW hcnd _
  have hval : ∀ (j : Nat) t v, Try.f6.params[j]? = some t → args[j]? = some v → Value.okWide Try.prog W .any base t v := hval0
  have hW' := hW
  obtain ⟨p, q, hA0, hV, rfl, hfz, hnd⟩ := hW
  have hA : DataW.TrodAll enc Try.prog W 0 (fun _ => true) true Try.f6.params.toList args.toList ds p := hA0
  rw [Try.params6] at hA hval
  obtain ⟨v0, vs0, d0, ds0, p0, q0, hargs, rfl, rfl, h0, r0⟩ := trodAll_cons hA
  obtain ⟨v1, vs1, d1, ds1, p1, q1, rfl, rfl, rfl, h1, r1⟩ := trodAll_cons r0
  obtain ⟨rfl, rfl, rfl⟩ := trodAll_nil r1
  obtain rfl : args = #[v0, v1] := by cases args; simp_all
  obtain ⟨rfl, rfl⟩ := trodVars_none hV
  obtain ⟨a0, rfl, rfl, rfl, w0⟩ := open_int Try.underlying3 (hval 0 3 v0 rfl rfl) h0
  obtain ⟨a1, rfl, rfl, rfl, w1⟩ := open_int Try.underlying3 (hval 1 3 v1 rfl rfl) h1
  clear hA0 hval0
  refine (walk a0 a1 W w0 w1).mono fun e W' ⟨he, bel⟩ => ?_
  subst he
  exact ⟨_, rfl, _, _, _, [], _, [], hW', trodAll_mk1 (shut_bool Try.underlying4 _), (trodAll_cons_mk (shut_int Try.underlying3 w0) (trodAll_cons_mk (shut_int Try.underlying3 w1) trodAll_mk0)), rfl, bel.frame _, fun h => by cases h⟩

theorem over : Rows.calcExactRow.holds Try.pinned (OpenSpec.ofChange Rows.calcExactSpec) :=
  OpenClaim.holds_of_wide 6 Try.f6 rfl rfl rfl rfl rfl rfl rfl ⟨rfl, rfl, rfl, rfl, rfl⟩ rfl rfl rfl rfl rfl (by kernel_rfl) Try.func6 (by kernel_rfl)
    (of_decide_eq_true (by kernel_rfl)) (by unfold Func.isWrapper; first | (rw [if_pos (by decide +kernel)]; kernel_rfl) | (rw [if_neg (by decide +kernel)]; exact ⟨rfl, rfl⟩))
    (fun os started H enc _ => lifted os started H enc)

theorem proved : Rows.CalcExactSaid := over
end Go.Proofs.Ytpfcoicomgpaoaa.calcExact
