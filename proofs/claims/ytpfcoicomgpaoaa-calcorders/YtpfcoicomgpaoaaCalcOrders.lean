/- CalcOrders holds: for all a, b the law returns true, and leaves its arguments as they were. No condition. -/
import Derived.Test.YtpfcoicomgpaoaaFrame
import Derived.Test.YtpfcoicomgpaoaaCalcSmall
namespace Go.Proofs.Ytpfcoicomgpaoaa.calcOrders
open Go.ChangeShapes Go.WideShapes Go.ChangeAt Go.RowKit Go.Proofs.Ytpfcoicomgpaoaa.Calc
set_option linter.unusedVariables false

theorem lt_y {a b : Int} (h : a < b) : doF 8 a b = (1, 0) := by rw [do8, decide_eq_true h]; rfl
theorem lt_n {a b : Int} (h : ¬ a < b) : doF 8 a b = (0, 0) := by rw [do8, decide_eq_false h]; rfl
theorem le_y {a b : Int} (h : a ≤ b) : doF 9 a b = (1, 0) := by rw [do9, decide_eq_true h]; rfl
theorem le_n {a b : Int} (h : ¬ a ≤ b) : doF 9 a b = (0, 0) := by rw [do9, decide_eq_false h]; rfl
theorem eq_y {a b : Int} (h : a = b) : doF 6 a b = (1, 0) := by rw [do6, beq_iff_eq.2 h]; rfl
theorem eq_n {a b : Int} (h : ¬ a = b) : doF 6 a b = (0, 0) := by rw [do6, beq_eq_false_iff_ne.2 h]; rfl
theorem ne_n {a b : Int} (h : a = b) : doF 7 a b = (0, 0) := by rw [do7, bne, beq_iff_eq.2 h]; rfl
theorem ne_y {a b : Int} (h : ¬ a = b) : doF 7 a b = (1, 0) := by rw [do7, bne, beq_eq_false_iff_ne.2 h]; rfl

set_option maxHeartbeats 1000000 in
theorem walk_at (a0 a1 : Int) (w : World) (l0 : -9223372036854775808 ≤ a0) (u0 : a0 ≤ 9223372036854775807) (l1 : -9223372036854775808 ≤ a1) (u1 : a1 ≤ 9223372036854775807)
    (lt gt le eq ne d j : Int) (H1 : Hid (doF 8 a0 a1 = (lt, 0))) (H2 : Hid (doF 8 a1 a0 = (gt, 0))) (H3 : Hid (doF 9 a0 a1 = (le, 0))) (H4 : Hid (doF 6 a0 a1 = (eq, 0))) (H5 : Hid (doF 7 a0 a1 = (ne, 0))) (H6 : Hid (doF 2 a0 a1 = (d, j)))
    (hh : Hid ((lt = 1 ∧ gt = 0 ∧ le = 1 ∧ eq = 0 ∧ ne = 1 ∧ (j = 6 ∨ j = 0 ∧ d < 0)) ∨ (lt = 0 ∧ gt = 0 ∧ le = 1 ∧ eq = 1 ∧ ne = 0 ∧ (j = 6 ∨ j = 0 ∧ d = 0)) ∨ (lt = 0 ∧ gt = 1 ∧ le = 0 ∧ eq = 0 ∧ ne = 1 ∧ (j = 6 ∨ j = 0 ∧ 0 < d)))) :
    Calls Try.prog 8 #[.int .i64 a0, .int .i64 a1] w fun e w' => e = .returned (.bool true) ∧ Below w.heap.size w w' := by
  rcases hh.out with ⟨rfl, rfl, rfl, rfl, rfl, rfl | ⟨rfl, h⟩⟩ | ⟨rfl, rfl, rfl, rfl, rfl, rfl | ⟨rfl, rfl⟩⟩ | ⟨rfl, rfl, rfl, rfl, rfl, rfl | ⟨rfl, h⟩⟩
  all_goals clear hh
  all_goals
    go_enter Try.func8, Try.ntmps8
    go_wp2_with (first
      | (go_at_call 9; refine (small_any _).mono ?_; rintro e w' ⟨he, hb⟩; subst he)
      | (go_at_call 10; refine (do_any _ _ _ _ (by omega) (by omega) (by omega) (by omega)).mono ?_; rintro e w' ⟨he, hw⟩; subst he; have hw := hw.symm; subst hw; first | rw [H1.out] | rw [H2.out] | rw [H3.out] | rw [H4.out] | rw [H5.out] | rw [H6.out]))
    go_ret
    first | exact ⟨rfl, ‹_›⟩ | exact ⟨retb (by simp; omega), ‹_›⟩

theorem walk (a0 a1 : Int) (w : World) (w0 : (Lit.int .i64 a0).wf = true) (w1 : (Lit.int .i64 a1).wf = true) :
    Calls Try.prog 8 #[.int .i64 a0, .int .i64 a1] w fun e w' => e = .returned (.bool true) ∧ Below w.heap.size w w' := by
  obtain ⟨l0, u0⟩ := bounds_i64 w0
  obtain ⟨l1, u1⟩ := bounds_i64 w1
  have hd : ∃ d j, doF 2 a0 a1 = (d, j) ∧ (j = 6 ∨ j = 0 ∧ d = a0 - a1) := by
    by_cases hin : -9223372036854775808 ≤ a0 - a1 ∧ a0 - a1 ≤ 9223372036854775807
    · exact ⟨_, _, ovf_in hin.1 hin.2, .inr ⟨rfl, rfl⟩⟩
    · exact ⟨_, _, ovf_out (by omega), .inl rfl⟩
  obtain ⟨d, j, h6, hj⟩ := hd
  rcases (by omega : a0 < a1 ∨ a0 = a1 ∨ a1 < a0) with h | h | h
  · exact walk_at a0 a1 w l0 u0 l1 u1 1 0 1 0 1 d j (lt_y h) (lt_n (by omega)) (le_y (by omega)) (eq_n (by omega)) (ne_y (by omega)) h6 (.inl ⟨rfl, rfl, rfl, rfl, rfl, by omega⟩)
  · exact walk_at a0 a1 w l0 u0 l1 u1 0 0 1 1 0 d j (lt_n (by omega)) (lt_n (by omega)) (le_y (by omega)) (eq_y h) (ne_n h) h6 (.inr (.inl ⟨rfl, rfl, rfl, rfl, rfl, by omega⟩))
  · exact walk_at a0 a1 w l0 u0 l1 u1 0 1 0 0 1 d j (lt_n (by omega)) (lt_y h) (le_n (by omega)) (eq_n (by omega)) (ne_y (by omega)) h6 (.inr (.inr ⟨rfl, rfl, rfl, rfl, rfl, by omega⟩))

set_option maxRecDepth 100000 in
theorem lifted (os : Os) (started : os.Started) (H : Type) (enc : TypeId × Value → H) :
    ReturnsInHanded {} Try.checked os 8 .any (Rows.calcOrdersSpec.pre6 enc Try.prog Try.f8 Rows.calcOrdersRow.domain false) (Rows.calcOrdersSpec.post enc Try.prog Try.f8 false true false false) := by
  refine returnsInHanded_of_change (C := Try.checked) Frame.own started (by kernel_rfl) Try.func8
    (ChangeSpec.witness6 (enc := enc) (C := Try.checked) false ⟨#[], #[.int .i64 0, .int .i64 0], []⟩ 8 (by kernel_rfl) (by kernel_rfl) (by kernel_rfl) (by kernel_rfl)) ?_
  intro W base args ds gs before hval0 hW hcnd _
  have hval : ∀ (j : Nat) t v, Try.f8.params[j]? = some t → args[j]? = some v → Value.okWide Try.prog W .any base t v := hval0
  have hW' := hW
  obtain ⟨p, q, hA0, hV, rfl, hfz, hnd⟩ := hW
  have hA : DataW.TrodAll enc Try.prog W 0 (fun _ => true) true Try.f8.params.toList args.toList ds p := hA0
  rw [Try.params8] at hA hval
  obtain ⟨v0, vs0, d0, ds0, p0, q0, hargs, rfl, rfl, h0, r0⟩ := trodAll_cons hA
  obtain ⟨v1, vs1, d1, ds1, p1, q1, rfl, rfl, rfl, h1, r1⟩ := trodAll_cons r0
  obtain ⟨rfl, rfl, rfl⟩ := trodAll_nil r1
  obtain rfl : args = #[v0, v1] := by cases args; simp_all
  obtain ⟨rfl, rfl⟩ := trodVars_none hV
  obtain ⟨a0, rfl, rfl, rfl, w0⟩ := open_int Try.underlying3 (hval 0 3 v0 rfl rfl) h0
  obtain ⟨a1, rfl, rfl, rfl, w1⟩ := open_int Try.underlying3 (hval 1 3 v1 rfl rfl) h1
  clear hA0 hval0
  refine (walk a0 a1 W w0 w1).mono fun e W' ⟨he, bel⟩ => ?_
  subst he
  exact ⟨_, rfl, _, _, _, [], _, [], hW', trodAll_mk1 (shut_bool Try.underlying4 _), (trodAll_cons_mk (shut_int Try.underlying3 w0) (trodAll_cons_mk (shut_int Try.underlying3 w1) trodAll_mk0)), rfl, bel.frame _, fun h => by cases h⟩

theorem over : Rows.calcOrdersRow.holds Try.pinned (OpenSpec.ofChange Rows.calcOrdersSpec) :=
  OpenClaim.holds_of_wide 8 Try.f8 rfl rfl rfl rfl rfl rfl rfl ⟨rfl, rfl, rfl, rfl, rfl⟩ rfl rfl rfl rfl rfl (by kernel_rfl) Try.func8 (by kernel_rfl)
    (of_decide_eq_true (by kernel_rfl)) (by unfold Func.isWrapper; first | (rw [if_pos (by decide +kernel)]; kernel_rfl) | (rw [if_neg (by decide +kernel)]; exact ⟨rfl, rfl⟩))
    (fun os started H enc _ => lifted os started H enc)

theorem proved : Rows.CalcOrdersSaid := over
end Go.Proofs.Ytpfcoicomgpaoaa.calcOrders
