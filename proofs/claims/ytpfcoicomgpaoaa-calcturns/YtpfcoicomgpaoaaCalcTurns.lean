/- CalcTurns holds: for all a, b the law returns true, and leaves its arguments as they were. No condition. -/
import Derived.Test.YtpfcoicomgpaoaaFrame
import Derived.Test.YtpfcoicomgpaoaaCalcSmall
namespace Go.Proofs.Ytpfcoicomgpaoaa.calcTurns
open Go.ChangeShapes Go.WideShapes Go.ChangeAt Go.RowKit Go.Proofs.Ytpfcoicomgpaoaa.Calc
set_option linter.unusedVariables false

theorem turned (op a b : Int) (h : op = 1 ∨ op = 3 ∨ op = 6 ∨ op = 7 ∨ op = 10 ∨ op = 11) : doF op b a = doF op a b := by
  rcases h with h | h | h | h | h | h <;> subst h
  · show ovf (b + a) = ovf (a + b); rw [Int.add_comm]
  · show ovf (b * a) = ovf (a * b); rw [Int.mul_comm]
  · by_cases e : a = b
    · rw [e]
    · rw [do6, do6, beq_eq_false_iff_ne.2 e, beq_eq_false_iff_ne.2 (Ne.symm e)]
  · by_cases e : a = b
    · rw [e]
    · rw [do7, do7, bne, bne, beq_eq_false_iff_ne.2 e, beq_eq_false_iff_ne.2 (Ne.symm e)]
  · unfold doF; simp only [show ¬ (10 : Int) = 1 by decide, show ¬ (10 : Int) = 2 by decide, show ¬ (10 : Int) = 3 by decide, show ¬ (10 : Int) = 4 by decide, show ¬ (10 : Int) = 5 by decide, show ¬ (10 : Int) = 6 by decide, show ¬ (10 : Int) = 7 by decide, show ¬ (10 : Int) = 8 by decide, show ¬ (10 : Int) = 9 by decide, if_false, if_true]
    have : (b ≠ 0 ∧ a ≠ 0) = (a ≠ 0 ∧ b ≠ 0) := propext And.comm
    simp only [this]
  · unfold doF; simp only [show ¬ (11 : Int) = 1 by decide, show ¬ (11 : Int) = 2 by decide, show ¬ (11 : Int) = 3 by decide, show ¬ (11 : Int) = 4 by decide, show ¬ (11 : Int) = 5 by decide, show ¬ (11 : Int) = 6 by decide, show ¬ (11 : Int) = 7 by decide, show ¬ (11 : Int) = 8 by decide, show ¬ (11 : Int) = 9 by decide, show ¬ (11 : Int) = 10 by decide, if_false, if_true]
    have : (b ≠ 0 ∨ a ≠ 0) = (a ≠ 0 ∨ b ≠ 0) := propext Or.comm
    simp only [this]

theorem ops_cell (w : World) (k : Nat) (hk : k < 6) : ∃ op : Int, (w.alloc (Obj.cells #[.int .i64 1, .int .i64 3, .int .i64 6, .int .i64 7, .int .i64 10, .int .i64 11] 3)).cell? ⟨w.heap.size, k, none⟩ = some (.int .i64 op) ∧
    (op = 1 ∨ op = 3 ∨ op = 6 ∨ op = 7 ∨ op = 10 ∨ op = 11) := by
  rcases (by omega : k = 0 ∨ k = 1 ∨ k = 2 ∨ k = 3 ∨ k = 4 ∨ k = 5) with h | h | h | h | h | h <;> subst h
  · exact ⟨1, by simp [go_sem], by omega⟩
  · exact ⟨3, by simp [go_sem], by omega⟩
  · exact ⟨6, by simp [go_sem], by omega⟩
  · exact ⟨7, by simp [go_sem], by omega⟩
  · exact ⟨10, by simp [go_sem], by omega⟩
  · exact ⟨11, by simp [go_sem], by omega⟩

set_option maxHeartbeats 1000000 in
theorem walk (a0 a1 : Int) (w : World) (w0 : (Lit.int .i64 a0).wf = true) (w1 : (Lit.int .i64 a1).wf = true) :
    Calls Try.prog 7 #[.int .i64 a0, .int .i64 a1] w fun e w' => e = .returned (.bool true) ∧ Below w.heap.size w w' := by
  obtain ⟨l0, u0⟩ := bounds_i64 w0
  obtain ⟨l1, u1⟩ := bounds_i64 w1
  clear w0 w1
  go_enter Try.func7, Try.ntmps7
  go_wp2_with (go_at_call 9; refine (small_any _).mono ?_; rintro e w1 ⟨he, hb⟩; subst he)
  go_loop [7] (fun i => ∃ k : Nat, k ≤ 6 ∧ i = .int .i64 k) (fun i => 6 - (intOf i).toNat)
  case atStart => exact ⟨0, by omega, rfl⟩
  case round =>
    obtain ⟨k, hk, rfl⟩ := hrel
    by_cases hlt : k < 6
    · obtain ⟨op, hc, hop⟩ := ops_cell w1 k hlt
      have T : Hid (doF op a1 a0 = doF op a0 a1) := turned op a0 a1 hop
      clear hop
      go_wp2_with (go_at_call 10; refine (do_any _ _ _ _ (by omega) (by omega) (by omega) (by omega)).mono ?_; rintro e w' ⟨he, hw⟩; subst he; have hw := hw.symm; subst hw; first | rw [T.out] | skip)
      go_round
      case rel => exact ⟨k + 1, by omega, by go_num⟩
      case measure => simp [intOf]; omega
    · by_cases hm : a1 = -9223372036854775808
      · subst hm
        have N : Hid (doF 2 0 (-9223372036854775808) = (0, 6)) := s6
        go_wp2_with (go_at_call 12; refine (neg_any _ _ (by omega) (by omega)).mono ?_; rintro e w' ⟨he, hw⟩; subst he; have hw := hw.symm; subst hw; rw [N.out])
        go_ret
        exact ⟨rfl, hb.alloc hb.size _⟩
      · have N : Hid (doF 2 0 a1 = (-a1, 0)) := by
          have : doF 2 0 a1 = ovf (0 - a1) := rfl
          rw [Int.zero_sub] at this
          exact this.trans (ovf_in (by omega) (by omega))
        have T : Hid (doF 1 a0 (-a1) = doF 2 a0 a1) := by
          show ovf (a0 + -a1) = ovf (a0 - a1)
          rw [Int.sub_eq_add_neg]
        go_wp2_with (first
          | (go_at_call 12; refine (neg_any _ _ (by omega) (by omega)).mono ?_; rintro e w' ⟨he, hw⟩; subst he; have hw := hw.symm; subst hw; rw [N.out])
          | (go_at_call 10; refine (do_any _ _ _ _ (by omega) (by omega) (by omega) (by omega)).mono ?_; rintro e w' ⟨he, hw⟩; subst he; have hw := hw.symm; subst hw; first | rw [T.out] | skip))
        go_ret
        exact ⟨rfl, hb.alloc hb.size _⟩

set_option maxRecDepth 100000 in
theorem lifted (os : Os) (started : os.Started) (H : Type) (enc : TypeId × Value → H) :
    ReturnsInHanded {} Try.checked os 7 .any (Rows.calcTurnsSpec.pre6 enc Try.prog Try.f7 Rows.calcTurnsRow.domain false) (Rows.calcTurnsSpec.post enc Try.prog Try.f7 false true false false) := by
  refine returnsInHanded_of_change (C := Try.checked) Frame.own started (by kernel_rfl) Try.func7
    (ChangeSpec.witness6 (enc := enc) (C := Try.checked) false ⟨#[], #[.int .i64 0, .int .i64 0], []⟩ 8 (by kernel_rfl) (by kernel_rfl) (by kernel_rfl) (by kernel_rfl)) ?_
  intro W base args ds gs before hval0 hW hcnd _
  have hval : ∀ (j : Nat) t v, Try.f7.params[j]? = some t → args[j]? = some v → Value.okWide Try.prog W .any base t v := hval0
  have hW' := hW
  obtain ⟨p, q, hA0, hV, rfl, hfz, hnd⟩ := hW
  have hA : DataW.TrodAll enc Try.prog W 0 (fun _ => true) true Try.f7.params.toList args.toList ds p := hA0
  rw [Try.params7] at hA hval
  obtain ⟨v0, vs0, d0, ds0, p0, q0, hargs, rfl, rfl, h0, r0⟩ := trodAll_cons hA
  obtain ⟨v1, vs1, d1, ds1, p1, q1, rfl, rfl, rfl, h1, r1⟩ := trodAll_cons r0
  obtain ⟨rfl, rfl, rfl⟩ := trodAll_nil r1
  obtain rfl : args = #[v0, v1] := by cases args; simp_all
  obtain ⟨rfl, rfl⟩ := trodVars_none hV
  obtain ⟨a0, rfl, rfl, rfl, w0⟩ := open_int Try.underlying3 (hval 0 3 v0 rfl rfl) h0
  obtain ⟨a1, rfl, rfl, rfl, w1⟩ := open_int Try.underlying3 (hval 1 3 v1 rfl rfl) h1
  clear hA0 hval0
  refine (walk a0 a1 W w0 w1).mono fun e W' ⟨he, bel⟩ => ?_
  subst he
  exact ⟨_, rfl, _, _, _, [], _, [], hW', trodAll_mk1 (shut_bool Try.underlying4 _), (trodAll_cons_mk (shut_int Try.underlying3 w0) (trodAll_cons_mk (shut_int Try.underlying3 w1) trodAll_mk0)), rfl, bel.frame _, fun h => by cases h⟩

theorem over : Rows.calcTurnsRow.holds Try.pinned (OpenSpec.ofChange Rows.calcTurnsSpec) :=
  OpenClaim.holds_of_wide 7 Try.f7 rfl rfl rfl rfl rfl rfl rfl ⟨rfl, rfl, rfl, rfl, rfl⟩ rfl rfl rfl rfl rfl (by kernel_rfl) Try.func7 (by kernel_rfl)
    (of_decide_eq_true (by kernel_rfl)) (by unfold Func.isWrapper; first | (rw [if_pos (by decide +kernel)]; kernel_rfl) | (rw [if_neg (by decide +kernel)]; exact ⟨rfl, rfl⟩))
    (fun os started H enc _ => lifted os started H enc)

theorem proved : Rows.CalcTurnsSaid := over
end Go.Proofs.Ytpfcoicomgpaoaa.calcTurns
