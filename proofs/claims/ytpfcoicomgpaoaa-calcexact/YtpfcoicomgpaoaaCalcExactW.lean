/- CalcExact's walk: the law returns true, where what the operations tell of a and b is as it is said. -/
import Derived.Test.YtpfcoicomgpaoaaFrame
import Derived.Test.YtpfcoicomgpaoaaCalcSmall
import Derived.Deep.Light
import Derived.Deep.Cut
namespace Go.Proofs.Ytpfcoicomgpaoaa.calcExact
open Go.ChangeShapes Go.WideShapes Go.ChangeAt Go.RowKit Go.Proofs.Ytpfcoicomgpaoaa.Calc Go.Proofs.Ytpfcoicomgpaoaa.Frame
set_option linter.unusedVariables false

theorem test_last (a b : Int) : ((bit (a == b) == 1) == (a == b)) = true := by
  cases (a == b) <;> rfl
theorem vb {p : Bool} (h : p = false) : Value.bool p = .bool false := by rw [h]
theorem lt_le (a b : Int) : (doF 8 a b).1 + (doF 9 b a).1 = 1 := by
  rw [do8, do9]
  by_cases h : a < b
  · rw [decide_eq_true h, decide_eq_false (by omega)]; rfl
  · rw [decide_eq_false h, decide_eq_true (by omega)]; rfl

set_option maxRecDepth 100000 in
set_option maxHeartbeats 2000000 in
theorem walk_ok (a b : Int) (w : World) (a1 : -9223372036854775808 ≤ a) (a2 : a ≤ 9223372036854775807) (b1 : -9223372036854775808 ≤ b) (b2 : b ≤ 9223372036854775807)
    (n e q r p g x y : Int)
    (hb0 : (b != 0) = true)
    (hA : Hid (doF 1 a b = (n, e))) (hA' : Hid (e = 0 ∧ doF 2 n b = (a, 0) ∨ e = 6)) (hn : Fits n)
    (hD : Hid (doF 4 a b = (q, 0))) (hR : Hid (doF 5 a b = (r, 0)))
    (hM : Hid (doF 3 a b = (p, g))) (hM' : Hid (g = 0 ∧ doF 4 p b = (a, 0) ∨ g = 6)) (hp : Fits p)
    (hL : Hid (doF 8 a b = (x, 0))) (hG : Hid (doF 9 b a = (y, 0))) (hE : Hid (doF 6 a b = (bit (a == b), 0))) (hxy : Hid (x = 0 ∧ y = 1 ∨ x = 1 ∧ y = 0))
    (hq : (wrap64 (wrap64 (q * b) + r) != a) = false) (hr : Hid (r < 0 ∧ a < 0 ∨ 0 ≤ r ∧ r ≤ 0 ∨ 0 < r ∧ 0 < a)) (hrb : Hid (0 < b ∧ r < b ∧ -b < r ∨ b < 0 ∧ b ≠ -9223372036854775808 ∧ r < -b ∧ b < r ∨ b = -9223372036854775808)) :
    Calls Try.prog 6 #[.int .i64 a, .int .i64 b] w fun e w' => e = .returned (.bool true) ∧ Below w.heap.size w w' := by
  obtain ⟨n1, n2⟩ := hn
  obtain ⟨p1, p2⟩ := hp
  go_enter Try.func6, Try.ntmps6
  go_upto_if 30 with (first
    | (go_at_call 9; refine (small_any _).mono ?_; rintro e w1 ⟨he, hb⟩; subst he)
    | (go_at_call 10; refine (do_any _ _ _ _ (by omega) (by omega) (by omega) (by omega)).mono ?_; rintro e w' ⟨he, hw⟩; subst he; have hw := hw.symm; subst hw; rw [hA.out]))
  go_cut [] from 22 (fun wr => wr = w1)
  case first =>
    rcases hA'.out with ⟨rfl, hS⟩ | rfl
    · have HS : Hid (doF 2 n b = (a, 0)) := hS
      clear hS
      go_wp2_with (go_at_call 10; refine (do_any _ _ _ _ (by omega) (by omega) (by omega) (by omega)).mono ?_; rintro e w' ⟨he, hw⟩; subst he; have hw := hw.symm; subst hw; rw [HS.out])
      go_meet
      case rel => rfl
    · go_wp2
      go_meet
      case rel => rfl
  case rest =>
    subst hcut
    clear hA hA' n1 n2
    go_upto_region 9 with (go_at_call 10; refine (do_any _ _ _ _ (by omega) (by omega) (by omega) (by omega)).mono ?_; rintro e w' ⟨he, hw⟩; subst he; have hw := hw.symm; subst hw; first | rw [hD.out] | rw [hR.out])
    go_cut [113] from 22 (fun t wr => t = .bool false ∧ wr = wc)
    case first =>
      clear hM hM' hL hG hE hxy p1 p2 hD hR
      rcases hr.out with ⟨hr1, hr2⟩ | ⟨hr1, hr2⟩ | ⟨hr1, hr2⟩
      all_goals rcases hrb.out with ⟨hb1, hb2, hb3⟩ | ⟨hb1, hb4, hb2, hb3⟩ | hb4
      all_goals clear hr hrb
      all_goals first
        | (have hbm : (b != -9223372036854775808) = true := bne_iff_ne.2 (by omega))
        | (have hbm : (b != -9223372036854775808) = false := by rw [hb4]; decide
           clear hb4)
      all_goals go_wp2
      all_goals go_meet
      all_goals go_light
      all_goals exact ⟨vb (by first | rfl | (simp; omega)), rfl⟩
    case rest =>
      obtain ⟨rfl, rfl⟩ := hcut
      clear hD hR hq hr hrb
      rcases hM'.out with ⟨rfl, hV⟩ | rfl
      · have HV : Hid (doF 4 p b = (a, 0)) := hV
        clear hV
        rcases hxy.out with ⟨rfl, rfl⟩ | ⟨rfl, rfl⟩
        all_goals
          go_wp2_with (go_at_call 10; refine (do_any _ _ _ _ (by omega) (by omega) (by omega) (by omega)).mono ?_; rintro e w' ⟨he, hw⟩; subst he; have hw := hw.symm; subst hw; first | rw [hM.out] | rw [HV.out] | rw [hL.out] | rw [hG.out] | rw [hE.out])
          go_ret
          exact ⟨retb (test_last a b), hb⟩
      · rcases hxy.out with ⟨rfl, rfl⟩ | ⟨rfl, rfl⟩
        all_goals
          go_wp2_with (go_at_call 10; refine (do_any _ _ _ _ (by omega) (by omega) (by omega) (by omega)).mono ?_; rintro e w' ⟨he, hw⟩; subst he; have hw := hw.symm; subst hw; first | rw [hM.out] | rw [hL.out] | rw [hG.out] | rw [hE.out])
          go_ret
          exact ⟨retb (test_last a b), hb⟩

set_option maxRecDepth 100000 in
set_option maxHeartbeats 2000000 in
theorem walk_err (a b : Int) (w : World) (a1 : -9223372036854775808 ≤ a) (a2 : a ≤ 9223372036854775807) (b1 : -9223372036854775808 ≤ b) (b2 : b ≤ 9223372036854775807)
    (n e t p g x y : Int)
    (hA : Hid (doF 1 a b = (n, e))) (hA' : Hid (e = 0 ∧ doF 2 n b = (a, 0) ∨ e = 6)) (hn : Fits n)
    (hD : Hid (doF 4 a b = (0, t))) (hR : Hid (doF 5 a b = (0, t))) (ht : (t == 0) = false)
    (hM : Hid (doF 3 a b = (p, g))) (hM' : Hid (g = 0 ∧ (b != 0) = false ∨ g = 6)) (hp : Fits p)
    (hL : Hid (doF 8 a b = (x, 0))) (hG : Hid (doF 9 b a = (y, 0))) (hE : Hid (doF 6 a b = (bit (a == b), 0))) (hxy : Hid (x = 0 ∧ y = 1 ∨ x = 1 ∧ y = 0)) :
    Calls Try.prog 6 #[.int .i64 a, .int .i64 b] w fun e w' => e = .returned (.bool true) ∧ Below w.heap.size w w' := by
  obtain ⟨n1, n2⟩ := hn
  obtain ⟨p1, p2⟩ := hp
  go_enter Try.func6, Try.ntmps6
  go_upto_if 30 with (first
    | (go_at_call 9; refine (small_any _).mono ?_; rintro e w1 ⟨he, hb⟩; subst he)
    | (go_at_call 10; refine (do_any _ _ _ _ (by omega) (by omega) (by omega) (by omega)).mono ?_; rintro e w' ⟨he, hw⟩; subst he; have hw := hw.symm; subst hw; rw [hA.out]))
  go_cut [] from 22 (fun wr => wr = w1)
  case first =>
    rcases hA'.out with ⟨rfl, hS⟩ | rfl
    · have HS : Hid (doF 2 n b = (a, 0)) := hS
      clear hS
      go_wp2_with (go_at_call 10; refine (do_any _ _ _ _ (by omega) (by omega) (by omega) (by omega)).mono ?_; rintro e w' ⟨he, hw⟩; subst he; have hw := hw.symm; subst hw; rw [HS.out])
      go_meet
      case rel => rfl
    · go_wp2
      go_meet
      case rel => rfl
  case rest =>
    subst hcut
    clear hA hA' n1 n2
    rcases hxy.out with ⟨rfl, rfl⟩ | ⟨rfl, rfl⟩
    all_goals rcases hM'.out with ⟨rfl, hbz⟩ | rfl
    all_goals
      go_wp2_with (go_at_call 10; refine (do_any _ _ _ _ (by omega) (by omega) (by omega) (by omega)).mono ?_; rintro e w' ⟨he, hw⟩; subst he; have hw := hw.symm; subst hw; first | rw [hD.out] | rw [hR.out] | rw [hM.out] | rw [hL.out] | rw [hG.out] | rw [hE.out])
      go_ret
      exact ⟨retb (test_last a b), hb⟩

end Go.Proofs.Ytpfcoicomgpaoaa.calcExact
