/- BagBack holds: for all bags a, b the law returns true, and leaves its arguments as they were. No condition. -/
import Derived.Test.YtoinepmlbcnbgaaBagSmall
import Derived.Test.YtoinepmlbcnbgaaBagLaws
import Derived.Test.YtoinepmlbcnbgaaBagOpen
namespace Go.Proofs.Ytoinepmlbcnbgaa.bagBack
open Go.ChangeShapes Go.WideShapes Go.ChangeAt Go.RowKit Go.Proofs.Ytoinepmlbcnbgaa.Frame Go.Proofs.Ytoinepmlbcnbgaa.Bag
set_option linter.unusedVariables false

set_option maxHeartbeats 4000000 in
set_option maxRecDepth 100000 in
theorem walk (a0 : Option Addr) (len0 cap0 : Nat) (xs : List Row) (a1 : Option Addr) (len1 cap1 : Nat) (ys : List Row) (w : World) (g0 : Bags w a0 len0 xs) (g1 : Bags w a1 len1 ys) :
    Calls Try.prog 5 #[.slice a0 len0 cap0, .slice a1 len1 cap1] w fun e w' => e = .returned (.bool true) ∧ Below w.heap.size w w' := by
  have hA : Hid (Bags w a0 len0 xs) := g0
  have hB : Hid (Bags w a1 len1 ys) := g1
  clear g0 g1
  by_cases l0 : 60 < len0
  · have l0' : (60 : Int) < len0 := by omega
    go_enter Try.func5, Try.ntmps5
    go_wp2_with fail
    refine (small_any _).mono ?_
    rintro e w1 ⟨he, hb⟩
    subst he
    have B1 : Hid (Below w.heap.size w w1) := (hb)
    have hA : Hid (Bags w1 _ _ _) := hA.out.below (hb)
    have hB : Hid (Bags w1 _ _ _) := hB.out.below (hb)
    clear hb
    go_wp2
    go_ret
    exact ⟨rfl, B1.out⟩
  have l0' : ¬ (60 : Int) < len0 := by omega
  by_cases l1 : 60 < len1
  · have l1' : (60 : Int) < len1 := by omega
    go_enter Try.func5, Try.ntmps5
    go_wp2_with fail
    refine (small_any _).mono ?_
    rintro e w1 ⟨he, hb⟩
    subst he
    have B1 : Hid (Below w.heap.size w w1) := (hb)
    have hA : Hid (Bags w1 _ _ _) := hA.out.below (hb)
    have hB : Hid (Bags w1 _ _ _) := hB.out.below (hb)
    clear hb
    go_wp2
    go_ret
    exact ⟨rfl, B1.out⟩
  have l1' : ¬ (60 : Int) < len1 := by omega
  cases hr0 : rightB xs with
  | false =>
    have R0 : Hid (rightB xs = false) := hr0
    clear hr0
    go_enter Try.func5, Try.ntmps5
    go_wp2_with fail
    refine (small_any _).mono ?_
    rintro e w1 ⟨he, hb⟩
    subst he
    have B1 : Hid (Below w.heap.size w w1) := (hb)
    have hA : Hid (Bags w1 _ _ _) := hA.out.below (hb)
    have hB : Hid (Bags w1 _ _ _) := hB.out.below (hb)
    clear hb
    go_wp2_with fail
    refine (right_any _ _ _ xs _ hA.out (by omega)).mono ?_
    rintro e w2 ⟨he, hb⟩
    subst he
    rw [R0.out]
    have B2 : Hid (Below w.heap.size w w2) := then_ B1.out (hb)
    have hA : Hid (Bags w2 _ _ _) := hA.out.below (hb)
    have hB : Hid (Bags w2 _ _ _) := hB.out.below (hb)
    clear hb
    clear B1
    go_wp2
    go_ret
    exact ⟨rfl, B2.out⟩
  | true =>
  have R0 : Hid (rightB xs = true) := hr0
  have X : Hid (RightP xs) := rightB_iff.1 hr0
  clear hr0
  cases hr1 : rightB ys with
  | false =>
    have R1 : Hid (rightB ys = false) := hr1
    clear hr1
    go_enter Try.func5, Try.ntmps5
    go_wp2_with fail
    refine (small_any _).mono ?_
    rintro e w1 ⟨he, hb⟩
    subst he
    have B1 : Hid (Below w.heap.size w w1) := (hb)
    have hA : Hid (Bags w1 _ _ _) := hA.out.below (hb)
    have hB : Hid (Bags w1 _ _ _) := hB.out.below (hb)
    clear hb
    go_wp2_with fail
    refine (right_any _ _ _ xs _ hA.out (by omega)).mono ?_
    rintro e w2 ⟨he, hb⟩
    subst he
    rw [R0.out]
    have B2 : Hid (Below w.heap.size w w2) := then_ B1.out (hb)
    have hA : Hid (Bags w2 _ _ _) := hA.out.below (hb)
    have hB : Hid (Bags w2 _ _ _) := hB.out.below (hb)
    clear hb
    clear B1
    go_wp2_with fail
    refine (right_any _ _ _ ys _ hB.out (by omega)).mono ?_
    rintro e w3 ⟨he, hb⟩
    subst he
    rw [R1.out]
    have B3 : Hid (Below w.heap.size w w3) := then_ B2.out (hb)
    have hA : Hid (Bags w3 _ _ _) := hA.out.below (hb)
    have hB : Hid (Bags w3 _ _ _) := hB.out.below (hb)
    clear hb
    clear B2
    go_wp2
    go_ret
    exact ⟨rfl, B3.out⟩
  | true =>
  have R1 : Hid (rightB ys = true) := hr1
  have Y : Hid (RightP ys) := rightB_iff.1 hr1
  clear hr1
  cases hf : fitsB xs ys with
  | false =>
    have F0 : Hid (fitsB xs ys = false) := hf
    have F1 : Hid (fitsB ys xs = false) := (show fitsB ys xs = false by rw [fits_turn Y.out X.out]; exact hf)
    clear hf
    go_enter Try.func5, Try.ntmps5
    go_wp2_with fail
    refine (small_any _).mono ?_
    rintro e w1 ⟨he, hb⟩
    subst he
    have B1 : Hid (Below w.heap.size w w1) := (hb)
    have hA : Hid (Bags w1 _ _ _) := hA.out.below (hb)
    have hB : Hid (Bags w1 _ _ _) := hB.out.below (hb)
    clear hb
    go_wp2_with fail
    refine (right_any _ _ _ xs _ hA.out (by omega)).mono ?_
    rintro e w2 ⟨he, hb⟩
    subst he
    rw [R0.out]
    have B2 : Hid (Below w.heap.size w w2) := then_ B1.out (hb)
    have hA : Hid (Bags w2 _ _ _) := hA.out.below (hb)
    have hB : Hid (Bags w2 _ _ _) := hB.out.below (hb)
    clear hb
    clear B1
    go_wp2_with fail
    refine (right_any _ _ _ ys _ hB.out (by omega)).mono ?_
    rintro e w3 ⟨he, hb⟩
    subst he
    rw [R1.out]
    have B3 : Hid (Below w.heap.size w w3) := then_ B2.out (hb)
    have hA : Hid (Bags w3 _ _ _) := hA.out.below (hb)
    have hB : Hid (Bags w3 _ _ _) := hB.out.below (hb)
    clear hb
    clear B2
    go_wp2_with fail
    refine (sum_full _ _ _ _ _ _ xs ys _ hA.out hB.out (by omega) (by omega) X.out Y.out F0.out).mono ?_
    rintro e w4 ⟨he, hb⟩
    subst he
    have B4 : Hid (Below w.heap.size w w4) := then_ B3.out (hb)
    have hA : Hid (Bags w4 _ _ _) := hA.out.below (hb)
    have hB : Hid (Bags w4 _ _ _) := hB.out.below (hb)
    clear hb
    clear B3
    go_wp2_with fail
    refine (sum_full _ _ _ _ _ _ ys xs _ hB.out hA.out (by omega) (by omega) Y.out X.out F1.out).mono ?_
    rintro e w5 ⟨he, hb⟩
    subst he
    have B5 : Hid (Below w.heap.size w w5) := then_ B4.out (hb)
    have hA : Hid (Bags w5 _ _ _) := hA.out.below (hb)
    have hB : Hid (Bags w5 _ _ _) := hB.out.below (hb)
    clear hb
    clear B4
    go_wp2
    go_ret
    exact ⟨rfl, B5.out⟩
  | true =>
    have F0 : Hid (fitsB xs ys = true) := hf
    have F1 : Hid (fitsB ys xs = true) := (show fitsB ys xs = true by rw [fits_turn Y.out X.out]; exact hf)
    clear hf
    go_enter Try.func5, Try.ntmps5
    go_wp2_with fail
    refine (small_any _).mono ?_
    rintro e w1 ⟨he, hb⟩
    subst he
    have B1 : Hid (Below w.heap.size w w1) := (hb)
    have hA : Hid (Bags w1 _ _ _) := hA.out.below (hb)
    have hB : Hid (Bags w1 _ _ _) := hB.out.below (hb)
    clear hb
    go_wp2_with fail
    refine (right_any _ _ _ xs _ hA.out (by omega)).mono ?_
    rintro e w2 ⟨he, hb⟩
    subst he
    rw [R0.out]
    have B2 : Hid (Below w.heap.size w w2) := then_ B1.out (hb)
    have hA : Hid (Bags w2 _ _ _) := hA.out.below (hb)
    have hB : Hid (Bags w2 _ _ _) := hB.out.below (hb)
    clear hb
    clear B1
    go_wp2_with fail
    refine (right_any _ _ _ ys _ hB.out (by omega)).mono ?_
    rintro e w3 ⟨he, hb⟩
    subst he
    rw [R1.out]
    have B3 : Hid (Below w.heap.size w w3) := then_ B2.out (hb)
    have hA : Hid (Bags w3 _ _ _) := hA.out.below (hb)
    have hB : Hid (Bags w3 _ _ _) := hB.out.below (hb)
    clear hb
    clear B2
    go_wp2_with fail
    refine (sum_ok _ _ _ _ _ _ xs ys _ hA.out hB.out (by omega) (by omega) X.out Y.out F0.out).mono ?_
    rintro e w4 ⟨a2, len2, cap2, ss, he, q2, hb⟩
    subst he
    have hS : Hid (Bags _ _ _ _) := q2.out.2
    have S : Hid (Has (sumC xs ys) ss) := q2.out.1.1
    have l2 := q2.out.1.2
    clear q2
    have B4 : Hid (Below w.heap.size w w4) := then_ B3.out (hb)
    have hA : Hid (Bags w4 _ _ _) := hA.out.below (hb)
    have hB : Hid (Bags w4 _ _ _) := hB.out.below (hb)
    clear hb
    clear B3
    go_wp2_with fail
    refine (sum_ok _ _ _ _ _ _ ys xs _ hB.out hA.out (by omega) (by omega) Y.out X.out F1.out).mono ?_
    rintro e w5 ⟨a3, len3, cap3, ts, he, q3, hb⟩
    subst he
    have hT : Hid (Bags _ _ _ _) := q3.out.2
    have T : Hid (Has (sumC ys xs) ts) := q3.out.1.1
    have l3 := q3.out.1.2
    clear q3
    have B5 : Hid (Below w.heap.size w w5) := then_ B4.out (hb)
    have hA : Hid (Bags w5 _ _ _) := hA.out.below (hb)
    have hB : Hid (Bags w5 _ _ _) := hB.out.below (hb)
    have hS : Hid (Bags w5 _ _ _) := hS.out.below (hb)
    clear hb
    clear B4
    go_wp2_with fail
    refine (same_any _ _ _ _ _ _ ss ts _ hS.out hT.out (by omega) (by omega)).mono ?_
    rintro e w6 ⟨he, hb⟩
    subst he
    rw [same_of S.out (T.out.of (fun m => sum_turn _ _ m))]
    have B6 : Hid (Below w.heap.size w w6) := then_ B5.out (hb)
    have hA : Hid (Bags w6 _ _ _) := hA.out.below (hb)
    have hB : Hid (Bags w6 _ _ _) := hB.out.below (hb)
    have hS : Hid (Bags w6 _ _ _) := hS.out.below (hb)
    have hT : Hid (Bags w6 _ _ _) := hT.out.below (hb)
    clear hb
    clear B5
    go_wp2_with fail
    refine (less_ok _ _ _ _ _ _ ss ys _ hS.out hB.out (by omega) (by omega) S.out.1 Y.out (sum_covers X.out Y.out S.out).2).mono ?_
    rintro e w7 ⟨a4, len4, cap4, ls, he, q4, hb⟩
    subst he
    have hD : Hid (Bags _ _ _ _) := q4.out.2
    have D : Hid (Has (lessC ss ys) ls) := q4.out.1.1
    have l4 := q4.out.1.2
    clear q4
    have B7 : Hid (Below w.heap.size w w7) := then_ B6.out (hb)
    have hA : Hid (Bags w7 _ _ _) := hA.out.below (hb)
    have hB : Hid (Bags w7 _ _ _) := hB.out.below (hb)
    have hS : Hid (Bags w7 _ _ _) := hS.out.below (hb)
    have hT : Hid (Bags w7 _ _ _) := hT.out.below (hb)
    clear hb
    clear B6
    go_wp2_with fail
    refine (less_ok _ _ _ _ _ _ ss xs _ hS.out hA.out (by omega) (by omega) S.out.1 X.out (sum_covers X.out Y.out S.out).1).mono ?_
    rintro e w8 ⟨a5, len5, cap5, ks, he, q5, hb⟩
    subst he
    have hE : Hid (Bags _ _ _ _) := q5.out.2
    have E : Hid (Has (lessC ss xs) ks) := q5.out.1.1
    have l5 := q5.out.1.2
    clear q5
    have B8 : Hid (Below w.heap.size w w8) := then_ B7.out (hb)
    have hA : Hid (Bags w8 _ _ _) := hA.out.below (hb)
    have hB : Hid (Bags w8 _ _ _) := hB.out.below (hb)
    have hS : Hid (Bags w8 _ _ _) := hS.out.below (hb)
    have hT : Hid (Bags w8 _ _ _) := hT.out.below (hb)
    have hD : Hid (Bags w8 _ _ _) := hD.out.below (hb)
    clear hb
    clear B7
    go_wp2_with fail
    refine (same_any _ _ _ _ _ _ ls xs _ hD.out hA.out (by omega) (by omega)).mono ?_
    rintro e w9 ⟨he, hb⟩
    subst he
    rw [same_of (D.out.of (fun m => less_sum_r S.out m)) (Has.self X.out)]
    have B9 : Hid (Below w.heap.size w w9) := then_ B8.out (hb)
    have hA : Hid (Bags w9 _ _ _) := hA.out.below (hb)
    have hB : Hid (Bags w9 _ _ _) := hB.out.below (hb)
    have hS : Hid (Bags w9 _ _ _) := hS.out.below (hb)
    have hT : Hid (Bags w9 _ _ _) := hT.out.below (hb)
    have hD : Hid (Bags w9 _ _ _) := hD.out.below (hb)
    have hE : Hid (Bags w9 _ _ _) := hE.out.below (hb)
    clear hb
    clear B8
    go_wp2_with fail
    refine (same_any _ _ _ _ _ _ ks ys _ hE.out hB.out (by omega) (by omega)).mono ?_
    rintro e w10 ⟨he, hb⟩
    subst he
    rw [same_of (E.out.of (fun m => less_sum_l S.out m)) (Has.self Y.out)]
    have B10 : Hid (Below w.heap.size w w10) := then_ B9.out (hb)
    have hA : Hid (Bags w10 _ _ _) := hA.out.below (hb)
    have hB : Hid (Bags w10 _ _ _) := hB.out.below (hb)
    have hS : Hid (Bags w10 _ _ _) := hS.out.below (hb)
    have hT : Hid (Bags w10 _ _ _) := hT.out.below (hb)
    have hD : Hid (Bags w10 _ _ _) := hD.out.below (hb)
    have hE : Hid (Bags w10 _ _ _) := hE.out.below (hb)
    clear hb
    clear B9
    go_wp2_with fail
    refine (right_any _ _ _ ss _ hS.out (by omega)).mono ?_
    rintro e w11 ⟨he, hb⟩
    subst he
    rw [rightB_iff.2 S.out.1]
    have B11 : Hid (Below w.heap.size w w11) := then_ B10.out (hb)
    have hA : Hid (Bags w11 _ _ _) := hA.out.below (hb)
    have hB : Hid (Bags w11 _ _ _) := hB.out.below (hb)
    have hS : Hid (Bags w11 _ _ _) := hS.out.below (hb)
    have hT : Hid (Bags w11 _ _ _) := hT.out.below (hb)
    have hD : Hid (Bags w11 _ _ _) := hD.out.below (hb)
    have hE : Hid (Bags w11 _ _ _) := hE.out.below (hb)
    clear hb
    clear B10
    go_wp2_with fail
    refine (Total_any _ _ _ ss _ hS.out (by omega)).mono ?_
    rintro e w12 ⟨he, hb⟩
    subst he
    rw [totalB_right S.out.1, totF_sum X.out Y.out S.out]
    have B12 : Hid (Below w.heap.size w w12) := then_ B11.out (hb)
    have hA : Hid (Bags w12 _ _ _) := hA.out.below (hb)
    have hB : Hid (Bags w12 _ _ _) := hB.out.below (hb)
    have hS : Hid (Bags w12 _ _ _) := hS.out.below (hb)
    have hT : Hid (Bags w12 _ _ _) := hT.out.below (hb)
    have hD : Hid (Bags w12 _ _ _) := hD.out.below (hb)
    have hE : Hid (Bags w12 _ _ _) := hE.out.below (hb)
    clear hb
    clear B11
    go_wp2_with fail
    refine (Total_any _ _ _ xs _ hA.out (by omega)).mono ?_
    rintro e w13 ⟨he, hb⟩
    subst he
    rw [totalB_right X.out]
    have B13 : Hid (Below w.heap.size w w13) := then_ B12.out (hb)
    have hA : Hid (Bags w13 _ _ _) := hA.out.below (hb)
    have hB : Hid (Bags w13 _ _ _) := hB.out.below (hb)
    have hS : Hid (Bags w13 _ _ _) := hS.out.below (hb)
    have hT : Hid (Bags w13 _ _ _) := hT.out.below (hb)
    have hD : Hid (Bags w13 _ _ _) := hD.out.below (hb)
    have hE : Hid (Bags w13 _ _ _) := hE.out.below (hb)
    clear hb
    clear B12
    go_wp2_with fail
    refine (Total_any _ _ _ ys _ hB.out (by omega)).mono ?_
    rintro e w14 ⟨he, hb⟩
    subst he
    rw [totalB_right Y.out]
    have tx := totF_nonneg X.out
    have ty := totF_nonneg Y.out
    rw [hA.out.1.1] at tx
    rw [hB.out.1.1] at ty
    generalize totF xs = tX at *
    generalize totF ys = tY at *
    have tx2 : tX ≤ 100000000 := by omega
    have ty2 : tY ≤ 100000000 := by omega
    have B14 : Hid (Below w.heap.size w w14) := then_ B13.out (hb)
    have hA : Hid (Bags w14 _ _ _) := hA.out.below (hb)
    have hB : Hid (Bags w14 _ _ _) := hB.out.below (hb)
    have hS : Hid (Bags w14 _ _ _) := hS.out.below (hb)
    have hT : Hid (Bags w14 _ _ _) := hT.out.below (hb)
    have hD : Hid (Bags w14 _ _ _) := hD.out.below (hb)
    have hE : Hid (Bags w14 _ _ _) := hE.out.below (hb)
    clear hb
    clear B13
    go_wp2
    go_ret
    exact ⟨rfl, B14.out⟩

set_option maxRecDepth 100000 in
theorem lifted (os : Os) (started : os.Started) (H : Type) (enc : TypeId × Value → H) :
    ReturnsInHanded {} Try.checked os 5 .any (Rows.bagBackSpec.pre6 enc Try.prog Try.f5 Rows.bagBackRow.domain false) (Rows.bagBackSpec.post enc Try.prog Try.f5 false true false false) := by
  refine returnsInHanded_of_change (C := Try.checked) Frame.own started (by kernel_rfl) Try.func5
    (ChangeSpec.witness6 (enc := enc) (C := Try.checked) false ⟨#[], #[.slice none 0 0, .slice none 0 0], []⟩ 8 (by kernel_rfl) (by kernel_rfl) (by kernel_rfl) (by kernel_rfl)) ?_
  intro W base args ds gs before hval0 hW hcnd _
  have hval : ∀ (j : Nat) t v, Try.f5.params[j]? = some t → args[j]? = some v → Value.okWide Try.prog W .any base t v := hval0
  have hW' := hW
  obtain ⟨p, q, hA0, hV, rfl, hfz, hnd⟩ := hW
  have hA : DataW.TrodAll enc Try.prog W 0 (fun _ => true) true Try.f5.params.toList args.toList ds p := hA0
  rw [Try.params5] at hA hval
  obtain ⟨v0, vs0, d0, ds0, p0, q0, hargs, rfl, rfl, h0, r0⟩ := trodAll_cons hA
  obtain ⟨v1, vs1, d1, ds1, p1, q1, rfl, rfl, rfl, h1, r1⟩ := trodAll_cons r0
  obtain ⟨rfl, rfl, rfl⟩ := trodAll_nil r1
  obtain rfl : args = #[v0, v1] := by cases args; simp_all
  obtain ⟨rfl, rfl⟩ := trodVars_none hV
  obtain ⟨a0, len0, cap0, rfl⟩ := okWide_slice Try.underlying23 (hval 0 23 v0 rfl rfl)
  have k0 := h0
  have lt0 : ∀ x ∈ p0, x.block < W.heap.size := by obtain ⟨m, hm⟩ := k0; exact DataW.trod_lt m _ _ _ hm
  obtain ⟨fu0, hf0⟩ := h0
  obtain ⟨z0, w0⟩ := Bag.open_bags hf0
  obtain ⟨a1, len1, cap1, rfl⟩ := okWide_slice Try.underlying23 (hval 1 23 v1 rfl rfl)
  have k1 := h1
  have lt1 : ∀ x ∈ p1, x.block < W.heap.size := by obtain ⟨m, hm⟩ := k1; exact DataW.trod_lt m _ _ _ hm
  obtain ⟨fu1, hf1⟩ := h1
  obtain ⟨z1, w1⟩ := Bag.open_bags hf1
  clear hA0 hval0
  refine (walk a0 len0 cap0 z0 a1 len1 cap1 z1 W w0 w1).mono fun e W' ⟨he, bel⟩ => ?_
  subst he
  exact ⟨_, rfl, _, _, _, [], _, [], hW', trodAll_mk1 (shut_bool Try.underlying4 _), (trodAll_cons_mk (Below.trod Frame.laidOut (by kernel_rfl) (of_decide_eq_true (by kernel_rfl)) k0 bel lt0) (trodAll_cons_mk (Below.trod Frame.laidOut (by kernel_rfl) (of_decide_eq_true (by kernel_rfl)) k1 bel lt1) trodAll_mk0)), rfl, bel.frame _, fun h => by cases h⟩

theorem over : Rows.bagBackRow.holds Try.pinned (OpenSpec.ofChange Rows.bagBackSpec) :=
  OpenClaim.holds_of_wide 5 Try.f5 rfl rfl rfl rfl rfl rfl rfl ⟨rfl, rfl, rfl, rfl, rfl⟩ rfl rfl rfl rfl rfl (by kernel_rfl) Try.func5 (by kernel_rfl)
    (of_decide_eq_true (by kernel_rfl)) (by unfold Func.isWrapper; first | (rw [if_pos (by decide +kernel)]; kernel_rfl) | (rw [if_neg (by decide +kernel)]; exact ⟨rfl, rfl⟩))
    (fun os started H enc _ => lifted os started H enc)

theorem proved : Rows.BagBackSaid := over
end Go.Proofs.Ytoinepmlbcnbgaa.bagBack
