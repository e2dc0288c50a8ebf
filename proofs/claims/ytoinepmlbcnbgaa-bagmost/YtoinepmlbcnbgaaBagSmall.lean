/- The small case: it comes out right. -/
import Derived.Test.YtoinepmlbcnbgaaBagKnown
namespace Go.Proofs.Ytoinepmlbcnbgaa.Bag
open Go.RowKit Go.Maps Go.Proofs.Ytoinepmlbcnbgaa.Frame
set_option linter.unusedVariables false

theorem rightP_of {rs : List Row} (h : rightB rs = true) : RightP rs := rightB_iff.1 h
theorem wf_right {rs : List Row} (h : ∀ r ∈ rs, In64 r.1 ∧ In64 r.2) : Wf rs := fun i hi => h _ (getD_mem hi)
theorem has_1 : Has (ofC [5, 2, 5]) [(2, 1), (5, 2)] := ⟨rightP_of (by decide), fun m => by
  simp only [cntF, ofC, List.count_cons, List.count_nil, beq_iff_eq]
  split <;> split <;> (try split) <;> omega⟩
theorem has_2 : Has (ofC [5]) [(5, 1)] := ⟨rightP_of (by decide), fun m => by
  simp only [cntF, ofC, List.count_cons, List.count_nil, beq_iff_eq]
  split <;> split <;> (try split) <;> omega⟩
theorem has_3 : Has (ofC [2, 9]) [(2, 1), (9, 1)] := ⟨rightP_of (by decide), fun m => by
  simp only [cntF, ofC, List.count_cons, List.count_nil, beq_iff_eq]
  split <;> split <;> (try split) <;> omega⟩
theorem has_4 : Has (ofC [9]) [(9, 1)] := ⟨rightP_of (by decide), fun m => by
  simp only [cntF, ofC, List.count_cons, List.count_nil, beq_iff_eq]
  split <;> split <;> (try split) <;> omega⟩
theorem has_5 : Has (lessC [(2, 1), (5, 2)] [(5, 1)]) [(2, 1), (5, 1)] := ⟨rightP_of (by decide), fun m => by
  simp only [cntF, lessC]
  split <;> (try split) <;> (try split) <;> omega⟩
theorem has_6 : Has (sumC [(2, 1), (5, 2)] [(2, 1), (9, 1)]) [(2, 2), (5, 2), (9, 1)] := ⟨rightP_of (by decide), fun m => by
  simp only [cntF, sumC]
  split <;> (try split) <;> (try split) <;> omega⟩

theorem in_small {zs : List Int} (h : ∀ z ∈ zs, 0 ≤ z ∧ z ≤ 9) : ∀ z ∈ zs, In64 z := fun z hz => by have := h z hz; unfold In64; omega

theorem al {w w' : World} {o : Obj} (h : Below (w.alloc o).heap.size (w.alloc o) w') : Below w.heap.size w w' := ((Below.refl _ w).alloc (Nat.le_refl _) _).trans (h.mono (by simp))
theorem Bags.le {w : World} {a : Option Addr} {len n : Nat} {rs : List Row} (h : Bags w a len rs) (hr : rs.length ≤ n) : len ≤ n := by rw [← h.1.1]; exact hr
theorem Bags.al {w : World} {a : Option Addr} {len : Nat} {rs : List Row} (h : Bags w a len rs) (o : Obj) : Bags (w.alloc o) a len rs := h.below ((Below.refl _ w).alloc (Nat.le_refl _) _)

set_option maxHeartbeats 4000000 in
set_option maxRecDepth 100000 in
theorem small_any (w : World) : Calls Try.prog 9 #[] w fun e w' => e = .returned (.bool true) ∧ Below w.heap.size w w' := by
  go_enter Try.func9, Try.ntmps9
  go_wp2_with fail
  refine (of_known _ _ _ [5, 2, 5] [(2, 1), (5, 2)] _ (nums_new w [5, 2, 5] _ _ rfl (in_small (by decide))) (by decide) has_1).mono ?_
  rintro e w1 ⟨a1, n1, k1, he, h1, hb⟩
  subst he
  have B1 : Hid (Below w.heap.size w w1) := al hb
  clear hb
  go_wp2_with fail
  refine (of_known _ _ _ [5] [(5, 1)] _ (nums_new w1 [5] _ _ rfl (in_small (by decide))) (by decide) has_2).mono ?_
  rintro e w2 ⟨a2, n2, k2, he, h2, hb⟩
  subst he
  have B2 : Hid (Below w.heap.size w w2) := then_ B1.out (al hb)
  have h1 : Hid (Bags w2 _ _ _) := h1.out.below (al hb)
  clear hb
  go_wp2_with fail
  refine (less_known _ _ _ _ _ _ [(2, 1), (5, 2)] [(5, 1)] [(2, 1), (5, 1)] _ h1.out h2.out (h1.out.le (by decide)) (h2.out.le (by decide)) (rightP_of (by decide)) (rightP_of (by decide)) (by decide) has_5).mono ?_
  rintro e w3 ⟨a3, n3, k3, he, h3, hb⟩
  subst he
  have B3 : Hid (Below w.heap.size w w3) := then_ B2.out (hb)
  have h1 : Hid (Bags w3 _ _ _) := h1.out.below (hb)
  clear hb
  go_wp2_with fail
  refine (of_known _ _ _ [2, 9] [(2, 1), (9, 1)] _ (nums_new w3 [2, 9] _ _ rfl (in_small (by decide))) (by decide) has_3).mono ?_
  rintro e w4 ⟨a4, n4, k4, he, h4, hb⟩
  subst he
  have B4 : Hid (Below w.heap.size w w4) := then_ B3.out (al hb)
  have h1 : Hid (Bags w4 _ _ _) := h1.out.below (al hb)
  have h3 : Hid (Bags w4 _ _ _) := h3.out.below (al hb)
  clear hb
  go_wp2_with fail
  refine (sum_known _ _ _ _ _ _ [(2, 1), (5, 2)] [(2, 1), (9, 1)] [(2, 2), (5, 2), (9, 1)] _ h1.out h4.out (h1.out.le (by decide)) (h4.out.le (by decide)) (rightP_of (by decide)) (rightP_of (by decide)) (by decide) has_6).mono ?_
  rintro e w5 ⟨a5, n5, k5, he, h5, hb⟩
  subst he
  have B5 : Hid (Below w.heap.size w w5) := then_ B4.out (hb)
  have h1 : Hid (Bags w5 _ _ _) := h1.out.below (hb)
  have h3 : Hid (Bags w5 _ _ _) := h3.out.below (hb)
  clear hb
  go_wp2_with fail
  refine (of_known _ _ _ [9] [(9, 1)] _ (nums_new w5 [9] _ _ rfl (in_small (by decide))) (by decide) has_4).mono ?_
  rintro e w6 ⟨a6, n6, k6, he, h6, hb⟩
  subst he
  have B6 : Hid (Below w.heap.size w w6) := then_ B5.out (al hb)
  have h1 : Hid (Bags w6 _ _ _) := h1.out.below (al hb)
  have h3 : Hid (Bags w6 _ _ _) := h3.out.below (al hb)
  have h5 : Hid (Bags w6 _ _ _) := h5.out.below (al hb)
  clear hb
  go_wp2_with fail
  refine (less_token _ _ _ _ _ _ [(2, 1), (5, 2)] [(9, 1)] _ h1.out h6.out (h1.out.le (by decide)) (h6.out.le (by decide)) (rightP_of (by decide)) (rightP_of (by decide)) (by decide)).mono ?_
  rintro e w7 ⟨he, hb⟩
  subst he
  have B7 : Hid (Below w.heap.size w w7) := then_ B6.out (hb)
  have h1 : Hid (Bags w7 _ _ _) := h1.out.below (hb)
  have h3 : Hid (Bags w7 _ _ _) := h3.out.below (hb)
  have h5 : Hid (Bags w7 _ _ _) := h5.out.below (hb)
  clear hb
  clear h2 h4 h6
  go_wp2_with fail
  refine (rows_any _ _ _ _ _ _ [(2, 1), (5, 2)] [(2, 1), (5, 2)] _ (h1.out.al _) (bags_new w7 [(2, 1), (5, 2)] _ _ rfl (wf_right (by unfold In64; decide))) (h1.out.le (by decide)) (by decide)).mono ?_
  rintro e w8 ⟨he, hb⟩
  subst he
  rw [show eqB [(2, 1), (5, 2)] [(2, 1), (5, 2)] = true by decide]
  have B8 : Hid (Below w.heap.size w w8) := then_ B7.out (al hb)
  have h1 : Hid (Bags w8 _ _ _) := h1.out.below (al hb)
  have h3 : Hid (Bags w8 _ _ _) := h3.out.below (al hb)
  have h5 : Hid (Bags w8 _ _ _) := h5.out.below (al hb)
  clear hb
  go_wp2_with fail
  refine (rows_any _ _ _ _ _ _ [(2, 1), (5, 1)] [(2, 1), (5, 1)] _ (h3.out.al _) (bags_new w8 [(2, 1), (5, 1)] _ _ rfl (wf_right (by unfold In64; decide))) (h3.out.le (by decide)) (by decide)).mono ?_
  rintro e w9 ⟨he, hb⟩
  subst he
  rw [show eqB [(2, 1), (5, 1)] [(2, 1), (5, 1)] = true by decide]
  have B9 : Hid (Below w.heap.size w w9) := then_ B8.out (al hb)
  have h1 : Hid (Bags w9 _ _ _) := h1.out.below (al hb)
  have h3 : Hid (Bags w9 _ _ _) := h3.out.below (al hb)
  have h5 : Hid (Bags w9 _ _ _) := h5.out.below (al hb)
  clear hb
  go_wp2_with fail
  refine (Total_any _ _ _ [(2, 2), (5, 2), (9, 1)] _ h5.out (h5.out.le (by decide))).mono ?_
  rintro e w10 ⟨he, hb⟩
  subst he
  rw [show totalB [(2, 2), (5, 2), (9, 1)] = 5 by decide]
  have B10 : Hid (Below w.heap.size w w10) := then_ B9.out (hb)
  have h1 : Hid (Bags w10 _ _ _) := h1.out.below (hb)
  have h3 : Hid (Bags w10 _ _ _) := h3.out.below (hb)
  have h5 : Hid (Bags w10 _ _ _) := h5.out.below (hb)
  clear hb
  go_wp2_with fail
  refine (Count_any _ _ _ [(2, 2), (5, 2), (9, 1)] _ _ h5.out (h5.out.le (by decide))).mono ?_
  rintro e w11 ⟨he, hb⟩
  subst he
  rw [show countB [(2, 2), (5, 2), (9, 1)] 2 = 2 by decide]
  have B11 : Hid (Below w.heap.size w w11) := then_ B10.out (hb)
  have h1 : Hid (Bags w11 _ _ _) := h1.out.below (hb)
  have h3 : Hid (Bags w11 _ _ _) := h3.out.below (hb)
  clear hb
  go_wp2_with fail
  refine (compare_any _ _ _ _ _ _ [(2, 1), (5, 2)] [(2, 1), (5, 1)] _ h1.out h3.out (h1.out.le (by decide)) (h3.out.le (by decide))).mono ?_
  rintro e w12 ⟨he, hb⟩
  subst he
  rw [show compareB [(2, 1), (5, 2)] [(2, 1), (5, 1)] = 1 by decide]
  have B12 : Hid (Below w.heap.size w w12) := then_ B11.out (hb)
  have h1 : Hid (Bags w12 _ _ _) := h1.out.below (hb)
  have h3 : Hid (Bags w12 _ _ _) := h3.out.below (hb)
  clear hb
  go_wp2_with fail
  refine (within_any _ _ _ _ _ _ [(2, 1), (5, 1)] [(2, 1), (5, 2)] _ h3.out h1.out (h3.out.le (by decide)) (h1.out.le (by decide))).mono ?_
  rintro e w13 ⟨he, hb⟩
  subst he
  rw [show withinB [(2, 1), (5, 1)] [(2, 1), (5, 2)] = true by decide]
  have B13 : Hid (Below w.heap.size w w13) := then_ B12.out (hb)
  have h1 : Hid (Bags w13 _ _ _) := h1.out.below (hb)
  have h3 : Hid (Bags w13 _ _ _) := h3.out.below (hb)
  clear hb
  go_wp2_with fail
  refine (within_any _ _ _ _ _ _ [(2, 1), (5, 2)] [(2, 1), (5, 1)] _ h1.out h3.out (h1.out.le (by decide)) (h3.out.le (by decide))).mono ?_
  rintro e w14 ⟨he, hb⟩
  subst he
  rw [show withinB [(2, 1), (5, 2)] [(2, 1), (5, 1)] = false by decide]
  have B14 : Hid (Below w.heap.size w w14) := then_ B13.out (hb)
  have h1 : Hid (Bags w14 _ _ _) := h1.out.below (hb)
  clear hb
  go_wp2_with fail
  refine (list_any _ _ _ [(2, 1), (5, 2)] 9 _ h1.out (h1.out.le (by decide)) (by decide)).mono ?_
  rintro e w15 ⟨⟨a15, n15, k15, he, h15⟩, hb⟩
  subst he
  have B15 : Hid (Below w.heap.size w w15) := then_ B14.out hb
  rw [show listB [(2, 1), (5, 2)] 9 = [2, 5, 5] by decide] at h15
  have H15 : Hid (Nums w15 a15 n15 [2, 5, 5]) := h15
  clear hb h15
  go_wp2_with fail
  refine (ints_any _ _ _ _ _ _ [2, 5, 5] [2, 5, 5] _ (H15.out.below ((Below.refl _ _).alloc (Nat.le_refl _) _)) (nums_new w15 [2, 5, 5] _ _ rfl (in_small (by decide))) (by rw [← H15.out.1.1]; decide) (by decide)).mono ?_
  rintro e w16 ⟨he, hb⟩
  subst he
  rw [show eqI [2, 5, 5] [2, 5, 5] = true by decide]
  have B16 : Hid (Below w.heap.size w w16) := then_ B15.out (al hb)
  clear hb
  go_wp2
  go_ret
  exact ⟨rfl, B16.out⟩
end Go.Proofs.Ytoinepmlbcnbgaa.Bag
