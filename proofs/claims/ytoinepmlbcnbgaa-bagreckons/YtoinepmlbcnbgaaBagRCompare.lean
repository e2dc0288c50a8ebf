/- The document's own answers of bags that are not right; its Compare: contracts of the calls, over the turned program. -/
import Derived.Test.YtoinepmlbcnbgaaBagRLess
import Derived.Test.YtoinepmlbcnbgaaBagCompare
namespace Go.Proofs.Ytoinepmlbcnbgaa.Bag
open Go.RowKit Go.Maps Go.Proofs.Ytoinepmlbcnbgaa.Frame
set_option linter.unusedVariables false

set_option maxHeartbeats 1000000 in
theorem rsum_wrong0 (a b : Option Addr) (la ca lb cb : Nat) (xs ys : List Row) (w : World) (ha : Bags w a la xs) (hb : Bags w b lb ys) (hla : la ≤ 10000) (hlb : lb ≤ 10000) (R0 : Hid (rightB xs = false)) :
    Calls Try.prog 23 #[.slice a la ca, .slice b lb cb] w fun e w' => e = .returned (.tuple #[.slice none 0 0, .int .i64 1]) ∧ Below w.heap.size w w' := by
  have HA : Hid (Bags w a la xs) := ha
  have HB : Hid (Bags w b lb ys) := hb
  clear ha hb
  go_enter Try.func23, Try.ntmps23
  go_wp2_with fail
  refine (rright_q _ _ _ xs _ HA.out (by omega)).mono ?_
  rintro e w1 ⟨he, n1, hw⟩
  subst he
  have B1 : Hid (Below w.heap.size w w1) := (show Below w.heap.size w w1 by rw [hw]; exact below_drewN (Below.refl _ _) _)
  clear hw
  rw [R0.out]
  go_wp2
  go_ret2
  exact ⟨rfl, B1.out⟩
set_option maxHeartbeats 1000000 in
theorem rsum_wrong1 (a b : Option Addr) (la ca lb cb : Nat) (xs ys : List Row) (w : World) (ha : Bags w a la xs) (hb : Bags w b lb ys) (hla : la ≤ 10000) (hlb : lb ≤ 10000) (R0 : Hid (rightB xs = true)) (R1 : Hid (rightB ys = false)) :
    Calls Try.prog 23 #[.slice a la ca, .slice b lb cb] w fun e w' => e = .returned (.tuple #[.slice none 0 0, .int .i64 1]) ∧ Below w.heap.size w w' := by
  have HA : Hid (Bags w a la xs) := ha
  have HB : Hid (Bags w b lb ys) := hb
  clear ha hb
  go_enter Try.func23, Try.ntmps23
  go_wp2_with fail
  refine (rright_q _ _ _ xs _ HA.out (by omega)).mono ?_
  rintro e w1 ⟨he, n1, hw⟩
  subst he
  have B1 : Hid (Below w.heap.size w w1) := (show Below w.heap.size w w1 by rw [hw]; exact below_drewN (Below.refl _ _) _)
  clear hw
  rw [R0.out]
  go_wp2_with fail
  refine (rright_q _ _ _ ys _ (HB.out.below B1.out) (by omega)).mono ?_
  rintro e w2 ⟨he, n2, hw⟩
  subst he
  have B2 : Hid (Below w.heap.size w w2) := (show Below w.heap.size w w2 by rw [hw]; exact below_drewN B1.out _)
  clear hw B1
  rw [R1.out]
  go_wp2
  go_ret2
  exact ⟨rfl, B2.out⟩
theorem rsum_wrong (a b : Option Addr) (la ca lb cb : Nat) (xs ys : List Row) (w : World) (ha : Bags w a la xs) (hb : Bags w b lb ys) (hla : la ≤ 10000) (hlb : lb ≤ 10000) (hr : (rightB xs && rightB ys) = false) :
    Calls Try.prog 23 #[.slice a la ca, .slice b lb cb] w fun e w' => e = .returned (.tuple #[.slice none 0 0, .int .i64 1]) ∧ Below w.heap.size w w' := by
  cases h0 : rightB xs with
  | false => exact rsum_wrong0 a b la ca lb cb xs ys w ha hb hla hlb h0
  | true =>
    rw [h0, Bool.true_and] at hr
    exact rsum_wrong1 a b la ca lb cb xs ys w ha hb hla hlb h0 hr

set_option maxHeartbeats 1000000 in
theorem rless_wrong0 (a b : Option Addr) (la ca lb cb : Nat) (xs ys : List Row) (w : World) (ha : Bags w a la xs) (hb : Bags w b lb ys) (hla : la ≤ 10000) (hlb : lb ≤ 10000) (R0 : Hid (rightB xs = false)) :
    Calls Try.prog 25 #[.slice a la ca, .slice b lb cb] w fun e w' => e = .returned (.tuple #[.slice none 0 0, .int .i64 1]) ∧ Below w.heap.size w w' := by
  have HA : Hid (Bags w a la xs) := ha
  have HB : Hid (Bags w b lb ys) := hb
  clear ha hb
  go_enter Try.func25, Try.ntmps25
  go_wp2_with fail
  refine (rright_q _ _ _ xs _ HA.out (by omega)).mono ?_
  rintro e w1 ⟨he, n1, hw⟩
  subst he
  have B1 : Hid (Below w.heap.size w w1) := (show Below w.heap.size w w1 by rw [hw]; exact below_drewN (Below.refl _ _) _)
  clear hw
  rw [R0.out]
  go_wp2
  go_ret2
  exact ⟨rfl, B1.out⟩
set_option maxHeartbeats 1000000 in
theorem rless_wrong1 (a b : Option Addr) (la ca lb cb : Nat) (xs ys : List Row) (w : World) (ha : Bags w a la xs) (hb : Bags w b lb ys) (hla : la ≤ 10000) (hlb : lb ≤ 10000) (R0 : Hid (rightB xs = true)) (R1 : Hid (rightB ys = false)) :
    Calls Try.prog 25 #[.slice a la ca, .slice b lb cb] w fun e w' => e = .returned (.tuple #[.slice none 0 0, .int .i64 1]) ∧ Below w.heap.size w w' := by
  have HA : Hid (Bags w a la xs) := ha
  have HB : Hid (Bags w b lb ys) := hb
  clear ha hb
  go_enter Try.func25, Try.ntmps25
  go_wp2_with fail
  refine (rright_q _ _ _ xs _ HA.out (by omega)).mono ?_
  rintro e w1 ⟨he, n1, hw⟩
  subst he
  have B1 : Hid (Below w.heap.size w w1) := (show Below w.heap.size w w1 by rw [hw]; exact below_drewN (Below.refl _ _) _)
  clear hw
  rw [R0.out]
  go_wp2_with fail
  refine (rright_q _ _ _ ys _ (HB.out.below B1.out) (by omega)).mono ?_
  rintro e w2 ⟨he, n2, hw⟩
  subst he
  have B2 : Hid (Below w.heap.size w w2) := (show Below w.heap.size w w2 by rw [hw]; exact below_drewN B1.out _)
  clear hw B1
  rw [R1.out]
  go_wp2
  go_ret2
  exact ⟨rfl, B2.out⟩
theorem rless_wrong (a b : Option Addr) (la ca lb cb : Nat) (xs ys : List Row) (w : World) (ha : Bags w a la xs) (hb : Bags w b lb ys) (hla : la ≤ 10000) (hlb : lb ≤ 10000) (hr : (rightB xs && rightB ys) = false) :
    Calls Try.prog 25 #[.slice a la ca, .slice b lb cb] w fun e w' => e = .returned (.tuple #[.slice none 0 0, .int .i64 1]) ∧ Below w.heap.size w w' := by
  cases h0 : rightB xs with
  | false => exact rless_wrong0 a b la ca lb cb xs ys w ha hb hla hlb h0
  | true =>
    rw [h0, Bool.true_and] at hr
    exact rless_wrong1 a b la ca lb cb xs ys w ha hb hla hlb h0 hr

set_option maxHeartbeats 1000000 in
theorem rmost_wrong0 (a b : Option Addr) (la ca lb cb : Nat) (xs ys : List Row) (w : World) (ha : Bags w a la xs) (hb : Bags w b lb ys) (hla : la ≤ 10000) (hlb : lb ≤ 10000) (R0 : Hid (rightB xs = false)) :
    Calls Try.prog 27 #[.slice a la ca, .slice b lb cb] w fun e w' => e = .returned (.slice none 0 0) ∧ Below w.heap.size w w' := by
  have HA : Hid (Bags w a la xs) := ha
  have HB : Hid (Bags w b lb ys) := hb
  clear ha hb
  go_enter Try.func27, Try.ntmps27
  go_wp2_with fail
  refine (rright_q _ _ _ xs _ HA.out (by omega)).mono ?_
  rintro e w1 ⟨he, n1, hw⟩
  subst he
  have B1 : Hid (Below w.heap.size w w1) := (show Below w.heap.size w w1 by rw [hw]; exact below_drewN (Below.refl _ _) _)
  clear hw
  rw [R0.out]
  go_wp2
  go_ret
  exact ⟨rfl, B1.out⟩
set_option maxHeartbeats 1000000 in
theorem rmost_wrong1 (a b : Option Addr) (la ca lb cb : Nat) (xs ys : List Row) (w : World) (ha : Bags w a la xs) (hb : Bags w b lb ys) (hla : la ≤ 10000) (hlb : lb ≤ 10000) (R0 : Hid (rightB xs = true)) (R1 : Hid (rightB ys = false)) :
    Calls Try.prog 27 #[.slice a la ca, .slice b lb cb] w fun e w' => e = .returned (.slice none 0 0) ∧ Below w.heap.size w w' := by
  have HA : Hid (Bags w a la xs) := ha
  have HB : Hid (Bags w b lb ys) := hb
  clear ha hb
  go_enter Try.func27, Try.ntmps27
  go_wp2_with fail
  refine (rright_q _ _ _ xs _ HA.out (by omega)).mono ?_
  rintro e w1 ⟨he, n1, hw⟩
  subst he
  have B1 : Hid (Below w.heap.size w w1) := (show Below w.heap.size w w1 by rw [hw]; exact below_drewN (Below.refl _ _) _)
  clear hw
  rw [R0.out]
  go_wp2_with fail
  refine (rright_q _ _ _ ys _ (HB.out.below B1.out) (by omega)).mono ?_
  rintro e w2 ⟨he, n2, hw⟩
  subst he
  have B2 : Hid (Below w.heap.size w w2) := (show Below w.heap.size w w2 by rw [hw]; exact below_drewN B1.out _)
  clear hw B1
  rw [R1.out]
  go_wp2
  go_ret
  exact ⟨rfl, B2.out⟩
theorem rmost_wrong (a b : Option Addr) (la ca lb cb : Nat) (xs ys : List Row) (w : World) (ha : Bags w a la xs) (hb : Bags w b lb ys) (hla : la ≤ 10000) (hlb : lb ≤ 10000) (hr : (rightB xs && rightB ys) = false) :
    Calls Try.prog 27 #[.slice a la ca, .slice b lb cb] w fun e w' => e = .returned (.slice none 0 0) ∧ Below w.heap.size w w' := by
  cases h0 : rightB xs with
  | false => exact rmost_wrong0 a b la ca lb cb xs ys w ha hb hla hlb h0
  | true =>
    rw [h0, Bool.true_and] at hr
    exact rmost_wrong1 a b la ca lb cb xs ys w ha hb hla hlb h0 hr

set_option maxHeartbeats 1000000 in
theorem rcompare_wrong0 (a b : Option Addr) (la ca lb cb : Nat) (xs ys : List Row) (w : World) (ha : Bags w a la xs) (hb : Bags w b lb ys) (hla : la ≤ 10000) (hlb : lb ≤ 10000) (R0 : Hid (rightB xs = false)) :
    Calls Try.prog 33 #[.slice a la ca, .slice b lb cb] w fun e w' => e = .returned (.int .i64 0) ∧ Below w.heap.size w w' := by
  have HA : Hid (Bags w a la xs) := ha
  have HB : Hid (Bags w b lb ys) := hb
  clear ha hb
  go_enter Try.func33, Try.ntmps33
  go_wp2_with fail
  refine (rright_q _ _ _ xs _ HA.out (by omega)).mono ?_
  rintro e w1 ⟨he, n1, hw⟩
  subst he
  have B1 : Hid (Below w.heap.size w w1) := (show Below w.heap.size w w1 by rw [hw]; exact below_drewN (Below.refl _ _) _)
  clear hw
  rw [R0.out]
  go_wp2
  go_ret
  exact ⟨rfl, B1.out⟩
set_option maxHeartbeats 1000000 in
theorem rcompare_wrong1 (a b : Option Addr) (la ca lb cb : Nat) (xs ys : List Row) (w : World) (ha : Bags w a la xs) (hb : Bags w b lb ys) (hla : la ≤ 10000) (hlb : lb ≤ 10000) (R0 : Hid (rightB xs = true)) (R1 : Hid (rightB ys = false)) :
    Calls Try.prog 33 #[.slice a la ca, .slice b lb cb] w fun e w' => e = .returned (.int .i64 0) ∧ Below w.heap.size w w' := by
  have HA : Hid (Bags w a la xs) := ha
  have HB : Hid (Bags w b lb ys) := hb
  clear ha hb
  go_enter Try.func33, Try.ntmps33
  go_wp2_with fail
  refine (rright_q _ _ _ xs _ HA.out (by omega)).mono ?_
  rintro e w1 ⟨he, n1, hw⟩
  subst he
  have B1 : Hid (Below w.heap.size w w1) := (show Below w.heap.size w w1 by rw [hw]; exact below_drewN (Below.refl _ _) _)
  clear hw
  rw [R0.out]
  go_wp2_with fail
  refine (rright_q _ _ _ ys _ (HB.out.below B1.out) (by omega)).mono ?_
  rintro e w2 ⟨he, n2, hw⟩
  subst he
  have B2 : Hid (Below w.heap.size w w2) := (show Below w.heap.size w w2 by rw [hw]; exact below_drewN B1.out _)
  clear hw B1
  rw [R1.out]
  go_wp2
  go_ret
  exact ⟨rfl, B2.out⟩
theorem rcompare_wrong (a b : Option Addr) (la ca lb cb : Nat) (xs ys : List Row) (w : World) (ha : Bags w a la xs) (hb : Bags w b lb ys) (hla : la ≤ 10000) (hlb : lb ≤ 10000) (hr : (rightB xs && rightB ys) = false) :
    Calls Try.prog 33 #[.slice a la ca, .slice b lb cb] w fun e w' => e = .returned (.int .i64 0) ∧ Below w.heap.size w w' := by
  cases h0 : rightB xs with
  | false => exact rcompare_wrong0 a b la ca lb cb xs ys w ha hb hla hlb h0
  | true =>
    rw [h0, Bool.true_and] at hr
    exact rcompare_wrong1 a b la ca lb cb xs ys w ha hb hla hlb h0 hr

set_option maxHeartbeats 1000000 in
theorem rless_token (a b : Option Addr) (la ca lb cb : Nat) (xs ys : List Row) (w : World) (ha : Bags w a la xs) (hb : Bags w b lb ys) (hla : la ≤ 10000) (hlb : lb ≤ 10000) (hx : RightP xs) (hy : RightP ys) (hc : coversB xs ys = false) :
    Calls Try.prog 25 #[.slice a la ca, .slice b lb cb] w fun e w' => e = .returned (.tuple #[.slice none 0 0, .int .i64 10]) ∧ Below w.heap.size w w' := by
  have HA : Hid (Bags w a la xs) := ha
  have HB : Hid (Bags w b lb ys) := hb
  have R0 : Hid (rightB xs = true) := rightB_iff.2 hx
  have R1 : Hid (rightB ys = true) := rightB_iff.2 hy
  have WB : Hid (withinB ys xs = false) := (show _ = _ by rw [← covers_within hx hy]; exact hc)
  clear ha hb hx hy hc
  go_enter Try.func25, Try.ntmps25
  go_wp2_with fail
  refine (rright_q _ _ _ xs _ HA.out (by omega)).mono ?_
  rintro e w1 ⟨he, n1, hw⟩
  subst he
  have B1 : Hid (Below w.heap.size w w1) := (show Below w.heap.size w w1 by rw [hw]; exact below_drewN (Below.refl _ _) _)
  clear hw
  rw [R0.out]
  go_wp2_with fail
  refine (rright_q _ _ _ ys _ (HB.out.below B1.out) (by omega)).mono ?_
  rintro e w2 ⟨he, n2, hw⟩
  subst he
  have B2 : Hid (Below w.heap.size w w2) := (show Below w.heap.size w w2 by rw [hw]; exact below_drewN B1.out _)
  clear hw B1
  rw [R1.out]
  go_wp2_with fail
  refine (rwithin_q _ _ _ _ _ _ ys xs _ (HB.out.below B2.out) (HA.out.below B2.out) (by omega) (by omega)).mono ?_
  rintro e w4 ⟨he, n4, hw⟩
  subst he
  have B4 : Hid (Below w.heap.size w w4) := (show Below w.heap.size w w4 by rw [hw]; exact below_drewN B2.out _)
  clear hw B2
  rw [WB.out]
  go_wp2
  go_ret2
  exact ⟨rfl, B4.out⟩

theorem most_zero {xs ys ms : List Row} (hx : RightP xs) (hy : RightP ys) (h : Has (mostC xs ys) ms) {m : Int} (hm : ∀ r ∈ ms, r.1 ≠ m) : cntF xs m = 0 ∧ cntF ys m = 0 := by
  have h1 := h.2 m
  rw [cntF_not hm] at h1
  have r1 := cntF_range hx m
  have r2 := cntF_range hy m
  unfold mostC at h1
  omega
theorem most_first {xs ys ms : List Row} (hx : RightP xs) (hy : RightP ys) (h : Has (mostC xs ys) ms) {k : Nat} (hk : k < ms.length) (hq : ∀ j, j < k → cntF xs (ms.getD j zr).1 = cntF ys (ms.getD j zr).1) {x : Int} (hlt : x < (ms.getD k zr).1) : cntF xs x = cntF ys x := by
  by_cases hm : ∃ r ∈ ms, r.1 = x
  · obtain ⟨r, hr, rfl⟩ := hm
    obtain ⟨j, hj, rfl⟩ := List.getElem_of_mem hr
    have hjk : j < k := by
      apply Classical.byContradiction
      intro hn
      rcases Nat.lt_or_ge k j with h1 | h1
      · have := List.pairwise_iff_getElem.1 h.1.1 k j hk hj h1
        rw [getD_get zr hk] at hlt
        omega
      · obtain rfl : j = k := by omega
        rw [getD_get zr hk] at hlt
        omega
    have := hq j hjk
    rwa [getD_get zr hj] at this
  · obtain ⟨h1, h2⟩ := most_zero hx hy h (m := x) (fun r hr e => hm ⟨r, hr, e⟩)
    rw [h1, h2]
theorem most_all {xs ys ms : List Row} (hx : RightP xs) (hy : RightP ys) (h : Has (mostC xs ys) ms) (hq : ∀ j, j < ms.length → cntF xs (ms.getD j zr).1 = cntF ys (ms.getD j zr).1) (x : Int) : cntF xs x = cntF ys x := by
  by_cases hm : ∃ r ∈ ms, r.1 = x
  · obtain ⟨r, hr, rfl⟩ := hm
    obtain ⟨j, hj, rfl⟩ := List.getElem_of_mem hr
    have := hq j hj
    rwa [getD_get zr hj] at this
  · obtain ⟨h1, h2⟩ := most_zero hx hy h (m := x) (fun r hr e => hm ⟨r, hr, e⟩)
    rw [h1, h2]

set_option maxHeartbeats 2000000 in
theorem rcompare_right (a b : Option Addr) (la ca lb cb : Nat) (xs ys : List Row) (w : World) (ha : Bags w a la xs) (hb : Bags w b lb ys) (hla : la ≤ 10000) (hlb : lb ≤ 10000) (hx : RightP xs) (hy : RightP ys) :
    Calls Try.prog 33 #[.slice a la ca, .slice b lb cb] w fun e w' => e = .returned (.int .i64 (cmpF xs ys)) ∧ Below w.heap.size w w' := by
  have HA : Hid (Bags w a la xs) := ha
  have HB : Hid (Bags w b lb ys) := hb
  have HX : Hid (RightP xs) := hx
  have HY : Hid (RightP ys) := hy
  have R0 : Hid (rightB xs = true) := rightB_iff.2 hx
  have R1 : Hid (rightB ys = true) := rightB_iff.2 hy
  have CM : Hid (∀ n, Cmp (cntF xs) (cntF ys) n → cmpF xs ys = n) := fun n hn => (cmpF_cmp hx hy).uniq hn
  clear ha hb hx hy
  go_enter Try.func33, Try.ntmps33
  go_wp2_with fail
  refine (rright_q _ _ _ xs _ HA.out (by omega)).mono ?_
  rintro e w1 ⟨he, n1, hw⟩
  subst he
  have B1 : Hid (Below w.heap.size w w1) := (show Below w.heap.size w w1 by rw [hw]; exact below_drewN (Below.refl _ _) _)
  clear hw
  rw [R0.out]
  go_wp2_with fail
  refine (rright_q _ _ _ ys _ (HB.out.below B1.out) (by omega)).mono ?_
  rintro e w2 ⟨he, n2, hw⟩
  subst he
  have B2 : Hid (Below w.heap.size w w2) := (show Below w.heap.size w w2 by rw [hw]; exact below_drewN B1.out _)
  clear hw B1
  rw [R1.out]
  go_wp2_with fail
  refine (rmost_right _ _ _ _ _ _ xs ys _ (HA.out.below B2.out) (HB.out.below B2.out) hla hlb HX.out HY.out).mono ?_
  rintro e w4 ⟨ms, hM, ⟨⟨ma, ml, mc, he, hBm, hml⟩, hb4⟩⟩
  subst he
  have M : Hid (Has (mostC xs ys) ms) := hM
  have HM : Hid (Bags w4 ma ml ms) := hBm
  have LM : Hid (ms.length = ml) := hBm.1.1
  have B4 : Below w.heap.size w w4 := then_ B2.out hb4
  clear hM hBm hb4 B2
  go_wp2
  go_loopw [6] (fun i wr => ∃ k : Nat, k ≤ ml ∧ i = .int .i64 k ∧ Hid (∀ j, j < k → cntF xs (ms.getD j zr).1 = cntF ys (ms.getD j zr).1) ∧ Hid (Below w4.heap.size w4 wr) ∧ Below w.heap.size w wr) (fun i _ => ml - (intOf i).toNat)
  case atStart => exact ⟨0, by omega, rfl, fun j h => by omega, Below.refl _ _, B4⟩
  case round =>
    obtain ⟨k, hk, rfl, hQ, hB4, hnx⟩ := hrel
    clear B4
    by_cases hlt : k < ml
    · have hlt' : (k : Int) < ml := by omega
      obtain ⟨bb, off, hbe, hbl, hat⟩ := (HM.out.below hB4.out).row (k := k) hlt
      subst hbe
      have hkl : k < ms.length := by rw [LM.out]; exact hlt
      obtain ⟨c0, c1⟩ := hat k hkl
      have hfst := fun x (hx : x < (ms.getD k zr).1) => most_first HX.out HY.out M.out hkl hQ.out hx
      obtain ⟨m, hm⟩ : ∃ m, m = (ms.getD k zr).1 := ⟨_, rfl⟩
      have EM : Hid (m = (ms.getD k zr).1) := hm
      rw [← hm] at c0 hfst
      have FST : Hid (∀ x, x < m → cntF xs x = cntF ys x) := hfst
      clear hat hm hfst hkl c1
      obtain ⟨x, hx⟩ : ∃ x, x = cntF xs m := ⟨_, rfl⟩
      obtain ⟨y, hy⟩ : ∃ y, y = cntF ys m := ⟨_, rfl⟩
      have EX : Hid (cntF xs m = x) := hx.symm
      have EY : Hid (cntF ys m = y) := hy.symm
      clear hx hy
      have CO1 : Hid (∀ wx, Below wr.heap.size wr wx → Calls Try.prog 13 #[.slice a la ca, .int .i64 m] wx fun e w' => e = .returned (.int .i64 x) ∧ Below wr.heap.size wr w') := (show ∀ _, _ by rw [← EX.out]; exact rcount_from a la ca xs m wr (HA.out.below hnx) (by omega) HX.out)
      have CO2 : Hid (∀ wx, Below wr.heap.size wr wx → Calls Try.prog 13 #[.slice b lb cb, .int .i64 m] wx fun e w' => e = .returned (.int .i64 y) ∧ Below wr.heap.size wr w') := (show ∀ _, _ by rw [← EY.out]; exact rcount_from b lb cb ys m wr (HB.out.below hnx) (by omega) HY.out)
      go_wp2_with fail
      refine (CO1.out _ (Below.refl _ _)).mono ?_
      rintro e w5 ⟨he, hb5⟩
      subst he
      have d0 := (hb5.cell (p := ⟨bb, off + k * 2, none⟩) hbl).trans c0
      have HB5 : Hid (Below wr.heap.size wr w5) := hb5
      clear hb5
      go_wp2_with fail
      refine (CO2.out _ HB5.out).mono ?_
      rintro e w6 ⟨he, hb6⟩
      subst he
      have N2 : Below w.heap.size w w6 := then_ hnx hb6
      have N4 : Hid (Below w4.heap.size w4 w6) := then_ hB4.out hb6
      clear hb6 d0
      by_cases h1 : y < x
      · have E : Hid (cmpF xs ys = 1) := CM.out 1 (.inl ⟨rfl, m, FST.out, by rw [EX.out, EY.out]; exact h1⟩)
        go_wp2
        go_ret
        exact ⟨by rw [E.out]; rfl, N2⟩
      by_cases h2 : x < y
      · have E : Hid (cmpF xs ys = -1) := CM.out (-1) (.inr (.inl ⟨rfl, m, fun z hz => (FST.out z hz).symm, by rw [EX.out, EY.out]; exact h2⟩))
        go_wp2
        go_ret
        exact ⟨by rw [E.out]; rfl, N2⟩
      · have N3 : Hid (∀ j, j < k + 1 → cntF xs (ms.getD j zr).1 = cntF ys (ms.getD j zr).1) := fun j hj => by
          rcases Nat.lt_or_ge j k with h | h
          · exact hQ.out j h
          · obtain rfl : j = k := by omega
            rw [← EM.out, EX.out, EY.out]; omega
        go_wp2
        go_roundw
        case rel => exact ⟨k + 1, by omega, by go_num, N3, N4, N2⟩
        case measure => simp [intOf]; omega
    · have hlt' : ¬ (k : Int) < ml := by omega
      have E : Hid (cmpF xs ys = 0) := CM.out 0 (.inr (.inr ⟨rfl, most_all HX.out HY.out M.out fun j hj => hQ.out j (by rw [LM.out] at hj; omega)⟩))
      go_wp2
      go_ret
      exact ⟨by rw [E.out]; rfl, hnx⟩
theorem rcompare_any (a b : Option Addr) (la ca lb cb : Nat) (xs ys : List Row) (w : World) (ha : Bags w a la xs) (hb : Bags w b lb ys) (hla : la ≤ 10000) (hlb : lb ≤ 10000) :
    Calls Try.prog 33 #[.slice a la ca, .slice b lb cb] w fun e w' => e = .returned (.int .i64 (compareB xs ys)) ∧ Below w.heap.size w w' := by
  cases hr : (rightB xs && rightB ys) with
  | true =>
    rw [compareB_right hr]
    have := Bool.and_eq_true_iff.1 hr
    exact rcompare_right a b la ca lb cb xs ys w ha hb hla hlb (rightB_iff.1 this.1) (rightB_iff.1 this.2)
  | false => rw [compareB_wrong hr]; exact rcompare_wrong a b la ca lb cb xs ys w ha hb hla hlb hr
end Go.Proofs.Ytoinepmlbcnbgaa.Bag
