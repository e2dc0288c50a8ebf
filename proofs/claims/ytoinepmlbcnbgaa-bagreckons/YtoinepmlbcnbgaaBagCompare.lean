/- Compare of package bag: a contract of the call, over the turned program. -/
import Derived.Test.YtoinepmlbcnbgaaBagWithin
namespace Go.Proofs.Ytoinepmlbcnbgaa.Bag
open Go.RowKit Go.Proofs.Ytoinepmlbcnbgaa.Frame
set_option linter.unusedVariables false

def compareB (xs ys : List Row) : Int := if rightB xs && rightB ys then cmpF xs ys else 0
theorem compareB_wrong {xs ys : List Row} (h : (rightB xs && rightB ys) = false) : compareB xs ys = 0 := by unfold compareB; rw [h]; rfl
theorem compareB_right {xs ys : List Row} (h : (rightB xs && rightB ys) = true) : compareB xs ys = cmpF xs ys := by unfold compareB; rw [h]; rfl
theorem cmp_step {xs ys : List Row} {k : Nat} (h1 : k < xs.length) (h2 : k < ys.length) : cmpF (xs.drop k) (ys.drop k) =
    if (ys.getD k zr).1 < (xs.getD k zr).1 then -1 else if (xs.getD k zr).1 < (ys.getD k zr).1 then 1 else if (xs.getD k zr).2 < (ys.getD k zr).2 then -1 else if (ys.getD k zr).2 < (xs.getD k zr).2 then 1 else cmpF (xs.drop (k + 1)) (ys.drop (k + 1)) := by
  rw [List.drop_eq_getElem_cons h1, List.drop_eq_getElem_cons h2, getD_get zr h1, getD_get zr h2]; rfl
theorem cmp_end {xs ys : List Row} : cmpF (xs.drop (min xs.length ys.length)) (ys.drop (min xs.length ys.length)) = cmpI xs.length ys.length := by
  unfold cmpI
  by_cases h : xs.length < ys.length
  · rw [Nat.min_eq_left (by omega), List.drop_eq_nil_of_le (Nat.le_refl _), List.drop_eq_getElem_cons h, if_pos (by omega)]; rfl
  · by_cases h2 : ys.length < xs.length
    · rw [Nat.min_eq_right (by omega), List.drop_eq_getElem_cons h2, List.drop_eq_nil_of_le (Nat.le_refl _), if_neg (by omega), if_pos (by omega)]; rfl
    · rw [Nat.min_eq_left (by omega), List.drop_eq_nil_of_le (Nat.le_refl _), List.drop_eq_nil_of_le (by omega), if_neg (by omega), if_neg (by omega)]; rfl

theorem cmp_is {x y n : Int} (h : cmpI x y = n) : ∀ w : World, Calls Try.prog 41 #[.int .i64 x, .int .i64 y] w fun e w' => e = .returned (.int .i64 n) ∧ w' = w := fun w => by rw [← h]; exact cmp_any x y w

set_option maxHeartbeats 2000000 in
theorem compare_right (a b : Option Addr) (la ca lb cb : Nat) (xs ys : List Row) (w : World) (ha : Bags w a la xs) (hb : Bags w b lb ys) (hla : la ≤ 1000000) (hlb : lb ≤ 1000000) (hr : (rightB xs && rightB ys) = true) :
    Calls Try.prog 32 #[.slice a la ca, .slice b lb cb] w fun e w' => e = .returned (.int .i64 (cmpF xs ys)) ∧ Below w.heap.size w w' := by
  have HA : Hid (Bags w a la xs) := ha
  have HB : Hid (Bags w b lb ys) := hb
  have LA : Hid (xs.length = la) := ha.1.1
  have LB : Hid (ys.length = lb) := hb.1.1
  have R : Hid ((rightB xs && rightB ys) = true) := hr
  clear ha hb hr
  by_cases hll : lb < la
  all_goals
    go_enter Try.func32, Try.ntmps32
    go_wp2_with (go_at_call 38; refine (both_any _ _ _ _ _ _ xs ys _ HA.out HB.out hla hlb).mono ?_; rintro e w1 ⟨he, hb1⟩; subst he; rw [R.out])
    go_loopw [17] (fun i wr => ∃ k : Nat, k ≤ min la lb ∧ i = .int .i64 k ∧ Hid (cmpF xs ys = cmpF (xs.drop k) (ys.drop k)) ∧ Below w.heap.size w wr) (fun i _ => min la lb - (intOf i).toNat)
    case atStart => exact ⟨0, by omega, rfl, (rfl : cmpF xs ys = _), hb1⟩
    case round =>
      obtain ⟨k, hk, rfl, hD, hnx⟩ := hrel
      clear hb1
      by_cases hlt : k < min la lb
      · have hka : k < la := by omega
        have hkb : k < lb := by omega
        have hka' : (k : Int) < la := by omega
        have hkb' : (k : Int) < lb := by omega
        obtain ⟨ab, ao, hae, hal, hat⟩ := (HA.out.below hnx).row (k := k) hka
        obtain ⟨bb, bo, hbe, hbl, hbt⟩ := (HB.out.below hnx).row (k := k) hkb
        subst hae hbe
        obtain ⟨c0, c1⟩ := hat k (by rw [LA.out]; exact hka)
        obtain ⟨d0, d1⟩ := hbt k (by rw [LB.out]; exact hkb)
        have hS := cmp_step (xs := xs) (ys := ys) (k := k) (by rw [LA.out]; exact hka) (by rw [LB.out]; exact hkb)
        rw [← hD.out] at hS
        obtain ⟨x, hx⟩ : ∃ x, x = xs.getD k zr := ⟨_, rfl⟩
        obtain ⟨y, hy⟩ : ∃ y, y = ys.getD k zr := ⟨_, rfl⟩
        rw [← hx] at c0 c1 hS
        rw [← hy] at d0 d1 hS
        obtain ⟨x1, x2⟩ := x
        obtain ⟨y1, y2⟩ := y
        simp only at c0 c1 d0 d1 hS
        have S : Hid (cmpF xs ys = _) := hS
        clear hat hbt hx hy hS
        by_cases h1 : y1 < x1
        · have Q : Hid (∀ w : World, Calls Try.prog 41 #[.int .i64 y1, .int .i64 x1] w fun e w' => e = .returned (.int .i64 (-1)) ∧ w' = w) := cmp_is (show cmpI y1 x1 = -1 by unfold cmpI; rw [if_pos h1])
          have F : Hid (cmpF xs ys = -1) := (show cmpF xs ys = -1 by rw [S.out, if_pos h1])
          clear S
          go_wp2
          go_quiet (first | (go_at_call 41; refine Calls.quiet_of_same (Q.out _)))
          go_wp2
          go_ret
          exact ⟨by rw [F.out]; rfl, below_drewN hnx _⟩
        by_cases h2 : x1 < y1
        · have Q : Hid (∀ w : World, Calls Try.prog 41 #[.int .i64 y1, .int .i64 x1] w fun e w' => e = .returned (.int .i64 1) ∧ w' = w) := cmp_is (show cmpI y1 x1 = 1 by unfold cmpI; rw [if_neg h1, if_pos h2])
          have F : Hid (cmpF xs ys = 1) := (show cmpF xs ys = 1 by rw [S.out, if_neg h1, if_pos h2])
          clear S
          go_wp2
          go_quiet (first | (go_at_call 41; refine Calls.quiet_of_same (Q.out _)))
          go_wp2
          go_ret
          exact ⟨by rw [F.out]; rfl, below_drewN hnx _⟩
        have Q : Hid (∀ w : World, Calls Try.prog 41 #[.int .i64 y1, .int .i64 x1] w fun e w' => e = .returned (.int .i64 0) ∧ w' = w) := cmp_is (show cmpI y1 x1 = 0 by unfold cmpI; rw [if_neg h1, if_neg h2])
        by_cases h3 : x2 < y2
        · have Q2 : Hid (∀ w : World, Calls Try.prog 41 #[.int .i64 x2, .int .i64 y2] w fun e w' => e = .returned (.int .i64 (-1)) ∧ w' = w) := cmp_is (show cmpI x2 y2 = -1 by unfold cmpI; rw [if_pos h3])
          have F : Hid (cmpF xs ys = -1) := (show cmpF xs ys = -1 by rw [S.out, if_neg h1, if_neg h2, if_pos h3])
          clear S
          go_wp2
          go_quiet (first | (go_at_call 41; refine Calls.quiet_of_same (Q.out _)))
          go_wp2
          generalize hwq : wr.drewN _ = wq
          have k1 : wq.cell? ⟨ab, ao + k * 2 + 1, none⟩ = some (.int .i64 x2) := by rw [← hwq]; exact c1
          have k2 : wq.cell? ⟨bb, bo + k * 2 + 1, none⟩ = some (.int .i64 y2) := by rw [← hwq]; exact d1
          have hnq : Below w.heap.size w wq := by rw [← hwq]; exact below_drewN hnx _
          clear hwq c0 c1 d0 d1 Q
          go_quiet (first | (go_at_call 41; refine Calls.quiet_of_same (Q2.out _)))
          go_wp2
          go_ret
          exact ⟨by rw [F.out]; rfl, below_drewN hnq _⟩
        by_cases h4 : y2 < x2
        · have Q2 : Hid (∀ w : World, Calls Try.prog 41 #[.int .i64 x2, .int .i64 y2] w fun e w' => e = .returned (.int .i64 1) ∧ w' = w) := cmp_is (show cmpI x2 y2 = 1 by unfold cmpI; rw [if_neg h3, if_pos h4])
          have F : Hid (cmpF xs ys = 1) := (show cmpF xs ys = 1 by rw [S.out, if_neg h1, if_neg h2, if_neg h3, if_pos h4])
          clear S
          go_wp2
          go_quiet (first | (go_at_call 41; refine Calls.quiet_of_same (Q.out _)))
          go_wp2
          generalize hwq : wr.drewN _ = wq
          have k1 : wq.cell? ⟨ab, ao + k * 2 + 1, none⟩ = some (.int .i64 x2) := by rw [← hwq]; exact c1
          have k2 : wq.cell? ⟨bb, bo + k * 2 + 1, none⟩ = some (.int .i64 y2) := by rw [← hwq]; exact d1
          have hnq : Below w.heap.size w wq := by rw [← hwq]; exact below_drewN hnx _
          clear hwq c0 c1 d0 d1 Q
          go_quiet (first | (go_at_call 41; refine Calls.quiet_of_same (Q2.out _)))
          go_wp2
          go_ret
          exact ⟨by rw [F.out]; rfl, below_drewN hnq _⟩
        · have Q2 : Hid (∀ w : World, Calls Try.prog 41 #[.int .i64 x2, .int .i64 y2] w fun e w' => e = .returned (.int .i64 0) ∧ w' = w) := cmp_is (show cmpI x2 y2 = 0 by unfold cmpI; rw [if_neg h3, if_neg h4])
          have F : Hid (cmpF xs ys = cmpF (xs.drop (k + 1)) (ys.drop (k + 1))) := (show cmpF xs ys = _ by rw [S.out, if_neg h1, if_neg h2, if_neg h3, if_neg h4])
          clear S
          go_wp2
          go_quiet (first | (go_at_call 41; refine Calls.quiet_of_same (Q.out _)))
          go_wp2
          generalize hwq : wr.drewN _ = wq
          have k1 : wq.cell? ⟨ab, ao + k * 2 + 1, none⟩ = some (.int .i64 x2) := by rw [← hwq]; exact c1
          have k2 : wq.cell? ⟨bb, bo + k * 2 + 1, none⟩ = some (.int .i64 y2) := by rw [← hwq]; exact d1
          have hnq : Below w.heap.size w wq := by rw [← hwq]; exact below_drewN hnx _
          clear hwq c0 c1 d0 d1 Q
          go_quiet (first | (go_at_call 41; refine Calls.quiet_of_same (Q2.out _)))
          go_wp2
          go_roundw
          case rel => exact ⟨k + 1, by omega, by go_num, F, below_drewN hnq _⟩
          case measure => simp [intOf]; omega
      · have hkm : k = min la lb := by omega
        have F : Hid (cmpF xs ys = cmpI la lb) := (show cmpF xs ys = cmpI la lb by rw [hD.out, hkm, ← LA.out, ← LB.out]; exact cmp_end)
        first | have hlt' : ¬ (k : Int) < la := by omega | have hlt' : ¬ (k : Int) < lb := by omega
        clear hkm
        go_wp2_with (go_at_call 41; refine (cmp_any _ _ _).mono ?_; rintro e w' ⟨he, hw⟩; subst he; have hw := hw.symm; subst hw)
        go_ret
        exact ⟨by rw [F.out]; rfl, hnx⟩

set_option maxHeartbeats 1000000 in
theorem compare_any (a b : Option Addr) (la ca lb cb : Nat) (xs ys : List Row) (w : World) (ha : Bags w a la xs) (hb : Bags w b lb ys) (hla : la ≤ 1000000) (hlb : lb ≤ 1000000) :
    Calls Try.prog 32 #[.slice a la ca, .slice b lb cb] w fun e w' => e = .returned (.int .i64 (compareB xs ys)) ∧ Below w.heap.size w w' := by
  cases hr : (rightB xs && rightB ys) with
  | true => rw [compareB_right hr]; exact compare_right a b la ca lb cb xs ys w ha hb hla hlb hr
  | false =>
    have HA : Hid (Bags w a la xs) := ha
    have HB : Hid (Bags w b lb ys) := hb
    have R : Hid ((rightB xs && rightB ys) = false) := hr
    have E : Hid (compareB xs ys = 0) := compareB_wrong hr
    clear hr ha hb
    go_enter Try.func32, Try.ntmps32
    go_wp2_with (go_at_call 38; refine (both_any _ _ _ _ _ _ xs ys _ HA.out HB.out hla hlb).mono ?_; rintro e w1 ⟨he, hb1⟩; subst he; rw [R.out])
    go_ret
    exact ⟨by rw [E.out]; rfl, hb1⟩
end Go.Proofs.Ytoinepmlbcnbgaa.Bag
