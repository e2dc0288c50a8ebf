/- Contracts and plain mathematics, together: BagWithin, BagCompare. -/
import Derived.Test.YtnjpblmplneojaaGreatDoorMaJ
import Derived.Deep.RegionHeld3
import Derived.Deep.DrawnRows
/- Within, Same and Compare of package bag: contracts of the calls, over the turned program. -/
namespace Go.Proofs.YtnjpblmplneojaaGreatDoor.Bag
open Go.RowKit Go.Proofs.YtnjpblmplneojaaGreatDoor.Frame
set_option linter.unusedVariables false
attribute [local go_sem ↓] Go.wp_at_zero Go.wp_at_succ

theorem after_call {W w2 : World} {b : Nat} (h : Below W.drew.heap.size W.drew w2) (hb : b < W.heap.size) : ∀ j, w2.cell? ⟨b, j, none⟩ = W.cell? ⟨b, j, none⟩ := fun j => h.cell (p := ⟨b, j, none⟩) hb
theorem undrew {B : Nat} {W w2 : World} (h : Below B W.drew w2) : Below B W w2 := ⟨h.os, h.tape, h.output, h.size, h.block⟩
theorem withinB_wrong {xs ys : List Row} (h : (rightB xs && rightB ys) = false) : withinB xs ys = false := by unfold withinB; rw [h]; rfl
theorem withinB_bad {xs ys : List Row} {k : Nat} (hk : k < xs.length) (h : cntF ys (xs.getD k zr).1 < (xs.getD k zr).2) : withinB xs ys = false := by
  unfold withinB
  have : (xs.all fun r => decide (r.2 ≤ cntF ys r.1)) = false := by
    rw [List.all_eq_false]
    exact ⟨_, getD_mem hk, by simpa using h⟩
  rw [this, Bool.and_false]
theorem withinB_good {xs ys : List Row} (hr : (rightB xs && rightB ys) = true) (h : ∀ k, k < xs.length → (xs.getD k zr).2 ≤ cntF ys (xs.getD k zr).1) : withinB xs ys = true := by
  unfold withinB
  have : (xs.all fun r => decide (r.2 ≤ cntF ys r.1)) = true := by
    rw [List.all_eq_true]
    intro r hr
    obtain ⟨j, hj, rfl⟩ := List.getElem_of_mem hr
    have := h j hj
    rw [getD_get zr hj] at this
    exact decide_eq_true this
  rw [this, hr]; rfl

set_option maxHeartbeats 1000000 in
theorem within_any (a b : Option Addr) (la ca lb cb : Nat) (xs ys : List Row) (w : World) (ha : Bags w a la xs) (hb : Bags w b lb ys) (hla : la ≤ 1000000) (hlb : lb ≤ 1000000) :
    Calls Tryz.prog 35 #[.slice a la ca, .slice b lb cb] w fun e w' => e = .returned (.bool (withinB xs ys)) ∧ Below w.heap.size w w' := by
  have HA : Hid (Bags w a la xs) := ha
  have HB : Hid (Bags w b lb ys) := hb
  have LA : Hid (xs.length = la) := ha.1.1
  clear ha hb
  cases hr : (rightB xs && rightB ys) with
  | false =>
    have R : Hid ((rightB xs && rightB ys) = false) := hr
    have E : Hid (withinB xs ys = false) := withinB_wrong hr
    clear hr
    go_enter Tryz.func35, Tryz.ntmps35
    go_wp2_with (go_at_call 50; refine (both_any _ _ _ _ _ _ xs ys _ HA.out HB.out hla hlb).mono ?_; rintro e w1 ⟨he, hb1⟩; subst he; rw [R.out])
    go_ret
    exact ⟨by rw [E.out]; rfl, hb1⟩
  | true =>
    have R : Hid ((rightB xs && rightB ys) = true) := hr
    have HY : Hid (RightP ys) := rightB_iff.1 (Bool.and_eq_true_iff.1 hr).2
    clear hr
    go_enter Tryz.func35, Tryz.ntmps35
    go_wp2_with (go_at_call 50; refine (both_any _ _ _ _ _ _ xs ys _ HA.out HB.out hla hlb).mono ?_; rintro e w1 ⟨he, hb1⟩; subst he; rw [R.out])
    go_loopw [13] (fun i wr => ∃ k : Nat, k ≤ la ∧ i = .int .i64 k ∧ Hid (∀ j, j < k → (xs.getD j zr).2 ≤ cntF ys (xs.getD j zr).1) ∧ Below w.heap.size w wr) (fun i _ => la - (intOf i).toNat)
    case atStart => exact ⟨0, by omega, rfl, fun j h => by omega, hb1⟩
    case round =>
      obtain ⟨k, hk, rfl, hF, hnx⟩ := hrel
      clear hb1
      by_cases hlt : k < la
      · have hlt' : (k : Int) < la := by omega
        obtain ⟨ab, off, hbe, hbl, hat⟩ := (HA.out.below hnx).row (k := k) hlt
        subst hbe
        have hkl : k < xs.length := by rw [LA.out]; exact hlt
        obtain ⟨c0, c1⟩ := hat k hkl
        have hBd := withinB_bad (ys := ys) hkl
        obtain ⟨m, hm⟩ : ∃ m, m = (xs.getD k zr).1 := ⟨_, rfl⟩
        obtain ⟨c, hc⟩ : ∃ c, c = (xs.getD k zr).2 := ⟨_, rfl⟩
        have EM : Hid (m = (xs.getD k zr).1) := hm
        have EC : Hid (c = (xs.getD k zr).2) := hc
        rw [← hm] at c0
        rw [← hc] at c1
        simp only [← hm, ← hc] at hBd
        have BD : Hid (cntF ys m < c → withinB xs ys = false) := hBd
        obtain ⟨v, hv⟩ : ∃ v, v = cntF ys m := ⟨_, rfl⟩
        have EV : Hid (cntF ys m = v) := hv.symm
        clear hat hm hc hBd hkl hv
        go_wp2
        generalize hW : wr.alloc (Obj.cells #[Value.int IntKind.i64 m, Value.int IntKind.i64 c] 56) = W1
        have F : W1.cell? ⟨wr.heap.size, 0, none⟩ = some (.int .i64 m) ∧ W1.cell? ⟨wr.heap.size, 1, none⟩ = some (.int .i64 c) ∧ wr.heap.size < W1.heap.size ∧ Below w.heap.size w W1 := by
          subst hW
          exact ⟨by simp, by simp, by simp, hnx.alloc hnx.size _⟩
        obtain ⟨d0, d1, hG, hW1⟩ := F
        have HW1 : Hid (Below w.heap.size w W1) := hW1
        clear c0 c1 hW hbl
        have SO : Hid (∀ wx, Below W1.heap.size W1 wx → Calls Tryz.prog 60 #[.slice b lb cb, .int .i64 m] wx fun e w' => e = .returned (.int .i64 v) ∧ Below wx.heap.size wx w') := fun wx hx => by
          rw [← EV.out]
          exact count_in b lb cb ys m wx (HB.out.below (then_ HW1.out hx)) HY.out hlb
        by_cases hlt2 : v < c
        · have E : Hid (withinB xs ys = false) := BD.out (by rw [EV.out]; exact hlt2)
          go_region_held3 (fun w' => w'.cell? ⟨wr.heap.size, 0, none⟩ = some (.int .i64 m) ∧ w'.cell? ⟨wr.heap.size, 1, none⟩ = some (.int .i64 c)) (go_keep)
            (first | (go_at_call 60; refine (SO.out _ (by exact (Below.refl _ _).drew)).mono ?_; rintro e w2 ⟨he, hb2⟩; subst he; have g1 := after_call hb2 hG))
          go_wp2
          go_ret
          exact ⟨by rw [E.out]; rfl, then_ HW1.out (undrew hb2)⟩
        · have N3 : Hid (∀ j, j < k + 1 → (xs.getD j zr).2 ≤ cntF ys (xs.getD j zr).1) := fun j hj => by
            rcases Nat.lt_or_ge j k with h | h
            · exact hF.out j h
            · obtain rfl : j = k := by omega
              rw [← EM.out, ← EC.out, EV.out]; omega
          go_region_held3 (fun w' => w'.cell? ⟨wr.heap.size, 0, none⟩ = some (.int .i64 m) ∧ w'.cell? ⟨wr.heap.size, 1, none⟩ = some (.int .i64 c)) (go_keep)
            (first | (go_at_call 60; refine (SO.out _ (by exact (Below.refl _ _).drew)).mono ?_; rintro e w2 ⟨he, hb2⟩; subst he; have g1 := after_call hb2 hG))
          go_wp2
          go_roundw
          case rel => exact ⟨k + 1, by omega, by go_num, N3, then_ HW1.out (undrew hb2)⟩
          case measure => simp [intOf]; omega
      · have E : Hid (withinB xs ys = true) := withinB_good R.out fun j hj => hF.out j (by rw [LA.out] at hj; omega)
        go_wp2
        go_ret
        exact ⟨by rw [E.out]; rfl, hnx⟩

set_option maxHeartbeats 1000000 in
theorem same_any (a b : Option Addr) (la ca lb cb : Nat) (xs ys : List Row) (w : World) (ha : Bags w a la xs) (hb : Bags w b lb ys) (hla : la ≤ 1000000) (hlb : lb ≤ 1000000) :
    Calls Tryz.prog 33 #[.slice a la ca, .slice b lb cb] w fun e w' => e = .returned (.bool (sameB xs ys)) ∧ Below w.heap.size w w' := by
  have HA : Hid (Bags w a la xs) := ha
  have HB : Hid (Bags w b lb ys) := hb
  clear ha hb
  cases hr : (rightB xs && rightB ys) with
  | false =>
    have R : Hid ((rightB xs && rightB ys) = false) := hr
    have E : Hid (sameB xs ys = false) := (show sameB xs ys = false by unfold sameB; rw [hr]; rfl)
    clear hr
    go_enter Tryz.func33, Tryz.ntmps33
    go_wp2_with (go_at_call 50; refine (both_any _ _ _ _ _ _ xs ys _ HA.out HB.out hla hlb).mono ?_; rintro e w1 ⟨he, hb1⟩; subst he; rw [R.out])
    go_ret
    exact ⟨by rw [E.out]; rfl, hb1⟩
  | true =>
    have R : Hid ((rightB xs && rightB ys) = true) := hr
    have E : Hid (sameB xs ys = eqB xs ys) := (show sameB xs ys = eqB xs ys by unfold sameB eqB; rw [hr]; rfl)
    clear hr
    go_enter Tryz.func33, Tryz.ntmps33
    go_wp2_with (first
      | (go_at_call 50; refine (both_any _ _ _ _ _ _ xs ys _ HA.out HB.out hla hlb).mono ?_; rintro e w1 ⟨he, hb1⟩; subst he; rw [R.out])
      | (go_at_call 59; refine (equal_any _ _ _ _ _ _ xs ys _ (HA.out.below hb1) (HB.out.below hb1) hla hlb).mono ?_; rintro e w2 ⟨he, hb2⟩; subst he))
    go_ret
    exact ⟨by rw [E.out]; rfl, then_ hb1 hb2⟩
end Go.Proofs.YtnjpblmplneojaaGreatDoor.Bag
/- Compare of package bag: a contract of the call, over the turned program. -/
namespace Go.Proofs.YtnjpblmplneojaaGreatDoor.Bag
open Go.RowKit Go.Proofs.YtnjpblmplneojaaGreatDoor.Frame
set_option linter.unusedVariables false

def compareB (xs ys : List Row) : Int := if rightB xs && rightB ys then cmpF xs ys else 0
theorem compareB_wrong {xs ys : List Row} (h : (rightB xs && rightB ys) = false) : compareB xs ys = 0 := by unfold compareB; rw [h]; rfl
theorem compareB_right {xs ys : List Row} (h : (rightB xs && rightB ys) = true) : compareB xs ys = cmpF xs ys := by unfold compareB; rw [h]; rfl
theorem cmp_step {xs ys : List Row} {k : Nat} (h1 : k < xs.length) (h2 : k < ys.length) : cmpF (xs.drop k) (ys.drop k) =
    if (ys.getD k zr).1 < (xs.getD k zr).1 then -1 else if (xs.getD k zr).1 < (ys.getD k zr).1 then 1 else if (xs.getD k zr).2 < (ys.getD k zr).2 then -1 else if (ys.getD k zr).2 < (xs.getD k zr).2 then 1 else cmpF (xs.drop (k + 1)) (ys.drop (k + 1)) := by
  rw [List.drop_eq_getElem_cons h1, List.drop_eq_getElem_cons h2, getD_get zr h1, getD_get zr h2]; rfl
theorem cmp_end {xs ys : List Row} : cmpF (xs.drop (min xs.length ys.length)) (ys.drop (min xs.length ys.length)) = cmpI xs.length ys.length := by
  unfold cmpI
  by_cases h : xs.length < ys.length
  · rw [Nat.min_eq_left (by omega), List.drop_eq_nil_of_le (Nat.le_refl _), List.drop_eq_getElem_cons h, if_pos (by omega)]; rfl
  · by_cases h2 : ys.length < xs.length
    · rw [Nat.min_eq_right (by omega), List.drop_eq_getElem_cons h2, List.drop_eq_nil_of_le (Nat.le_refl _), if_neg (by omega), if_pos (by omega)]; rfl
    · rw [Nat.min_eq_left (by omega), List.drop_eq_nil_of_le (Nat.le_refl _), List.drop_eq_nil_of_le (by omega), if_neg (by omega), if_neg (by omega)]; rfl

theorem cmp_is {x y n : Int} (h : cmpI x y = n) : ∀ w : World, Calls Tryz.prog 37 #[.int .i64 x, .int .i64 y] w fun e w' => e = .returned (.int .i64 n) ∧ w' = w := fun w => by rw [← h]; exact cmp_any x y w

set_option maxHeartbeats 2000000 in
theorem compare_right (a b : Option Addr) (la ca lb cb : Nat) (xs ys : List Row) (w : World) (ha : Bags w a la xs) (hb : Bags w b lb ys) (hla : la ≤ 1000000) (hlb : lb ≤ 1000000) (hr : (rightB xs && rightB ys) = true) :
    Calls Tryz.prog 39 #[.slice a la ca, .slice b lb cb] w fun e w' => e = .returned (.int .i64 (cmpF xs ys)) ∧ Below w.heap.size w w' := by
  have HA : Hid (Bags w a la xs) := ha
  have HB : Hid (Bags w b lb ys) := hb
  have LA : Hid (xs.length = la) := ha.1.1
  have LB : Hid (ys.length = lb) := hb.1.1
  have R : Hid ((rightB xs && rightB ys) = true) := hr
  clear ha hb hr
  by_cases hll : lb < la
  all_goals
    go_enter Tryz.func39, Tryz.ntmps39
    go_wp2_with (go_at_call 50; refine (both_any _ _ _ _ _ _ xs ys _ HA.out HB.out hla hlb).mono ?_; rintro e w1 ⟨he, hb1⟩; subst he; rw [R.out])
    go_loopw [17] (fun i wr => ∃ k : Nat, k ≤ min la lb ∧ i = .int .i64 k ∧ Hid (cmpF xs ys = cmpF (xs.drop k) (ys.drop k)) ∧ Below w.heap.size w wr) (fun i _ => min la lb - (intOf i).toNat)
    case atStart => exact ⟨0, by omega, rfl, (rfl : cmpF xs ys = _), hb1⟩
    case round =>
      obtain ⟨k, hk, rfl, hD, hnx⟩ := hrel
      clear hb1
      by_cases hlt : k < min la lb
      · have hka : k < la := by omega
        have hkb : k < lb := by omega
        have hka' : (k : Int) < la := by omega
        have hkb' : (k : Int) < lb := by omega
        obtain ⟨ab, ao, hae, hal, hat⟩ := (HA.out.below hnx).row (k := k) hka
        obtain ⟨bb, bo, hbe, hbl, hbt⟩ := (HB.out.below hnx).row (k := k) hkb
        subst hae hbe
        obtain ⟨c0, c1⟩ := hat k (by rw [LA.out]; exact hka)
        obtain ⟨d0, d1⟩ := hbt k (by rw [LB.out]; exact hkb)
        have hS := cmp_step (xs := xs) (ys := ys) (k := k) (by rw [LA.out]; exact hka) (by rw [LB.out]; exact hkb)
        rw [← hD.out] at hS
        obtain ⟨x, hx⟩ : ∃ x, x = xs.getD k zr := ⟨_, rfl⟩
        obtain ⟨y, hy⟩ : ∃ y, y = ys.getD k zr := ⟨_, rfl⟩
        rw [← hx] at c0 c1 hS
        rw [← hy] at d0 d1 hS
        obtain ⟨x1, x2⟩ := x
        obtain ⟨y1, y2⟩ := y
        simp only at c0 c1 d0 d1 hS
        have S : Hid (cmpF xs ys = _) := hS
        clear hat hbt hx hy hS
        by_cases h1 : y1 < x1
        · have Q : Hid (∀ w : World, Calls Tryz.prog 37 #[.int .i64 y1, .int .i64 x1] w fun e w' => e = .returned (.int .i64 (-1)) ∧ w' = w) := cmp_is (show cmpI y1 x1 = -1 by unfold cmpI; rw [if_pos h1])
          have F : Hid (cmpF xs ys = -1) := (show cmpF xs ys = -1 by rw [S.out, if_pos h1])
          clear S
          go_wp2
          go_quiet (first | (go_at_call 37; refine Calls.quiet_of_same (Q.out _)))
          go_wp2
          go_ret
          exact ⟨by rw [F.out]; rfl, below_drewN hnx _⟩
        by_cases h2 : x1 < y1
        · have Q : Hid (∀ w : World, Calls Tryz.prog 37 #[.int .i64 y1, .int .i64 x1] w fun e w' => e = .returned (.int .i64 1) ∧ w' = w) := cmp_is (show cmpI y1 x1 = 1 by unfold cmpI; rw [if_neg h1, if_pos h2])
          have F : Hid (cmpF xs ys = 1) := (show cmpF xs ys = 1 by rw [S.out, if_neg h1, if_pos h2])
          clear S
          go_wp2
          go_quiet (first | (go_at_call 37; refine Calls.quiet_of_same (Q.out _)))
          go_wp2
          go_ret
          exact ⟨by rw [F.out]; rfl, below_drewN hnx _⟩
        have Q : Hid (∀ w : World, Calls Tryz.prog 37 #[.int .i64 y1, .int .i64 x1] w fun e w' => e = .returned (.int .i64 0) ∧ w' = w) := cmp_is (show cmpI y1 x1 = 0 by unfold cmpI; rw [if_neg h1, if_neg h2])
        by_cases h3 : x2 < y2
        · have Q2 : Hid (∀ w : World, Calls Tryz.prog 37 #[.int .i64 x2, .int .i64 y2] w fun e w' => e = .returned (.int .i64 (-1)) ∧ w' = w) := cmp_is (show cmpI x2 y2 = -1 by unfold cmpI; rw [if_pos h3])
          have F : Hid (cmpF xs ys = -1) := (show cmpF xs ys = -1 by rw [S.out, if_neg h1, if_neg h2, if_pos h3])
          clear S
          go_wp2
          go_quiet (first | (go_at_call 37; refine Calls.quiet_of_same (Q.out _)))
          go_wp2
          generalize hwq : wr.drewN _ = wq
          have k1 : wq.cell? ⟨ab, ao + k * 2 + 1, none⟩ = some (.int .i64 x2) := by rw [← hwq]; exact c1
          have k2 : wq.cell? ⟨bb, bo + k * 2 + 1, none⟩ = some (.int .i64 y2) := by rw [← hwq]; exact d1
          have hnq : Below w.heap.size w wq := by rw [← hwq]; exact below_drewN hnx _
          clear hwq c0 c1 d0 d1 Q
          go_quiet (first | (go_at_call 37; refine Calls.quiet_of_same (Q2.out _)))
          go_wp2
          go_ret
          exact ⟨by rw [F.out]; rfl, below_drewN hnq _⟩
        by_cases h4 : y2 < x2
        · have Q2 : Hid (∀ w : World, Calls Tryz.prog 37 #[.int .i64 x2, .int .i64 y2] w fun e w' => e = .returned (.int .i64 1) ∧ w' = w) := cmp_is (show cmpI x2 y2 = 1 by unfold cmpI; rw [if_neg h3, if_pos h4])
          have F : Hid (cmpF xs ys = 1) := (show cmpF xs ys = 1 by rw [S.out, if_neg h1, if_neg h2, if_neg h3, if_pos h4])
          clear S
          go_wp2
          go_quiet (first | (go_at_call 37; refine Calls.quiet_of_same (Q.out _)))
          go_wp2
          generalize hwq : wr.drewN _ = wq
          have k1 : wq.cell? ⟨ab, ao + k * 2 + 1, none⟩ = some (.int .i64 x2) := by rw [← hwq]; exact c1
          have k2 : wq.cell? ⟨bb, bo + k * 2 + 1, none⟩ = some (.int .i64 y2) := by rw [← hwq]; exact d1
          have hnq : Below w.heap.size w wq := by rw [← hwq]; exact below_drewN hnx _
          clear hwq c0 c1 d0 d1 Q
          go_quiet (first | (go_at_call 37; refine Calls.quiet_of_same (Q2.out _)))
          go_wp2
          go_ret
          exact ⟨by rw [F.out]; rfl, below_drewN hnq _⟩
        · have Q2 : Hid (∀ w : World, Calls Tryz.prog 37 #[.int .i64 x2, .int .i64 y2] w fun e w' => e = .returned (.int .i64 0) ∧ w' = w) := cmp_is (show cmpI x2 y2 = 0 by unfold cmpI; rw [if_neg h3, if_neg h4])
          have F : Hid (cmpF xs ys = cmpF (xs.drop (k + 1)) (ys.drop (k + 1))) := (show cmpF xs ys = _ by rw [S.out, if_neg h1, if_neg h2, if_neg h3, if_neg h4])
          clear S
          go_wp2
          go_quiet (first | (go_at_call 37; refine Calls.quiet_of_same (Q.out _)))
          go_wp2
          generalize hwq : wr.drewN _ = wq
          have k1 : wq.cell? ⟨ab, ao + k * 2 + 1, none⟩ = some (.int .i64 x2) := by rw [← hwq]; exact c1
          have k2 : wq.cell? ⟨bb, bo + k * 2 + 1, none⟩ = some (.int .i64 y2) := by rw [← hwq]; exact d1
          have hnq : Below w.heap.size w wq := by rw [← hwq]; exact below_drewN hnx _
          clear hwq c0 c1 d0 d1 Q
          go_quiet (first | (go_at_call 37; refine Calls.quiet_of_same (Q2.out _)))
          go_wp2
          go_roundw
          case rel => exact ⟨k + 1, by omega, by go_num, F, below_drewN hnq _⟩
          case measure => simp [intOf]; omega
      · have hkm : k = min la lb := by omega
        have F : Hid (cmpF xs ys = cmpI la lb) := (show cmpF xs ys = cmpI la lb by rw [hD.out, hkm, ← LA.out, ← LB.out]; exact cmp_end)
        first | have hlt' : ¬ (k : Int) < la := by omega | have hlt' : ¬ (k : Int) < lb := by omega
        clear hkm
        go_wp2_with (go_at_call 37; refine (cmp_any _ _ _).mono ?_; rintro e w' ⟨he, hw⟩; subst he; have hw := hw.symm; subst hw)
        go_ret
        exact ⟨by rw [F.out]; rfl, hnx⟩

set_option maxHeartbeats 1000000 in
theorem compare_any (a b : Option Addr) (la ca lb cb : Nat) (xs ys : List Row) (w : World) (ha : Bags w a la xs) (hb : Bags w b lb ys) (hla : la ≤ 1000000) (hlb : lb ≤ 1000000) :
    Calls Tryz.prog 39 #[.slice a la ca, .slice b lb cb] w fun e w' => e = .returned (.int .i64 (compareB xs ys)) ∧ Below w.heap.size w w' := by
  cases hr : (rightB xs && rightB ys) with
  | true => rw [compareB_right hr]; exact compare_right a b la ca lb cb xs ys w ha hb hla hlb hr
  | false =>
    have HA : Hid (Bags w a la xs) := ha
    have HB : Hid (Bags w b lb ys) := hb
    have R : Hid ((rightB xs && rightB ys) = false) := hr
    have E : Hid (compareB xs ys = 0) := compareB_wrong hr
    clear hr ha hb
    go_enter Tryz.func39, Tryz.ntmps39
    go_wp2_with (go_at_call 50; refine (both_any _ _ _ _ _ _ xs ys _ HA.out HB.out hla hlb).mono ?_; rintro e w1 ⟨he, hb1⟩; subst he; rw [R.out])
    go_ret
    exact ⟨by rw [E.out]; rfl, hb1⟩
end Go.Proofs.YtnjpblmplneojaaGreatDoor.Bag
