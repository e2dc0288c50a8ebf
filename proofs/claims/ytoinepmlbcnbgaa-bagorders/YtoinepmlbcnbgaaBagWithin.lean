/- Within, Same and Compare of package bag: contracts of the calls, over the turned program. -/
import Derived.Test.YtoinepmlbcnbgaaBagEq
import Derived.Deep.RegionHeld3
import Derived.Deep.DrawnRows
namespace Go.Proofs.Ytoinepmlbcnbgaa.Bag
open Go.RowKit Go.Proofs.Ytoinepmlbcnbgaa.Frame
set_option linter.unusedVariables false
attribute [local go_sem ↓] Go.wp_at_zero Go.wp_at_succ

theorem after_call {W w2 : World} {b : Nat} (h : Below W.drew.heap.size W.drew w2) (hb : b < W.heap.size) : ∀ j, w2.cell? ⟨b, j, none⟩ = W.cell? ⟨b, j, none⟩ := fun j => h.cell (p := ⟨b, j, none⟩) hb
theorem undrew {B : Nat} {W w2 : World} (h : Below B W.drew w2) : Below B W w2 := ⟨h.os, h.tape, h.output, h.size, h.block⟩
theorem withinB_wrong {xs ys : List Row} (h : (rightB xs && rightB ys) = false) : withinB xs ys = false := by unfold withinB; rw [h]; rfl
theorem withinB_bad {xs ys : List Row} {k : Nat} (hk : k < xs.length) (h : cntF ys (xs.getD k zr).1 < (xs.getD k zr).2) : withinB xs ys = false := by
  unfold withinB
  have : (xs.all fun r => decide (r.2 ≤ cntF ys r.1)) = false := by
    rw [List.all_eq_false]
    exact ⟨_, getD_mem hk, by simpa using h⟩
  rw [this, Bool.and_false]
theorem withinB_good {xs ys : List Row} (hr : (rightB xs && rightB ys) = true) (h : ∀ k, k < xs.length → (xs.getD k zr).2 ≤ cntF ys (xs.getD k zr).1) : withinB xs ys = true := by
  unfold withinB
  have : (xs.all fun r => decide (r.2 ≤ cntF ys r.1)) = true := by
    rw [List.all_eq_true]
    intro r hr
    obtain ⟨j, hj, rfl⟩ := List.getElem_of_mem hr
    have := h j hj
    rw [getD_get zr hj] at this
    exact decide_eq_true this
  rw [this, hr]; rfl

set_option maxHeartbeats 1000000 in
theorem within_any (a b : Option Addr) (la ca lb cb : Nat) (xs ys : List Row) (w : World) (ha : Bags w a la xs) (hb : Bags w b lb ys) (hla : la ≤ 1000000) (hlb : lb ≤ 1000000) :
    Calls Try.prog 28 #[.slice a la ca, .slice b lb cb] w fun e w' => e = .returned (.bool (withinB xs ys)) ∧ Below w.heap.size w w' := by
  have HA : Hid (Bags w a la xs) := ha
  have HB : Hid (Bags w b lb ys) := hb
  have LA : Hid (xs.length = la) := ha.1.1
  clear ha hb
  cases hr : (rightB xs && rightB ys) with
  | false =>
    have R : Hid ((rightB xs && rightB ys) = false) := hr
    have E : Hid (withinB xs ys = false) := withinB_wrong hr
    clear hr
    go_enter Try.func28, Try.ntmps28
    go_wp2_with (go_at_call 38; refine (both_any _ _ _ _ _ _ xs ys _ HA.out HB.out hla hlb).mono ?_; rintro e w1 ⟨he, hb1⟩; subst he; rw [R.out])
    go_ret
    exact ⟨by rw [E.out]; rfl, hb1⟩
  | true =>
    have R : Hid ((rightB xs && rightB ys) = true) := hr
    have HY : Hid (RightP ys) := rightB_iff.1 (Bool.and_eq_true_iff.1 hr).2
    clear hr
    go_enter Try.func28, Try.ntmps28
    go_wp2_with (go_at_call 38; refine (both_any _ _ _ _ _ _ xs ys _ HA.out HB.out hla hlb).mono ?_; rintro e w1 ⟨he, hb1⟩; subst he; rw [R.out])
    go_loopw [13] (fun i wr => ∃ k : Nat, k ≤ la ∧ i = .int .i64 k ∧ Hid (∀ j, j < k → (xs.getD j zr).2 ≤ cntF ys (xs.getD j zr).1) ∧ Below w.heap.size w wr) (fun i _ => la - (intOf i).toNat)
    case atStart => exact ⟨0, by omega, rfl, fun j h => by omega, hb1⟩
    case round =>
      obtain ⟨k, hk, rfl, hF, hnx⟩ := hrel
      clear hb1
      by_cases hlt : k < la
      · have hlt' : (k : Int) < la := by omega
        obtain ⟨ab, off, hbe, hbl, hat⟩ := (HA.out.below hnx).row (k := k) hlt
        subst hbe
        have hkl : k < xs.length := by rw [LA.out]; exact hlt
        obtain ⟨c0, c1⟩ := hat k hkl
        have hBd := withinB_bad (ys := ys) hkl
        obtain ⟨m, hm⟩ : ∃ m, m = (xs.getD k zr).1 := ⟨_, rfl⟩
        obtain ⟨c, hc⟩ : ∃ c, c = (xs.getD k zr).2 := ⟨_, rfl⟩
        have EM : Hid (m = (xs.getD k zr).1) := hm
        have EC : Hid (c = (xs.getD k zr).2) := hc
        rw [← hm] at c0
        rw [← hc] at c1
        simp only [← hm, ← hc] at hBd
        have BD : Hid (cntF ys m < c → withinB xs ys = false) := hBd
        obtain ⟨v, hv⟩ : ∃ v, v = cntF ys m := ⟨_, rfl⟩
        have EV : Hid (cntF ys m = v) := hv.symm
        clear hat hm hc hBd hkl hv
        go_wp2
        generalize hW : wr.alloc (Obj.cells #[Value.int IntKind.i64 m, Value.int IntKind.i64 c] 39) = W1
        have F : W1.cell? ⟨wr.heap.size, 0, none⟩ = some (.int .i64 m) ∧ W1.cell? ⟨wr.heap.size, 1, none⟩ = some (.int .i64 c) ∧ wr.heap.size < W1.heap.size ∧ Below w.heap.size w W1 := by
          subst hW
          exact ⟨by simp, by simp, by simp, hnx.alloc hnx.size _⟩
        obtain ⟨d0, d1, hG, hW1⟩ := F
        have HW1 : Hid (Below w.heap.size w W1) := hW1
        clear c0 c1 hW hbl
        have SO : Hid (∀ wx, Below W1.heap.size W1 wx → Calls Try.prog 34 #[.slice b lb cb, .int .i64 m] wx fun e w' => e = .returned (.int .i64 v) ∧ Below wx.heap.size wx w') := fun wx hx => by
          rw [← EV.out]
          exact count_in b lb cb ys m wx (HB.out.below (then_ HW1.out hx)) HY.out hlb
        by_cases hlt2 : v < c
        · have E : Hid (withinB xs ys = false) := BD.out (by rw [EV.out]; exact hlt2)
          go_region_held3 (fun w' => w'.cell? ⟨wr.heap.size, 0, none⟩ = some (.int .i64 m) ∧ w'.cell? ⟨wr.heap.size, 1, none⟩ = some (.int .i64 c)) (go_keep)
            (first | (go_at_call 34; refine (SO.out _ (by exact (Below.refl _ _).drew)).mono ?_; rintro e w2 ⟨he, hb2⟩; subst he; have g1 := after_call hb2 hG))
          go_wp2
          go_ret
          exact ⟨by rw [E.out]; rfl, then_ HW1.out (undrew hb2)⟩
        · have N3 : Hid (∀ j, j < k + 1 → (xs.getD j zr).2 ≤ cntF ys (xs.getD j zr).1) := fun j hj => by
            rcases Nat.lt_or_ge j k with h | h
            · exact hF.out j h
            · obtain rfl : j = k := by omega
              rw [← EM.out, ← EC.out, EV.out]; omega
          go_region_held3 (fun w' => w'.cell? ⟨wr.heap.size, 0, none⟩ = some (.int .i64 m) ∧ w'.cell? ⟨wr.heap.size, 1, none⟩ = some (.int .i64 c)) (go_keep)
            (first | (go_at_call 34; refine (SO.out _ (by exact (Below.refl _ _).drew)).mono ?_; rintro e w2 ⟨he, hb2⟩; subst he; have g1 := after_call hb2 hG))
          go_wp2
          go_roundw
          case rel => exact ⟨k + 1, by omega, by go_num, N3, then_ HW1.out (undrew hb2)⟩
          case measure => simp [intOf]; omega
      · have E : Hid (withinB xs ys = true) := withinB_good R.out fun j hj => hF.out j (by rw [LA.out] at hj; omega)
        go_wp2
        go_ret
        exact ⟨by rw [E.out]; rfl, hnx⟩

set_option maxHeartbeats 1000000 in
theorem same_any (a b : Option Addr) (la ca lb cb : Nat) (xs ys : List Row) (w : World) (ha : Bags w a la xs) (hb : Bags w b lb ys) (hla : la ≤ 1000000) (hlb : lb ≤ 1000000) :
    Calls Try.prog 30 #[.slice a la ca, .slice b lb cb] w fun e w' => e = .returned (.bool (sameB xs ys)) ∧ Below w.heap.size w w' := by
  have HA : Hid (Bags w a la xs) := ha
  have HB : Hid (Bags w b lb ys) := hb
  clear ha hb
  cases hr : (rightB xs && rightB ys) with
  | false =>
    have R : Hid ((rightB xs && rightB ys) = false) := hr
    have E : Hid (sameB xs ys = false) := (show sameB xs ys = false by unfold sameB; rw [hr]; rfl)
    clear hr
    go_enter Try.func30, Try.ntmps30
    go_wp2_with (go_at_call 38; refine (both_any _ _ _ _ _ _ xs ys _ HA.out HB.out hla hlb).mono ?_; rintro e w1 ⟨he, hb1⟩; subst he; rw [R.out])
    go_ret
    exact ⟨by rw [E.out]; rfl, hb1⟩
  | true =>
    have R : Hid ((rightB xs && rightB ys) = true) := hr
    have E : Hid (sameB xs ys = eqB xs ys) := (show sameB xs ys = eqB xs ys by unfold sameB eqB; rw [hr]; rfl)
    clear hr
    go_enter Try.func30, Try.ntmps30
    go_wp2_with (first
      | (go_at_call 38; refine (both_any _ _ _ _ _ _ xs ys _ HA.out HB.out hla hlb).mono ?_; rintro e w1 ⟨he, hb1⟩; subst he; rw [R.out])
      | (go_at_call 40; refine (equal_any _ _ _ _ _ _ xs ys _ (HA.out.below hb1) (HB.out.below hb1) hla hlb).mono ?_; rintro e w2 ⟨he, hb2⟩; subst he))
    go_ret
    exact ⟨by rw [E.out]; rfl, then_ hb1 hb2⟩
end Go.Proofs.Ytoinepmlbcnbgaa.Bag
