/- total, Total, bothRight, Within, Same and Compare of package bag: contracts of the calls, over the turned program. -/
import Derived.Test.YtoinepmlbcnbgaaBagCmp
import Derived.Laws.StructEq
namespace Go.Proofs.Ytoinepmlbcnbgaa.Bag
open Go.RowKit Go.Proofs.Ytoinepmlbcnbgaa.Frame
set_option linter.unusedVariables false

set_option maxHeartbeats 1000000 in
theorem total_in (a : Option Addr) (len cap : Nat) (rs : List Row) (w : World) (h : Bags w a len rs) (hr : RightP rs) (hl : len ≤ 1000000) :
    Calls Try.prog 35 #[.slice a len cap] w fun e w' => e = .returned (.int .i64 (totF rs)) ∧ Below w.heap.size w w' := by
  have HC : Hid (Bags w a len rs) := h
  have HR : Hid (RightP rs) := hr
  have HL : Hid (rs.length = len) := h.1.1
  clear h hr
  go_enter Try.func35, Try.ntmps35
  go_wp2
  go_loopw [3, 8] (fun n i wr => ∃ k : Nat, k ≤ len ∧ i = .int .i64 k ∧ n = .int .i64 (totF (rs.take k)) ∧ Below w.heap.size w wr) (fun _ i _ => len - (intOf i).toNat)
  case atStart => exact ⟨0, by omega, rfl, rfl, Below.refl _ _⟩
  case round =>
    obtain ⟨k, hk, rfl, rfl, hnx⟩ := hrel
    by_cases hlt : k < len
    · have hlt' : (k : Int) < len := by omega
      obtain ⟨b, off, ha, hbl, hat⟩ := (HC.out.below hnx).row (k := k) hlt
      subst ha
      have hkl : k < rs.length := by rw [HL.out]; exact hlt
      obtain ⟨c0, c1⟩ := hat k hkl
      obtain ⟨m, hm⟩ : ∃ m, m = (rs.getD k zr).1 := ⟨_, rfl⟩
      obtain ⟨c, hc⟩ : ∃ c, c = (rs.getD k zr).2 := ⟨_, rfl⟩
      obtain ⟨t, ht⟩ : ∃ t, t = totF (rs.take k) := ⟨_, rfl⟩
      have t1 : totF (rs.take (k + 1)) = t + c := by rw [take_snoc hkl, totF_snoc, ht, hc]
      have t2 := totF_take_le HR.out k
      have t3 := totF_nonneg HR.out
      have t4 := (right_good HR.out hkl).1.2
      rw [← ht] at t2
      rw [← hc] at t4
      rw [HL.out] at t3
      have t5 : totF rs ≤ 1048576000000 := by omega
      have t6 : 0 ≤ t ∧ t ≤ 1048576000000 := by omega
      have T : Hid (totF (rs.take (k + 1)) = t + c) := t1
      rw [← hm] at c0
      rw [← hc] at c1
      rw [← ht]
      clear hat hm hc ht t1 t2 t3 t5 hkl
      go_wp2
      go_roundw
      case rel => exact ⟨k + 1, by omega, by go_num, by rw [T.out], hnx.alloc hnx.size _⟩
      case measure => simp [intOf]; omega
    · have E : Hid (totF (rs.take k) = totF rs) := by rw [List.take_of_length_le (by rw [HL.out]; omega)]; exact (rfl : totF rs = totF rs)
      go_wp2
      go_ret
      exact ⟨by rw [← E.out]; rfl, hnx⟩

/-- Total -/
def totalB (rs : List Row) : Int := if rightB rs then totF rs else 0
theorem totalB_right {rs : List Row} (h : RightP rs) : totalB rs = totF rs := by unfold totalB; rw [rightB_iff.2 h]; rfl
theorem totalB_wrong {rs : List Row} (h : rightB rs = false) : totalB rs = 0 := by unfold totalB; rw [h]; rfl

set_option maxHeartbeats 1000000 in
theorem Total_any (a : Option Addr) (len cap : Nat) (rs : List Row) (w : World) (h : Bags w a len rs) (hl : len ≤ 1000000) :
    Calls Try.prog 14 #[.slice a len cap] w fun e w' => e = .returned (.int .i64 (totalB rs)) ∧ Below w.heap.size w w' := by
  have HC : Hid (Bags w a len rs) := h
  clear h
  cases hr : rightB rs with
  | false =>
    have R : Hid (rightB rs = false) := hr
    have E : Hid (totalB rs = 0) := totalB_wrong hr
    clear hr
    go_enter Try.func14, Try.ntmps14
    go_wp2_with (go_at_call 10; refine (right_any _ _ _ rs _ HC.out hl).mono ?_; rintro e w' ⟨he, hb⟩; subst he; rw [R.out])
    go_ret
    exact ⟨by rw [E.out]; rfl, hb⟩
  | true =>
    have R : Hid (rightB rs = true) := hr
    have E : Hid (totalB rs = totF rs) := totalB_right (rightB_iff.1 hr)
    clear hr
    go_enter Try.func14, Try.ntmps14
    go_wp2_with (first
      | (go_at_call 10; refine (right_any _ _ _ rs _ HC.out hl).mono ?_; rintro e w' ⟨he, hb⟩; subst he; rw [R.out])
      | (go_at_call 35; refine (total_in _ _ _ rs _ (HC.out.below hb) (rightB_iff.1 R.out) hl).mono ?_; rintro e w2 ⟨he, hb2⟩; subst he))
    go_ret
    exact ⟨by rw [E.out]; rfl, then_ hb hb2⟩

set_option maxHeartbeats 1000000 in
theorem both_any (a b : Option Addr) (la ca lb cb : Nat) (xs ys : List Row) (w : World) (ha : Bags w a la xs) (hb : Bags w b lb ys) (hla : la ≤ 1000000) (hlb : lb ≤ 1000000) :
    Calls Try.prog 38 #[.slice a la ca, .slice b lb cb] w fun e w' => e = .returned (.bool (rightB xs && rightB ys)) ∧ Below w.heap.size w w' := by
  have HA : Hid (Bags w a la xs) := ha
  have HB : Hid (Bags w b lb ys) := hb
  clear ha hb
  cases hr : rightB xs with
  | false =>
    have R : Hid (rightB xs = false) := hr
    clear hr
    go_enter Try.func38, Try.ntmps38
    go_wp2_with fail
    refine (right_any a la ca xs w HA.out hla).mono ?_
    rintro e w' ⟨he, hb⟩
    subst he
    rw [R.out]
    go_wp2
    go_ret
    exact ⟨rfl, hb⟩
  | true =>
    have R : Hid (rightB xs = true) := hr
    clear hr
    go_enter Try.func38, Try.ntmps38
    go_wp2_with fail
    refine (right_any a la ca xs w HA.out hla).mono ?_
    rintro e w' ⟨he, hb⟩
    subst he
    rw [R.out]
    go_wp2_with fail
    refine (right_any b lb cb ys w' (HB.out.below hb) hlb).mono ?_
    rintro e w2 ⟨he, hb2⟩
    subst he
    go_wp2
    go_ret
    exact ⟨retb (Bool.true_and _).symm, then_ hb hb2⟩
end Go.Proofs.Ytoinepmlbcnbgaa.Bag
