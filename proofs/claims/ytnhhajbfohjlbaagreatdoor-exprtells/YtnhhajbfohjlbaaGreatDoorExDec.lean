/- The document's own Decimals: a contract of the call, over the turned program. -/
import Derived.Test.YtnhhajbfohjlbaaGreatDoorExText7
namespace Go.Proofs.YtnhhajbfohjlbaaGreatDoor.Expr
open Go.RowKit Go.Proofs.YtnhhajbfohjlbaaGreatDoor.Frame Go.Proofs.YtnhhajbfohjlbaaGreatDoor.Calc
set_option linter.unusedVariables false
set_option linter.unusedSimpArgs false

def strB (l : List UInt8) : ByteArray := ⟨l.toArray⟩
theorem strB_append (l m : List UInt8) : strB l ++ strB m = strB (l ++ m) := by
  apply ByteArray.ext
  simp [strB, ByteArray.data_append]
theorem one_str (w : World) (z : Nat) (hz : z < 256) (t : TypeId) : (convert 44 9 (.slice (some ⟨w.heap.size, 0, none⟩) 1 1)).run Tryz.prog (w.alloc (.cells #[.int .u8 z] t)) = .ok (.string (strB [UInt8.ofNat z])) (w.alloc (.cells #[.int .u8 z] t)) :=
  run_convert_bytes_back (P := Tryz.prog) (w.alloc (.cells #[.int .u8 z] t)) 44 9 5 ⟨w.heap.size, 0, none⟩ 1 [UInt8.ofNat z] Tryz.underlying44 Tryz.underlying5 Tryz.underlying9 (fun j hj => by
    obtain rfl : j = 0 := by simp at hj; omega
    simp [Addr.add]
    omega)
/-- what is left, and what is written -/
def DecInv (u m : Nat) (s : List UInt8) : Prop := if m = 0 then s = Lib.decDigits u else Lib.decDigits m ++ s = Lib.decDigits u
theorem dec_step {u m : Nat} {s : List UInt8} (hm : ¬ m = 0) (h : DecInv u m s) : DecInv u (m / 10) (UInt8.ofNat (48 + m % 10) :: s) := by
  unfold DecInv at h ⊢
  rw [if_neg hm] at h
  by_cases h10 : m < 10
  · rw [if_pos (by omega), ← h, Lib.decDigits_one h10, Nat.mod_eq_of_lt h10]; rfl
  · rw [if_neg (by omega), ← h]
    conv => rhs; rw [Lib.decDigits, dif_neg h10]
    simp
theorem dec_len (u : Nat) : (Lib.decDigits u).length ≤ 1 + u / 10 := by
  induction u using Nat.strongRecOn with
  | _ u ih =>
    rw [Lib.decDigits]
    split
    · simp
    · have := ih (u / 10) (by omega)
      simp only [List.length_append, List.length_cons, List.length_nil]
      omega
theorem dec_len2 {u m : Nat} {s : List UInt8} (h : DecInv u m s) : s.length ≤ 1 + u / 10 := by
  have h1 := dec_len u
  unfold DecInv at h
  split at h
  · rw [h]; exact h1
  · rw [← h, List.length_append] at h1; omega
theorem strB_size (l : List UInt8) : (strB l).size = l.length := by simp [strB, ByteArray.size]
theorem dec_start {u : Nat} (h : ¬ u = 0) : DecInv u u [] := by unfold DecInv; rw [if_neg h]; simp
theorem dec_end {u : Nat} {s : List UInt8} (h : DecInv u 0 s) : s = Lib.decDigits u := by unfold DecInv at h; rwa [if_pos rfl] at h

set_option maxRecDepth 100000 in
set_option maxHeartbeats 2000000 in
theorem rdec_pos (u : Nat) (w : World) (hu : 1 ≤ u) (hu2 : u ≤ 9223372036854775807) :
    Calls Tryz.prog 25 #[.int .i64 u] w fun e w' => e = .returned (.string (strB (Lib.itoa u))) ∧ Below w.heap.size w w' := by
  have E : Hid (Lib.itoa u = Lib.decDigits u) := by
    unfold Hid Lib.itoa; rw [if_neg (by omega)]; simp
  have hu0 : ¬ (u : Int) = 0 := by omega
  have hu1 : ¬ (u : Int) < 0 := by omega
  go_enter Tryz.func25, Tryz.ntmps25
  go_wp2_with fail
  go_loopw [3, 4] (fun s k wr => ∃ (m : Nat) (l : List UInt8), m ≤ u ∧ k = .int .i64 m ∧ s = .string (strB l) ∧ Hid (DecInv u m l) ∧ Below w.heap.size w wr) (fun _ k _ => (intOf k).toNat)
  case atStart => exact ⟨u, [], by omega, rfl, rfl, dec_start (by omega), Below.refl _ _⟩
  case round =>
    obtain ⟨m, l, hm, rfl, rfl, hI, hnx⟩ := hrel
    by_cases hm0 : m = 0
    · subst hm0
      have EL : Hid (l = Lib.decDigits u) := dec_end hI.out
      clear hI
      go_wp2_with fail
      go_ret
      exact ⟨by rw [E.out, ← EL.out]; rfl, hnx⟩
    · have hm1 : ¬ (m : Int) = 0 := by omega
      have I2 : Hid (DecInv u (m / 10) (UInt8.ofNat (48 + m % 10) :: l)) := dec_step hm0 hI.out
      have hcv : (convert 44 9 (.slice (some ⟨wr.heap.size, 0, none⟩) 1 1)).run Tryz.prog (wr.alloc (.cells #[.int .u8 (48 + (m : Int) % 10)] 5)) = .ok (.string (strB [UInt8.ofNat (48 + m % 10)])) (wr.alloc (.cells #[.int .u8 (48 + (m : Int) % 10)] 5)) := by
        have := one_str wr (48 + m % 10) (by omega) 5
        rw [show ((48 + m % 10 : Nat) : Int) = 48 + (m : Int) % 10 by omega] at this
        exact this
      have h1 : (m : Int).tmod 10 = (m : Int) % 10 := Int.tmod_eq_emod_of_nonneg (by omega)
      have h2 : (m : Int).tdiv 10 = (m : Int) / 10 := Int.tdiv_eq_ediv_of_nonneg (by omega)
      have h3 : ¬ (m : Int) % 10 < 0 := by omega
      have hll := dec_len2 hI.out
      have hsz : ¬ 9223372036854775807 < (strB [UInt8.ofNat (48 + m % 10)]).size + (strB l).size := by rw [strB_size, strB_size]; simp only [List.length_cons, List.length_nil]; omega
      generalize UInt8.ofNat (48 + m % 10) = dg at I2 hcv hsz
      clear hI hll
      go_wp2_with fail
      go_roundw
      case rel => exact ⟨m / 10, dg :: l, by omega, by go_num, by rw [strB_append]; rfl, I2, hnx.alloc (by have := hnx.size; omega) _⟩
      case measure => simp [intOf]; omega

set_option maxRecDepth 100000 in
set_option maxHeartbeats 2000000 in
theorem rdec_neg (u : Nat) (w : World) (hu : 1 ≤ u) (hu2 : u ≤ 9223372036854775808) :
    Calls Tryz.prog 25 #[.int .i64 (-(u : Int))] w fun e w' => e = .returned (.string (strB (Lib.itoa (-(u : Int))))) ∧ Below w.heap.size w w' := by
  have E : Hid (Lib.itoa (-(u : Int)) = 45 :: Lib.decDigits u) := Lib.itoa_neg u hu
  have hu0 : ¬ -(u : Int) = 0 := by omega
  have hu1 : -(u : Int) < 0 := by omega
  go_enter Tryz.func25, Tryz.ntmps25
  go_wp2_with fail
  go_loopw [3, 4] (fun s k wr => ∃ (m : Nat) (l : List UInt8), m ≤ u ∧ k = .int .i64 (-(m : Int)) ∧ s = .string (strB l) ∧ Hid (DecInv u m l) ∧ Below w.heap.size w wr) (fun _ k _ => (intOf k).natAbs)
  case atStart => exact ⟨u, [], by omega, rfl, rfl, dec_start (by omega), Below.refl _ _⟩
  case round =>
    obtain ⟨m, l, hm, rfl, rfl, hI, hnx⟩ := hrel
    by_cases hm0 : m = 0
    · subst hm0
      have EL : Hid (l = Lib.decDigits u) := dec_end hI.out
      have hll := dec_len2 hI.out
      have hsz : ¬ 9223372036854775807 < (ByteArray.mk #[45]).size + (strB l).size := by rw [strB_size]; show ¬ 9223372036854775807 < 1 + l.length; omega
      clear hI hll
      go_wp2_with fail
      go_ret
      exact ⟨by rw [E.out, ← EL.out]; exact congrArg (fun s => Ending.returned (.string s)) (strB_append [45] l), hnx⟩
    · have hm1 : ¬ -(m : Int) = 0 := by omega
      have I2 : Hid (DecInv u (m / 10) (UInt8.ofNat (48 + m % 10) :: l)) := dec_step hm0 hI.out
      have hcv : (convert 44 9 (.slice (some ⟨wr.heap.size, 0, none⟩) 1 1)).run Tryz.prog (wr.alloc (.cells #[.int .u8 (48 + (m : Int) % 10)] 5)) = .ok (.string (strB [UInt8.ofNat (48 + m % 10)])) (wr.alloc (.cells #[.int .u8 (48 + (m : Int) % 10)] 5)) := by
        have := one_str wr (48 + m % 10) (by omega) 5
        rw [show ((48 + m % 10 : Nat) : Int) = 48 + (m : Int) % 10 by omega] at this
        exact this
      have h1 : (-(m : Int)).tmod 10 = -((m : Int) % 10) := by rw [Int.neg_tmod, Int.tmod_eq_emod_of_nonneg (by omega)]
      have h2 : (-(m : Int)).tdiv 10 = -((m : Int) / 10) := by rw [Int.neg_tdiv, Int.tdiv_eq_ediv_of_nonneg (by omega)]
      have hll := dec_len2 hI.out
      have hsz : ¬ 9223372036854775807 < (strB [UInt8.ofNat (48 + m % 10)]).size + (strB l).size := by rw [strB_size, strB_size]; simp only [List.length_cons, List.length_nil]; omega
      generalize UInt8.ofNat (48 + m % 10) = dg at I2 hcv hsz
      clear hI hll
      by_cases hr : (m : Int) % 10 = 0
      · have h3 : ¬ -((m : Int) % 10) < 0 := by omega
        rw [hr] at hcv
        simp only [Int.add_zero] at hcv
        go_wp2_with fail
        go_roundw
        case rel => exact ⟨m / 10, dg :: l, by omega, by go_num, by rw [strB_append]; rfl, I2, hnx.alloc (by have := hnx.size; omega) _⟩
        case measure => simp [intOf]; omega
      · have h3 : -((m : Int) % 10) < 0 := by omega
        go_wp2_with fail
        go_roundw
        case rel => exact ⟨m / 10, dg :: l, by omega, by go_num, by rw [strB_append]; rfl, I2, hnx.alloc (by have := hnx.size; omega) _⟩
        case measure => simp [intOf]; omega

set_option maxHeartbeats 1000000 in
theorem rdec_zero (w : World) :
    Calls Tryz.prog 25 #[.int .i64 0] w fun e w' => e = .returned (.string (strB (Lib.itoa 0))) ∧ Below w.heap.size w w' := by
  have E : Hid (Lib.itoa 0 = [48]) := by unfold Hid; decide +kernel
  go_enter Tryz.func25, Tryz.ntmps25
  go_wp2_with fail
  go_ret
  exact ⟨by rw [E.out]; rfl, Below.refl _ _⟩
theorem rdec_any (n : Int) (w : World) (hn : In64 n) :
    Calls Tryz.prog 25 #[.int .i64 n] w fun e w' => e = .returned (.string (strB (Lib.itoa n))) ∧ Below w.heap.size w w' := by
  by_cases h0 : n = 0
  · subst h0; exact rdec_zero w
  by_cases h1 : 0 < n
  · obtain ⟨u, rfl⟩ := Int.eq_ofNat_of_zero_le (show 0 ≤ n by omega)
    exact rdec_pos u w (by omega) (by have := hn.2; omega)
  · obtain ⟨u, hu⟩ := Int.eq_ofNat_of_zero_le (show 0 ≤ -n by omega)
    obtain rfl : n = -(u : Int) := by omega
    exact rdec_neg u w (by omega) (by have := hn.1; omega)
end Go.Proofs.YtnhhajbfohjlbaaGreatDoor.Expr
