/- Contracts and plain mathematics, together: TokRun, TokGap, TokWord. -/
import Derived.Test.YtjcanodnlnodpaaGreatDoorMPlain
import Derived.Test.YtjcanodnlnodpaaGreatDoorMFrame
import Derived.WalkKit
import Derived.WalkSpells
import Derived.WalkLawsBesides
/- char's methods, on and run of package token: contracts of the calls, over the turned program. -/
namespace Go.Proofs.YtjcanodnlnodpaaGreatDoor.Token
open Go.RowKit Go.Proofs.YtjcanodnlnodpaaGreatDoor.Colour
set_option linter.unusedVariables false
set_option linter.unusedSimpArgs false
def hash8 (c : UInt8) : Bool := c.toNat == 35
def note8 (c : UInt8) : Bool := c.toNat != 10
/-- such a byte stands there -/
def onB (p : UInt8 → Bool) (l : List UInt8) (i : Nat) : Bool := decide (i < l.length) && p (l.getD i 0)
/-- where such bytes end -/
def runF (p : UInt8 → Bool) (l : List UInt8) (i : Nat) : Nat := i + runL p (l.drop i)
theorem at_list {s : ByteArray} {i : Nat} (h : i < s.size) : s.data.toList.getD i 0 = s[i] := by
  rw [List.getD_eq_getElem?_getD, List.getElem?_eq_getElem (by simpa using h)]; rfl
theorem size_list (s : ByteArray) : s.data.toList.length = s.size := by simp
theorem onB_in {p : UInt8 → Bool} {s : ByteArray} {i : Nat} (h : i < s.size) : onB p s.data.toList i = p s[i] := by
  unfold onB; rw [at_list h, size_list]; simp [h]
theorem onB_out {p : UInt8 → Bool} {l : List UInt8} {i : Nat} (h : l.length ≤ i) : onB p l i = false := by
  unfold onB; rw [decide_eq_false (by omega)]; rfl
theorem runF_on {p : UInt8 → Bool} {l : List UInt8} {i : Nat} (h : onB p l i = true) : i < l.length ∧ runF p l i = runF p l (i + 1) := by
  unfold onB at h
  simp only [Bool.and_eq_true, decide_eq_true_eq] at h
  refine ⟨h.1, ?_⟩
  unfold runF runL
  rw [List.drop_eq_getElem_cons h.1, List.takeWhile_cons, if_pos (by have h2 := h.2; rwa [List.getD_eq_getElem?_getD, List.getElem?_eq_getElem h.1] at h2)]
  simp; omega
theorem runF_off {p : UInt8 → Bool} {l : List UInt8} {i : Nat} (h : onB p l i = false) : runF p l i = i := by
  unfold runF runL
  rcases Nat.lt_or_ge i l.length with hi | hi
  · have hp : p l[i] = false := by
      unfold onB at h
      rw [decide_eq_true hi, Bool.true_and, List.getD_eq_getElem?_getD, List.getElem?_eq_getElem hi] at h
      exact h
    rw [List.drop_eq_getElem_cons hi, List.takeWhile_cons, if_neg (by rw [hp]; decide)]; rfl
  · rw [List.drop_of_length_le hi]; rfl
theorem runF_le {p : UInt8 → Bool} {l : List UInt8} {i : Nat} (h : i ≤ l.length) : runF p l i ≤ l.length := by
  unfold runF
  have := run_le (p := p) (r := l.drop i)
  rw [List.length_drop] at this
  omega
theorem runF_ge {p : UInt8 → Bool} {l : List UInt8} {i : Nat} : i ≤ runF p l i := by unfold runF; omega

set_option maxHeartbeats 1000000 in
theorem c_blank (c : UInt8) (w : World) : Calls Tryz.prog 106 #[.int .u8 c.toNat] w fun e w' => e = .returned (.bool (blk8 c)) ∧ w' = w := by
  have hc : c.toNat < 256 := c.toNat_lt
  go_enter Tryz.func106, Tryz.ntmps106
  go_wp2
  all_goals go_ret
  all_goals exact ⟨retb (by unfold blk8; rw [Bool.eq_iff_iff]; simp; try omega), rfl⟩

set_option maxHeartbeats 1000000 in
theorem c_letter (c : UInt8) (w : World) : Calls Tryz.prog 110 #[.int .u8 c.toNat] w fun e w' => e = .returned (.bool (let8 c)) ∧ w' = w := by
  have hc : c.toNat < 256 := c.toNat_lt
  go_enter Tryz.func110, Tryz.ntmps110
  go_wp2
  all_goals go_ret
  all_goals exact ⟨retb (by unfold let8 letB; rw [Bool.eq_iff_iff]; simp; try omega), rfl⟩

set_option maxHeartbeats 1000000 in
theorem c_digit (c : UInt8) (w : World) : Calls Tryz.prog 112 #[.int .u8 c.toNat] w fun e w' => e = .returned (.bool (dig8 c)) ∧ w' = w := by
  have hc : c.toNat < 256 := c.toNat_lt
  go_enter Tryz.func112, Tryz.ntmps112
  go_wp2
  all_goals go_ret
  all_goals exact ⟨retb (by unfold dig8 digB; rw [Bool.eq_iff_iff]; simp; try omega), rfl⟩

set_option maxHeartbeats 1000000 in
theorem c_named (c : UInt8) (w : World) : Calls Tryz.prog 156 #[.int .u8 c.toNat] w fun e w' => e = .returned (.bool (ok8 c)) ∧ w' = w := by
  have e : ok8 c = (let8 c || dig8 c || (c.toNat : Int) == 95) := rfl
  have E : Hid (ok8 c = (let8 c || dig8 c || (c.toNat : Int) == 95)) := e
  clear e
  cases hl : let8 c <;> cases hd : dig8 c
  all_goals
    have HL : Hid (let8 c = _) := hl
    have HD : Hid (dig8 c = _) := hd
    clear hl hd
    go_enter Tryz.func156, Tryz.ntmps156
    go_wp2_with (first
      | (go_at_call 110; refine (c_letter _ _).mono ?_; rintro e w' ⟨he, hw⟩; subst he; have hw := hw.symm; subst hw; rw [HL.out])
      | (go_at_call 112; refine (c_digit _ _).mono ?_; rintro e w' ⟨he, hw⟩; subst he; have hw := hw.symm; subst hw; rw [HD.out]))
    all_goals go_ret
    all_goals exact ⟨retb (by rw [E.out, HL.out, HD.out]; simp), rfl⟩

set_option maxHeartbeats 1000000 in
theorem c_hash (c : UInt8) (w : World) : Calls Tryz.prog 108 #[.int .u8 c.toNat] w fun e w' => e = .returned (.bool (hash8 c)) ∧ w' = w := by
  have hc : c.toNat < 256 := c.toNat_lt
  go_enter Tryz.func108, Tryz.ntmps108
  go_wp2
  all_goals go_ret
  all_goals exact ⟨retb (by unfold hash8; rw [Bool.eq_iff_iff]; simp; try omega), rfl⟩

set_option maxHeartbeats 1000000 in
theorem c_noted (c : UInt8) (w : World) : Calls Tryz.prog 109 #[.int .u8 c.toNat] w fun e w' => e = .returned (.bool (note8 c)) ∧ w' = w := by
  have hc : c.toNat < 256 := c.toNat_lt
  go_enter Tryz.func109, Tryz.ntmps109
  go_wp2
  all_goals go_ret
  all_goals exact ⟨retb (by unfold note8; rw [Bool.eq_iff_iff]; simp; try omega), rfl⟩

set_option maxHeartbeats 1000000 in
theorem on_blank (s : ByteArray) (i : Nat) (w : World) : Calls Tryz.prog 107 #[.string s, .int .i64 i, .func (.func 106) #[] #[]] w fun e w' => e = .returned (.bool (onB blk8 s.data.toList i)) ∧ w' = w := by
  by_cases h : i < s.size
  · have h' : (i : Int) < s.size := by omega
    have E : Hid (onB blk8 s.data.toList i = blk8 s[i]) := onB_in h
    go_enter Tryz.func107, Tryz.ntmps107
    go_wp2_with (go_at_call 106; refine (c_blank _ _).mono ?_; rintro e w' ⟨he, hw⟩; subst he; have hw := hw.symm; subst hw)
    go_ret
    exact ⟨by rw [E.out]; rfl, rfl⟩
  · have h' : ¬ (i : Int) < s.size := by omega
    have E : Hid (onB blk8 s.data.toList i = false) := onB_out (by rw [size_list]; omega)
    go_enter Tryz.func107, Tryz.ntmps107
    go_wp2
    go_ret
    exact ⟨by rw [E.out]; rfl, rfl⟩

set_option maxHeartbeats 1000000 in
theorem on_letter (s : ByteArray) (i : Nat) (w : World) : Calls Tryz.prog 107 #[.string s, .int .i64 i, .func (.func 110) #[] #[]] w fun e w' => e = .returned (.bool (onB let8 s.data.toList i)) ∧ w' = w := by
  by_cases h : i < s.size
  · have h' : (i : Int) < s.size := by omega
    have E : Hid (onB let8 s.data.toList i = let8 s[i]) := onB_in h
    go_enter Tryz.func107, Tryz.ntmps107
    go_wp2_with (go_at_call 110; refine (c_letter _ _).mono ?_; rintro e w' ⟨he, hw⟩; subst he; have hw := hw.symm; subst hw)
    go_ret
    exact ⟨by rw [E.out]; rfl, rfl⟩
  · have h' : ¬ (i : Int) < s.size := by omega
    have E : Hid (onB let8 s.data.toList i = false) := onB_out (by rw [size_list]; omega)
    go_enter Tryz.func107, Tryz.ntmps107
    go_wp2
    go_ret
    exact ⟨by rw [E.out]; rfl, rfl⟩

set_option maxHeartbeats 1000000 in
theorem on_digit (s : ByteArray) (i : Nat) (w : World) : Calls Tryz.prog 107 #[.string s, .int .i64 i, .func (.func 112) #[] #[]] w fun e w' => e = .returned (.bool (onB dig8 s.data.toList i)) ∧ w' = w := by
  by_cases h : i < s.size
  · have h' : (i : Int) < s.size := by omega
    have E : Hid (onB dig8 s.data.toList i = dig8 s[i]) := onB_in h
    go_enter Tryz.func107, Tryz.ntmps107
    go_wp2_with (go_at_call 112; refine (c_digit _ _).mono ?_; rintro e w' ⟨he, hw⟩; subst he; have hw := hw.symm; subst hw)
    go_ret
    exact ⟨by rw [E.out]; rfl, rfl⟩
  · have h' : ¬ (i : Int) < s.size := by omega
    have E : Hid (onB dig8 s.data.toList i = false) := onB_out (by rw [size_list]; omega)
    go_enter Tryz.func107, Tryz.ntmps107
    go_wp2
    go_ret
    exact ⟨by rw [E.out]; rfl, rfl⟩

set_option maxHeartbeats 1000000 in
theorem on_named (s : ByteArray) (i : Nat) (w : World) : Calls Tryz.prog 107 #[.string s, .int .i64 i, .func (.func 156) #[] #[]] w fun e w' => e = .returned (.bool (onB ok8 s.data.toList i)) ∧ w' = w := by
  by_cases h : i < s.size
  · have h' : (i : Int) < s.size := by omega
    have E : Hid (onB ok8 s.data.toList i = ok8 s[i]) := onB_in h
    go_enter Tryz.func107, Tryz.ntmps107
    go_wp2_with (go_at_call 156; refine (c_named _ _).mono ?_; rintro e w' ⟨he, hw⟩; subst he; have hw := hw.symm; subst hw)
    go_ret
    exact ⟨by rw [E.out]; rfl, rfl⟩
  · have h' : ¬ (i : Int) < s.size := by omega
    have E : Hid (onB ok8 s.data.toList i = false) := onB_out (by rw [size_list]; omega)
    go_enter Tryz.func107, Tryz.ntmps107
    go_wp2
    go_ret
    exact ⟨by rw [E.out]; rfl, rfl⟩

set_option maxHeartbeats 1000000 in
theorem on_hash (s : ByteArray) (i : Nat) (w : World) : Calls Tryz.prog 107 #[.string s, .int .i64 i, .func (.func 108) #[] #[]] w fun e w' => e = .returned (.bool (onB hash8 s.data.toList i)) ∧ w' = w := by
  by_cases h : i < s.size
  · have h' : (i : Int) < s.size := by omega
    have E : Hid (onB hash8 s.data.toList i = hash8 s[i]) := onB_in h
    go_enter Tryz.func107, Tryz.ntmps107
    go_wp2_with (go_at_call 108; refine (c_hash _ _).mono ?_; rintro e w' ⟨he, hw⟩; subst he; have hw := hw.symm; subst hw)
    go_ret
    exact ⟨by rw [E.out]; rfl, rfl⟩
  · have h' : ¬ (i : Int) < s.size := by omega
    have E : Hid (onB hash8 s.data.toList i = false) := onB_out (by rw [size_list]; omega)
    go_enter Tryz.func107, Tryz.ntmps107
    go_wp2
    go_ret
    exact ⟨by rw [E.out]; rfl, rfl⟩

set_option maxHeartbeats 1000000 in
theorem on_noted (s : ByteArray) (i : Nat) (w : World) : Calls Tryz.prog 107 #[.string s, .int .i64 i, .func (.func 109) #[] #[]] w fun e w' => e = .returned (.bool (onB note8 s.data.toList i)) ∧ w' = w := by
  by_cases h : i < s.size
  · have h' : (i : Int) < s.size := by omega
    have E : Hid (onB note8 s.data.toList i = note8 s[i]) := onB_in h
    go_enter Tryz.func107, Tryz.ntmps107
    go_wp2_with (go_at_call 109; refine (c_noted _ _).mono ?_; rintro e w' ⟨he, hw⟩; subst he; have hw := hw.symm; subst hw)
    go_ret
    exact ⟨by rw [E.out]; rfl, rfl⟩
  · have h' : ¬ (i : Int) < s.size := by omega
    have E : Hid (onB note8 s.data.toList i = false) := onB_out (by rw [size_list]; omega)
    go_enter Tryz.func107, Tryz.ntmps107
    go_wp2
    go_ret
    exact ⟨by rw [E.out]; rfl, rfl⟩

set_option maxHeartbeats 1000000 in
theorem run_blank (s : ByteArray) (i : Nat) (w : World) (hs : s.size ≤ 1000000) (hi : i ≤ s.size) : Calls Tryz.prog 105 #[.string s, .int .i64 i, .func (.func 106) #[] #[]] w fun e w' => e = .returned (.int .i64 (runF blk8 s.data.toList i)) ∧ w' = w := by
  go_enter Tryz.func105, Tryz.ntmps105
  go_wp2
  go_loop [1] (fun v => ∃ k : Nat, k ≤ s.size ∧ v = .int .i64 k ∧ Hid (runF blk8 s.data.toList i = runF blk8 s.data.toList k)) (fun v => s.size - (intOf v).toNat)
  case atStart => exact ⟨i, hi, rfl, rfl⟩
  case round =>
    obtain ⟨k, hk, rfl, hr⟩ := hrel
    cases ho : onB blk8 s.data.toList k with
    | true =>
      have HO : Hid (onB blk8 s.data.toList k = true) := ho
      have hkl : k < s.size := by have := (runF_on ho).1; rwa [size_list] at this
      have hr' : Hid (runF blk8 s.data.toList i = runF blk8 s.data.toList (k + 1)) := hr.out.trans (runF_on ho).2
      clear ho hr
      go_wp2_with (go_at_call 107; refine (on_blank _ _ _).mono ?_; rintro e w' ⟨he, hw⟩; subst he; have hw := hw.symm; subst hw; rw [HO.out])
      go_round
      case rel => exact ⟨k + 1, by omega, by go_num, hr'⟩
      case measure => simp [intOf]; omega
    | false =>
      have HO : Hid (onB blk8 s.data.toList k = false) := ho
      have hr' : Hid (runF blk8 s.data.toList i = k) := hr.out.trans (runF_off ho)
      clear ho hr
      go_wp2_with (go_at_call 107; refine (on_blank _ _ _).mono ?_; rintro e w' ⟨he, hw⟩; subst he; have hw := hw.symm; subst hw; rw [HO.out])
      go_ret
      exact ⟨by rw [hr'.out]; rfl, rfl⟩

set_option maxHeartbeats 1000000 in
theorem run_digit (s : ByteArray) (i : Nat) (w : World) (hs : s.size ≤ 140737488355328) (hi : i ≤ s.size) : Calls Tryz.prog 105 #[.string s, .int .i64 i, .func (.func 112) #[] #[]] w fun e w' => e = .returned (.int .i64 (runF dig8 s.data.toList i)) ∧ w' = w := by
  go_enter Tryz.func105, Tryz.ntmps105
  go_wp2
  go_loop [1] (fun v => ∃ k : Nat, k ≤ s.size ∧ v = .int .i64 k ∧ Hid (runF dig8 s.data.toList i = runF dig8 s.data.toList k)) (fun v => s.size - (intOf v).toNat)
  case atStart => exact ⟨i, hi, rfl, rfl⟩
  case round =>
    obtain ⟨k, hk, rfl, hr⟩ := hrel
    cases ho : onB dig8 s.data.toList k with
    | true =>
      have HO : Hid (onB dig8 s.data.toList k = true) := ho
      have hkl : k < s.size := by have := (runF_on ho).1; rwa [size_list] at this
      have hr' : Hid (runF dig8 s.data.toList i = runF dig8 s.data.toList (k + 1)) := hr.out.trans (runF_on ho).2
      clear ho hr
      go_wp2_with (go_at_call 107; refine (on_digit _ _ _).mono ?_; rintro e w' ⟨he, hw⟩; subst he; have hw := hw.symm; subst hw; rw [HO.out])
      go_round
      case rel => exact ⟨k + 1, by omega, by go_num, hr'⟩
      case measure => simp [intOf]; omega
    | false =>
      have HO : Hid (onB dig8 s.data.toList k = false) := ho
      have hr' : Hid (runF dig8 s.data.toList i = k) := hr.out.trans (runF_off ho)
      clear ho hr
      go_wp2_with (go_at_call 107; refine (on_digit _ _ _).mono ?_; rintro e w' ⟨he, hw⟩; subst he; have hw := hw.symm; subst hw; rw [HO.out])
      go_ret
      exact ⟨by rw [hr'.out]; rfl, rfl⟩

set_option maxHeartbeats 1000000 in
theorem run_named (s : ByteArray) (i : Nat) (w : World) (hs : s.size ≤ 1000000) (hi : i ≤ s.size) : Calls Tryz.prog 105 #[.string s, .int .i64 i, .func (.func 156) #[] #[]] w fun e w' => e = .returned (.int .i64 (runF ok8 s.data.toList i)) ∧ w' = w := by
  go_enter Tryz.func105, Tryz.ntmps105
  go_wp2
  go_loop [1] (fun v => ∃ k : Nat, k ≤ s.size ∧ v = .int .i64 k ∧ Hid (runF ok8 s.data.toList i = runF ok8 s.data.toList k)) (fun v => s.size - (intOf v).toNat)
  case atStart => exact ⟨i, hi, rfl, rfl⟩
  case round =>
    obtain ⟨k, hk, rfl, hr⟩ := hrel
    cases ho : onB ok8 s.data.toList k with
    | true =>
      have HO : Hid (onB ok8 s.data.toList k = true) := ho
      have hkl : k < s.size := by have := (runF_on ho).1; rwa [size_list] at this
      have hr' : Hid (runF ok8 s.data.toList i = runF ok8 s.data.toList (k + 1)) := hr.out.trans (runF_on ho).2
      clear ho hr
      go_wp2_with (go_at_call 107; refine (on_named _ _ _).mono ?_; rintro e w' ⟨he, hw⟩; subst he; have hw := hw.symm; subst hw; rw [HO.out])
      go_round
      case rel => exact ⟨k + 1, by omega, by go_num, hr'⟩
      case measure => simp [intOf]; omega
    | false =>
      have HO : Hid (onB ok8 s.data.toList k = false) := ho
      have hr' : Hid (runF ok8 s.data.toList i = k) := hr.out.trans (runF_off ho)
      clear ho hr
      go_wp2_with (go_at_call 107; refine (on_named _ _ _).mono ?_; rintro e w' ⟨he, hw⟩; subst he; have hw := hw.symm; subst hw; rw [HO.out])
      go_ret
      exact ⟨by rw [hr'.out]; rfl, rfl⟩

set_option maxHeartbeats 1000000 in
theorem run_noted (s : ByteArray) (i : Nat) (w : World) (hs : s.size ≤ 1000000) (hi : i ≤ s.size) : Calls Tryz.prog 105 #[.string s, .int .i64 i, .func (.func 109) #[] #[]] w fun e w' => e = .returned (.int .i64 (runF note8 s.data.toList i)) ∧ w' = w := by
  go_enter Tryz.func105, Tryz.ntmps105
  go_wp2
  go_loop [1] (fun v => ∃ k : Nat, k ≤ s.size ∧ v = .int .i64 k ∧ Hid (runF note8 s.data.toList i = runF note8 s.data.toList k)) (fun v => s.size - (intOf v).toNat)
  case atStart => exact ⟨i, hi, rfl, rfl⟩
  case round =>
    obtain ⟨k, hk, rfl, hr⟩ := hrel
    cases ho : onB note8 s.data.toList k with
    | true =>
      have HO : Hid (onB note8 s.data.toList k = true) := ho
      have hkl : k < s.size := by have := (runF_on ho).1; rwa [size_list] at this
      have hr' : Hid (runF note8 s.data.toList i = runF note8 s.data.toList (k + 1)) := hr.out.trans (runF_on ho).2
      clear ho hr
      go_wp2_with (go_at_call 107; refine (on_noted _ _ _).mono ?_; rintro e w' ⟨he, hw⟩; subst he; have hw := hw.symm; subst hw; rw [HO.out])
      go_round
      case rel => exact ⟨k + 1, by omega, by go_num, hr'⟩
      case measure => simp [intOf]; omega
    | false =>
      have HO : Hid (onB note8 s.data.toList k = false) := ho
      have hr' : Hid (runF note8 s.data.toList i = k) := hr.out.trans (runF_off ho)
      clear ho hr
      go_wp2_with (go_at_call 107; refine (on_noted _ _ _).mono ?_; rintro e w' ⟨he, hw⟩; subst he; have hw := hw.symm; subst hw; rw [HO.out])
      go_ret
      exact ⟨by rw [hr'.out]; rfl, rfl⟩

end Go.Proofs.YtjcanodnlnodpaaGreatDoor.Token
/- gap of package token: a contract of the call, over the turned program. -/
namespace Go.Proofs.YtjcanodnlnodpaaGreatDoor.Token
open Go.RowKit Go.Proofs.YtjcanodnlnodpaaGreatDoor.Colour
set_option linter.unusedVariables false
set_option linter.unusedSimpArgs false

/-- where blanks and comments end -/
def gapF (l : List UInt8) (i : Nat) : Nat := l.length - (gapL false (l.drop i)).length
theorem gapF_drop {l : List UInt8} {i : Nat} (h : i ≤ l.length) : l.drop (gapF l i) = gapL false (l.drop i) := by
  have h1 := gap_drop false (l.drop i)
  have h2 := gap_le false (l.drop i)
  rw [List.length_drop, List.drop_drop] at h1
  rw [List.length_drop] at h2
  unfold gapF
  rw [show l.length - (gapL false (l.drop i)).length = i + (l.length - i - (gapL false (l.drop i)).length) by omega]
  exact h1.symm
theorem gapF_le {l : List UInt8} {i : Nat} (h : i ≤ l.length) : i ≤ gapF l i ∧ gapF l i ≤ l.length := by
  have h2 := gap_le false (l.drop i)
  rw [List.length_drop] at h2
  unfold gapF
  omega
theorem gapF_is {l : List UInt8} {i k : Nat} (hk : k ≤ l.length) (h : gapL false (l.drop i) = l.drop k) : gapF l i = k := by
  unfold gapF; rw [h, List.length_drop]; omega
theorem gap_blanks : ∀ (r : List UInt8), gapL false r = gapL false (r.drop (runL blk8 r))
  | [] => rfl
  | c :: r => by
    unfold runL
    cases h : blk8 c with
    | false => rw [List.takeWhile_cons, if_neg (by rw [h]; decide)]; rfl
    | true =>
      rw [List.takeWhile_cons, if_pos h, List.length_cons, List.drop_succ_cons]
      exact (show gapL false (c :: r) = gapL false r by rw [gapL, if_pos h]).trans (gap_blanks r)
theorem gap_noted : ∀ (r : List UInt8), gapL true r = gapL false (r.drop (runL note8 r))
  | [] => rfl
  | c :: r => by
    unfold runL
    by_cases h : c.toNat = 10
    · have hn : note8 c = false := by unfold note8; simp [h]
      have hb : blk8 c = true := by unfold blk8; simp [h]
      rw [List.takeWhile_cons, if_neg (by rw [hn]; decide), List.length_nil, List.drop_zero, gapL.eq_3, if_pos h, gapL.eq_2, if_pos hb]
    · have hn : note8 c = true := by unfold note8; simp [h]
      rw [List.takeWhile_cons, if_pos hn, List.length_cons, List.drop_succ_cons, gapL, if_neg h]
      exact gap_noted r
theorem gap_run {l : List UInt8} {i : Nat} : gapL false (l.drop i) = gapL false (l.drop (runF blk8 l i)) := by
  unfold runF; rw [← List.drop_drop]; exact gap_blanks _
theorem gap_hash {l : List UInt8} {i : Nat} (h : onB hash8 l i = true) : gapL false (l.drop i) = gapL false (l.drop (runF note8 l i)) ∧ i < runF note8 l i := by
  unfold onB at h
  simp only [Bool.and_eq_true, decide_eq_true_eq] at h
  have h35 : l[i]'h.1 = 35 := by
    have h2 := h.2
    rw [List.getD_eq_getElem?_getD, List.getElem?_eq_getElem h.1] at h2
    unfold hash8 at h2
    exact UInt8.toNat_inj.1 (by simpa using h2)
  unfold runF
  rw [← List.drop_drop, List.drop_eq_getElem_cons h.1, h35]
  have hn : note8 35 = true := by decide
  unfold runL
  rw [List.takeWhile_cons, if_pos hn, List.length_cons, List.drop_succ_cons]
  refine ⟨?_, by omega⟩
  rw [gapL, if_neg (by decide), if_pos (by decide)]
  exact gap_noted _
theorem on_end {p : UInt8 → Bool} {l : List UInt8} {i : Nat} : onB p l (runF p l i) = false := by
  unfold runF onB
  have h := run_next (p := p) (r := l.drop i)
  rw [List.drop_drop] at h
  generalize i + runL p (l.drop i) = k at *
  by_cases hk : k < l.length
  · rw [decide_eq_true hk, Bool.true_and]
    rcases h with h | h
    · rw [List.drop_eq_nil_iff] at h; omega
    · rw [List.drop_eq_getElem_cons hk] at h
      rw [List.getD_eq_getElem?_getD, List.getElem?_eq_getElem hk]; exact h
  · rw [decide_eq_false hk]; rfl
theorem gap_off {l : List UInt8} {k : Nat} (h1 : onB blk8 l k = false) (h2 : onB hash8 l k = false) : gapL false (l.drop k) = l.drop k := by
  by_cases hk : k < l.length
  · unfold onB at h1 h2
    rw [decide_eq_true hk, Bool.true_and, List.getD_eq_getElem?_getD, List.getElem?_eq_getElem hk] at h1 h2
    rw [List.drop_eq_getElem_cons hk]
    refine gap_self (r := l[k] :: _) h1 ?_
    show (l[k]).toNat ≠ 35
    unfold hash8 at h2
    simpa using h2
  · rw [List.drop_of_length_le (by omega)]; rfl

set_option maxHeartbeats 1000000 in
theorem gap_any (s : ByteArray) (i : Nat) (w : World) (hs : s.size ≤ 1000000) (hi : i ≤ s.size) :
    Calls Tryz.prog 52 #[.string s, .int .i64 i] w fun e w' => e = .returned (.int .i64 (gapF s.data.toList i)) ∧ w' = w := by
  have H0 : Hid (gapL false (s.data.toList.drop i) = gapL false (s.data.toList.drop (runF blk8 s.data.toList i)) ∧ onB blk8 s.data.toList (runF blk8 s.data.toList i) = false) := ⟨gap_run, on_end⟩
  have hl0 : runF blk8 s.data.toList i ≤ s.size := by have := runF_le (p := blk8) (l := s.data.toList) (i := i) (by rw [size_list]; exact hi); rwa [size_list] at this
  go_enter Tryz.func52, Tryz.ntmps52
  go_wp2_with (go_at_call 105; refine (run_blank _ _ _ hs hi).mono ?_; rintro e w' ⟨he, hw⟩; subst he; have hw := hw.symm; subst hw)
  go_loop [1] (fun v => ∃ k : Nat, k ≤ s.size ∧ v = .int .i64 k ∧ Hid (gapL false (s.data.toList.drop i) = gapL false (s.data.toList.drop k) ∧ onB blk8 s.data.toList k = false)) (fun v => s.size - (intOf v).toNat)
  case atStart => exact ⟨_, hl0, rfl, H0⟩
  case round =>
    obtain ⟨k, hk, rfl, hr⟩ := hrel
    clear H0 hl0
    cases ho : onB hash8 s.data.toList k with
    | true =>
      have HO : Hid (onB hash8 s.data.toList k = true) := ho
      obtain ⟨g1, g2⟩ := gap_hash ho
      obtain ⟨m, hm⟩ : ∃ m, m = runF note8 s.data.toList k := ⟨_, rfl⟩
      have hml : m ≤ s.size := by have := runF_le (p := note8) (l := s.data.toList) (i := k) (by rw [size_list]; exact hk); rw [size_list] at this; omega
      have HM : Hid (runF note8 s.data.toList k = m) := hm.symm
      rw [← hm] at g1 g2
      obtain ⟨q, hq⟩ : ∃ q, q = runF blk8 s.data.toList m := ⟨_, rfl⟩
      have hql : q ≤ s.size := by have := runF_le (p := blk8) (l := s.data.toList) (i := m) (by rw [size_list]; exact hml); rw [size_list] at this; omega
      have hmq : m ≤ q := by rw [hq]; exact runF_ge
      have HQ : Hid (runF blk8 s.data.toList m = q) := hq.symm
      have hr' : Hid (gapL false (s.data.toList.drop i) = gapL false (s.data.toList.drop q) ∧ onB blk8 s.data.toList q = false) := ⟨by rw [hr.out.1, g1, gap_run, hq], by rw [hq]; exact on_end⟩
      clear ho hr g1 hm hq
      go_wp2_with fail
      refine (on_hash _ _ _).mono ?_; rintro e w' ⟨he, hw⟩; subst he; have hw := hw.symm; subst hw; rw [HO.out]
      go_wp2_with fail
      refine (run_noted _ _ _ hs hk).mono ?_; rintro e w' ⟨he, hw⟩; subst he; have hw := hw.symm; subst hw; rw [HM.out]
      go_wp2_with fail
      refine (run_blank _ _ _ hs hml).mono ?_; rintro e w' ⟨he, hw⟩; subst he; have hw := hw.symm; subst hw; rw [HQ.out]
      go_wp2_with fail
      go_round
      case rel => exact ⟨q, hql, rfl, hr'⟩
      case measure => simp [intOf]; omega
    | false =>
      have HO : Hid (onB hash8 s.data.toList k = false) := ho
      have hr' : Hid (gapF s.data.toList i = k) := gapF_is (by rw [size_list]; exact hk) (hr.out.1.trans (gap_off hr.out.2 ho))
      clear ho hr
      go_wp2_with (go_at_call 107; refine (on_hash _ _ _).mono ?_; rintro e w' ⟨he, hw⟩; subst he; have hw := hw.symm; subst hw; rw [HO.out])
      go_ret
      exact ⟨by rw [hr'.out]; rfl, rfl⟩
end Go.Proofs.YtjcanodnlnodpaaGreatDoor.Token
/- Word of package token: a contract of the call, over the turned program. -/
namespace Go.Proofs.YtjcanodnlnodpaaGreatDoor.Token
open Go.RowKit Go.Proofs.YtjcanodnlnodpaaGreatDoor.Colour
set_option linter.unusedVariables false
set_option linter.unusedSimpArgs false
theorem list_ne {s : ByteArray} {l : List UInt8} (h : s.data.toList ≠ l) : (s.toList == l) = false := by
  rw [Go.ByteArray.toList_eq]; exact beq_eq_false_iff_ne.2 h
theorem list_is {s : ByteArray} {l : List UInt8} (h : s.data.toList = l) : (s.toList == l) = true := by
  rw [Go.ByteArray.toList_eq, h]; exact beq_self_eq_true l
theorem word_ne {s : ByteArray} (h : wordB s.data.toList = false) {l : List UInt8} (hl : l ∈ wordsL) : s.data.toList ≠ l := fun e => by
  have := of_decide_eq_false h; rw [e] at this; exact this hl

set_option maxHeartbeats 2000000 in
theorem word_no (s : ByteArray) (w : World) (hs : wordB s.data.toList = false) : Calls Tryz.prog 198 #[.string s] w fun e w' => e = .returned (.bool false) ∧ w' = w := by
  have h0 : (s.toList == [99, 111, 108, 111, 117, 114]) = false := list_ne (word_ne hs (by decide))
  have h1 : (s.toList == [112, 108, 97, 99, 101]) = false := list_ne (word_ne hs (by decide))
  have h2 : (s.toList == [116, 97, 115, 107]) = false := list_ne (word_ne hs (by decide))
  have h3 : (s.toList == [118, 97, 114]) = false := list_ne (word_ne hs (by decide))
  have h4 : (s.toList == [119, 104, 101, 110]) = false := list_ne (word_ne hs (by decide))
  have h5 : (s.toList == [106, 111, 105, 110]) = false := list_ne (word_ne hs (by decide))
  have h6 : (s.toList == [115, 112, 108, 105, 116]) = false := list_ne (word_ne hs (by decide))
  have h7 : (s.toList == [105, 110]) = false := list_ne (word_ne hs (by decide))
  have h8 : (s.toList == [111, 117, 116]) = false := list_ne (word_ne hs (by decide))
  have h9 : (s.toList == [99, 97, 110, 99, 101, 108]) = false := list_ne (word_ne hs (by decide))
  have h10 : (s.toList == [97, 102, 116, 101, 114]) = false := list_ne (word_ne hs (by decide))
  have h11 : (s.toList == [109, 97, 110, 121]) = false := list_ne (word_ne hs (by decide))
  have h12 : (s.toList == [102, 114, 111, 109]) = false := list_ne (word_ne hs (by decide))
  have h13 : (s.toList == [116, 111]) = false := list_ne (word_ne hs (by decide))
  have h14 : (s.toList == [105, 110, 116]) = false := list_ne (word_ne hs (by decide))
  have h15 : (s.toList == [101, 110, 117, 109]) = false := list_ne (word_ne hs (by decide))
  have h16 : (s.toList == [112, 97, 105, 114]) = false := list_ne (word_ne hs (by decide))
  have h17 : (s.toList == [97, 110, 100]) = false := list_ne (word_ne hs (by decide))
  have h18 : (s.toList == [120, 111, 114]) = false := list_ne (word_ne hs (by decide))
  have h19 : (s.toList == [111, 114]) = false := list_ne (word_ne hs (by decide))
  have h20 : (s.toList == [105, 102]) = false := list_ne (word_ne hs (by decide))
  clear hs
  go_enter Tryz.func198, Tryz.ntmps198
  go_wp2
  go_ret
  exact ⟨rfl, rfl⟩

set_option maxHeartbeats 2000000 in
theorem word_0 (s : ByteArray) (w : World) (hs : s.data.toList = [99, 111, 108, 111, 117, 114]) : Calls Tryz.prog 198 #[.string s] w fun e w' => e = .returned (.bool true) ∧ w' = w := by
  have h0 : (s.toList == [99, 111, 108, 111, 117, 114]) = true := list_is hs
  have h1 : (s.toList == [112, 108, 97, 99, 101]) = false := list_ne (by rw [hs]; decide)
  have h2 : (s.toList == [116, 97, 115, 107]) = false := list_ne (by rw [hs]; decide)
  have h3 : (s.toList == [118, 97, 114]) = false := list_ne (by rw [hs]; decide)
  have h4 : (s.toList == [119, 104, 101, 110]) = false := list_ne (by rw [hs]; decide)
  have h5 : (s.toList == [106, 111, 105, 110]) = false := list_ne (by rw [hs]; decide)
  have h6 : (s.toList == [115, 112, 108, 105, 116]) = false := list_ne (by rw [hs]; decide)
  have h7 : (s.toList == [105, 110]) = false := list_ne (by rw [hs]; decide)
  have h8 : (s.toList == [111, 117, 116]) = false := list_ne (by rw [hs]; decide)
  have h9 : (s.toList == [99, 97, 110, 99, 101, 108]) = false := list_ne (by rw [hs]; decide)
  have h10 : (s.toList == [97, 102, 116, 101, 114]) = false := list_ne (by rw [hs]; decide)
  have h11 : (s.toList == [109, 97, 110, 121]) = false := list_ne (by rw [hs]; decide)
  have h12 : (s.toList == [102, 114, 111, 109]) = false := list_ne (by rw [hs]; decide)
  have h13 : (s.toList == [116, 111]) = false := list_ne (by rw [hs]; decide)
  have h14 : (s.toList == [105, 110, 116]) = false := list_ne (by rw [hs]; decide)
  have h15 : (s.toList == [101, 110, 117, 109]) = false := list_ne (by rw [hs]; decide)
  have h16 : (s.toList == [112, 97, 105, 114]) = false := list_ne (by rw [hs]; decide)
  have h17 : (s.toList == [97, 110, 100]) = false := list_ne (by rw [hs]; decide)
  have h18 : (s.toList == [120, 111, 114]) = false := list_ne (by rw [hs]; decide)
  have h19 : (s.toList == [111, 114]) = false := list_ne (by rw [hs]; decide)
  have h20 : (s.toList == [105, 102]) = false := list_ne (by rw [hs]; decide)
  clear hs
  go_enter Tryz.func198, Tryz.ntmps198
  go_wp2
  go_ret
  exact ⟨rfl, rfl⟩

set_option maxHeartbeats 2000000 in
theorem word_1 (s : ByteArray) (w : World) (hs : s.data.toList = [112, 108, 97, 99, 101]) : Calls Tryz.prog 198 #[.string s] w fun e w' => e = .returned (.bool true) ∧ w' = w := by
  have h0 : (s.toList == [99, 111, 108, 111, 117, 114]) = false := list_ne (by rw [hs]; decide)
  have h1 : (s.toList == [112, 108, 97, 99, 101]) = true := list_is hs
  have h2 : (s.toList == [116, 97, 115, 107]) = false := list_ne (by rw [hs]; decide)
  have h3 : (s.toList == [118, 97, 114]) = false := list_ne (by rw [hs]; decide)
  have h4 : (s.toList == [119, 104, 101, 110]) = false := list_ne (by rw [hs]; decide)
  have h5 : (s.toList == [106, 111, 105, 110]) = false := list_ne (by rw [hs]; decide)
  have h6 : (s.toList == [115, 112, 108, 105, 116]) = false := list_ne (by rw [hs]; decide)
  have h7 : (s.toList == [105, 110]) = false := list_ne (by rw [hs]; decide)
  have h8 : (s.toList == [111, 117, 116]) = false := list_ne (by rw [hs]; decide)
  have h9 : (s.toList == [99, 97, 110, 99, 101, 108]) = false := list_ne (by rw [hs]; decide)
  have h10 : (s.toList == [97, 102, 116, 101, 114]) = false := list_ne (by rw [hs]; decide)
  have h11 : (s.toList == [109, 97, 110, 121]) = false := list_ne (by rw [hs]; decide)
  have h12 : (s.toList == [102, 114, 111, 109]) = false := list_ne (by rw [hs]; decide)
  have h13 : (s.toList == [116, 111]) = false := list_ne (by rw [hs]; decide)
  have h14 : (s.toList == [105, 110, 116]) = false := list_ne (by rw [hs]; decide)
  have h15 : (s.toList == [101, 110, 117, 109]) = false := list_ne (by rw [hs]; decide)
  have h16 : (s.toList == [112, 97, 105, 114]) = false := list_ne (by rw [hs]; decide)
  have h17 : (s.toList == [97, 110, 100]) = false := list_ne (by rw [hs]; decide)
  have h18 : (s.toList == [120, 111, 114]) = false := list_ne (by rw [hs]; decide)
  have h19 : (s.toList == [111, 114]) = false := list_ne (by rw [hs]; decide)
  have h20 : (s.toList == [105, 102]) = false := list_ne (by rw [hs]; decide)
  clear hs
  go_enter Tryz.func198, Tryz.ntmps198
  go_wp2
  go_ret
  exact ⟨rfl, rfl⟩

set_option maxHeartbeats 2000000 in
theorem word_2 (s : ByteArray) (w : World) (hs : s.data.toList = [116, 97, 115, 107]) : Calls Tryz.prog 198 #[.string s] w fun e w' => e = .returned (.bool true) ∧ w' = w := by
  have h0 : (s.toList == [99, 111, 108, 111, 117, 114]) = false := list_ne (by rw [hs]; decide)
  have h1 : (s.toList == [112, 108, 97, 99, 101]) = false := list_ne (by rw [hs]; decide)
  have h2 : (s.toList == [116, 97, 115, 107]) = true := list_is hs
  have h3 : (s.toList == [118, 97, 114]) = false := list_ne (by rw [hs]; decide)
  have h4 : (s.toList == [119, 104, 101, 110]) = false := list_ne (by rw [hs]; decide)
  have h5 : (s.toList == [106, 111, 105, 110]) = false := list_ne (by rw [hs]; decide)
  have h6 : (s.toList == [115, 112, 108, 105, 116]) = false := list_ne (by rw [hs]; decide)
  have h7 : (s.toList == [105, 110]) = false := list_ne (by rw [hs]; decide)
  have h8 : (s.toList == [111, 117, 116]) = false := list_ne (by rw [hs]; decide)
  have h9 : (s.toList == [99, 97, 110, 99, 101, 108]) = false := list_ne (by rw [hs]; decide)
  have h10 : (s.toList == [97, 102, 116, 101, 114]) = false := list_ne (by rw [hs]; decide)
  have h11 : (s.toList == [109, 97, 110, 121]) = false := list_ne (by rw [hs]; decide)
  have h12 : (s.toList == [102, 114, 111, 109]) = false := list_ne (by rw [hs]; decide)
  have h13 : (s.toList == [116, 111]) = false := list_ne (by rw [hs]; decide)
  have h14 : (s.toList == [105, 110, 116]) = false := list_ne (by rw [hs]; decide)
  have h15 : (s.toList == [101, 110, 117, 109]) = false := list_ne (by rw [hs]; decide)
  have h16 : (s.toList == [112, 97, 105, 114]) = false := list_ne (by rw [hs]; decide)
  have h17 : (s.toList == [97, 110, 100]) = false := list_ne (by rw [hs]; decide)
  have h18 : (s.toList == [120, 111, 114]) = false := list_ne (by rw [hs]; decide)
  have h19 : (s.toList == [111, 114]) = false := list_ne (by rw [hs]; decide)
  have h20 : (s.toList == [105, 102]) = false := list_ne (by rw [hs]; decide)
  clear hs
  go_enter Tryz.func198, Tryz.ntmps198
  go_wp2
  go_ret
  exact ⟨rfl, rfl⟩

set_option maxHeartbeats 2000000 in
theorem word_3 (s : ByteArray) (w : World) (hs : s.data.toList = [118, 97, 114]) : Calls Tryz.prog 198 #[.string s] w fun e w' => e = .returned (.bool true) ∧ w' = w := by
  have h0 : (s.toList == [99, 111, 108, 111, 117, 114]) = false := list_ne (by rw [hs]; decide)
  have h1 : (s.toList == [112, 108, 97, 99, 101]) = false := list_ne (by rw [hs]; decide)
  have h2 : (s.toList == [116, 97, 115, 107]) = false := list_ne (by rw [hs]; decide)
  have h3 : (s.toList == [118, 97, 114]) = true := list_is hs
  have h4 : (s.toList == [119, 104, 101, 110]) = false := list_ne (by rw [hs]; decide)
  have h5 : (s.toList == [106, 111, 105, 110]) = false := list_ne (by rw [hs]; decide)
  have h6 : (s.toList == [115, 112, 108, 105, 116]) = false := list_ne (by rw [hs]; decide)
  have h7 : (s.toList == [105, 110]) = false := list_ne (by rw [hs]; decide)
  have h8 : (s.toList == [111, 117, 116]) = false := list_ne (by rw [hs]; decide)
  have h9 : (s.toList == [99, 97, 110, 99, 101, 108]) = false := list_ne (by rw [hs]; decide)
  have h10 : (s.toList == [97, 102, 116, 101, 114]) = false := list_ne (by rw [hs]; decide)
  have h11 : (s.toList == [109, 97, 110, 121]) = false := list_ne (by rw [hs]; decide)
  have h12 : (s.toList == [102, 114, 111, 109]) = false := list_ne (by rw [hs]; decide)
  have h13 : (s.toList == [116, 111]) = false := list_ne (by rw [hs]; decide)
  have h14 : (s.toList == [105, 110, 116]) = false := list_ne (by rw [hs]; decide)
  have h15 : (s.toList == [101, 110, 117, 109]) = false := list_ne (by rw [hs]; decide)
  have h16 : (s.toList == [112, 97, 105, 114]) = false := list_ne (by rw [hs]; decide)
  have h17 : (s.toList == [97, 110, 100]) = false := list_ne (by rw [hs]; decide)
  have h18 : (s.toList == [120, 111, 114]) = false := list_ne (by rw [hs]; decide)
  have h19 : (s.toList == [111, 114]) = false := list_ne (by rw [hs]; decide)
  have h20 : (s.toList == [105, 102]) = false := list_ne (by rw [hs]; decide)
  clear hs
  go_enter Tryz.func198, Tryz.ntmps198
  go_wp2
  go_ret
  exact ⟨rfl, rfl⟩

set_option maxHeartbeats 2000000 in
theorem word_4 (s : ByteArray) (w : World) (hs : s.data.toList = [119, 104, 101, 110]) : Calls Tryz.prog 198 #[.string s] w fun e w' => e = .returned (.bool true) ∧ w' = w := by
  have h0 : (s.toList == [99, 111, 108, 111, 117, 114]) = false := list_ne (by rw [hs]; decide)
  have h1 : (s.toList == [112, 108, 97, 99, 101]) = false := list_ne (by rw [hs]; decide)
  have h2 : (s.toList == [116, 97, 115, 107]) = false := list_ne (by rw [hs]; decide)
  have h3 : (s.toList == [118, 97, 114]) = false := list_ne (by rw [hs]; decide)
  have h4 : (s.toList == [119, 104, 101, 110]) = true := list_is hs
  have h5 : (s.toList == [106, 111, 105, 110]) = false := list_ne (by rw [hs]; decide)
  have h6 : (s.toList == [115, 112, 108, 105, 116]) = false := list_ne (by rw [hs]; decide)
  have h7 : (s.toList == [105, 110]) = false := list_ne (by rw [hs]; decide)
  have h8 : (s.toList == [111, 117, 116]) = false := list_ne (by rw [hs]; decide)
  have h9 : (s.toList == [99, 97, 110, 99, 101, 108]) = false := list_ne (by rw [hs]; decide)
  have h10 : (s.toList == [97, 102, 116, 101, 114]) = false := list_ne (by rw [hs]; decide)
  have h11 : (s.toList == [109, 97, 110, 121]) = false := list_ne (by rw [hs]; decide)
  have h12 : (s.toList == [102, 114, 111, 109]) = false := list_ne (by rw [hs]; decide)
  have h13 : (s.toList == [116, 111]) = false := list_ne (by rw [hs]; decide)
  have h14 : (s.toList == [105, 110, 116]) = false := list_ne (by rw [hs]; decide)
  have h15 : (s.toList == [101, 110, 117, 109]) = false := list_ne (by rw [hs]; decide)
  have h16 : (s.toList == [112, 97, 105, 114]) = false := list_ne (by rw [hs]; decide)
  have h17 : (s.toList == [97, 110, 100]) = false := list_ne (by rw [hs]; decide)
  have h18 : (s.toList == [120, 111, 114]) = false := list_ne (by rw [hs]; decide)
  have h19 : (s.toList == [111, 114]) = false := list_ne (by rw [hs]; decide)
  have h20 : (s.toList == [105, 102]) = false := list_ne (by rw [hs]; decide)
  clear hs
  go_enter Tryz.func198, Tryz.ntmps198
  go_wp2
  go_ret
  exact ⟨rfl, rfl⟩

set_option maxHeartbeats 2000000 in
theorem word_5 (s : ByteArray) (w : World) (hs : s.data.toList = [106, 111, 105, 110]) : Calls Tryz.prog 198 #[.string s] w fun e w' => e = .returned (.bool true) ∧ w' = w := by
  have h0 : (s.toList == [99, 111, 108, 111, 117, 114]) = false := list_ne (by rw [hs]; decide)
  have h1 : (s.toList == [112, 108, 97, 99, 101]) = false := list_ne (by rw [hs]; decide)
  have h2 : (s.toList == [116, 97, 115, 107]) = false := list_ne (by rw [hs]; decide)
  have h3 : (s.toList == [118, 97, 114]) = false := list_ne (by rw [hs]; decide)
  have h4 : (s.toList == [119, 104, 101, 110]) = false := list_ne (by rw [hs]; decide)
  have h5 : (s.toList == [106, 111, 105, 110]) = true := list_is hs
  have h6 : (s.toList == [115, 112, 108, 105, 116]) = false := list_ne (by rw [hs]; decide)
  have h7 : (s.toList == [105, 110]) = false := list_ne (by rw [hs]; decide)
  have h8 : (s.toList == [111, 117, 116]) = false := list_ne (by rw [hs]; decide)
  have h9 : (s.toList == [99, 97, 110, 99, 101, 108]) = false := list_ne (by rw [hs]; decide)
  have h10 : (s.toList == [97, 102, 116, 101, 114]) = false := list_ne (by rw [hs]; decide)
  have h11 : (s.toList == [109, 97, 110, 121]) = false := list_ne (by rw [hs]; decide)
  have h12 : (s.toList == [102, 114, 111, 109]) = false := list_ne (by rw [hs]; decide)
  have h13 : (s.toList == [116, 111]) = false := list_ne (by rw [hs]; decide)
  have h14 : (s.toList == [105, 110, 116]) = false := list_ne (by rw [hs]; decide)
  have h15 : (s.toList == [101, 110, 117, 109]) = false := list_ne (by rw [hs]; decide)
  have h16 : (s.toList == [112, 97, 105, 114]) = false := list_ne (by rw [hs]; decide)
  have h17 : (s.toList == [97, 110, 100]) = false := list_ne (by rw [hs]; decide)
  have h18 : (s.toList == [120, 111, 114]) = false := list_ne (by rw [hs]; decide)
  have h19 : (s.toList == [111, 114]) = false := list_ne (by rw [hs]; decide)
  have h20 : (s.toList == [105, 102]) = false := list_ne (by rw [hs]; decide)
  clear hs
  go_enter Tryz.func198, Tryz.ntmps198
  go_wp2
  go_ret
  exact ⟨rfl, rfl⟩

set_option maxHeartbeats 2000000 in
theorem word_6 (s : ByteArray) (w : World) (hs : s.data.toList = [115, 112, 108, 105, 116]) : Calls Tryz.prog 198 #[.string s] w fun e w' => e = .returned (.bool true) ∧ w' = w := by
  have h0 : (s.toList == [99, 111, 108, 111, 117, 114]) = false := list_ne (by rw [hs]; decide)
  have h1 : (s.toList == [112, 108, 97, 99, 101]) = false := list_ne (by rw [hs]; decide)
  have h2 : (s.toList == [116, 97, 115, 107]) = false := list_ne (by rw [hs]; decide)
  have h3 : (s.toList == [118, 97, 114]) = false := list_ne (by rw [hs]; decide)
  have h4 : (s.toList == [119, 104, 101, 110]) = false := list_ne (by rw [hs]; decide)
  have h5 : (s.toList == [106, 111, 105, 110]) = false := list_ne (by rw [hs]; decide)
  have h6 : (s.toList == [115, 112, 108, 105, 116]) = true := list_is hs
  have h7 : (s.toList == [105, 110]) = false := list_ne (by rw [hs]; decide)
  have h8 : (s.toList == [111, 117, 116]) = false := list_ne (by rw [hs]; decide)
  have h9 : (s.toList == [99, 97, 110, 99, 101, 108]) = false := list_ne (by rw [hs]; decide)
  have h10 : (s.toList == [97, 102, 116, 101, 114]) = false := list_ne (by rw [hs]; decide)
  have h11 : (s.toList == [109, 97, 110, 121]) = false := list_ne (by rw [hs]; decide)
  have h12 : (s.toList == [102, 114, 111, 109]) = false := list_ne (by rw [hs]; decide)
  have h13 : (s.toList == [116, 111]) = false := list_ne (by rw [hs]; decide)
  have h14 : (s.toList == [105, 110, 116]) = false := list_ne (by rw [hs]; decide)
  have h15 : (s.toList == [101, 110, 117, 109]) = false := list_ne (by rw [hs]; decide)
  have h16 : (s.toList == [112, 97, 105, 114]) = false := list_ne (by rw [hs]; decide)
  have h17 : (s.toList == [97, 110, 100]) = false := list_ne (by rw [hs]; decide)
  have h18 : (s.toList == [120, 111, 114]) = false := list_ne (by rw [hs]; decide)
  have h19 : (s.toList == [111, 114]) = false := list_ne (by rw [hs]; decide)
  have h20 : (s.toList == [105, 102]) = false := list_ne (by rw [hs]; decide)
  clear hs
  go_enter Tryz.func198, Tryz.ntmps198
  go_wp2
  go_ret
  exact ⟨rfl, rfl⟩

set_option maxHeartbeats 2000000 in
theorem word_7 (s : ByteArray) (w : World) (hs : s.data.toList = [105, 110]) : Calls Tryz.prog 198 #[.string s] w fun e w' => e = .returned (.bool true) ∧ w' = w := by
  have h0 : (s.toList == [99, 111, 108, 111, 117, 114]) = false := list_ne (by rw [hs]; decide)
  have h1 : (s.toList == [112, 108, 97, 99, 101]) = false := list_ne (by rw [hs]; decide)
  have h2 : (s.toList == [116, 97, 115, 107]) = false := list_ne (by rw [hs]; decide)
  have h3 : (s.toList == [118, 97, 114]) = false := list_ne (by rw [hs]; decide)
  have h4 : (s.toList == [119, 104, 101, 110]) = false := list_ne (by rw [hs]; decide)
  have h5 : (s.toList == [106, 111, 105, 110]) = false := list_ne (by rw [hs]; decide)
  have h6 : (s.toList == [115, 112, 108, 105, 116]) = false := list_ne (by rw [hs]; decide)
  have h7 : (s.toList == [105, 110]) = true := list_is hs
  have h8 : (s.toList == [111, 117, 116]) = false := list_ne (by rw [hs]; decide)
  have h9 : (s.toList == [99, 97, 110, 99, 101, 108]) = false := list_ne (by rw [hs]; decide)
  have h10 : (s.toList == [97, 102, 116, 101, 114]) = false := list_ne (by rw [hs]; decide)
  have h11 : (s.toList == [109, 97, 110, 121]) = false := list_ne (by rw [hs]; decide)
  have h12 : (s.toList == [102, 114, 111, 109]) = false := list_ne (by rw [hs]; decide)
  have h13 : (s.toList == [116, 111]) = false := list_ne (by rw [hs]; decide)
  have h14 : (s.toList == [105, 110, 116]) = false := list_ne (by rw [hs]; decide)
  have h15 : (s.toList == [101, 110, 117, 109]) = false := list_ne (by rw [hs]; decide)
  have h16 : (s.toList == [112, 97, 105, 114]) = false := list_ne (by rw [hs]; decide)
  have h17 : (s.toList == [97, 110, 100]) = false := list_ne (by rw [hs]; decide)
  have h18 : (s.toList == [120, 111, 114]) = false := list_ne (by rw [hs]; decide)
  have h19 : (s.toList == [111, 114]) = false := list_ne (by rw [hs]; decide)
  have h20 : (s.toList == [105, 102]) = false := list_ne (by rw [hs]; decide)
  clear hs
  go_enter Tryz.func198, Tryz.ntmps198
  go_wp2
  go_ret
  exact ⟨rfl, rfl⟩

set_option maxHeartbeats 2000000 in
theorem word_8 (s : ByteArray) (w : World) (hs : s.data.toList = [111, 117, 116]) : Calls Tryz.prog 198 #[.string s] w fun e w' => e = .returned (.bool true) ∧ w' = w := by
  have h0 : (s.toList == [99, 111, 108, 111, 117, 114]) = false := list_ne (by rw [hs]; decide)
  have h1 : (s.toList == [112, 108, 97, 99, 101]) = false := list_ne (by rw [hs]; decide)
  have h2 : (s.toList == [116, 97, 115, 107]) = false := list_ne (by rw [hs]; decide)
  have h3 : (s.toList == [118, 97, 114]) = false := list_ne (by rw [hs]; decide)
  have h4 : (s.toList == [119, 104, 101, 110]) = false := list_ne (by rw [hs]; decide)
  have h5 : (s.toList == [106, 111, 105, 110]) = false := list_ne (by rw [hs]; decide)
  have h6 : (s.toList == [115, 112, 108, 105, 116]) = false := list_ne (by rw [hs]; decide)
  have h7 : (s.toList == [105, 110]) = false := list_ne (by rw [hs]; decide)
  have h8 : (s.toList == [111, 117, 116]) = true := list_is hs
  have h9 : (s.toList == [99, 97, 110, 99, 101, 108]) = false := list_ne (by rw [hs]; decide)
  have h10 : (s.toList == [97, 102, 116, 101, 114]) = false := list_ne (by rw [hs]; decide)
  have h11 : (s.toList == [109, 97, 110, 121]) = false := list_ne (by rw [hs]; decide)
  have h12 : (s.toList == [102, 114, 111, 109]) = false := list_ne (by rw [hs]; decide)
  have h13 : (s.toList == [116, 111]) = false := list_ne (by rw [hs]; decide)
  have h14 : (s.toList == [105, 110, 116]) = false := list_ne (by rw [hs]; decide)
  have h15 : (s.toList == [101, 110, 117, 109]) = false := list_ne (by rw [hs]; decide)
  have h16 : (s.toList == [112, 97, 105, 114]) = false := list_ne (by rw [hs]; decide)
  have h17 : (s.toList == [97, 110, 100]) = false := list_ne (by rw [hs]; decide)
  have h18 : (s.toList == [120, 111, 114]) = false := list_ne (by rw [hs]; decide)
  have h19 : (s.toList == [111, 114]) = false := list_ne (by rw [hs]; decide)
  have h20 : (s.toList == [105, 102]) = false := list_ne (by rw [hs]; decide)
  clear hs
  go_enter Tryz.func198, Tryz.ntmps198
  go_wp2
  go_ret
  exact ⟨rfl, rfl⟩

set_option maxHeartbeats 2000000 in
theorem word_9 (s : ByteArray) (w : World) (hs : s.data.toList = [99, 97, 110, 99, 101, 108]) : Calls Tryz.prog 198 #[.string s] w fun e w' => e = .returned (.bool true) ∧ w' = w := by
  have h0 : (s.toList == [99, 111, 108, 111, 117, 114]) = false := list_ne (by rw [hs]; decide)
  have h1 : (s.toList == [112, 108, 97, 99, 101]) = false := list_ne (by rw [hs]; decide)
  have h2 : (s.toList == [116, 97, 115, 107]) = false := list_ne (by rw [hs]; decide)
  have h3 : (s.toList == [118, 97, 114]) = false := list_ne (by rw [hs]; decide)
  have h4 : (s.toList == [119, 104, 101, 110]) = false := list_ne (by rw [hs]; decide)
  have h5 : (s.toList == [106, 111, 105, 110]) = false := list_ne (by rw [hs]; decide)
  have h6 : (s.toList == [115, 112, 108, 105, 116]) = false := list_ne (by rw [hs]; decide)
  have h7 : (s.toList == [105, 110]) = false := list_ne (by rw [hs]; decide)
  have h8 : (s.toList == [111, 117, 116]) = false := list_ne (by rw [hs]; decide)
  have h9 : (s.toList == [99, 97, 110, 99, 101, 108]) = true := list_is hs
  have h10 : (s.toList == [97, 102, 116, 101, 114]) = false := list_ne (by rw [hs]; decide)
  have h11 : (s.toList == [109, 97, 110, 121]) = false := list_ne (by rw [hs]; decide)
  have h12 : (s.toList == [102, 114, 111, 109]) = false := list_ne (by rw [hs]; decide)
  have h13 : (s.toList == [116, 111]) = false := list_ne (by rw [hs]; decide)
  have h14 : (s.toList == [105, 110, 116]) = false := list_ne (by rw [hs]; decide)
  have h15 : (s.toList == [101, 110, 117, 109]) = false := list_ne (by rw [hs]; decide)
  have h16 : (s.toList == [112, 97, 105, 114]) = false := list_ne (by rw [hs]; decide)
  have h17 : (s.toList == [97, 110, 100]) = false := list_ne (by rw [hs]; decide)
  have h18 : (s.toList == [120, 111, 114]) = false := list_ne (by rw [hs]; decide)
  have h19 : (s.toList == [111, 114]) = false := list_ne (by rw [hs]; decide)
  have h20 : (s.toList == [105, 102]) = false := list_ne (by rw [hs]; decide)
  clear hs
  go_enter Tryz.func198, Tryz.ntmps198
  go_wp2
  go_ret
  exact ⟨rfl, rfl⟩

set_option maxHeartbeats 2000000 in
theorem word_10 (s : ByteArray) (w : World) (hs : s.data.toList = [97, 102, 116, 101, 114]) : Calls Tryz.prog 198 #[.string s] w fun e w' => e = .returned (.bool true) ∧ w' = w := by
  have h0 : (s.toList == [99, 111, 108, 111, 117, 114]) = false := list_ne (by rw [hs]; decide)
  have h1 : (s.toList == [112, 108, 97, 99, 101]) = false := list_ne (by rw [hs]; decide)
  have h2 : (s.toList == [116, 97, 115, 107]) = false := list_ne (by rw [hs]; decide)
  have h3 : (s.toList == [118, 97, 114]) = false := list_ne (by rw [hs]; decide)
  have h4 : (s.toList == [119, 104, 101, 110]) = false := list_ne (by rw [hs]; decide)
  have h5 : (s.toList == [106, 111, 105, 110]) = false := list_ne (by rw [hs]; decide)
  have h6 : (s.toList == [115, 112, 108, 105, 116]) = false := list_ne (by rw [hs]; decide)
  have h7 : (s.toList == [105, 110]) = false := list_ne (by rw [hs]; decide)
  have h8 : (s.toList == [111, 117, 116]) = false := list_ne (by rw [hs]; decide)
  have h9 : (s.toList == [99, 97, 110, 99, 101, 108]) = false := list_ne (by rw [hs]; decide)
  have h10 : (s.toList == [97, 102, 116, 101, 114]) = true := list_is hs
  have h11 : (s.toList == [109, 97, 110, 121]) = false := list_ne (by rw [hs]; decide)
  have h12 : (s.toList == [102, 114, 111, 109]) = false := list_ne (by rw [hs]; decide)
  have h13 : (s.toList == [116, 111]) = false := list_ne (by rw [hs]; decide)
  have h14 : (s.toList == [105, 110, 116]) = false := list_ne (by rw [hs]; decide)
  have h15 : (s.toList == [101, 110, 117, 109]) = false := list_ne (by rw [hs]; decide)
  have h16 : (s.toList == [112, 97, 105, 114]) = false := list_ne (by rw [hs]; decide)
  have h17 : (s.toList == [97, 110, 100]) = false := list_ne (by rw [hs]; decide)
  have h18 : (s.toList == [120, 111, 114]) = false := list_ne (by rw [hs]; decide)
  have h19 : (s.toList == [111, 114]) = false := list_ne (by rw [hs]; decide)
  have h20 : (s.toList == [105, 102]) = false := list_ne (by rw [hs]; decide)
  clear hs
  go_enter Tryz.func198, Tryz.ntmps198
  go_wp2
  go_ret
  exact ⟨rfl, rfl⟩

set_option maxHeartbeats 2000000 in
theorem word_11 (s : ByteArray) (w : World) (hs : s.data.toList = [109, 97, 110, 121]) : Calls Tryz.prog 198 #[.string s] w fun e w' => e = .returned (.bool true) ∧ w' = w := by
  have h0 : (s.toList == [99, 111, 108, 111, 117, 114]) = false := list_ne (by rw [hs]; decide)
  have h1 : (s.toList == [112, 108, 97, 99, 101]) = false := list_ne (by rw [hs]; decide)
  have h2 : (s.toList == [116, 97, 115, 107]) = false := list_ne (by rw [hs]; decide)
  have h3 : (s.toList == [118, 97, 114]) = false := list_ne (by rw [hs]; decide)
  have h4 : (s.toList == [119, 104, 101, 110]) = false := list_ne (by rw [hs]; decide)
  have h5 : (s.toList == [106, 111, 105, 110]) = false := list_ne (by rw [hs]; decide)
  have h6 : (s.toList == [115, 112, 108, 105, 116]) = false := list_ne (by rw [hs]; decide)
  have h7 : (s.toList == [105, 110]) = false := list_ne (by rw [hs]; decide)
  have h8 : (s.toList == [111, 117, 116]) = false := list_ne (by rw [hs]; decide)
  have h9 : (s.toList == [99, 97, 110, 99, 101, 108]) = false := list_ne (by rw [hs]; decide)
  have h10 : (s.toList == [97, 102, 116, 101, 114]) = false := list_ne (by rw [hs]; decide)
  have h11 : (s.toList == [109, 97, 110, 121]) = true := list_is hs
  have h12 : (s.toList == [102, 114, 111, 109]) = false := list_ne (by rw [hs]; decide)
  have h13 : (s.toList == [116, 111]) = false := list_ne (by rw [hs]; decide)
  have h14 : (s.toList == [105, 110, 116]) = false := list_ne (by rw [hs]; decide)
  have h15 : (s.toList == [101, 110, 117, 109]) = false := list_ne (by rw [hs]; decide)
  have h16 : (s.toList == [112, 97, 105, 114]) = false := list_ne (by rw [hs]; decide)
  have h17 : (s.toList == [97, 110, 100]) = false := list_ne (by rw [hs]; decide)
  have h18 : (s.toList == [120, 111, 114]) = false := list_ne (by rw [hs]; decide)
  have h19 : (s.toList == [111, 114]) = false := list_ne (by rw [hs]; decide)
  have h20 : (s.toList == [105, 102]) = false := list_ne (by rw [hs]; decide)
  clear hs
  go_enter Tryz.func198, Tryz.ntmps198
  go_wp2
  go_ret
  exact ⟨rfl, rfl⟩

set_option maxHeartbeats 2000000 in
theorem word_12 (s : ByteArray) (w : World) (hs : s.data.toList = [102, 114, 111, 109]) : Calls Tryz.prog 198 #[.string s] w fun e w' => e = .returned (.bool true) ∧ w' = w := by
  have h0 : (s.toList == [99, 111, 108, 111, 117, 114]) = false := list_ne (by rw [hs]; decide)
  have h1 : (s.toList == [112, 108, 97, 99, 101]) = false := list_ne (by rw [hs]; decide)
  have h2 : (s.toList == [116, 97, 115, 107]) = false := list_ne (by rw [hs]; decide)
  have h3 : (s.toList == [118, 97, 114]) = false := list_ne (by rw [hs]; decide)
  have h4 : (s.toList == [119, 104, 101, 110]) = false := list_ne (by rw [hs]; decide)
  have h5 : (s.toList == [106, 111, 105, 110]) = false := list_ne (by rw [hs]; decide)
  have h6 : (s.toList == [115, 112, 108, 105, 116]) = false := list_ne (by rw [hs]; decide)
  have h7 : (s.toList == [105, 110]) = false := list_ne (by rw [hs]; decide)
  have h8 : (s.toList == [111, 117, 116]) = false := list_ne (by rw [hs]; decide)
  have h9 : (s.toList == [99, 97, 110, 99, 101, 108]) = false := list_ne (by rw [hs]; decide)
  have h10 : (s.toList == [97, 102, 116, 101, 114]) = false := list_ne (by rw [hs]; decide)
  have h11 : (s.toList == [109, 97, 110, 121]) = false := list_ne (by rw [hs]; decide)
  have h12 : (s.toList == [102, 114, 111, 109]) = true := list_is hs
  have h13 : (s.toList == [116, 111]) = false := list_ne (by rw [hs]; decide)
  have h14 : (s.toList == [105, 110, 116]) = false := list_ne (by rw [hs]; decide)
  have h15 : (s.toList == [101, 110, 117, 109]) = false := list_ne (by rw [hs]; decide)
  have h16 : (s.toList == [112, 97, 105, 114]) = false := list_ne (by rw [hs]; decide)
  have h17 : (s.toList == [97, 110, 100]) = false := list_ne (by rw [hs]; decide)
  have h18 : (s.toList == [120, 111, 114]) = false := list_ne (by rw [hs]; decide)
  have h19 : (s.toList == [111, 114]) = false := list_ne (by rw [hs]; decide)
  have h20 : (s.toList == [105, 102]) = false := list_ne (by rw [hs]; decide)
  clear hs
  go_enter Tryz.func198, Tryz.ntmps198
  go_wp2
  go_ret
  exact ⟨rfl, rfl⟩

set_option maxHeartbeats 2000000 in
theorem word_13 (s : ByteArray) (w : World) (hs : s.data.toList = [116, 111]) : Calls Tryz.prog 198 #[.string s] w fun e w' => e = .returned (.bool true) ∧ w' = w := by
  have h0 : (s.toList == [99, 111, 108, 111, 117, 114]) = false := list_ne (by rw [hs]; decide)
  have h1 : (s.toList == [112, 108, 97, 99, 101]) = false := list_ne (by rw [hs]; decide)
  have h2 : (s.toList == [116, 97, 115, 107]) = false := list_ne (by rw [hs]; decide)
  have h3 : (s.toList == [118, 97, 114]) = false := list_ne (by rw [hs]; decide)
  have h4 : (s.toList == [119, 104, 101, 110]) = false := list_ne (by rw [hs]; decide)
  have h5 : (s.toList == [106, 111, 105, 110]) = false := list_ne (by rw [hs]; decide)
  have h6 : (s.toList == [115, 112, 108, 105, 116]) = false := list_ne (by rw [hs]; decide)
  have h7 : (s.toList == [105, 110]) = false := list_ne (by rw [hs]; decide)
  have h8 : (s.toList == [111, 117, 116]) = false := list_ne (by rw [hs]; decide)
  have h9 : (s.toList == [99, 97, 110, 99, 101, 108]) = false := list_ne (by rw [hs]; decide)
  have h10 : (s.toList == [97, 102, 116, 101, 114]) = false := list_ne (by rw [hs]; decide)
  have h11 : (s.toList == [109, 97, 110, 121]) = false := list_ne (by rw [hs]; decide)
  have h12 : (s.toList == [102, 114, 111, 109]) = false := list_ne (by rw [hs]; decide)
  have h13 : (s.toList == [116, 111]) = true := list_is hs
  have h14 : (s.toList == [105, 110, 116]) = false := list_ne (by rw [hs]; decide)
  have h15 : (s.toList == [101, 110, 117, 109]) = false := list_ne (by rw [hs]; decide)
  have h16 : (s.toList == [112, 97, 105, 114]) = false := list_ne (by rw [hs]; decide)
  have h17 : (s.toList == [97, 110, 100]) = false := list_ne (by rw [hs]; decide)
  have h18 : (s.toList == [120, 111, 114]) = false := list_ne (by rw [hs]; decide)
  have h19 : (s.toList == [111, 114]) = false := list_ne (by rw [hs]; decide)
  have h20 : (s.toList == [105, 102]) = false := list_ne (by rw [hs]; decide)
  clear hs
  go_enter Tryz.func198, Tryz.ntmps198
  go_wp2
  go_ret
  exact ⟨rfl, rfl⟩

set_option maxHeartbeats 2000000 in
theorem word_14 (s : ByteArray) (w : World) (hs : s.data.toList = [105, 110, 116]) : Calls Tryz.prog 198 #[.string s] w fun e w' => e = .returned (.bool true) ∧ w' = w := by
  have h0 : (s.toList == [99, 111, 108, 111, 117, 114]) = false := list_ne (by rw [hs]; decide)
  have h1 : (s.toList == [112, 108, 97, 99, 101]) = false := list_ne (by rw [hs]; decide)
  have h2 : (s.toList == [116, 97, 115, 107]) = false := list_ne (by rw [hs]; decide)
  have h3 : (s.toList == [118, 97, 114]) = false := list_ne (by rw [hs]; decide)
  have h4 : (s.toList == [119, 104, 101, 110]) = false := list_ne (by rw [hs]; decide)
  have h5 : (s.toList == [106, 111, 105, 110]) = false := list_ne (by rw [hs]; decide)
  have h6 : (s.toList == [115, 112, 108, 105, 116]) = false := list_ne (by rw [hs]; decide)
  have h7 : (s.toList == [105, 110]) = false := list_ne (by rw [hs]; decide)
  have h8 : (s.toList == [111, 117, 116]) = false := list_ne (by rw [hs]; decide)
  have h9 : (s.toList == [99, 97, 110, 99, 101, 108]) = false := list_ne (by rw [hs]; decide)
  have h10 : (s.toList == [97, 102, 116, 101, 114]) = false := list_ne (by rw [hs]; decide)
  have h11 : (s.toList == [109, 97, 110, 121]) = false := list_ne (by rw [hs]; decide)
  have h12 : (s.toList == [102, 114, 111, 109]) = false := list_ne (by rw [hs]; decide)
  have h13 : (s.toList == [116, 111]) = false := list_ne (by rw [hs]; decide)
  have h14 : (s.toList == [105, 110, 116]) = true := list_is hs
  have h15 : (s.toList == [101, 110, 117, 109]) = false := list_ne (by rw [hs]; decide)
  have h16 : (s.toList == [112, 97, 105, 114]) = false := list_ne (by rw [hs]; decide)
  have h17 : (s.toList == [97, 110, 100]) = false := list_ne (by rw [hs]; decide)
  have h18 : (s.toList == [120, 111, 114]) = false := list_ne (by rw [hs]; decide)
  have h19 : (s.toList == [111, 114]) = false := list_ne (by rw [hs]; decide)
  have h20 : (s.toList == [105, 102]) = false := list_ne (by rw [hs]; decide)
  clear hs
  go_enter Tryz.func198, Tryz.ntmps198
  go_wp2
  go_ret
  exact ⟨rfl, rfl⟩

set_option maxHeartbeats 2000000 in
theorem word_15 (s : ByteArray) (w : World) (hs : s.data.toList = [101, 110, 117, 109]) : Calls Tryz.prog 198 #[.string s] w fun e w' => e = .returned (.bool true) ∧ w' = w := by
  have h0 : (s.toList == [99, 111, 108, 111, 117, 114]) = false := list_ne (by rw [hs]; decide)
  have h1 : (s.toList == [112, 108, 97, 99, 101]) = false := list_ne (by rw [hs]; decide)
  have h2 : (s.toList == [116, 97, 115, 107]) = false := list_ne (by rw [hs]; decide)
  have h3 : (s.toList == [118, 97, 114]) = false := list_ne (by rw [hs]; decide)
  have h4 : (s.toList == [119, 104, 101, 110]) = false := list_ne (by rw [hs]; decide)
  have h5 : (s.toList == [106, 111, 105, 110]) = false := list_ne (by rw [hs]; decide)
  have h6 : (s.toList == [115, 112, 108, 105, 116]) = false := list_ne (by rw [hs]; decide)
  have h7 : (s.toList == [105, 110]) = false := list_ne (by rw [hs]; decide)
  have h8 : (s.toList == [111, 117, 116]) = false := list_ne (by rw [hs]; decide)
  have h9 : (s.toList == [99, 97, 110, 99, 101, 108]) = false := list_ne (by rw [hs]; decide)
  have h10 : (s.toList == [97, 102, 116, 101, 114]) = false := list_ne (by rw [hs]; decide)
  have h11 : (s.toList == [109, 97, 110, 121]) = false := list_ne (by rw [hs]; decide)
  have h12 : (s.toList == [102, 114, 111, 109]) = false := list_ne (by rw [hs]; decide)
  have h13 : (s.toList == [116, 111]) = false := list_ne (by rw [hs]; decide)
  have h14 : (s.toList == [105, 110, 116]) = false := list_ne (by rw [hs]; decide)
  have h15 : (s.toList == [101, 110, 117, 109]) = true := list_is hs
  have h16 : (s.toList == [112, 97, 105, 114]) = false := list_ne (by rw [hs]; decide)
  have h17 : (s.toList == [97, 110, 100]) = false := list_ne (by rw [hs]; decide)
  have h18 : (s.toList == [120, 111, 114]) = false := list_ne (by rw [hs]; decide)
  have h19 : (s.toList == [111, 114]) = false := list_ne (by rw [hs]; decide)
  have h20 : (s.toList == [105, 102]) = false := list_ne (by rw [hs]; decide)
  clear hs
  go_enter Tryz.func198, Tryz.ntmps198
  go_wp2
  go_ret
  exact ⟨rfl, rfl⟩

set_option maxHeartbeats 2000000 in
theorem word_16 (s : ByteArray) (w : World) (hs : s.data.toList = [112, 97, 105, 114]) : Calls Tryz.prog 198 #[.string s] w fun e w' => e = .returned (.bool true) ∧ w' = w := by
  have h0 : (s.toList == [99, 111, 108, 111, 117, 114]) = false := list_ne (by rw [hs]; decide)
  have h1 : (s.toList == [112, 108, 97, 99, 101]) = false := list_ne (by rw [hs]; decide)
  have h2 : (s.toList == [116, 97, 115, 107]) = false := list_ne (by rw [hs]; decide)
  have h3 : (s.toList == [118, 97, 114]) = false := list_ne (by rw [hs]; decide)
  have h4 : (s.toList == [119, 104, 101, 110]) = false := list_ne (by rw [hs]; decide)
  have h5 : (s.toList == [106, 111, 105, 110]) = false := list_ne (by rw [hs]; decide)
  have h6 : (s.toList == [115, 112, 108, 105, 116]) = false := list_ne (by rw [hs]; decide)
  have h7 : (s.toList == [105, 110]) = false := list_ne (by rw [hs]; decide)
  have h8 : (s.toList == [111, 117, 116]) = false := list_ne (by rw [hs]; decide)
  have h9 : (s.toList == [99, 97, 110, 99, 101, 108]) = false := list_ne (by rw [hs]; decide)
  have h10 : (s.toList == [97, 102, 116, 101, 114]) = false := list_ne (by rw [hs]; decide)
  have h11 : (s.toList == [109, 97, 110, 121]) = false := list_ne (by rw [hs]; decide)
  have h12 : (s.toList == [102, 114, 111, 109]) = false := list_ne (by rw [hs]; decide)
  have h13 : (s.toList == [116, 111]) = false := list_ne (by rw [hs]; decide)
  have h14 : (s.toList == [105, 110, 116]) = false := list_ne (by rw [hs]; decide)
  have h15 : (s.toList == [101, 110, 117, 109]) = false := list_ne (by rw [hs]; decide)
  have h16 : (s.toList == [112, 97, 105, 114]) = true := list_is hs
  have h17 : (s.toList == [97, 110, 100]) = false := list_ne (by rw [hs]; decide)
  have h18 : (s.toList == [120, 111, 114]) = false := list_ne (by rw [hs]; decide)
  have h19 : (s.toList == [111, 114]) = false := list_ne (by rw [hs]; decide)
  have h20 : (s.toList == [105, 102]) = false := list_ne (by rw [hs]; decide)
  clear hs
  go_enter Tryz.func198, Tryz.ntmps198
  go_wp2
  go_ret
  exact ⟨rfl, rfl⟩

set_option maxHeartbeats 2000000 in
theorem word_17 (s : ByteArray) (w : World) (hs : s.data.toList = [97, 110, 100]) : Calls Tryz.prog 198 #[.string s] w fun e w' => e = .returned (.bool true) ∧ w' = w := by
  have h0 : (s.toList == [99, 111, 108, 111, 117, 114]) = false := list_ne (by rw [hs]; decide)
  have h1 : (s.toList == [112, 108, 97, 99, 101]) = false := list_ne (by rw [hs]; decide)
  have h2 : (s.toList == [116, 97, 115, 107]) = false := list_ne (by rw [hs]; decide)
  have h3 : (s.toList == [118, 97, 114]) = false := list_ne (by rw [hs]; decide)
  have h4 : (s.toList == [119, 104, 101, 110]) = false := list_ne (by rw [hs]; decide)
  have h5 : (s.toList == [106, 111, 105, 110]) = false := list_ne (by rw [hs]; decide)
  have h6 : (s.toList == [115, 112, 108, 105, 116]) = false := list_ne (by rw [hs]; decide)
  have h7 : (s.toList == [105, 110]) = false := list_ne (by rw [hs]; decide)
  have h8 : (s.toList == [111, 117, 116]) = false := list_ne (by rw [hs]; decide)
  have h9 : (s.toList == [99, 97, 110, 99, 101, 108]) = false := list_ne (by rw [hs]; decide)
  have h10 : (s.toList == [97, 102, 116, 101, 114]) = false := list_ne (by rw [hs]; decide)
  have h11 : (s.toList == [109, 97, 110, 121]) = false := list_ne (by rw [hs]; decide)
  have h12 : (s.toList == [102, 114, 111, 109]) = false := list_ne (by rw [hs]; decide)
  have h13 : (s.toList == [116, 111]) = false := list_ne (by rw [hs]; decide)
  have h14 : (s.toList == [105, 110, 116]) = false := list_ne (by rw [hs]; decide)
  have h15 : (s.toList == [101, 110, 117, 109]) = false := list_ne (by rw [hs]; decide)
  have h16 : (s.toList == [112, 97, 105, 114]) = false := list_ne (by rw [hs]; decide)
  have h17 : (s.toList == [97, 110, 100]) = true := list_is hs
  have h18 : (s.toList == [120, 111, 114]) = false := list_ne (by rw [hs]; decide)
  have h19 : (s.toList == [111, 114]) = false := list_ne (by rw [hs]; decide)
  have h20 : (s.toList == [105, 102]) = false := list_ne (by rw [hs]; decide)
  clear hs
  go_enter Tryz.func198, Tryz.ntmps198
  go_wp2
  go_ret
  exact ⟨rfl, rfl⟩

set_option maxHeartbeats 2000000 in
theorem word_18 (s : ByteArray) (w : World) (hs : s.data.toList = [120, 111, 114]) : Calls Tryz.prog 198 #[.string s] w fun e w' => e = .returned (.bool true) ∧ w' = w := by
  have h0 : (s.toList == [99, 111, 108, 111, 117, 114]) = false := list_ne (by rw [hs]; decide)
  have h1 : (s.toList == [112, 108, 97, 99, 101]) = false := list_ne (by rw [hs]; decide)
  have h2 : (s.toList == [116, 97, 115, 107]) = false := list_ne (by rw [hs]; decide)
  have h3 : (s.toList == [118, 97, 114]) = false := list_ne (by rw [hs]; decide)
  have h4 : (s.toList == [119, 104, 101, 110]) = false := list_ne (by rw [hs]; decide)
  have h5 : (s.toList == [106, 111, 105, 110]) = false := list_ne (by rw [hs]; decide)
  have h6 : (s.toList == [115, 112, 108, 105, 116]) = false := list_ne (by rw [hs]; decide)
  have h7 : (s.toList == [105, 110]) = false := list_ne (by rw [hs]; decide)
  have h8 : (s.toList == [111, 117, 116]) = false := list_ne (by rw [hs]; decide)
  have h9 : (s.toList == [99, 97, 110, 99, 101, 108]) = false := list_ne (by rw [hs]; decide)
  have h10 : (s.toList == [97, 102, 116, 101, 114]) = false := list_ne (by rw [hs]; decide)
  have h11 : (s.toList == [109, 97, 110, 121]) = false := list_ne (by rw [hs]; decide)
  have h12 : (s.toList == [102, 114, 111, 109]) = false := list_ne (by rw [hs]; decide)
  have h13 : (s.toList == [116, 111]) = false := list_ne (by rw [hs]; decide)
  have h14 : (s.toList == [105, 110, 116]) = false := list_ne (by rw [hs]; decide)
  have h15 : (s.toList == [101, 110, 117, 109]) = false := list_ne (by rw [hs]; decide)
  have h16 : (s.toList == [112, 97, 105, 114]) = false := list_ne (by rw [hs]; decide)
  have h17 : (s.toList == [97, 110, 100]) = false := list_ne (by rw [hs]; decide)
  have h18 : (s.toList == [120, 111, 114]) = true := list_is hs
  have h19 : (s.toList == [111, 114]) = false := list_ne (by rw [hs]; decide)
  have h20 : (s.toList == [105, 102]) = false := list_ne (by rw [hs]; decide)
  clear hs
  go_enter Tryz.func198, Tryz.ntmps198
  go_wp2
  go_ret
  exact ⟨rfl, rfl⟩

set_option maxHeartbeats 2000000 in
theorem word_19 (s : ByteArray) (w : World) (hs : s.data.toList = [111, 114]) : Calls Tryz.prog 198 #[.string s] w fun e w' => e = .returned (.bool true) ∧ w' = w := by
  have h0 : (s.toList == [99, 111, 108, 111, 117, 114]) = false := list_ne (by rw [hs]; decide)
  have h1 : (s.toList == [112, 108, 97, 99, 101]) = false := list_ne (by rw [hs]; decide)
  have h2 : (s.toList == [116, 97, 115, 107]) = false := list_ne (by rw [hs]; decide)
  have h3 : (s.toList == [118, 97, 114]) = false := list_ne (by rw [hs]; decide)
  have h4 : (s.toList == [119, 104, 101, 110]) = false := list_ne (by rw [hs]; decide)
  have h5 : (s.toList == [106, 111, 105, 110]) = false := list_ne (by rw [hs]; decide)
  have h6 : (s.toList == [115, 112, 108, 105, 116]) = false := list_ne (by rw [hs]; decide)
  have h7 : (s.toList == [105, 110]) = false := list_ne (by rw [hs]; decide)
  have h8 : (s.toList == [111, 117, 116]) = false := list_ne (by rw [hs]; decide)
  have h9 : (s.toList == [99, 97, 110, 99, 101, 108]) = false := list_ne (by rw [hs]; decide)
  have h10 : (s.toList == [97, 102, 116, 101, 114]) = false := list_ne (by rw [hs]; decide)
  have h11 : (s.toList == [109, 97, 110, 121]) = false := list_ne (by rw [hs]; decide)
  have h12 : (s.toList == [102, 114, 111, 109]) = false := list_ne (by rw [hs]; decide)
  have h13 : (s.toList == [116, 111]) = false := list_ne (by rw [hs]; decide)
  have h14 : (s.toList == [105, 110, 116]) = false := list_ne (by rw [hs]; decide)
  have h15 : (s.toList == [101, 110, 117, 109]) = false := list_ne (by rw [hs]; decide)
  have h16 : (s.toList == [112, 97, 105, 114]) = false := list_ne (by rw [hs]; decide)
  have h17 : (s.toList == [97, 110, 100]) = false := list_ne (by rw [hs]; decide)
  have h18 : (s.toList == [120, 111, 114]) = false := list_ne (by rw [hs]; decide)
  have h19 : (s.toList == [111, 114]) = true := list_is hs
  have h20 : (s.toList == [105, 102]) = false := list_ne (by rw [hs]; decide)
  clear hs
  go_enter Tryz.func198, Tryz.ntmps198
  go_wp2
  go_ret
  exact ⟨rfl, rfl⟩

set_option maxHeartbeats 2000000 in
theorem word_20 (s : ByteArray) (w : World) (hs : s.data.toList = [105, 102]) : Calls Tryz.prog 198 #[.string s] w fun e w' => e = .returned (.bool true) ∧ w' = w := by
  have h0 : (s.toList == [99, 111, 108, 111, 117, 114]) = false := list_ne (by rw [hs]; decide)
  have h1 : (s.toList == [112, 108, 97, 99, 101]) = false := list_ne (by rw [hs]; decide)
  have h2 : (s.toList == [116, 97, 115, 107]) = false := list_ne (by rw [hs]; decide)
  have h3 : (s.toList == [118, 97, 114]) = false := list_ne (by rw [hs]; decide)
  have h4 : (s.toList == [119, 104, 101, 110]) = false := list_ne (by rw [hs]; decide)
  have h5 : (s.toList == [106, 111, 105, 110]) = false := list_ne (by rw [hs]; decide)
  have h6 : (s.toList == [115, 112, 108, 105, 116]) = false := list_ne (by rw [hs]; decide)
  have h7 : (s.toList == [105, 110]) = false := list_ne (by rw [hs]; decide)
  have h8 : (s.toList == [111, 117, 116]) = false := list_ne (by rw [hs]; decide)
  have h9 : (s.toList == [99, 97, 110, 99, 101, 108]) = false := list_ne (by rw [hs]; decide)
  have h10 : (s.toList == [97, 102, 116, 101, 114]) = false := list_ne (by rw [hs]; decide)
  have h11 : (s.toList == [109, 97, 110, 121]) = false := list_ne (by rw [hs]; decide)
  have h12 : (s.toList == [102, 114, 111, 109]) = false := list_ne (by rw [hs]; decide)
  have h13 : (s.toList == [116, 111]) = false := list_ne (by rw [hs]; decide)
  have h14 : (s.toList == [105, 110, 116]) = false := list_ne (by rw [hs]; decide)
  have h15 : (s.toList == [101, 110, 117, 109]) = false := list_ne (by rw [hs]; decide)
  have h16 : (s.toList == [112, 97, 105, 114]) = false := list_ne (by rw [hs]; decide)
  have h17 : (s.toList == [97, 110, 100]) = false := list_ne (by rw [hs]; decide)
  have h18 : (s.toList == [120, 111, 114]) = false := list_ne (by rw [hs]; decide)
  have h19 : (s.toList == [111, 114]) = false := list_ne (by rw [hs]; decide)
  have h20 : (s.toList == [105, 102]) = true := list_is hs
  clear hs
  go_enter Tryz.func198, Tryz.ntmps198
  go_wp2
  go_ret
  exact ⟨rfl, rfl⟩

theorem word_any (s : ByteArray) (w : World) : Calls Tryz.prog 198 #[.string s] w fun e w' => e = .returned (.bool (wordB s.data.toList)) ∧ w' = w := by
  cases h : wordB s.data.toList with
  | false => exact word_no s w h
  | true =>
    have h := of_decide_eq_true h
    simp only [wordsL, List.mem_cons, List.not_mem_nil, or_false] at h
    rcases h with h | h | h | h | h | h | h | h | h | h | h | h | h | h | h | h | h | h | h | h | h
    · exact word_0 s w h
    · exact word_1 s w h
    · exact word_2 s w h
    · exact word_3 s w h
    · exact word_4 s w h
    · exact word_5 s w h
    · exact word_6 s w h
    · exact word_7 s w h
    · exact word_8 s w h
    · exact word_9 s w h
    · exact word_10 s w h
    · exact word_11 s w h
    · exact word_12 s w h
    · exact word_13 s w h
    · exact word_14 s w h
    · exact word_15 s w h
    · exact word_16 s w h
    · exact word_17 s w h
    · exact word_18 s w h
    · exact word_19 s w h
    · exact word_20 s w h
end Go.Proofs.YtjcanodnlnodpaaGreatDoor.Token
