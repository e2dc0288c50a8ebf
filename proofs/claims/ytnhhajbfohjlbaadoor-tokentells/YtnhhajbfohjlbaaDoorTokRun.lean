/- char's methods, on and run of package token: contracts of the calls, over the turned program. -/
import Derived.Test.YtnhhajbfohjlbaaDoorTokPlain
import Derived.Test.YtnhhajbfohjlbaaDoorFrame
import Derived.WalkKit
import Derived.WalkSpells
import Derived.WalkLawsBesides
namespace Go.Proofs.YtnhhajbfohjlbaaDoor.Token
open Go.RowKit Go.Proofs.YtnhhajbfohjlbaaDoor.Colour
set_option linter.unusedVariables false
set_option linter.unusedSimpArgs false
def hash8 (c : UInt8) : Bool := c.toNat == 35
def note8 (c : UInt8) : Bool := c.toNat != 10
/-- such a byte stands there -/
def onB (p : UInt8 → Bool) (l : List UInt8) (i : Nat) : Bool := decide (i < l.length) && p (l.getD i 0)
/-- where such bytes end -/
def runF (p : UInt8 → Bool) (l : List UInt8) (i : Nat) : Nat := i + runL p (l.drop i)
theorem at_list {s : ByteArray} {i : Nat} (h : i < s.size) : s.data.toList.getD i 0 = s[i] := by
  rw [List.getD_eq_getElem?_getD, List.getElem?_eq_getElem (by simpa using h)]; rfl
theorem size_list (s : ByteArray) : s.data.toList.length = s.size := by simp
theorem onB_in {p : UInt8 → Bool} {s : ByteArray} {i : Nat} (h : i < s.size) : onB p s.data.toList i = p s[i] := by
  unfold onB; rw [at_list h, size_list]; simp [h]
theorem onB_out {p : UInt8 → Bool} {l : List UInt8} {i : Nat} (h : l.length ≤ i) : onB p l i = false := by
  unfold onB; rw [decide_eq_false (by omega)]; rfl
theorem runF_on {p : UInt8 → Bool} {l : List UInt8} {i : Nat} (h : onB p l i = true) : i < l.length ∧ runF p l i = runF p l (i + 1) := by
  unfold onB at h
  simp only [Bool.and_eq_true, decide_eq_true_eq] at h
  refine ⟨h.1, ?_⟩
  unfold runF runL
  rw [List.drop_eq_getElem_cons h.1, List.takeWhile_cons, if_pos (by have h2 := h.2; rwa [List.getD_eq_getElem?_getD, List.getElem?_eq_getElem h.1] at h2)]
  simp; omega
theorem runF_off {p : UInt8 → Bool} {l : List UInt8} {i : Nat} (h : onB p l i = false) : runF p l i = i := by
  unfold runF runL
  rcases Nat.lt_or_ge i l.length with hi | hi
  · have hp : p l[i] = false := by
      unfold onB at h
      rw [decide_eq_true hi, Bool.true_and, List.getD_eq_getElem?_getD, List.getElem?_eq_getElem hi] at h
      exact h
    rw [List.drop_eq_getElem_cons hi, List.takeWhile_cons, if_neg (by rw [hp]; decide)]; rfl
  · rw [List.drop_of_length_le hi]; rfl
theorem runF_le {p : UInt8 → Bool} {l : List UInt8} {i : Nat} (h : i ≤ l.length) : runF p l i ≤ l.length := by
  unfold runF
  have := run_le (p := p) (r := l.drop i)
  rw [List.length_drop] at this
  omega
theorem runF_ge {p : UInt8 → Bool} {l : List UInt8} {i : Nat} : i ≤ runF p l i := by unfold runF; omega

set_option maxHeartbeats 1000000 in
theorem c_blank (c : UInt8) (w : World) : Calls Tryd.prog 35 #[.int .u8 c.toNat] w fun e w' => e = .returned (.bool (blk8 c)) ∧ w' = w := by
  have hc : c.toNat < 256 := c.toNat_lt
  go_enter Tryd.func35, Tryd.ntmps35
  go_wp2
  all_goals go_ret
  all_goals exact ⟨retb (by unfold blk8; rw [Bool.eq_iff_iff]; simp; try omega), rfl⟩

set_option maxHeartbeats 1000000 in
theorem c_letter (c : UInt8) (w : World) : Calls Tryd.prog 39 #[.int .u8 c.toNat] w fun e w' => e = .returned (.bool (let8 c)) ∧ w' = w := by
  have hc : c.toNat < 256 := c.toNat_lt
  go_enter Tryd.func39, Tryd.ntmps39
  go_wp2
  all_goals go_ret
  all_goals exact ⟨retb (by unfold let8 letB; rw [Bool.eq_iff_iff]; simp; try omega), rfl⟩

set_option maxHeartbeats 1000000 in
theorem c_digit (c : UInt8) (w : World) : Calls Tryd.prog 27 #[.int .u8 c.toNat] w fun e w' => e = .returned (.bool (dig8 c)) ∧ w' = w := by
  have hc : c.toNat < 256 := c.toNat_lt
  go_enter Tryd.func27, Tryd.ntmps27
  go_wp2
  all_goals go_ret
  all_goals exact ⟨retb (by unfold dig8 digB; rw [Bool.eq_iff_iff]; simp; try omega), rfl⟩

set_option maxHeartbeats 1000000 in
theorem c_named (c : UInt8) (w : World) : Calls Tryd.prog 47 #[.int .u8 c.toNat] w fun e w' => e = .returned (.bool (ok8 c)) ∧ w' = w := by
  have e : ok8 c = (let8 c || dig8 c || (c.toNat : Int) == 95) := rfl
  have E : Hid (ok8 c = (let8 c || dig8 c || (c.toNat : Int) == 95)) := e
  clear e
  cases hl : let8 c <;> cases hd : dig8 c
  all_goals
    have HL : Hid (let8 c = _) := hl
    have HD : Hid (dig8 c = _) := hd
    clear hl hd
    go_enter Tryd.func47, Tryd.ntmps47
    go_wp2_with (first
      | (go_at_call 39; refine (c_letter _ _).mono ?_; rintro e w' ⟨he, hw⟩; subst he; have hw := hw.symm; subst hw; rw [HL.out])
      | (go_at_call 27; refine (c_digit _ _).mono ?_; rintro e w' ⟨he, hw⟩; subst he; have hw := hw.symm; subst hw; rw [HD.out]))
    all_goals go_ret
    all_goals exact ⟨retb (by rw [E.out, HL.out, HD.out]; simp), rfl⟩

set_option maxHeartbeats 1000000 in
theorem c_hash (c : UInt8) (w : World) : Calls Tryd.prog 37 #[.int .u8 c.toNat] w fun e w' => e = .returned (.bool (hash8 c)) ∧ w' = w := by
  have hc : c.toNat < 256 := c.toNat_lt
  go_enter Tryd.func37, Tryd.ntmps37
  go_wp2
  all_goals go_ret
  all_goals exact ⟨retb (by unfold hash8; rw [Bool.eq_iff_iff]; simp; try omega), rfl⟩

set_option maxHeartbeats 1000000 in
theorem c_noted (c : UInt8) (w : World) : Calls Tryd.prog 38 #[.int .u8 c.toNat] w fun e w' => e = .returned (.bool (note8 c)) ∧ w' = w := by
  have hc : c.toNat < 256 := c.toNat_lt
  go_enter Tryd.func38, Tryd.ntmps38
  go_wp2
  all_goals go_ret
  all_goals exact ⟨retb (by unfold note8; rw [Bool.eq_iff_iff]; simp; try omega), rfl⟩

set_option maxHeartbeats 1000000 in
theorem on_blank (s : ByteArray) (i : Nat) (w : World) : Calls Tryd.prog 36 #[.string s, .int .i64 i, .func (.func 35) #[] #[]] w fun e w' => e = .returned (.bool (onB blk8 s.data.toList i)) ∧ w' = w := by
  by_cases h : i < s.size
  · have h' : (i : Int) < s.size := by omega
    have E : Hid (onB blk8 s.data.toList i = blk8 s[i]) := onB_in h
    go_enter Tryd.func36, Tryd.ntmps36
    go_wp2_with (go_at_call 35; refine (c_blank _ _).mono ?_; rintro e w' ⟨he, hw⟩; subst he; have hw := hw.symm; subst hw)
    go_ret
    exact ⟨by rw [E.out]; rfl, rfl⟩
  · have h' : ¬ (i : Int) < s.size := by omega
    have E : Hid (onB blk8 s.data.toList i = false) := onB_out (by rw [size_list]; omega)
    go_enter Tryd.func36, Tryd.ntmps36
    go_wp2
    go_ret
    exact ⟨by rw [E.out]; rfl, rfl⟩

set_option maxHeartbeats 1000000 in
theorem on_letter (s : ByteArray) (i : Nat) (w : World) : Calls Tryd.prog 36 #[.string s, .int .i64 i, .func (.func 39) #[] #[]] w fun e w' => e = .returned (.bool (onB let8 s.data.toList i)) ∧ w' = w := by
  by_cases h : i < s.size
  · have h' : (i : Int) < s.size := by omega
    have E : Hid (onB let8 s.data.toList i = let8 s[i]) := onB_in h
    go_enter Tryd.func36, Tryd.ntmps36
    go_wp2_with (go_at_call 39; refine (c_letter _ _).mono ?_; rintro e w' ⟨he, hw⟩; subst he; have hw := hw.symm; subst hw)
    go_ret
    exact ⟨by rw [E.out]; rfl, rfl⟩
  · have h' : ¬ (i : Int) < s.size := by omega
    have E : Hid (onB let8 s.data.toList i = false) := onB_out (by rw [size_list]; omega)
    go_enter Tryd.func36, Tryd.ntmps36
    go_wp2
    go_ret
    exact ⟨by rw [E.out]; rfl, rfl⟩

set_option maxHeartbeats 1000000 in
theorem on_digit (s : ByteArray) (i : Nat) (w : World) : Calls Tryd.prog 36 #[.string s, .int .i64 i, .func (.func 27) #[] #[]] w fun e w' => e = .returned (.bool (onB dig8 s.data.toList i)) ∧ w' = w := by
  by_cases h : i < s.size
  · have h' : (i : Int) < s.size := by omega
    have E : Hid (onB dig8 s.data.toList i = dig8 s[i]) := onB_in h
    go_enter Tryd.func36, Tryd.ntmps36
    go_wp2_with (go_at_call 27; refine (c_digit _ _).mono ?_; rintro e w' ⟨he, hw⟩; subst he; have hw := hw.symm; subst hw)
    go_ret
    exact ⟨by rw [E.out]; rfl, rfl⟩
  · have h' : ¬ (i : Int) < s.size := by omega
    have E : Hid (onB dig8 s.data.toList i = false) := onB_out (by rw [size_list]; omega)
    go_enter Tryd.func36, Tryd.ntmps36
    go_wp2
    go_ret
    exact ⟨by rw [E.out]; rfl, rfl⟩

set_option maxHeartbeats 1000000 in
theorem on_named (s : ByteArray) (i : Nat) (w : World) : Calls Tryd.prog 36 #[.string s, .int .i64 i, .func (.func 47) #[] #[]] w fun e w' => e = .returned (.bool (onB ok8 s.data.toList i)) ∧ w' = w := by
  by_cases h : i < s.size
  · have h' : (i : Int) < s.size := by omega
    have E : Hid (onB ok8 s.data.toList i = ok8 s[i]) := onB_in h
    go_enter Tryd.func36, Tryd.ntmps36
    go_wp2_with (go_at_call 47; refine (c_named _ _).mono ?_; rintro e w' ⟨he, hw⟩; subst he; have hw := hw.symm; subst hw)
    go_ret
    exact ⟨by rw [E.out]; rfl, rfl⟩
  · have h' : ¬ (i : Int) < s.size := by omega
    have E : Hid (onB ok8 s.data.toList i = false) := onB_out (by rw [size_list]; omega)
    go_enter Tryd.func36, Tryd.ntmps36
    go_wp2
    go_ret
    exact ⟨by rw [E.out]; rfl, rfl⟩

set_option maxHeartbeats 1000000 in
theorem on_hash (s : ByteArray) (i : Nat) (w : World) : Calls Tryd.prog 36 #[.string s, .int .i64 i, .func (.func 37) #[] #[]] w fun e w' => e = .returned (.bool (onB hash8 s.data.toList i)) ∧ w' = w := by
  by_cases h : i < s.size
  · have h' : (i : Int) < s.size := by omega
    have E : Hid (onB hash8 s.data.toList i = hash8 s[i]) := onB_in h
    go_enter Tryd.func36, Tryd.ntmps36
    go_wp2_with (go_at_call 37; refine (c_hash _ _).mono ?_; rintro e w' ⟨he, hw⟩; subst he; have hw := hw.symm; subst hw)
    go_ret
    exact ⟨by rw [E.out]; rfl, rfl⟩
  · have h' : ¬ (i : Int) < s.size := by omega
    have E : Hid (onB hash8 s.data.toList i = false) := onB_out (by rw [size_list]; omega)
    go_enter Tryd.func36, Tryd.ntmps36
    go_wp2
    go_ret
    exact ⟨by rw [E.out]; rfl, rfl⟩

set_option maxHeartbeats 1000000 in
theorem on_noted (s : ByteArray) (i : Nat) (w : World) : Calls Tryd.prog 36 #[.string s, .int .i64 i, .func (.func 38) #[] #[]] w fun e w' => e = .returned (.bool (onB note8 s.data.toList i)) ∧ w' = w := by
  by_cases h : i < s.size
  · have h' : (i : Int) < s.size := by omega
    have E : Hid (onB note8 s.data.toList i = note8 s[i]) := onB_in h
    go_enter Tryd.func36, Tryd.ntmps36
    go_wp2_with (go_at_call 38; refine (c_noted _ _).mono ?_; rintro e w' ⟨he, hw⟩; subst he; have hw := hw.symm; subst hw)
    go_ret
    exact ⟨by rw [E.out]; rfl, rfl⟩
  · have h' : ¬ (i : Int) < s.size := by omega
    have E : Hid (onB note8 s.data.toList i = false) := onB_out (by rw [size_list]; omega)
    go_enter Tryd.func36, Tryd.ntmps36
    go_wp2
    go_ret
    exact ⟨by rw [E.out]; rfl, rfl⟩

set_option maxHeartbeats 1000000 in
theorem run_blank (s : ByteArray) (i : Nat) (w : World) (hs : s.size ≤ 1000000) (hi : i ≤ s.size) : Calls Tryd.prog 26 #[.string s, .int .i64 i, .func (.func 35) #[] #[]] w fun e w' => e = .returned (.int .i64 (runF blk8 s.data.toList i)) ∧ w' = w := by
  go_enter Tryd.func26, Tryd.ntmps26
  go_wp2
  go_loop [1] (fun v => ∃ k : Nat, k ≤ s.size ∧ v = .int .i64 k ∧ Hid (runF blk8 s.data.toList i = runF blk8 s.data.toList k)) (fun v => s.size - (intOf v).toNat)
  case atStart => exact ⟨i, hi, rfl, rfl⟩
  case round =>
    obtain ⟨k, hk, rfl, hr⟩ := hrel
    cases ho : onB blk8 s.data.toList k with
    | true =>
      have HO : Hid (onB blk8 s.data.toList k = true) := ho
      have hkl : k < s.size := by have := (runF_on ho).1; rwa [size_list] at this
      have hr' : Hid (runF blk8 s.data.toList i = runF blk8 s.data.toList (k + 1)) := hr.out.trans (runF_on ho).2
      clear ho hr
      go_wp2_with (go_at_call 36; refine (on_blank _ _ _).mono ?_; rintro e w' ⟨he, hw⟩; subst he; have hw := hw.symm; subst hw; rw [HO.out])
      go_round
      case rel => exact ⟨k + 1, by omega, by go_num, hr'⟩
      case measure => simp [intOf]; omega
    | false =>
      have HO : Hid (onB blk8 s.data.toList k = false) := ho
      have hr' : Hid (runF blk8 s.data.toList i = k) := hr.out.trans (runF_off ho)
      clear ho hr
      go_wp2_with (go_at_call 36; refine (on_blank _ _ _).mono ?_; rintro e w' ⟨he, hw⟩; subst he; have hw := hw.symm; subst hw; rw [HO.out])
      go_ret
      exact ⟨by rw [hr'.out]; rfl, rfl⟩

set_option maxHeartbeats 1000000 in
theorem run_digit (s : ByteArray) (i : Nat) (w : World) (hs : s.size ≤ 1000000) (hi : i ≤ s.size) : Calls Tryd.prog 26 #[.string s, .int .i64 i, .func (.func 27) #[] #[]] w fun e w' => e = .returned (.int .i64 (runF dig8 s.data.toList i)) ∧ w' = w := by
  go_enter Tryd.func26, Tryd.ntmps26
  go_wp2
  go_loop [1] (fun v => ∃ k : Nat, k ≤ s.size ∧ v = .int .i64 k ∧ Hid (runF dig8 s.data.toList i = runF dig8 s.data.toList k)) (fun v => s.size - (intOf v).toNat)
  case atStart => exact ⟨i, hi, rfl, rfl⟩
  case round =>
    obtain ⟨k, hk, rfl, hr⟩ := hrel
    cases ho : onB dig8 s.data.toList k with
    | true =>
      have HO : Hid (onB dig8 s.data.toList k = true) := ho
      have hkl : k < s.size := by have := (runF_on ho).1; rwa [size_list] at this
      have hr' : Hid (runF dig8 s.data.toList i = runF dig8 s.data.toList (k + 1)) := hr.out.trans (runF_on ho).2
      clear ho hr
      go_wp2_with (go_at_call 36; refine (on_digit _ _ _).mono ?_; rintro e w' ⟨he, hw⟩; subst he; have hw := hw.symm; subst hw; rw [HO.out])
      go_round
      case rel => exact ⟨k + 1, by omega, by go_num, hr'⟩
      case measure => simp [intOf]; omega
    | false =>
      have HO : Hid (onB dig8 s.data.toList k = false) := ho
      have hr' : Hid (runF dig8 s.data.toList i = k) := hr.out.trans (runF_off ho)
      clear ho hr
      go_wp2_with (go_at_call 36; refine (on_digit _ _ _).mono ?_; rintro e w' ⟨he, hw⟩; subst he; have hw := hw.symm; subst hw; rw [HO.out])
      go_ret
      exact ⟨by rw [hr'.out]; rfl, rfl⟩

set_option maxHeartbeats 1000000 in
theorem run_named (s : ByteArray) (i : Nat) (w : World) (hs : s.size ≤ 1000000) (hi : i ≤ s.size) : Calls Tryd.prog 26 #[.string s, .int .i64 i, .func (.func 47) #[] #[]] w fun e w' => e = .returned (.int .i64 (runF ok8 s.data.toList i)) ∧ w' = w := by
  go_enter Tryd.func26, Tryd.ntmps26
  go_wp2
  go_loop [1] (fun v => ∃ k : Nat, k ≤ s.size ∧ v = .int .i64 k ∧ Hid (runF ok8 s.data.toList i = runF ok8 s.data.toList k)) (fun v => s.size - (intOf v).toNat)
  case atStart => exact ⟨i, hi, rfl, rfl⟩
  case round =>
    obtain ⟨k, hk, rfl, hr⟩ := hrel
    cases ho : onB ok8 s.data.toList k with
    | true =>
      have HO : Hid (onB ok8 s.data.toList k = true) := ho
      have hkl : k < s.size := by have := (runF_on ho).1; rwa [size_list] at this
      have hr' : Hid (runF ok8 s.data.toList i = runF ok8 s.data.toList (k + 1)) := hr.out.trans (runF_on ho).2
      clear ho hr
      go_wp2_with (go_at_call 36; refine (on_named _ _ _).mono ?_; rintro e w' ⟨he, hw⟩; subst he; have hw := hw.symm; subst hw; rw [HO.out])
      go_round
      case rel => exact ⟨k + 1, by omega, by go_num, hr'⟩
      case measure => simp [intOf]; omega
    | false =>
      have HO : Hid (onB ok8 s.data.toList k = false) := ho
      have hr' : Hid (runF ok8 s.data.toList i = k) := hr.out.trans (runF_off ho)
      clear ho hr
      go_wp2_with (go_at_call 36; refine (on_named _ _ _).mono ?_; rintro e w' ⟨he, hw⟩; subst he; have hw := hw.symm; subst hw; rw [HO.out])
      go_ret
      exact ⟨by rw [hr'.out]; rfl, rfl⟩

set_option maxHeartbeats 1000000 in
theorem run_noted (s : ByteArray) (i : Nat) (w : World) (hs : s.size ≤ 1000000) (hi : i ≤ s.size) : Calls Tryd.prog 26 #[.string s, .int .i64 i, .func (.func 38) #[] #[]] w fun e w' => e = .returned (.int .i64 (runF note8 s.data.toList i)) ∧ w' = w := by
  go_enter Tryd.func26, Tryd.ntmps26
  go_wp2
  go_loop [1] (fun v => ∃ k : Nat, k ≤ s.size ∧ v = .int .i64 k ∧ Hid (runF note8 s.data.toList i = runF note8 s.data.toList k)) (fun v => s.size - (intOf v).toNat)
  case atStart => exact ⟨i, hi, rfl, rfl⟩
  case round =>
    obtain ⟨k, hk, rfl, hr⟩ := hrel
    cases ho : onB note8 s.data.toList k with
    | true =>
      have HO : Hid (onB note8 s.data.toList k = true) := ho
      have hkl : k < s.size := by have := (runF_on ho).1; rwa [size_list] at this
      have hr' : Hid (runF note8 s.data.toList i = runF note8 s.data.toList (k + 1)) := hr.out.trans (runF_on ho).2
      clear ho hr
      go_wp2_with (go_at_call 36; refine (on_noted _ _ _).mono ?_; rintro e w' ⟨he, hw⟩; subst he; have hw := hw.symm; subst hw; rw [HO.out])
      go_round
      case rel => exact ⟨k + 1, by omega, by go_num, hr'⟩
      case measure => simp [intOf]; omega
    | false =>
      have HO : Hid (onB note8 s.data.toList k = false) := ho
      have hr' : Hid (runF note8 s.data.toList i = k) := hr.out.trans (runF_off ho)
      clear ho hr
      go_wp2_with (go_at_call 36; refine (on_noted _ _ _).mono ?_; rintro e w' ⟨he, hw⟩; subst he; have hw := hw.symm; subst hw; rw [HO.out])
      go_ret
      exact ⟨by rw [hr'.out]; rfl, rfl⟩

end Go.Proofs.YtnhhajbfohjlbaaDoor.Token
