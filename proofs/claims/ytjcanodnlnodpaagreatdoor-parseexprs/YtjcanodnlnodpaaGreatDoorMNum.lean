/- Contracts and plain mathematics, together: TokNum, TokSign. -/
import Derived.Test.YtjcanodnlnodpaaGreatDoorMFx
import Derived.Test.YtjcanodnlnodpaaGreatDoorMRun
import Derived.Test.YtjcanodnlnodpaaGreatDoorShelf
import Derived.Lib.AtoiErrMem
import Derived.Test.YtjcanodnlnodpaaGreatDoorMColName
/- zeroAhead, Number and number of package token: contracts of the calls, over the turned program. -/
namespace Go.Proofs.YtjcanodnlnodpaaGreatDoor.Token
open Go.RowKit Go.Proofs.YtjcanodnlnodpaaGreatDoor.Colour Go.Proofs.YtjcanodnlnodpaaGreatDoor.Frame
set_option linter.unusedVariables false
set_option linter.unusedSimpArgs false

theorem zero_in {s : ByteArray} (h : 1 < s.size) : zero8 s.data.toList = ((s[0]'(by omega)).toNat == 48) := by
  unfold zero8
  rw [size_list, decide_eq_true h, Bool.true_and, ← at_list (s := s) (i := 0) (by omega)]
  cases s.data.toList <;> rfl
theorem zero_out {s : ByteArray} (h : ¬ 1 < s.size) : zero8 s.data.toList = false := by
  unfold zero8; rw [size_list, decide_eq_false h]; rfl

set_option maxHeartbeats 1000000 in
theorem zero_any (s : ByteArray) (w : World) : Calls Tryz.prog 158 #[.string s] w fun e w' => e = .returned (.bool (zero8 s.data.toList)) ∧ w' = w := by
  by_cases h : 1 < s.size
  · have h' : (1 : Int) < s.size := by omega
    have h0 : 0 < s.size := by omega
    have h0' : (0 : Int) < s.size := by omega
    have E : Hid (zero8 s.data.toList = ((s[0]'h0).toNat == 48)) := zero_in h
    go_enter Tryz.func158, Tryz.ntmps158
    go_wp2
    all_goals go_ret
    all_goals exact ⟨retb (by rw [E.out, Bool.eq_iff_iff]; simp; try omega), rfl⟩
  · have h' : ¬ (1 : Int) < s.size := by omega
    have E : Hid (zero8 s.data.toList = false) := zero_out h
    go_enter Tryz.func158, Tryz.ntmps158
    go_wp2
    all_goals go_ret
    all_goals exact ⟨by rw [E.out]; rfl, rfl⟩

theorem atoi_fine (s : ByteArray) (v : Int) (w : World) (hs : s.size ≤ 140737488355328) (h : Lib.atoiAll s.data.toList = .ok v) :
    Calls Tryz.prog 205 #[.string s] w fun e w' => e = .returned (.tuple #[.int .i64 v, .nilIface]) ∧ Below w.heap.size w w' := by
  refine (Tryz.strconv_Atoi_ok s (by omega) v h w).mono ?_
  rintro e w' ⟨he, hw | ⟨t, hw⟩⟩
  · exact ⟨he, by rw [hw]; exact Below.refl _ _⟩
  · exact ⟨he, by rw [hw]; exact Lib.bytesWorld_below _ _ _⟩
theorem atoi_over (s : ByteArray) (w : World) (hs : s.size ≤ 140737488355328) (h : Lib.atoiAll s.data.toList = .range) (hF : Fx w) :
    Calls Tryz.prog 205 #[.string s] w fun e w' => ∃ a p q, e = .returned (.tuple #[.int .i64 a, .iface p q]) ∧ Below w.heap.size w w' := by
  obtain ⟨te, pe, hc⟩ := hF.2
  refine (Tryz.strconv_Atoi_range s (by omega) h _ w hc (.inr ⟨te, pe, rfl⟩)).mono ?_
  rintro e w' ⟨N, he, _, _, hb⟩
  exact ⟨_, _, _, he, hb⟩

/-- what Number tells -/
def numR (l : List UInt8) : Ending := .returned (.tuple #[.int .i64 (numV l), .bool (numB l)])
theorem numR_no {l : List UInt8} (h : numB l = false) : numR l = .returned (.tuple #[.int .i64 0, .bool false]) := by unfold numR numV; rw [h]; rfl
theorem numB_parts (l : List UInt8) : numB l = (decide (0 < l.length) && l.all dig8 && !zero8 l && decide (valL 0 l < 9223372036854775808)) := rfl
theorem runF_all {p : UInt8 → Bool} {l : List UInt8} : l.all p = decide (runF p l 0 = l.length) := by
  unfold runF runL
  rw [List.drop_zero, Nat.zero_add]
  cases h : l.all p with
  | true => rw [run_all h]; simp
  | false =>
    symm
    refine decide_eq_false fun e => ?_
    have h1 := all_run (p := p) (r := l)
    have h2 : l.takeWhile p = l := (List.takeWhile_prefix p).eq_of_length e
    rw [h2, h] at h1; cases h1

set_option maxHeartbeats 2000000 in
theorem number_any (s : ByteArray) (w : World) (hs : s.size ≤ 140737488355328) (hF : Fx w) :
    Calls Tryz.prog 159 #[.string s] w fun e w' => e = numR s.data.toList ∧ Below w.heap.size w w' := by
  by_cases h0 : s.size = 0
  · have e0 : s = ⟨#[]⟩ := by apply ByteArray.ext; exact Array.eq_empty_of_size_eq_zero h0
    subst e0
    go_enter Tryz.func159, Tryz.ntmps159
    go_wp2
    go_ret2
    exact ⟨rfl, Below.refl _ _⟩
  obtain ⟨m, hm⟩ : ∃ m, m = runF dig8 s.data.toList 0 := ⟨_, rfl⟩
  have hml : m ≤ s.size := by have := runF_le (p := dig8) (l := s.data.toList) (i := 0) (by omega); rw [size_list] at this; omega
  have HM : Hid (runF dig8 s.data.toList 0 = m) := hm.symm
  have hA : s.data.toList.all dig8 = decide (m = s.size) := by rw [runF_all, size_list, hm]
  have hem : s.toList.isEmpty = false := by
    have hd : s.toList = s.data.toList := Go.ByteArray.toList_eq s
    rw [hd, List.isEmpty_eq_false_iff]
    intro e; have := congrArg List.length e; rw [size_list] at this; exact h0 this
  have HF : Hid (Fx w) := hF
  clear hF
  by_cases hms : m < s.size
  · have hms' : (m : Int) < s.size := by omega
    have N : Hid (numB s.data.toList = false) := by
      show numB _ = false
      have : decide (m = s.size) = false := decide_eq_false (by omega)
      rw [numB_parts, hA, this]; simp
    have HZ : Hid (True) := trivial
    clear hA hm
    go_enter Tryz.func159, Tryz.ntmps159
    go_wp2_with (go_at_call 105; refine (run_digit _ 0 _ hs (Nat.zero_le _)).mono ?_; rintro e w' ⟨he, hw⟩; subst he; have hw := hw.symm; subst hw; rw [HM.out])
    go_ret2
    exact ⟨by rw [numR_no N.out]; rfl, Below.refl _ _⟩
  have hms' : ¬ (m : Int) < s.size := by omega
  have hall : s.data.toList.all dig8 = true := by rw [hA]; exact decide_eq_true (by omega)
  have hnil : s.data.toList ≠ [] := fun e => by have := congrArg List.length e; rw [size_list] at this; exact h0 this
  have h0l : decide (0 < s.data.toList.length) = true := decide_eq_true (by rw [size_list]; omega)
  cases hz : zero8 s.data.toList with
  | true =>
    have HZ : Hid (zero8 s.data.toList = true) := hz
    have N : Hid (numB s.data.toList = false) := by
      show numB _ = false
      rw [numB_parts, hz]; simp
    clear hA hm hz hall hnil h0l
    go_enter Tryz.func159, Tryz.ntmps159
    go_wp2_with (first
      | (go_at_call 105; refine (run_digit _ 0 _ hs (Nat.zero_le _)).mono ?_; rintro e w' ⟨he, hw⟩; subst he; have hw := hw.symm; subst hw; rw [HM.out])
      | (go_at_call 158; refine (zero_any _ _).mono ?_; rintro e w' ⟨he, hw⟩; subst he; have hw := hw.symm; subst hw; rw [HZ.out]))
    go_ret2
    exact ⟨by rw [numR_no N.out]; rfl, Below.refl _ _⟩
  | false =>
    have HZ : Hid (zero8 s.data.toList = false) := hz
    have hat := atoi_dig hnil hall
    by_cases hv : valL 0 s.data.toList < 9223372036854775808
    · have N : Hid (numR s.data.toList = .returned (.tuple #[.int .i64 (valL 0 s.data.toList : Int), .bool true])) := by
        show numR _ = _
        have hn : numB s.data.toList = true := by rw [numB_parts, h0l, hall, hz, decide_eq_true hv]; rfl
        unfold numR numV; rw [hn]; rfl
      rw [if_pos hv] at hat
      have HA : Hid (Lib.atoiAll s.data.toList = .ok (valL 0 s.data.toList : Int)) := hat
      clear hA hm hz hall hnil h0l hv hat
      go_enter Tryz.func159, Tryz.ntmps159
      go_wp2_with (first
      | (go_at_call 105; refine (run_digit _ 0 _ hs (Nat.zero_le _)).mono ?_; rintro e w' ⟨he, hw⟩; subst he; have hw := hw.symm; subst hw; rw [HM.out])
      | (go_at_call 158; refine (zero_any _ _).mono ?_; rintro e w' ⟨he, hw⟩; subst he; have hw := hw.symm; subst hw; rw [HZ.out])
      | (go_at_call 205; refine (atoi_fine _ _ _ hs HA.out).mono ?_; rintro e w1 ⟨he, hb⟩; subst he))
      go_ret2
      exact ⟨by rw [N.out]; rfl, hb⟩
    · have N : Hid (numB s.data.toList = false) := by
        show numB _ = false
        rw [numB_parts, decide_eq_false hv]; simp
      rw [if_neg hv] at hat
      have HA : Hid (Lib.atoiAll s.data.toList = .range) := hat
      clear hA hm hz hall hnil h0l hv hat
      go_enter Tryz.func159, Tryz.ntmps159
      go_wp2_with (first
      | (go_at_call 105; refine (run_digit _ 0 _ hs (Nat.zero_le _)).mono ?_; rintro e w' ⟨he, hw⟩; subst he; have hw := hw.symm; subst hw; rw [HM.out])
      | (go_at_call 158; refine (zero_any _ _).mono ?_; rintro e w' ⟨he, hw⟩; subst he; have hw := hw.symm; subst hw; rw [HZ.out])
      | (go_at_call 205; refine (atoi_over _ _ hs HA.out HF.out).mono ?_; rintro e w1 ⟨a, p, q, he, hb⟩; subst he))
      go_ret2
      exact ⟨by rw [numR_no N.out]; rfl, hb⟩

/-- what piece tells -/
def pieR (l : List UInt8) (at_ : Nat) : Ending := .returned (.tuple #[.int .i64 (pieceL (l.drop at_)).1, .int .i64 (if (pieceL (l.drop at_)).2.2 = 0 then ((at_ + (pieceL (l.drop at_)).2.1 : Nat) : Int) else 0), .int .i64 (pieceL (l.drop at_)).2.2])
theorem pieR_is {l : List UInt8} {at_ m : Nat} {k : Int} (h : pieceL (l.drop at_) = (k, m, 0)) : pieR l at_ = .returned (.tuple #[.int .i64 k, .int .i64 ((at_ + m : Nat) : Int), .int .i64 0]) := by unfold pieR; rw [h]; rfl
theorem pieR_err {l : List UInt8} {at_ : Nat} {e : Int} (h : pieceL (l.drop at_) = (0, 0, e)) (he : e ≠ 0) : pieR l at_ = .returned (.tuple #[.int .i64 0, .int .i64 0, .int .i64 e]) := by unfold pieR; rw [h]; show Ending.returned _ = _; rw [if_neg he]
theorem cut_list (s : ByteArray) (i j : Nat) : (s.extract i j).data.toList = (s.data.toList.drop i).take (j - i) := by simp [Lib.extract_data]
theorem head_drop {l : List UInt8} {i : Nat} (h : i < l.length) : (l.drop i).headD 0 = l.getD i 0 := by
  rw [List.drop_eq_getElem_cons h, List.getD_eq_getElem?_getD, List.getElem?_eq_getElem h]; rfl
theorem on_drop {p : UInt8 → Bool} {l : List UInt8} {i : Nat} (hp : p 0 = false) : onB p l i = p ((l.drop i).headD 0) := by
  unfold onB
  by_cases h : i < l.length
  · rw [decide_eq_true h, Bool.true_and, head_drop h]
  · rw [decide_eq_false h, List.drop_of_length_le (by omega)]; exact hp.symm

set_option maxHeartbeats 2000000 in
theorem pie_number (s : ByteArray) (i : Nat) (w : World) (hs : s.size ≤ 1000000) (hi : i ≤ s.size) (hd : dig8 ((s.data.toList.drop i).headD 0) = true) (hF : Fx w) :
    Calls Tryz.prog 113 #[.string s, .int .i64 i] w fun e w' => e = pieR s.data.toList i ∧ Below w.heap.size w w' := by
  obtain ⟨m, hm⟩ : ∃ m, m = runF dig8 s.data.toList i := ⟨_, rfl⟩
  have hml : m ≤ s.size := by have := runF_le (p := dig8) (l := s.data.toList) (i := i) (by rw [size_list]; exact hi); rw [size_list] at this; omega
  have him : i ≤ m := by rw [hm]; exact runF_ge
  have him' : (i : Int) ≤ m := by omega
  have hml' : (m : Int) ≤ s.size := by omega
  have HM : Hid (runF dig8 s.data.toList i = m) := hm.symm
  have hr : runL dig8 (s.data.toList.drop i) = m - i := by rw [hm]; unfold runF; omega
  have hX : (s.extract i m).data.toList = (s.data.toList.drop i).takeWhile dig8 := by rw [cut_list, ← hr, run_take]
  have hXs : (s.extract i m).size ≤ 140737488355328 := by rw [← size_list, hX, show ((s.data.toList.drop i).takeWhile dig8).length = m - i from hr]; omega
  have hl : let8 ((s.data.toList.drop i).headD 0) = false := by unfold dig8 digB at hd; unfold let8 letB; simp at hd ⊢; omega
  have hP : pieceL (s.data.toList.drop i) = if zero8 (s.extract i m).data.toList || onB ok8 s.data.toList m then (0, 0, 4) else if numB (s.extract i m).data.toList then (2, m - i, 0) else (0, 0, 6) := by
    have ho : ok8 (((s.data.toList.drop i).drop (m - i)).headD 0) = onB ok8 s.data.toList m := by
      rw [on_drop (by decide), List.drop_drop, show i + (m - i) = m by omega]
    unfold pieceL
    rw [if_neg (by rw [hl]; decide), if_pos hd, hr, ho, hX]
  have HF : Hid (Fx w) := hF
  have HE : Hid (zero8 (s.extract i m).data.toList = zero8 (s.extract i m).data.toList) := rfl
  clear hr hX hd hl hm hF
  cases hz : zero8 (s.extract i m).data.toList with
  | true =>
    have HZ : Hid (zero8 (s.extract i m).data.toList = true) := hz
    have R : Hid (pieR s.data.toList i = _) := pieR_err (hP.trans (by rw [hz]; rfl)) (by decide)
    have HO : Hid True := trivial
    have HN : Hid True := trivial
    clear hz hP
    go_enter Tryz.func113, Tryz.ntmps113
    go_wp2_with (first
      | (go_at_call 105; refine (run_digit _ _ _ (Nat.le_trans hs (by decide)) hi).mono ?_; rintro e w' ⟨he, hw⟩; subst he; have hw := hw.symm; subst hw; rw [HM.out])
      | (go_at_call 158; refine (zero_any _ _).mono ?_; rintro e w' ⟨he, hw⟩; subst he; have hw := hw.symm; subst hw; rw [HZ.out])
      | (go_at_call 107; refine (on_named _ _ _).mono ?_; rintro e w' ⟨he, hw⟩; subst he; have hw := hw.symm; subst hw; rw [HO.out])
      | (go_at_call 159; refine (number_any _ _ hXs HF.out).mono ?_; rintro e w1 ⟨he, hb⟩; unfold numR at he; rw [HN.out] at he; subst he))
    go_ret3
    exact ⟨by rw [R.out]; rfl, Below.refl _ _⟩
  | false =>
    have HZ : Hid (zero8 (s.extract i m).data.toList = false) := hz
    cases ho : onB ok8 s.data.toList m with
    | true =>
      have HO : Hid (onB ok8 s.data.toList m = true) := ho
      have R : Hid (pieR s.data.toList i = _) := pieR_err (hP.trans (by rw [hz, ho]; rfl)) (by decide)
      have HN : Hid True := trivial
      clear hz ho hP
      go_enter Tryz.func113, Tryz.ntmps113
      go_wp2_with (first
      | (go_at_call 105; refine (run_digit _ _ _ (Nat.le_trans hs (by decide)) hi).mono ?_; rintro e w' ⟨he, hw⟩; subst he; have hw := hw.symm; subst hw; rw [HM.out])
      | (go_at_call 158; refine (zero_any _ _).mono ?_; rintro e w' ⟨he, hw⟩; subst he; have hw := hw.symm; subst hw; rw [HZ.out])
      | (go_at_call 107; refine (on_named _ _ _).mono ?_; rintro e w' ⟨he, hw⟩; subst he; have hw := hw.symm; subst hw; rw [HO.out])
      | (go_at_call 159; refine (number_any _ _ hXs HF.out).mono ?_; rintro e w1 ⟨he, hb⟩; unfold numR at he; rw [HN.out] at he; subst he))
      go_ret3
      exact ⟨by rw [R.out]; rfl, Below.refl _ _⟩
    | false =>
      have HO : Hid (onB ok8 s.data.toList m = false) := ho
      cases hn : numB (s.extract i m).data.toList with
      | true =>
        have HN : Hid (numB (s.extract i m).data.toList = true) := hn
        have R : Hid (pieR s.data.toList i = .returned (.tuple #[.int .i64 2, .int .i64 m, .int .i64 0])) := by
          show pieR _ _ = _
          rw [pieR_is (hP.trans (by rw [hz, ho, hn]; rfl)), show i + (m - i) = m by omega]
        clear hz ho hn hP
        go_enter Tryz.func113, Tryz.ntmps113
        go_wp2_with (first
      | (go_at_call 105; refine (run_digit _ _ _ (Nat.le_trans hs (by decide)) hi).mono ?_; rintro e w' ⟨he, hw⟩; subst he; have hw := hw.symm; subst hw; rw [HM.out])
      | (go_at_call 158; refine (zero_any _ _).mono ?_; rintro e w' ⟨he, hw⟩; subst he; have hw := hw.symm; subst hw; rw [HZ.out])
      | (go_at_call 107; refine (on_named _ _ _).mono ?_; rintro e w' ⟨he, hw⟩; subst he; have hw := hw.symm; subst hw; rw [HO.out])
      | (go_at_call 159; refine (number_any _ _ hXs HF.out).mono ?_; rintro e w1 ⟨he, hb⟩; unfold numR at he; rw [HN.out] at he; subst he))
        go_ret3
        exact ⟨by rw [R.out]; rfl, hb⟩
      | false =>
        have HN : Hid (numB (s.extract i m).data.toList = false) := hn
        have R : Hid (pieR s.data.toList i = _) := pieR_err (hP.trans (by rw [hz, ho, hn]; rfl)) (by decide)
        clear hz ho hn hP
        go_enter Tryz.func113, Tryz.ntmps113
        go_wp2_with (first
      | (go_at_call 105; refine (run_digit _ _ _ (Nat.le_trans hs (by decide)) hi).mono ?_; rintro e w' ⟨he, hw⟩; subst he; have hw := hw.symm; subst hw; rw [HM.out])
      | (go_at_call 158; refine (zero_any _ _).mono ?_; rintro e w' ⟨he, hw⟩; subst he; have hw := hw.symm; subst hw; rw [HZ.out])
      | (go_at_call 107; refine (on_named _ _ _).mono ?_; rintro e w' ⟨he, hw⟩; subst he; have hw := hw.symm; subst hw; rw [HO.out])
      | (go_at_call 159; refine (number_any _ _ hXs HF.out).mono ?_; rintro e w1 ⟨he, hb⟩; unfold numR at he; rw [HN.out] at he; subst he))
        go_ret3
        exact ⟨by rw [R.out]; rfl, hb⟩
end Go.Proofs.YtjcanodnlnodpaaGreatDoor.Token
/- name, sign and piece of package token: contracts of the calls, over the turned program. -/
namespace Go.Proofs.YtjcanodnlnodpaaGreatDoor.Token
open Go.RowKit Go.Proofs.YtjcanodnlnodpaaGreatDoor.Colour Go.Proofs.YtjcanodnlnodpaaGreatDoor.Frame
set_option linter.unusedVariables false
set_option linter.unusedSimpArgs false

set_option maxHeartbeats 2000000 in
theorem pie_name (s : ByteArray) (i : Nat) (w : World) (hs : s.size ≤ 1000000) (hi : i ≤ s.size) (hl : let8 ((s.data.toList.drop i).headD 0) = true) :
    Calls Tryz.prog 111 #[.string s, .int .i64 i] w fun e w' => e = pieR s.data.toList i ∧ w' = w := by
  obtain ⟨m, hm⟩ : ∃ m, m = runF ok8 s.data.toList i := ⟨_, rfl⟩
  have hml : m ≤ s.size := by have := runF_le (p := ok8) (l := s.data.toList) (i := i) (by rw [size_list]; exact hi); rw [size_list] at this; omega
  have him : i ≤ m := by rw [hm]; exact runF_ge
  have him' : (i : Int) ≤ m := by omega
  have hml' : (m : Int) ≤ s.size := by omega
  have HM : Hid (runF ok8 s.data.toList i = m) := hm.symm
  have hr : runL ok8 (s.data.toList.drop i) = m - i := by rw [hm]; unfold runF; omega
  have hX : (s.extract i m).data.toList = (s.data.toList.drop i).takeWhile ok8 := by rw [cut_list, ← hr, run_take]
  have hok : ok8 ((s.data.toList.drop i).headD 0) = true := by unfold ok8 okB; unfold let8 at hl; rw [hl]; rfl
  have hne : s.data.toList.drop i ≠ [] := fun e => by rw [e] at hl; exact absurd hl (by decide)
  have hp := run_pos hne hok
  have hN : nameB (s.extract i m) = decide (m - i ≤ 32) := by
    rw [nameB_eq, hX]
    unfold nmB
    rw [show ((s.data.toList.drop i).takeWhile ok8).length = m - i from hr, all_run, ← run_take, headD_take hp, hl]
    rw [hr] at hp
    rw [decide_eq_true (show 1 ≤ m - i from hp)]; simp
  by_cases h32 : 32 < m - i
  · have HN : Hid (nameB (s.extract i m) = false) := hN.trans (decide_eq_false (by omega))
    have R : Hid (pieR s.data.toList i = _) := pieR_err (show pieceL (s.data.toList.drop i) = (0, 0, 2) by unfold pieceL; rw [if_pos hl, hr, if_pos h32]) (by decide)
    clear hr hX hok hne hp hN hl hm
    go_enter Tryz.func111, Tryz.ntmps111
    go_wp2_with (first
      | (go_at_call 105; refine (run_named _ _ _ hs hi).mono ?_; rintro e w' ⟨he, hw⟩; subst he; have hw := hw.symm; subst hw; rw [HM.out])
      | (go_at_call 157; refine (name_any _ _).mono ?_; rintro e w' ⟨he, hw⟩; subst he; have hw := hw.symm; subst hw; rw [HN.out]))
    go_ret3
    exact ⟨by rw [R.out]; rfl, rfl⟩
  · have HN : Hid (nameB (s.extract i m) = true) := hN.trans (decide_eq_true (by omega))
    have R : Hid (pieR s.data.toList i = .returned (.tuple #[.int .i64 1, .int .i64 m, .int .i64 0])) := by
      show pieR _ _ = _
      rw [pieR_is (show pieceL (s.data.toList.drop i) = (1, m - i, 0) by unfold pieceL; rw [if_pos hl, hr, if_neg h32]), show i + (m - i) = m by omega]
    clear hr hX hok hne hp hN hl hm
    go_enter Tryz.func111, Tryz.ntmps111
    go_wp2_with (first
      | (go_at_call 105; refine (run_named _ _ _ hs hi).mono ?_; rintro e w' ⟨he, hw⟩; subst he; have hw := hw.symm; subst hw; rw [HM.out])
      | (go_at_call 157; refine (name_any _ _).mono ?_; rintro e w' ⟨he, hw⟩; subst he; have hw := hw.symm; subst hw; rw [HN.out]))
    go_ret3
    exact ⟨by rw [R.out]; rfl, rfl⟩

theorem best_snoc (t r : List UInt8) : ∀ ts, best (ts ++ [t]) r = max (best ts r) (if t.isPrefixOf r then t.length else 0)
  | [] => by simp [best]
  | u :: ts => by
    rw [List.cons_append, best, best, best_snoc t r ts, Nat.max_assoc]
theorem best_take {k : Nat} (h : k < 21) (r : List UInt8) : best (signsL.take (k + 1)) r = max (best (signsL.take k) r) (if (signsL.getD k []).isPrefixOf r then (signsL.getD k []).length else 0) := by
  have hk : k < signsL.length := h
  rw [List.take_add_one, List.getElem?_eq_getElem hk, List.getD_eq_getElem?_getD, List.getElem?_eq_getElem hk]
  exact best_snoc _ _ _
/-- the signs, as a value -/
def signsA : Array Value := (signsL.map fun l => Value.string (str l)).toArray
theorem load_signs {w : World} (h : Fx w) : (loadVar 188 ⟨0, 0, none⟩).run Tryz.prog w = .ok (.agg signsA) w := by
  have hl : (loadCells ⟨0, 0, none⟩ (signsL.map fun l => Value.string (str l)).length).run Tryz.prog w = .ok (signsL.map fun l => Value.string (str l)).toArray w :=
    run_loadCells_list (P := Tryz.prog) w ⟨0, 0, none⟩ _ (fun j v hv => by
      have hj : j < 21 := by
        rcases Nat.lt_or_ge j 21 with h | h
        · exact h
        · rw [List.getElem?_eq_none (by simpa [signsL] using h)] at hv; cases hv
      rw [Go.WideShapes.add_plain, Nat.zero_add, h.1 j hj, ← hv, List.getElem?_map, List.getD_eq_getElem?_getD, List.getElem?_eq_getElem (show j < signsL.length from hj)]; rfl)
  have hagg : (isAgg 188).run Tryz.prog w = .ok true w := by
    unfold isAgg
    rw [Sem.run_bind, run_underlying Tryz.underlying188 w]; rfl
  have hq : (Tryz.prog.info? 188).map (·.size) = some 21 := by kernel_rfl
  cases hi : Tryz.prog.info? 188 with
  | none => rw [hi] at hq; cases hq
  | some i =>
    have hsz : i.size = 21 := by rw [hi] at hq; simpa using hq
    have hl' : (loadCells ⟨0, 0, none⟩ 21).run Tryz.prog w = .ok signsA w := hl
    simp [loadVar, Sem.run_bind, hagg, sizeOf, typeInfo, hi, hsz, hl']

theorem wpl_signs {ops : Array Oper} {rest : List Oper} {o : Oper} {a : Act} {w : World} {Q : Exit → Act → World → Prop} (hgd : o.guard = none) (ho : o.op = .load 188 (.global 0)) (hF : Fx w)
    (h : wpList Tryz.prog ops Q rest (a.put o.dst (.agg signsA)) w) : wpList Tryz.prog ops Q (o :: rest) a w :=
  wpList_plain hgd fun _ hK => by
    have hx : a.eval (.global 0) = .pointer (some ⟨0, 0, none⟩) := rfl
    unfold Oper.wp execOp
    simp only [ho, hx, Instr.loadAt, Instr.sureAddr, Sem.run_bind, Sem.run_pure, Result.andThen_ok, load_signs hF]
    exact hK _ _ h

theorem index_signs {k : Nat} (hk : k < 21) (w : World) : Sem.run Tryz.prog (Instr.index 188 (.agg signsA) (.int .i64 k)) w = .ok (.string (str (signsL.getD k []))) w := by
  have hg : signsA[k]? = some (.string (str (signsL.getD k []))) := by
    unfold signsA
    rw [List.getElem?_toArray, List.getElem?_map, List.getD_eq_getElem?_getD, List.getElem?_eq_getElem (show k < signsL.length from hk)]; rfl
  have hq : (Tryz.prog.info? 9).map (·.size) = some 1 := by kernel_rfl
  cases hi : Tryz.prog.info? 9 with
  | none => rw [hi] at hq; cases hq
  | some i =>
    have hsz : i.size = 1 := by rw [hi] at hq; simpa using hq
    have hn : (0 : Int) ≤ (k : Int) ∧ (k : Int) < (21 : Nat) := ⟨by omega, by omega⟩
    simp [Instr.index, run_underlying Tryz.underlying188, run_underlying Tryz.underlying9, asIntOf, hn, part, isAgg, sizeOf, typeInfo, hi, hsz, hg, go_sem]
    omega

set_option maxHeartbeats 2000000 in
theorem pie_sign (s : ByteArray) (i : Nat) (w : World) (hs : s.size ≤ 1000000) (hi : i ≤ s.size) (hl : let8 ((s.data.toList.drop i).headD 0) = false) (hd : dig8 ((s.data.toList.drop i).headD 0) = false) (hF : Fx w) :
    Calls Tryz.prog 114 #[.string s, .int .i64 i] w fun e w' => e = pieR s.data.toList i ∧ w' = w := by
  have HF : Hid (Fx w) := hF
  have hi' : (i : Int) ≤ s.size := by omega
  have hX : (s.extract i s.size).data.toList = s.data.toList.drop i := by rw [cut_list, List.take_of_length_le (by simp)]
  have HX : Hid ((s.extract i s.size).data.toList = s.data.toList.drop i) := hX
  have hP : pieceL (s.data.toList.drop i) = if best signsL (s.data.toList.drop i) = 0 then (0, 0, 4) else (3, best signsL (s.data.toList.drop i), 0) := by
    unfold pieceL; rw [if_neg (by rw [hl]; decide), if_neg (by rw [hd]; decide)]
  have HP : Hid (pieceL (s.data.toList.drop i) = if best signsL (s.data.toList.drop i) = 0 then (0, 0, 4) else (3, best signsL (s.data.toList.drop i), 0)) := hP
  clear hF hl hd hX hP
  go_enter Tryz.func114, Tryz.ntmps114
  go_wp2_with (refine wpl_signs rfl rfl HF.out ?_)
  go_loop [7, 11] (fun v j => ∃ k : Nat, k ≤ 21 ∧ j = .int .i64 k ∧ ∃ b : Nat, b ≤ 2 ∧ v = .int .i64 b ∧ Hid (b = best (signsL.take k) (s.data.toList.drop i))) (fun _ j => 21 - (intOf j).toNat)
  case atStart => exact ⟨0, by omega, rfl, 0, by omega, rfl, rfl⟩
  case round =>
    obtain ⟨k, hk, rfl, b, hb, rfl, HB⟩ := hrel
    by_cases hlt : k < 21
    · have hlt' : (k : Int) < 21 := by omega
      have IX : ∀ W, Sem.run Tryz.prog (Instr.index 188 (.agg signsA) (.int .i64 k)) W = .ok (.string (str (signsL.getD k []))) W := index_signs hlt
      have HS := best_take hlt (s.data.toList.drop i)
      rw [← HB.out] at HS
      have hlen2 : (signsL.getD k []).length ≤ 2 := (show ∀ k, k < 21 → (signsL.getD k []).length ≤ 2 by decide) k hlt
      have HD : Hid ((str (signsL.getD k [])).data.toList = signsL.getD k []) := str_data _
      have hsz : (str (signsL.getD k [])).size = (signsL.getD k []).length := str_size _
      have HSZ : Hid ((str (signsL.getD k [])).size = (signsL.getD k []).length) := hsz
      cases hp : (signsL.getD k []).isPrefixOf (s.data.toList.drop i) with
      | true =>
        rw [hp, if_pos rfl] at HS
        have HH : Hid (Lib.hasPrefix (s.extract i s.size).data.toList (str (signsL.getD k [])).data.toList = true) := by show Lib.hasPrefix _ _ = true; unfold Lib.hasPrefix; rw [HX.out, HD.out]; exact hp
        obtain ⟨n, hn⟩ : ∃ n, n = (signsL.getD k []).length := ⟨_, rfl⟩
        rw [← hn] at HS hlen2 hsz
        have HS' : Hid (max b n = best (signsL.take (k + 1)) (s.data.toList.drop i)) := HS.symm
        generalize str (signsL.getD k []) = T at *
        clear HS hp HD HSZ hn
        go_wp2_with (go_at_call 160; refine (Tryz.strings_HasPrefix _ _ _).mono ?_; rintro e w' ⟨he, hw⟩; subst he; have hw := hw.symm; subst hw; rw [HH.out])
        go_round
        case rel => exact ⟨k + 1, by omega, by go_num, max b n, by omega, by congr 1; omega, HS'⟩
        case measure => simp [intOf]; omega
      | false =>
        rw [hp, if_neg (by decide)] at HS
        have HH : Hid (Lib.hasPrefix (s.extract i s.size).data.toList (str (signsL.getD k [])).data.toList = false) := by show Lib.hasPrefix _ _ = false; unfold Lib.hasPrefix; rw [HX.out, HD.out]; exact hp
        have HS' : Hid (b = best (signsL.take (k + 1)) (s.data.toList.drop i)) := (show b = _ by rw [HS]; omega)
        generalize str (signsL.getD k []) = T at *
        clear HS hp HD HSZ
        go_wp2_with (go_at_call 160; refine (Tryz.strings_HasPrefix _ _ _).mono ?_; rintro e w' ⟨he, hw⟩; subst he; have hw := hw.symm; subst hw; rw [HH.out])
        go_round
        case rel => exact ⟨k + 1, by omega, by go_num, b, by omega, rfl, HS'⟩
        case measure => simp [intOf]; omega
    · have hlt' : ¬ (k : Int) < 21 := by omega
      have HE : Hid (b = best signsL (s.data.toList.drop i)) := HB.out.trans (by rw [List.take_of_length_le (by show 21 ≤ k; omega)])
      by_cases hb0 : b = 0
      · have hb0' : ((b : Int) == 0) = true := by simp; omega
        have R : Hid (pieR s.data.toList i = _) := pieR_err (HP.out.trans (by rw [← HE.out, if_pos hb0])) (by decide)
        subst hb0
        go_wp2
        go_ret3
        exact ⟨by rw [R.out]; rfl, rfl⟩
      · have hb0' : ((b : Int) == 0) = false := by simp; omega
        have R : Hid (pieR s.data.toList i = .returned (.tuple #[.int .i64 3, .int .i64 ((i + b : Nat) : Int), .int .i64 0])) := pieR_is (HP.out.trans (by rw [← HE.out, if_neg hb0]))
        go_wp2
        go_ret3
        exact ⟨by rw [R.out]; rfl, rfl⟩

set_option maxHeartbeats 2000000 in
theorem piece_any (s : ByteArray) (i : Nat) (w : World) (hs : s.size ≤ 1000000) (hi : i ≤ s.size) (hF : Fx w) :
    Calls Tryz.prog 53 #[.string s, .int .i64 i] w fun e w' => e = pieR s.data.toList i ∧ Below w.heap.size w w' := by
  have h1 : onB let8 s.data.toList i = let8 ((s.data.toList.drop i).headD 0) := on_drop (by decide)
  have h2 : onB dig8 s.data.toList i = dig8 ((s.data.toList.drop i).headD 0) := on_drop (by decide)
  have HF : Hid (Fx w) := hF
  clear hF
  obtain ⟨x, y, z, hR⟩ : ∃ x y z : Int, pieR s.data.toList i = .returned (.tuple #[.int .i64 x, .int .i64 y, .int .i64 z]) := ⟨_, _, _, rfl⟩
  have HR : Hid (pieR s.data.toList i = .returned (.tuple #[.int .i64 x, .int .i64 y, .int .i64 z])) := hR
  clear hR
  cases hl : let8 ((s.data.toList.drop i).headD 0) with
  | true =>
    have H1 : Hid (onB let8 s.data.toList i = true) := h1.trans hl
    have HL : Hid (let8 ((s.data.toList.drop i).headD 0) = true) := hl
    clear h1 h2 hl
    go_enter Tryz.func53, Tryz.ntmps53
    go_wp2_with (first
      | (go_at_call 107; refine (on_letter _ _ _).mono ?_; rintro e w' ⟨he, hw⟩; subst he; have hw := hw.symm; subst hw; rw [H1.out])
      | (go_at_call 111; refine (pie_name _ _ _ hs hi HL.out).mono ?_; rintro e w' ⟨he, hw⟩; have he := he.trans HR.out; subst he; have hw := hw.symm; subst hw))
    go_ret3
    exact ⟨by rw [HR.out]; rfl, Below.refl _ _⟩
  | false =>
    have H1 : Hid (onB let8 s.data.toList i = false) := h1.trans hl
    have HL : Hid (let8 ((s.data.toList.drop i).headD 0) = false) := hl
    cases hd : dig8 ((s.data.toList.drop i).headD 0) with
    | true =>
      have H2 : Hid (onB dig8 s.data.toList i = true) := h2.trans hd
      have HD : Hid (dig8 ((s.data.toList.drop i).headD 0) = true) := hd
      clear h1 h2 hl hd
      go_enter Tryz.func53, Tryz.ntmps53
      go_wp2_with fail
      refine (on_letter _ _ _).mono ?_; rintro e w' ⟨he, hw⟩; subst he; have hw := hw.symm; subst hw; rw [H1.out]
      go_wp2_with fail
      refine (on_digit _ _ _).mono ?_; rintro e w' ⟨he, hw⟩; subst he; have hw := hw.symm; subst hw; rw [H2.out]
      go_wp2_with (go_at_call 113; refine (pie_number _ _ _ hs hi HD.out HF.out).mono ?_; rintro e w' ⟨he, hb⟩; have he := he.trans HR.out; subst he)
      go_ret3
      exact ⟨by rw [HR.out]; rfl, hb⟩
    | false =>
      have H2 : Hid (onB dig8 s.data.toList i = false) := h2.trans hd
      have HD : Hid (dig8 ((s.data.toList.drop i).headD 0) = false) := hd
      clear h1 h2 hl hd
      go_enter Tryz.func53, Tryz.ntmps53
      go_wp2_with fail
      refine (on_letter _ _ _).mono ?_; rintro e w' ⟨he, hw⟩; subst he; have hw := hw.symm; subst hw; rw [H1.out]
      go_wp2_with fail
      refine (on_digit _ _ _).mono ?_; rintro e w' ⟨he, hw⟩; subst he; have hw := hw.symm; subst hw; rw [H2.out]
      go_wp2_with (go_at_call 114; refine (pie_sign _ _ _ hs hi HL.out HD.out HF.out).mono ?_; rintro e w' ⟨he, hw⟩; have he := he.trans HR.out; subst he; have hw := hw.symm; subst hw)
      go_ret3
      exact ⟨by rw [HR.out]; rfl, Below.refl _ _⟩
end Go.Proofs.YtjcanodnlnodpaaGreatDoor.Token
