/- zeroAhead, Number and number of package token: contracts of the calls, over the turned program. -/
import Derived.Test.YtnhhajbfohjlbaaDoorTokFx
import Derived.Test.YtnhhajbfohjlbaaDoorTokGap
import Derived.Test.YtnhhajbfohjlbaaDoorShelf
import Derived.Lib.AtoiErrMem
namespace Go.Proofs.YtnhhajbfohjlbaaDoor.Token
open Go.RowKit Go.Proofs.YtnhhajbfohjlbaaDoor.Colour Go.Proofs.YtnhhajbfohjlbaaDoor.Frame
set_option linter.unusedVariables false
set_option linter.unusedSimpArgs false

theorem zero_in {s : ByteArray} (h : 1 < s.size) : zero8 s.data.toList = ((s[0]'(by omega)).toNat == 48) := by
  unfold zero8
  rw [size_list, decide_eq_true h, Bool.true_and, ← at_list (s := s) (i := 0) (by omega)]
  cases s.data.toList <;> rfl
theorem zero_out {s : ByteArray} (h : ¬ 1 < s.size) : zero8 s.data.toList = false := by
  unfold zero8; rw [size_list, decide_eq_false h]; rfl

set_option maxHeartbeats 1000000 in
theorem zero_any (s : ByteArray) (w : World) : Calls Tryd.prog 28 #[.string s] w fun e w' => e = .returned (.bool (zero8 s.data.toList)) ∧ w' = w := by
  by_cases h : 1 < s.size
  · have h' : (1 : Int) < s.size := by omega
    have h0 : 0 < s.size := by omega
    have h0' : (0 : Int) < s.size := by omega
    have E : Hid (zero8 s.data.toList = ((s[0]'h0).toNat == 48)) := zero_in h
    go_enter Tryd.func28, Tryd.ntmps28
    go_wp2
    all_goals go_ret
    all_goals exact ⟨retb (by rw [E.out, Bool.eq_iff_iff]; simp; try omega), rfl⟩
  · have h' : ¬ (1 : Int) < s.size := by omega
    have E : Hid (zero8 s.data.toList = false) := zero_out h
    go_enter Tryd.func28, Tryd.ntmps28
    go_wp2
    all_goals go_ret
    all_goals exact ⟨by rw [E.out]; rfl, rfl⟩

theorem atoi_fine (s : ByteArray) (v : Int) (w : World) (hs : s.size ≤ 1000000) (h : Lib.atoiAll s.data.toList = .ok v) :
    Calls Tryd.prog 29 #[.string s] w fun e w' => e = .returned (.tuple #[.int .i64 v, .nilIface]) ∧ Below w.heap.size w w' := by
  refine (Tryd.strconv_Atoi_ok s (by omega) v h w).mono ?_
  rintro e w' ⟨he, hw | ⟨t, hw⟩⟩
  · exact ⟨he, by rw [hw]; exact Below.refl _ _⟩
  · exact ⟨he, by rw [hw]; exact Lib.bytesWorld_below _ _ _⟩
theorem atoi_over (s : ByteArray) (w : World) (hs : s.size ≤ 1000000) (h : Lib.atoiAll s.data.toList = .range) (hF : Fx w) :
    Calls Tryd.prog 29 #[.string s] w fun e w' => ∃ a p q, e = .returned (.tuple #[.int .i64 a, .iface p q]) ∧ Below w.heap.size w w' := by
  obtain ⟨te, pe, hc⟩ := hF.2
  refine (Tryd.strconv_Atoi_range s (by omega) h _ w hc (.inr ⟨te, pe, rfl⟩)).mono ?_
  rintro e w' ⟨N, he, _, _, hb⟩
  exact ⟨_, _, _, he, hb⟩

/-- what Number tells -/
def numR (l : List UInt8) : Ending := .returned (.tuple #[.int .i64 (numV l), .bool (numB l)])
theorem numR_no {l : List UInt8} (h : numB l = false) : numR l = .returned (.tuple #[.int .i64 0, .bool false]) := by unfold numR numV; rw [h]; rfl
theorem numB_parts (l : List UInt8) : numB l = (decide (0 < l.length) && l.all dig8 && !zero8 l && decide (valL 0 l < 9223372036854775808)) := rfl
theorem runF_all {p : UInt8 → Bool} {l : List UInt8} : l.all p = decide (runF p l 0 = l.length) := by
  unfold runF runL
  rw [List.drop_zero, Nat.zero_add]
  cases h : l.all p with
  | true => rw [run_all h]; simp
  | false =>
    symm
    refine decide_eq_false fun e => ?_
    have h1 := all_run (p := p) (r := l)
    have h2 : l.takeWhile p = l := (List.takeWhile_prefix p).eq_of_length e
    rw [h2, h] at h1; cases h1

set_option maxHeartbeats 2000000 in
theorem number_any (s : ByteArray) (w : World) (hs : s.size ≤ 1000000) (hF : Fx w) :
    Calls Tryd.prog 11 #[.string s] w fun e w' => e = numR s.data.toList ∧ Below w.heap.size w w' := by
  by_cases h0 : s.size = 0
  · have e0 : s = ⟨#[]⟩ := by apply ByteArray.ext; exact Array.eq_empty_of_size_eq_zero h0
    subst e0
    go_enter Tryd.func11, Tryd.ntmps11
    go_wp2
    go_ret2
    exact ⟨rfl, Below.refl _ _⟩
  obtain ⟨m, hm⟩ : ∃ m, m = runF dig8 s.data.toList 0 := ⟨_, rfl⟩
  have hml : m ≤ s.size := by have := runF_le (p := dig8) (l := s.data.toList) (i := 0) (by omega); rw [size_list] at this; omega
  have HM : Hid (runF dig8 s.data.toList 0 = m) := hm.symm
  have hA : s.data.toList.all dig8 = decide (m = s.size) := by rw [runF_all, size_list, hm]
  have hem : s.toList.isEmpty = false := by
    have hd : s.toList = s.data.toList := Go.ByteArray.toList_eq s
    rw [hd, List.isEmpty_eq_false_iff]
    intro e; have := congrArg List.length e; rw [size_list] at this; exact h0 this
  have HF : Hid (Fx w) := hF
  clear hF
  by_cases hms : m < s.size
  · have hms' : (m : Int) < s.size := by omega
    have N : Hid (numB s.data.toList = false) := by
      show numB _ = false
      have : decide (m = s.size) = false := decide_eq_false (by omega)
      rw [numB_parts, hA, this]; simp
    have HZ : Hid (True) := trivial
    clear hA hm
    go_enter Tryd.func11, Tryd.ntmps11
    go_wp2_with (go_at_call 26; refine (run_digit _ 0 _ hs (Nat.zero_le _)).mono ?_; rintro e w' ⟨he, hw⟩; subst he; have hw := hw.symm; subst hw; rw [HM.out])
    go_ret2
    exact ⟨by rw [numR_no N.out]; rfl, Below.refl _ _⟩
  have hms' : ¬ (m : Int) < s.size := by omega
  have hall : s.data.toList.all dig8 = true := by rw [hA]; exact decide_eq_true (by omega)
  have hnil : s.data.toList ≠ [] := fun e => by have := congrArg List.length e; rw [size_list] at this; exact h0 this
  have h0l : decide (0 < s.data.toList.length) = true := decide_eq_true (by rw [size_list]; omega)
  cases hz : zero8 s.data.toList with
  | true =>
    have HZ : Hid (zero8 s.data.toList = true) := hz
    have N : Hid (numB s.data.toList = false) := by
      show numB _ = false
      rw [numB_parts, hz]; simp
    clear hA hm hz hall hnil h0l
    go_enter Tryd.func11, Tryd.ntmps11
    go_wp2_with (first
      | (go_at_call 26; refine (run_digit _ 0 _ hs (Nat.zero_le _)).mono ?_; rintro e w' ⟨he, hw⟩; subst he; have hw := hw.symm; subst hw; rw [HM.out])
      | (go_at_call 28; refine (zero_any _ _).mono ?_; rintro e w' ⟨he, hw⟩; subst he; have hw := hw.symm; subst hw; rw [HZ.out]))
    go_ret2
    exact ⟨by rw [numR_no N.out]; rfl, Below.refl _ _⟩
  | false =>
    have HZ : Hid (zero8 s.data.toList = false) := hz
    have hat := atoi_dig hnil hall
    by_cases hv : valL 0 s.data.toList < 9223372036854775808
    · have N : Hid (numR s.data.toList = .returned (.tuple #[.int .i64 (valL 0 s.data.toList : Int), .bool true])) := by
        show numR _ = _
        have hn : numB s.data.toList = true := by rw [numB_parts, h0l, hall, hz, decide_eq_true hv]; rfl
        unfold numR numV; rw [hn]; rfl
      rw [if_pos hv] at hat
      have HA : Hid (Lib.atoiAll s.data.toList = .ok (valL 0 s.data.toList : Int)) := hat
      clear hA hm hz hall hnil h0l hv hat
      go_enter Tryd.func11, Tryd.ntmps11
      go_wp2_with (first
      | (go_at_call 26; refine (run_digit _ 0 _ hs (Nat.zero_le _)).mono ?_; rintro e w' ⟨he, hw⟩; subst he; have hw := hw.symm; subst hw; rw [HM.out])
      | (go_at_call 28; refine (zero_any _ _).mono ?_; rintro e w' ⟨he, hw⟩; subst he; have hw := hw.symm; subst hw; rw [HZ.out])
      | (go_at_call 29; refine (atoi_fine _ _ _ hs HA.out).mono ?_; rintro e w1 ⟨he, hb⟩; subst he))
      go_ret2
      exact ⟨by rw [N.out]; rfl, hb⟩
    · have N : Hid (numB s.data.toList = false) := by
        show numB _ = false
        rw [numB_parts, decide_eq_false hv]; simp
      rw [if_neg hv] at hat
      have HA : Hid (Lib.atoiAll s.data.toList = .range) := hat
      clear hA hm hz hall hnil h0l hv hat
      go_enter Tryd.func11, Tryd.ntmps11
      go_wp2_with (first
      | (go_at_call 26; refine (run_digit _ 0 _ hs (Nat.zero_le _)).mono ?_; rintro e w' ⟨he, hw⟩; subst he; have hw := hw.symm; subst hw; rw [HM.out])
      | (go_at_call 28; refine (zero_any _ _).mono ?_; rintro e w' ⟨he, hw⟩; subst he; have hw := hw.symm; subst hw; rw [HZ.out])
      | (go_at_call 29; refine (atoi_over _ _ hs HA.out HF.out).mono ?_; rintro e w1 ⟨a, p, q, he, hb⟩; subst he))
      go_ret2
      exact ⟨by rw [numR_no N.out]; rfl, hb⟩

/-- what piece tells -/
def pieR (l : List UInt8) (at_ : Nat) : Ending := .returned (.tuple #[.int .i64 (pieceL (l.drop at_)).1, .int .i64 (if (pieceL (l.drop at_)).2.2 = 0 then ((at_ + (pieceL (l.drop at_)).2.1 : Nat) : Int) else 0), .int .i64 (pieceL (l.drop at_)).2.2])
theorem pieR_is {l : List UInt8} {at_ m : Nat} {k : Int} (h : pieceL (l.drop at_) = (k, m, 0)) : pieR l at_ = .returned (.tuple #[.int .i64 k, .int .i64 ((at_ + m : Nat) : Int), .int .i64 0]) := by unfold pieR; rw [h]; rfl
theorem pieR_err {l : List UInt8} {at_ : Nat} {e : Int} (h : pieceL (l.drop at_) = (0, 0, e)) (he : e ≠ 0) : pieR l at_ = .returned (.tuple #[.int .i64 0, .int .i64 0, .int .i64 e]) := by unfold pieR; rw [h]; show Ending.returned _ = _; rw [if_neg he]
theorem cut_list (s : ByteArray) (i j : Nat) : (s.extract i j).data.toList = (s.data.toList.drop i).take (j - i) := by simp [Lib.extract_data]
theorem head_drop {l : List UInt8} {i : Nat} (h : i < l.length) : (l.drop i).headD 0 = l.getD i 0 := by
  rw [List.drop_eq_getElem_cons h, List.getD_eq_getElem?_getD, List.getElem?_eq_getElem h]; rfl
theorem on_drop {p : UInt8 → Bool} {l : List UInt8} {i : Nat} (hp : p 0 = false) : onB p l i = p ((l.drop i).headD 0) := by
  unfold onB
  by_cases h : i < l.length
  · rw [decide_eq_true h, Bool.true_and, head_drop h]
  · rw [decide_eq_false h, List.drop_of_length_le (by omega)]; exact hp.symm

set_option maxHeartbeats 2000000 in
theorem pie_number (s : ByteArray) (i : Nat) (w : World) (hs : s.size ≤ 1000000) (hi : i ≤ s.size) (hd : dig8 ((s.data.toList.drop i).headD 0) = true) (hF : Fx w) :
    Calls Tryd.prog 41 #[.string s, .int .i64 i] w fun e w' => e = pieR s.data.toList i ∧ Below w.heap.size w w' := by
  obtain ⟨m, hm⟩ : ∃ m, m = runF dig8 s.data.toList i := ⟨_, rfl⟩
  have hml : m ≤ s.size := by have := runF_le (p := dig8) (l := s.data.toList) (i := i) (by rw [size_list]; exact hi); rw [size_list] at this; omega
  have him : i ≤ m := by rw [hm]; exact runF_ge
  have him' : (i : Int) ≤ m := by omega
  have hml' : (m : Int) ≤ s.size := by omega
  have HM : Hid (runF dig8 s.data.toList i = m) := hm.symm
  have hr : runL dig8 (s.data.toList.drop i) = m - i := by rw [hm]; unfold runF; omega
  have hX : (s.extract i m).data.toList = (s.data.toList.drop i).takeWhile dig8 := by rw [cut_list, ← hr, run_take]
  have hXs : (s.extract i m).size ≤ 1000000 := by rw [← size_list, hX, show ((s.data.toList.drop i).takeWhile dig8).length = m - i from hr]; omega
  have hl : let8 ((s.data.toList.drop i).headD 0) = false := by unfold dig8 digB at hd; unfold let8 letB; simp at hd ⊢; omega
  have hP : pieceL (s.data.toList.drop i) = if zero8 (s.extract i m).data.toList || onB ok8 s.data.toList m then (0, 0, 4) else if numB (s.extract i m).data.toList then (2, m - i, 0) else (0, 0, 6) := by
    have ho : ok8 (((s.data.toList.drop i).drop (m - i)).headD 0) = onB ok8 s.data.toList m := by
      rw [on_drop (by decide), List.drop_drop, show i + (m - i) = m by omega]
    unfold pieceL
    rw [if_neg (by rw [hl]; decide), if_pos hd, hr, ho, hX]
  have HF : Hid (Fx w) := hF
  have HE : Hid (zero8 (s.extract i m).data.toList = zero8 (s.extract i m).data.toList) := rfl
  clear hr hX hd hl hm hF
  cases hz : zero8 (s.extract i m).data.toList with
  | true =>
    have HZ : Hid (zero8 (s.extract i m).data.toList = true) := hz
    have R : Hid (pieR s.data.toList i = _) := pieR_err (hP.trans (by rw [hz]; rfl)) (by decide)
    have HO : Hid True := trivial
    have HN : Hid True := trivial
    clear hz hP
    go_enter Tryd.func41, Tryd.ntmps41
    go_wp2_with (first
      | (go_at_call 26; refine (run_digit _ _ _ hs hi).mono ?_; rintro e w' ⟨he, hw⟩; subst he; have hw := hw.symm; subst hw; rw [HM.out])
      | (go_at_call 28; refine (zero_any _ _).mono ?_; rintro e w' ⟨he, hw⟩; subst he; have hw := hw.symm; subst hw; rw [HZ.out])
      | (go_at_call 36; refine (on_named _ _ _).mono ?_; rintro e w' ⟨he, hw⟩; subst he; have hw := hw.symm; subst hw; rw [HO.out])
      | (go_at_call 11; refine (number_any _ _ hXs HF.out).mono ?_; rintro e w1 ⟨he, hb⟩; unfold numR at he; rw [HN.out] at he; subst he))
    go_ret3
    exact ⟨by rw [R.out]; rfl, Below.refl _ _⟩
  | false =>
    have HZ : Hid (zero8 (s.extract i m).data.toList = false) := hz
    cases ho : onB ok8 s.data.toList m with
    | true =>
      have HO : Hid (onB ok8 s.data.toList m = true) := ho
      have R : Hid (pieR s.data.toList i = _) := pieR_err (hP.trans (by rw [hz, ho]; rfl)) (by decide)
      have HN : Hid True := trivial
      clear hz ho hP
      go_enter Tryd.func41, Tryd.ntmps41
      go_wp2_with (first
      | (go_at_call 26; refine (run_digit _ _ _ hs hi).mono ?_; rintro e w' ⟨he, hw⟩; subst he; have hw := hw.symm; subst hw; rw [HM.out])
      | (go_at_call 28; refine (zero_any _ _).mono ?_; rintro e w' ⟨he, hw⟩; subst he; have hw := hw.symm; subst hw; rw [HZ.out])
      | (go_at_call 36; refine (on_named _ _ _).mono ?_; rintro e w' ⟨he, hw⟩; subst he; have hw := hw.symm; subst hw; rw [HO.out])
      | (go_at_call 11; refine (number_any _ _ hXs HF.out).mono ?_; rintro e w1 ⟨he, hb⟩; unfold numR at he; rw [HN.out] at he; subst he))
      go_ret3
      exact ⟨by rw [R.out]; rfl, Below.refl _ _⟩
    | false =>
      have HO : Hid (onB ok8 s.data.toList m = false) := ho
      cases hn : numB (s.extract i m).data.toList with
      | true =>
        have HN : Hid (numB (s.extract i m).data.toList = true) := hn
        have R : Hid (pieR s.data.toList i = .returned (.tuple #[.int .i64 2, .int .i64 m, .int .i64 0])) := by
          show pieR _ _ = _
          rw [pieR_is (hP.trans (by rw [hz, ho, hn]; rfl)), show i + (m - i) = m by omega]
        clear hz ho hn hP
        go_enter Tryd.func41, Tryd.ntmps41
        go_wp2_with (first
      | (go_at_call 26; refine (run_digit _ _ _ hs hi).mono ?_; rintro e w' ⟨he, hw⟩; subst he; have hw := hw.symm; subst hw; rw [HM.out])
      | (go_at_call 28; refine (zero_any _ _).mono ?_; rintro e w' ⟨he, hw⟩; subst he; have hw := hw.symm; subst hw; rw [HZ.out])
      | (go_at_call 36; refine (on_named _ _ _).mono ?_; rintro e w' ⟨he, hw⟩; subst he; have hw := hw.symm; subst hw; rw [HO.out])
      | (go_at_call 11; refine (number_any _ _ hXs HF.out).mono ?_; rintro e w1 ⟨he, hb⟩; unfold numR at he; rw [HN.out] at he; subst he))
        go_ret3
        exact ⟨by rw [R.out]; rfl, hb⟩
      | false =>
        have HN : Hid (numB (s.extract i m).data.toList = false) := hn
        have R : Hid (pieR s.data.toList i = _) := pieR_err (hP.trans (by rw [hz, ho, hn]; rfl)) (by decide)
        clear hz ho hn hP
        go_enter Tryd.func41, Tryd.ntmps41
        go_wp2_with (first
      | (go_at_call 26; refine (run_digit _ _ _ hs hi).mono ?_; rintro e w' ⟨he, hw⟩; subst he; have hw := hw.symm; subst hw; rw [HM.out])
      | (go_at_call 28; refine (zero_any _ _).mono ?_; rintro e w' ⟨he, hw⟩; subst he; have hw := hw.symm; subst hw; rw [HZ.out])
      | (go_at_call 36; refine (on_named _ _ _).mono ?_; rintro e w' ⟨he, hw⟩; subst he; have hw := hw.symm; subst hw; rw [HO.out])
      | (go_at_call 11; refine (number_any _ _ hXs HF.out).mono ?_; rintro e w1 ⟨he, hb⟩; unfold numR at he; rw [HN.out] at he; subst he))
        go_ret3
        exact ⟨by rw [R.out]; rfl, hb⟩
end Go.Proofs.YtnhhajbfohjlbaaDoor.Token
