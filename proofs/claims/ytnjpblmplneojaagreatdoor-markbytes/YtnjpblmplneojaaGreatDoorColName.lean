/- letter, digit, within and Name of package colour: contracts of the calls, over the turned program. -/
import Derived.Test.YtnjpblmplneojaaGreatDoorColPlain
import Derived.WalkKit
import Derived.WalkSpells
import Derived.WalkLawsBesides
namespace Go.Proofs.YtnjpblmplneojaaGreatDoor.Colour
open Go.RowKit
set_option linter.unusedVariables false

set_option maxHeartbeats 400000 in
theorem letter_any (n : Int) (w : World) :
    Calls Tryz.prog 115 #[.int .u8 n] w fun e w' => e = .returned (.bool (letB n)) ∧ w' = w := by
  go_enter Tryz.func115, Tryz.ntmps115
  go_wp2
  all_goals go_ret
  all_goals exact ⟨retb (by unfold letB; rw [Bool.eq_iff_iff]; simp; omega), rfl⟩

set_option maxHeartbeats 400000 in
theorem digit_any (n : Int) (w : World) :
    Calls Tryz.prog 116 #[.int .u8 n] w fun e w' => e = .returned (.bool (digB n)) ∧ w' = w := by
  go_enter Tryz.func116, Tryz.ntmps116
  go_wp2
  all_goals go_ret
  all_goals exact ⟨retb (by unfold digB; simp; omega), rfl⟩

set_option maxHeartbeats 400000 in
theorem within_any (i n : Int) (w : World) :
    Calls Tryz.prog 77 #[.int .i64 i, .int .i64 n] w fun e w' => e = .returned (.bool (withinB i n)) ∧ w' = w := by
  go_enter Tryz.func77, Tryz.ntmps77
  go_wp2
  all_goals go_ret
  all_goals exact ⟨retb (by unfold withinB; simp; omega), rfl⟩

theorem head_at {s : ByteArray} (h : 0 < s.size) : (s.data.toList.getD 0 0) = s[0] := by
  rw [List.getD_eq_getElem?_getD, List.getElem?_eq_getElem (by simpa using h)]; rfl

set_option maxHeartbeats 1000000 in
theorem name_any (s : ByteArray) (w : World) :
    Calls Tryz.prog 97 #[.string s] w fun e w' => e = .returned (.bool (nameB s)) ∧ w' = w := by
  by_cases h0 : s.size = 0
  · have N : Hid (nameB s = _) := nameB_none (s := s) (.inl h0)
    go_enter Tryz.func97, Tryz.ntmps97
    go_wp2
    go_ret
    exact ⟨by rw [N.out]; rfl, rfl⟩
  have h0' : ((s.size : Int) == 0) = false := beq_eq_false_iff_ne.2 (by omega)
  by_cases h32 : 32 < s.size
  · have N : Hid (nameB s = _) := nameB_none (s := s) (.inr h32)
    have h32' : (32 : Int) < s.size := by omega
    go_enter Tryz.func97, Tryz.ntmps97
    go_wp2
    go_ret
    exact ⟨by rw [N.out]; rfl, rfl⟩
  have h32' : ¬ (32 : Int) < s.size := by omega
  have hp : 0 < s.size := by omega
  have hp' : (0 : Int) < s.size := by omega
  have e0 := head_at hp
  cases hl : letB (s[0]).toNat with
  | false =>
    have N : Hid (nameB s = _) := nameB_head (s := s) (by rw [e0]; exact hl)
    have L : Hid (letB (s[0]).toNat = false) := hl
    clear hl e0
    go_enter Tryz.func97, Tryz.ntmps97
    go_wp2_with (go_at_call 115; refine (letter_any _ _).mono ?_; rintro e w' ⟨he, hw⟩; subst he; have hw := hw.symm; subst hw; rw [L.out])
    go_ret
    exact ⟨by rw [N.out]; rfl, rfl⟩
  | true =>
    have L : Hid (letB (s[0]).toNat = true) := hl
    have G : Hid ((∀ k (hk : k < s.size), okB (s[k]).toNat = true) → nameB s = true) := fun h => nameB_good (by omega) (by omega) (by rw [e0]; exact hl) h
    clear hl e0
    go_enter Tryz.func97, Tryz.ntmps97
    go_wp2_with (go_at_call 115; refine (letter_any _ _).mono ?_; rintro e w' ⟨he, hw⟩; subst he; have hw := hw.symm; subst hw; rw [L.out])
    clear L
    go_loop [21] (fun i => ∃ k : Nat, k ≤ s.size ∧ i = .int .i64 k ∧ Hid (∀ j (hj : j < s.size), j < k → okB (s[j]).toNat = true)) (fun i => s.size - (intOf i).toNat)
    case atStart => exact ⟨0, by omega, rfl, fun j _ h => by omega⟩
    case round =>
      obtain ⟨k, hk, rfl, hok⟩ := hrel
      by_cases hlt : k < s.size
      · have hlt' : (k : Int) < s.size := by omega
        cases h1 : letB (s[k]).toNat with
        | true =>
          have H1 : Hid (letB (s[k]).toNat = true) := h1
          clear h1
          go_wp2_with (go_at_call 115; refine (letter_any _ _).mono ?_; rintro e w' ⟨he, hw⟩; subst he; have hw := hw.symm; subst hw; rw [H1.out])
          go_round
          case rel => exact ⟨k + 1, by omega, by go_num, fun j hj hjk => by
            rcases Nat.lt_or_ge j k with h | h
            · exact hok.out j hj h
            · obtain rfl : j = k := by omega
              unfold okB; rw [H1.out]; rfl⟩
          case measure => simp [intOf]; omega
        | false =>
          have H1 : Hid (letB (s[k]).toNat = false) := h1
          clear h1
          cases h2 : digB (s[k]).toNat with
          | true =>
            have H2 : Hid (digB (s[k]).toNat = true) := h2
            clear h2
            go_wp2_with (first
              | (go_at_call 115; refine (letter_any _ _).mono ?_; rintro e w' ⟨he, hw⟩; subst he; have hw := hw.symm; subst hw; rw [H1.out])
              | (go_at_call 116; refine (digit_any _ _).mono ?_; rintro e w' ⟨he, hw⟩; subst he; have hw := hw.symm; subst hw; rw [H2.out]))
            go_round
            case rel => exact ⟨k + 1, by omega, by go_num, fun j hj hjk => by
              rcases Nat.lt_or_ge j k with h | h
              · exact hok.out j hj h
              · obtain rfl : j = k := by omega
                unfold okB; rw [H1.out, H2.out]; rfl⟩
            case measure => simp [intOf]; omega
          | false =>
            have H2 : Hid (digB (s[k]).toNat = false) := h2
            clear h2
            by_cases h3 : ((s[k]).toNat : Int) = 95
            · have h3' : (((s[k]).toNat : Int) != 95) = false := by simp; omega
              have H3 : Hid (((s[k]).toNat : Int) = 95) := h3
              clear h3
              go_wp2_with (first
                | (go_at_call 115; refine (letter_any _ _).mono ?_; rintro e w' ⟨he, hw⟩; subst he; have hw := hw.symm; subst hw; rw [H1.out])
                | (go_at_call 116; refine (digit_any _ _).mono ?_; rintro e w' ⟨he, hw⟩; subst he; have hw := hw.symm; subst hw; rw [H2.out]))
              go_round
              case rel => exact ⟨k + 1, by omega, by go_num, fun j hj hjk => by
                rcases Nat.lt_or_ge j k with h | h
                · exact hok.out j hj h
                · obtain rfl : j = k := by omega
                  unfold okB; rw [H1.out, H2.out, H3.out]; rfl⟩
              case measure => simp [intOf]; omega
            · have h3' : (((s[k]).toNat : Int) != 95) = true := by simp; omega
              have N : Hid (nameB s = _) := nameB_bad (s := s) k hlt (by unfold okB; rw [H1.out, H2.out]; simp; omega)
              clear h3
              go_wp2_with (first
                | (go_at_call 115; refine (letter_any _ _).mono ?_; rintro e w' ⟨he, hw⟩; subst he; have hw := hw.symm; subst hw; rw [H1.out])
                | (go_at_call 116; refine (digit_any _ _).mono ?_; rintro e w' ⟨he, hw⟩; subst he; have hw := hw.symm; subst hw; rw [H2.out]))
              go_ret
              exact ⟨by rw [N.out]; rfl, rfl⟩
      · have N : Hid (nameB s = _) := G.out (fun j hj => hok.out j hj (by omega))
        go_wp2
        go_ret
        exact ⟨by rw [N.out]; rfl, rfl⟩
end Go.Proofs.YtnjpblmplneojaaGreatDoor.Colour
