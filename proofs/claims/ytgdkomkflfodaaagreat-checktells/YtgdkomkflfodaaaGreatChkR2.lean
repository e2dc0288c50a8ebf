/- The document's own letter, digit, Name and names of layer 2: contracts of the calls, over the turned program. -/
import Derived.Test.YtgdkomkflfodaaaGreatChkRw
import Derived.Test.YtgdkomkflfodaaaGreatMaV
import Derived.Deep.QuietTactic
import Derived.BigQuiet
namespace Go.Proofs.YtgdkomkflfodaaaGreat.Colour
open Go.RowKit Go.Proofs.YtgdkomkflfodaaaGreat.Frame
set_option linter.unusedVariables false
set_option linter.unusedSimpArgs false

set_option maxHeartbeats 400000 in
theorem rletter2 (n : Int) (w : World) : Calls Tryz.prog 126 #[.int .u8 n] w fun e w' => e = .returned (.bool (letB n)) ∧ w' = w := by
  go_enter Tryz.func126, Tryz.ntmps126
  go_wp2
  all_goals go_ret
  all_goals exact ⟨retb (by unfold letB; rw [Bool.eq_iff_iff]; simp; try omega), rfl⟩
set_option maxHeartbeats 400000 in
theorem rdigit2 (n : Int) (w : World) : Calls Tryz.prog 127 #[.int .u8 n] w fun e w' => e = .returned (.bool (digB n)) ∧ w' = w := by
  go_enter Tryz.func127, Tryz.ntmps127
  go_wp2
  all_goals go_ret
  all_goals exact ⟨retb (by unfold digB; rw [Bool.eq_iff_iff]; simp; try omega), rfl⟩
set_option maxHeartbeats 2000000 in
theorem rname2 (s : ByteArray) (w : World) : Calls Tryz.prog 104 #[.string s] w fun e w' => e = .returned (.bool (nameB s)) ∧ w' = w := by
  by_cases h0 : s.size = 0
  · have N : Hid (nameB s = _) := nameB_none (s := s) (.inl h0)
    have h0' : (s.size : Int) < 1 := by omega
    clear h0
    go_enter Tryz.func104, Tryz.ntmps104
    go_wp2
    go_ret
    exact ⟨by rw [N.out]; rfl, rfl⟩
  have h0' : ¬ (s.size : Int) < 1 := by omega
  by_cases h32 : 32 < s.size
  · have N : Hid (nameB s = _) := nameB_none (s := s) (.inr h32)
    have h32' : (32 : Int) < s.size := by omega
    go_enter Tryz.func104, Tryz.ntmps104
    go_wp2
    go_ret
    exact ⟨by rw [N.out]; rfl, rfl⟩
  have h32' : ¬ (32 : Int) < s.size := by omega
  have hp : 0 < s.size := by omega
  have hp' : (0 : Int) < s.size := by omega
  have e0 := head_at hp
  cases hl : letB (s[0]).toNat with
  | false =>
    have N : Hid (nameB s = _) := nameB_head (s := s) (by rw [e0]; exact hl)
    have L : Hid (letB (s[0]).toNat = false) := hl
    clear hl e0
    go_enter Tryz.func104, Tryz.ntmps104
    go_wp2_with (go_at_call 126; refine (rletter2 _ _).mono ?_; rintro e w' ⟨he, hw⟩; subst he; have hw := hw.symm; subst hw; rw [L.out])
    go_ret
    exact ⟨by rw [N.out]; rfl, rfl⟩
  | true =>
    have L : Hid (letB (s[0]).toNat = true) := hl
    have G : Hid ((∀ k (hk : k < s.size), okB (s[k]).toNat = true) → nameB s = true) := fun h => nameB_good (by omega) (by omega) (by rw [e0]; exact hl) h
    clear hl e0
    go_enter Tryz.func104, Tryz.ntmps104
    go_wp2_with (go_at_call 126; refine (rletter2 _ _).mono ?_; rintro e w' ⟨he, hw⟩; subst he; have hw := hw.symm; subst hw; rw [L.out])
    clear L
    go_loop [3] (fun i => ∃ k : Nat, k ≤ s.size ∧ i = .int .i64 k ∧ Hid (∀ j (hj : j < s.size), j < k → okB (s[j]).toNat = true)) (fun i => s.size - (intOf i).toNat)
    case atStart => exact ⟨0, by omega, rfl, fun j _ h => by omega⟩
    case round =>
      obtain ⟨k, hk, rfl, hok⟩ := hrel
      by_cases hlt : k < s.size
      · have hlt' : (k : Int) < s.size := by omega
        cases h1 : letB (s[k]).toNat with
        | true =>
          have H1 : Hid (letB (s[k]).toNat = true) := h1
          clear h1
          go_wp2_with (go_at_call 126; refine (rletter2 _ _).mono ?_; rintro e w' ⟨he, hw⟩; subst he; have hw := hw.symm; subst hw; rw [H1.out])
          go_round
          case rel => exact ⟨k + 1, by omega, by go_num, fun j hj hjk => by
            rcases Nat.lt_or_ge j k with h | h
            · exact hok.out j hj h
            · obtain rfl : j = k := by omega
              unfold okB; rw [H1.out]; rfl⟩
          case measure => simp [intOf]; omega
        | false =>
          have H1 : Hid (letB (s[k]).toNat = false) := h1
          clear h1
          cases h2 : digB (s[k]).toNat with
          | true =>
            have H2 : Hid (digB (s[k]).toNat = true) := h2
            clear h2
            go_wp2_with (first
              | (go_at_call 126; refine (rletter2 _ _).mono ?_; rintro e w' ⟨he, hw⟩; subst he; have hw := hw.symm; subst hw; rw [H1.out])
              | (go_at_call 127; refine (rdigit2 _ _).mono ?_; rintro e w' ⟨he, hw⟩; subst he; have hw := hw.symm; subst hw; rw [H2.out]))
            go_round
            case rel => exact ⟨k + 1, by omega, by go_num, fun j hj hjk => by
              rcases Nat.lt_or_ge j k with h | h
              · exact hok.out j hj h
              · obtain rfl : j = k := by omega
                unfold okB; rw [H1.out, H2.out]; rfl⟩
            case measure => simp [intOf]; omega
          | false =>
            have H2 : Hid (digB (s[k]).toNat = false) := h2
            clear h2
            by_cases h3 : ((s[k]).toNat : Int) = 95
            · have h3' : (((s[k]).toNat : Int) != 95) = false := by simp; omega
              have H3 : Hid (((s[k]).toNat : Int) = 95) := h3
              clear h3
              go_wp2_with (first
                | (go_at_call 126; refine (rletter2 _ _).mono ?_; rintro e w' ⟨he, hw⟩; subst he; have hw := hw.symm; subst hw; rw [H1.out])
                | (go_at_call 127; refine (rdigit2 _ _).mono ?_; rintro e w' ⟨he, hw⟩; subst he; have hw := hw.symm; subst hw; rw [H2.out]))
              go_round
              case rel => exact ⟨k + 1, by omega, by go_num, fun j hj hjk => by
                rcases Nat.lt_or_ge j k with h | h
                · exact hok.out j hj h
                · obtain rfl : j = k := by omega
                  unfold okB; rw [H1.out, H2.out, H3.out]; rfl⟩
              case measure => simp [intOf]; omega
            · have h3' : (((s[k]).toNat : Int) != 95) = true := by simp; omega
              have N : Hid (nameB s = _) := nameB_bad (s := s) k hlt (by unfold okB; rw [H1.out, H2.out]; simp; omega)
              clear h3
              go_wp2_with (first
                | (go_at_call 126; refine (rletter2 _ _).mono ?_; rintro e w' ⟨he, hw⟩; subst he; have hw := hw.symm; subst hw; rw [H1.out])
                | (go_at_call 127; refine (rdigit2 _ _).mono ?_; rintro e w' ⟨he, hw⟩; subst he; have hw := hw.symm; subst hw; rw [H2.out]))
              go_ret
              exact ⟨by rw [N.out]; rfl, rfl⟩
      · have N : Hid (nameB s = _) := G.out (fun j hj => hok.out j hj (by omega))
        go_wp2
        go_ret
        exact ⟨by rw [N.out]; rfl, rfl⟩

/-- strings alike -/
theorem toList_inj {a b : ByteArray} (h : (a.toList == b.toList) = true) : a = b := by
  have h : a.toList = b.toList := eq_of_beq h
  rw [Go.ByteArray.toList_eq, Go.ByteArray.toList_eq] at h
  exact ByteArray.ext (Array.toList_inj.1 h)
theorem toList_ne {a b : ByteArray} (h : (a.toList == b.toList) = false) : a ≠ b := fun e => by rw [e] at h; simp at h
def apart (zs : List ByteArray) (i : Nat) : Bool := (List.range i).all fun j => !((zs.getD j ByteArray.empty).toList == (zs.getD i ByteArray.empty).toList)
/-- the name there, and that none ahead is it -/
def newB (zs : List ByteArray) (i : Nat) : Bool := nameB (zs.getD i ByteArray.empty) && apart zs i
theorem allB_of {zs : List ByteArray} (h : ∀ i, i < zs.length → newB zs i = true) : allB zs = true := by
  refine Check.allB_nodup' (all_names fun k hk => ?_) ?_
  · have := h k hk
    unfold newB at this
    rw [Bool.and_eq_true] at this
    exact this.1
  · rw [List.Nodup, List.pairwise_iff_getElem]
    intro i j hi hj hij e
    have := h j hj
    unfold newB apart at this
    rw [Bool.and_eq_true, List.all_eq_true] at this
    have := this.2 i (List.mem_range.2 hij)
    rw [List.getD_eq_getElem?_getD, List.getElem?_eq_getElem hi, List.getD_eq_getElem?_getD, List.getElem?_eq_getElem hj] at this
    simp [e] at this
theorem allB_not {zs : List ByteArray} {i : Nat} (hi : i < zs.length) (h : newB zs i = false) : allB zs = false := by
  cases ha : allB zs with
  | false => rfl
  | true =>
    unfold allB at ha
    rw [Bool.and_eq_true, List.all_eq_true] at ha
    have hn := Check.nodup_of_adjB ha.2
    have h1 : nameB (zs.getD i ByteArray.empty) = true := by
      refine ha.1 _ ?_
      rw [List.getD_eq_getElem?_getD, List.getElem?_eq_getElem hi]; exact List.getElem_mem _
    have h2 : apart zs i = true := by
      unfold apart
      rw [List.all_eq_true]
      intro j hj
      have hj : j < i := List.mem_range.1 hj
      rw [List.Nodup, List.pairwise_iff_getElem] at hn
      cases he : ((zs.getD j ByteArray.empty).toList == (zs.getD i ByteArray.empty).toList) with
      | false => rfl
      | true =>
        have := toList_inj he
        rw [List.getD_eq_getElem?_getD, List.getElem?_eq_getElem (by omega), List.getD_eq_getElem?_getD, List.getElem?_eq_getElem hi] at this
        exact absurd this (hn j i (by omega) hi hj)
    unfold newB at h
    rw [h1, h2] at h
    cases h
end Go.Proofs.YtgdkomkflfodaaaGreat.Colour
