/- The document's own letter, digit, skip, Number: contracts of the calls, over the turned program. -/
import Derived.Test.YtnhhajbfohjlbaaDoorTokLaws
namespace Go.Proofs.YtnhhajbfohjlbaaDoor.Token
open Go.RowKit Go.Proofs.YtnhhajbfohjlbaaDoor.Colour Go.Proofs.YtnhhajbfohjlbaaDoor.Frame
set_option linter.unusedVariables false
set_option linter.unusedSimpArgs false

set_option maxHeartbeats 1000000 in
theorem r_letter (c : UInt8) (w : World) : Calls Tryd.prog 23 #[.int .u8 c.toNat] w fun e w' => e = .returned (.bool (let8 c)) ∧ w' = w := by
  have hc : c.toNat < 256 := c.toNat_lt
  go_enter Tryd.func23, Tryd.ntmps23
  go_wp2
  all_goals go_ret
  all_goals exact ⟨retb (by unfold let8 letB; rw [Bool.eq_iff_iff]; simp; try omega), rfl⟩
set_option maxHeartbeats 1000000 in
theorem r_digit (c : UInt8) (w : World) : Calls Tryd.prog 24 #[.int .u8 c.toNat] w fun e w' => e = .returned (.bool (dig8 c)) ∧ w' = w := by
  have hc : c.toNat < 256 := c.toNat_lt
  go_enter Tryd.func24, Tryd.ntmps24
  go_wp2
  all_goals go_ret
  all_goals exact ⟨retb (by unfold dig8 digB; rw [Bool.eq_iff_iff]; simp; try omega), rfl⟩

theorem drop_at {s : ByteArray} {k : Nat} (h : k < s.size) : s.data.toList.drop k = s[k] :: s.data.toList.drop (k + 1) := by
  have h1 : k < s.data.toList.length := by rw [size_list]; exact h
  rw [List.drop_eq_getElem_cons h1]
  congr 1
theorem gap_end {b : Bool} {l : List UInt8} {k : Nat} (h : l.length ≤ k) : gapL b (l.drop k) = [] := by rw [List.drop_of_length_le h]; cases b <;> rfl

set_option maxRecDepth 100000 in
set_option maxHeartbeats 4000000 in
theorem r_skip (s : ByteArray) (i : Nat) (w : World) (hs : s.size ≤ 1000000) (hi : i ≤ s.size) :
    Calls Tryd.prog 22 #[.string s, .int .i64 i] w fun e w' => e = .returned (.int .i64 (gapF s.data.toList i)) ∧ w' = w := by
  go_enter Tryd.func22, Tryd.ntmps22
  go_wp2
  go_loop [1] (fun v => ∃ k : Nat, k ≤ s.size ∧ v = .int .i64 k ∧ Hid (gapL false (s.data.toList.drop i) = gapL false (s.data.toList.drop k))) (fun v => s.size - (intOf v).toNat)
  case atStart => exact ⟨i, hi, rfl, rfl⟩
  case round =>
    obtain ⟨k, hk, rfl, hr⟩ := hrel
    by_cases hlt : k < s.size
    · have hlt' : (k : Int) < s.size := by omega
      have hc256 : (s[k]).toNat < 256 := (s[k]).toNat_lt
      have hD := drop_at hlt
      by_cases h35 : (s[k]).toNat = 35
      · have h35' : (((s[k]).toNat : Int) == 35) = true := by simp; omega
        have hT : gapL false (s.data.toList.drop k) = gapL true (s.data.toList.drop k) := by
          rw [hD, gapL.eq_2, gapL.eq_3, if_neg (by unfold blk8; simp [h35]), if_pos h35, if_neg (by omega)]
        have H0 : Hid (gapL false (s.data.toList.drop i) = gapL true (s.data.toList.drop k)) := hr.out.trans hT
        have H35 : Hid ((s[k]).toNat = 35) := h35
        clear hT hD hr h35
        go_wp2
        go_loop [1] (fun v => ∃ m : Nat, k ≤ m ∧ m ≤ s.size ∧ v = .int .i64 m ∧ Hid (gapL false (s.data.toList.drop i) = gapL true (s.data.toList.drop m))) (fun v => s.size - (intOf v).toNat)
        case atStart => exact ⟨k, by omega, by omega, rfl, H0⟩
        case round =>
          obtain ⟨m, hkm, hms, rfl, hm⟩ := hrel
          by_cases hml : m < s.size
          · have hml' : (m : Int) < s.size := by omega
            have hDm := drop_at hml
            by_cases h10 : (s[m]).toNat = 10
            · have h10' : (((s[m]).toNat : Int) != 10) = false := by simp; omega
              have hkm2 : k < m := by
                rcases Nat.lt_or_ge k m with h | h
                · exact h
                · obtain rfl : k = m := by omega
                  have := H35.out; omega
              have hE : Hid (gapL false (s.data.toList.drop i) = gapL false (s.data.toList.drop m)) := (show _ = _ by
                rw [hm.out, hDm, gapL.eq_3, gapL.eq_2, if_pos h10, if_pos (by unfold blk8; simp [h10])])
              clear hm hDm h10
              go_wp2
              go_round
              case rel => exact ⟨m, by omega, rfl, hE⟩
              case measure => simp [intOf]; omega
            · have h10' : (((s[m]).toNat : Int) != 10) = true := by simp; omega
              have hE : Hid (gapL false (s.data.toList.drop i) = gapL true (s.data.toList.drop (m + 1))) := (show _ = _ by
                rw [hm.out, hDm, gapL.eq_3, if_neg h10])
              clear hm hDm h10
              go_wp2
              go_round
              case rel => exact ⟨m + 1, by omega, by omega, by go_num, hE⟩
              case measure => simp [intOf]; omega
          · have hml' : ¬ (m : Int) < s.size := by omega
            have hE : Hid (gapL false (s.data.toList.drop i) = gapL false (s.data.toList.drop m)) := (show _ = _ by
              rw [hm.out, gap_end (by rw [size_list]; omega), gap_end (by rw [size_list]; omega)])
            clear hm
            go_wp2
            go_round
            case rel => exact ⟨m, by omega, rfl, hE⟩
            case measure => simp [intOf]; omega
      · have h35' : (((s[k]).toNat : Int) == 35) = false := by simp; omega
        cases hb : blk8 (s[k]) with
        | true =>
          have hE : Hid (gapL false (s.data.toList.drop i) = gapL false (s.data.toList.drop (k + 1))) := (show _ = _ by
            rw [hr.out, hD, gapL.eq_2, if_pos hb])
          have hcs : (s[k]).toNat = 32 ∨ (s[k]).toNat = 9 ∨ (s[k]).toNat = 10 ∨ (s[k]).toNat = 13 := by unfold blk8 at hb; simp at hb; omega
          clear hr hD hb h35 h35'
          rcases hcs with h | h | h | h
          all_goals
            go_wp2
            go_round
            case rel => exact ⟨k + 1, by omega, by go_num, hE⟩
            case measure => simp [intOf]; omega
        | false =>
          have hb4 : (((s[k]).toNat : Int) != 32) = true ∧ (((s[k]).toNat : Int) != 9) = true ∧ (((s[k]).toNat : Int) != 10) = true ∧ (((s[k]).toNat : Int) != 13) = true := by unfold blk8 at hb; simp at hb ⊢; omega
          obtain ⟨b1, b2, b3, b4⟩ := hb4
          have hE : Hid (gapF s.data.toList i = k) := gapF_is (by rw [size_list]; exact hk) (hr.out.trans (by rw [hD, gapL.eq_2, if_neg (by rw [hb]; decide), if_neg h35]))
          clear hr hD hb h35
          go_wp2
          go_ret
          exact ⟨by rw [hE.out]; rfl, rfl⟩
    · have hlt' : ¬ (k : Int) < s.size := by omega
      have hE : Hid (gapF s.data.toList i = k) := gapF_is (by rw [size_list]; exact hk) (hr.out.trans (by rw [gap_end (by rw [size_list]; omega), List.drop_of_length_le (by rw [size_list]; omega)]))
      clear hr
      go_wp2
      go_ret
      exact ⟨by rw [hE.out]; rfl, rfl⟩
end Go.Proofs.YtnhhajbfohjlbaaDoor.Token
