/- The document's own Number, Join, Tokens: contracts of the calls, over the turned program. -/
import Derived.Test.YtnhhajbfohjlbaaDoorTokRef1
namespace Go.Proofs.YtnhhajbfohjlbaaDoor.Token
open Go.RowKit Go.Proofs.YtnhhajbfohjlbaaDoor.Colour Go.Proofs.YtnhhajbfohjlbaaDoor.Frame
set_option linter.unusedVariables false
set_option linter.unusedSimpArgs false

theorem val_take {s : ByteArray} {k : Nat} (h : k < s.size) : valL 0 (s.data.toList.take (k + 1)) = valL 0 (s.data.toList.take k) * 10 + ((s[k]).toNat - 48) := by
  have h1 : k < s.data.toList.length := by rw [size_list]; exact h
  rw [List.take_add_one, List.getElem?_eq_getElem h1]
  exact val_dig _ _ _
theorem val_more : ∀ (l m : List UInt8) (a : Nat), valL a l ≤ valL a (l ++ m)
  | [], m, a => val_ge m a
  | c :: l, m, a => by
    show valL (a * 10 + (c.toNat - 48)) l ≤ valL (a * 10 + (c.toNat - 48)) (l ++ m)
    exact val_more l m _
theorem val_take_le (l : List UInt8) (k : Nat) : valL 0 (l.take k) ≤ valL 0 l := by
  have := val_more (l.take k) (l.drop k) 0
  rwa [List.take_append_drop] at this
theorem all_bad {s : ByteArray} {k : Nat} (h : k < s.size) (hd : dig8 s[k] = false) : s.data.toList.all dig8 = false := by
  rw [List.all_eq_false]
  refine ⟨s[k], ?_, by rw [hd]; decide⟩
  show s.data[k] ∈ _
  exact (Array.mem_toList_iff).2 (Array.getElem_mem _)

theorem numB_over {l : List UInt8} (h : ¬ valL 0 l < 9223372036854775808) : numB l = false := by
  unfold numB; rw [Bool.and_eq_false_iff]; exact .inr (decide_eq_false h)
theorem numB_bad {l : List UInt8} (h : l.all dig8 = false) : numB l = false := by
  unfold numB; rw [h]; simp
theorem numB_zero {l : List UInt8} (h : zero8 l = true) : numB l = false := by
  unfold numB; rw [h]; simp
theorem numB_nil {l : List UInt8} (h : l.length = 0) : numB l = false := by
  unfold numB; rw [h]; rfl
theorem numB_yes {l : List UInt8} (h0 : 0 < l.length) (ha : l.all dig8 = true) (hz : zero8 l = false) (hv : valL 0 l < 9223372036854775808) : numB l = true := by
  unfold numB; simp only [Bool.and_eq_true, decide_eq_true_eq]; exact ⟨⟨⟨h0, ha⟩, by rw [hz]; rfl⟩, hv⟩

set_option maxRecDepth 100000 in
set_option maxHeartbeats 1000000 in
theorem r_number (s : ByteArray) (w : World) (hs : s.size ≤ 1000000) :
    Calls Tryd.prog 12 #[.string s] w fun e w' => e = numR s.data.toList ∧ w' = w := by
  by_cases h0 : s.size = 0
  · have h0' : ((s.size : Int) == 0) = true := by rw [h0]; rfl
    have E : Hid (numR s.data.toList = .returned (.tuple #[.int .i64 0, .bool false])) := numR_no (numB_nil (by rw [size_list]; exact h0))
    go_enter Tryd.func12, Tryd.ntmps12
    go_wp2
    go_ret2
    exact ⟨by rw [E.out]; rfl, rfl⟩
  have h0' : ((s.size : Int) == 0) = false := beq_eq_false_iff_ne.2 (by omega)
  have hsp : 0 < s.size := by omega
  have hsp' : (0 : Int) < s.size := by omega
  cases hz : zero8 s.data.toList with
  | true =>
    have E : Hid (numR s.data.toList = .returned (.tuple #[.int .i64 0, .bool false])) := numR_no (numB_zero hz)
    have h1 : 1 < s.size := by
      rcases Nat.lt_or_ge 1 s.size with h | h
      · exact h
      · rw [zero_out (by omega)] at hz; cases hz
    have h1' : (1 : Int) < s.size := by omega
    rw [zero_in h1] at hz
    have h48 : (((s[0]'hsp).toNat : Int) == 48) = true := by simp at hz ⊢; omega
    clear hz
    go_enter Tryd.func12, Tryd.ntmps12
    go_wp2
    go_ret2
    exact ⟨by rw [E.out]; rfl, rfl⟩
  | false =>
    have HZ : Hid (zero8 s.data.toList = false) := hz
    have G : Hid ((1 : Int) < s.size → (((s[0]'hsp).toNat : Int) == 48) = false) := fun h => by
      rw [zero_in (by omega)] at hz
      simp at hz ⊢; omega
    clear hz
    have key : ∀ (h48 : ((1 : Int) < s.size ∧ (((s[0]'hsp).toNat : Int) == 48) = false) ∨ ¬ (1 : Int) < s.size), Calls Tryd.prog 12 #[.string s] w fun e w' => e = numR s.data.toList ∧ w' = w := by
      intro h48
      rcases h48 with ⟨g1, g2⟩ | g1
      all_goals
        go_enter Tryd.func12, Tryd.ntmps12
        go_wp2
        go_loop [4, 5] (fun v i => ∃ k n : Nat, k ≤ s.size ∧ i = .int .i64 k ∧ v = .int .i64 n ∧ n ≤ 9223372036854775807 ∧ Hid (n = valL 0 (s.data.toList.take k)) ∧ Hid (∀ j (hj : j < s.size), j < k → dig8 s[j] = true)) (fun _ i => s.size - (intOf i).toNat)
        case atStart => exact ⟨0, 0, by omega, rfl, rfl, by omega, rfl, fun j _ h => by omega⟩
        case round =>
          obtain ⟨k, n, hk, rfl, rfl, hn, HV, HD⟩ := hrel
          by_cases hlt : k < s.size
          · have hlt' : (k : Int) < s.size := by omega
            have hc256 : (s[k]).toNat < 256 := (s[k]).toNat_lt
            cases hd : dig8 (s[k]) with
            | false =>
              have HG : Hid (dig8 s[k] = false) := hd
              have E : Hid (numR s.data.toList = .returned (.tuple #[.int .i64 0, .bool false])) := numR_no (numB_bad (all_bad hlt hd))
              clear hd
              go_wp2_with (go_at_call 24; refine (r_digit _ _).mono ?_; rintro e w' ⟨he, hw⟩; subst he; have hw := hw.symm; subst hw; rw [HG.out])
              go_ret2
              exact ⟨by rw [E.out]; rfl, rfl⟩
            | true =>
              have HG : Hid (dig8 s[k] = true) := hd
              have hc : 48 ≤ (s[k]).toNat ∧ (s[k]).toNat ≤ 57 := by unfold dig8 digB at hd; simp at hd; omega
              obtain ⟨d, hdd⟩ : ∃ d : Nat, (s[k]).toNat = d + 48 := ⟨(s[k]).toNat - 48, by omega⟩
              have hS := val_take hlt
              rw [← HV.out, hdd, Nat.add_sub_cancel] at hS
              have hd9 : d ≤ 9 := by omega
              have HD2 : Hid (∀ j (hj : j < s.size), j < k + 1 → dig8 s[j] = true) := fun j hj hjk => by
                rcases Nat.lt_or_ge j k with h | h
                · exact HD.out j hj h
                · obtain rfl : j = k := by omega
                  exact hd
              have hu : IntKind.u8.wrap (((d : Int) + 48) - 48) = (d : Int) := by simp only [IntKind.wrap_u8]; omega
              have hq : IntKind.i64.wrap ((9223372036854775807 - (d : Int)).tdiv 10) = (9223372036854775807 - (d : Int)) / 10 := by
                rw [Int.tdiv_eq_ediv_of_nonneg (by omega), IntKind.wrap_i64]; omega
              have RD : Hid (∀ wx, Calls Tryd.prog 24 #[.int .u8 ((d : Int) + 48)] wx fun e w' => e = .returned (.bool true) ∧ w' = wx) := fun wx => by
                have h := r_digit s[k] wx
                rw [hd, show (((s[k]).toNat : Nat) : Int) = (d : Int) + 48 by omega] at h
                exact h
              clear hd
              by_cases hov : 9223372036854775807 < n * 10 + d
              · have E : Hid (numR s.data.toList = .returned (.tuple #[.int .i64 0, .bool false])) := numR_no (by
                  have hle := val_take_le s.data.toList (k + 1)
                  rw [hS] at hle
                  exact numB_over (by omega))
                have hov' : (9223372036854775807 - (d : Int)) / 10 < (n : Int) := by omega
                clear hS hov
                go_wp2_with (go_at_call 24; refine (RD.out _).mono ?_; rintro e w' ⟨he, hw⟩; subst he; have hw := hw.symm; subst hw)
                go_ret2
                exact ⟨by rw [E.out]; rfl, rfl⟩
              · have hov' : ¬ (9223372036854775807 - (d : Int)) / 10 < (n : Int) := by omega
                have HS : Hid (n * 10 + d = valL 0 (s.data.toList.take (k + 1))) := hS.symm
                clear hS
                go_wp2_with (go_at_call 24; refine (RD.out _).mono ?_; rintro e w' ⟨he, hw⟩; subst he; have hw := hw.symm; subst hw)
                go_round
                case rel => exact ⟨k + 1, n * 10 + d, by omega, by go_num, by first | (go_num; done) | (congr 1; omega), by omega, HS, HD2⟩
                case measure => simp [intOf]; omega
          · have hlt' : ¬ (k : Int) < s.size := by omega
            have E : Hid (numR s.data.toList = .returned (.tuple #[.int .i64 n, .bool true])) := (show numR _ = _ by
              have hv := HV.out
              rw [List.take_of_length_le (by rw [size_list]; omega)] at hv
              have hall : s.data.toList.all dig8 = true := by
                rw [List.all_eq_true]
                intro c hc
                obtain ⟨j, hj, rfl⟩ := List.getElem_of_mem hc
                have hj' : j < s.size := by simpa using hj
                have := HD.out j hj' (by omega)
                rw [Array.getElem_toList]; exact this
              have hb : numB s.data.toList = true := numB_yes (by rw [size_list]; omega) hall HZ.out (by omega)
              unfold numR numV; rw [hb, ← hv]; rfl)
            go_wp2
            go_ret2
            exact ⟨by rw [E.out]; rfl, rfl⟩
    by_cases g : (1 : Int) < s.size
    · exact key (.inl ⟨g, G.out g⟩)
    · exact key (.inr g)
end Go.Proofs.YtnhhajbfohjlbaaDoor.Token
