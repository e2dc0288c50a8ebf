/- Contracts and plain mathematics, together: Frame, ColName. -/
import Derived.Test.YtgdkomkflfodaaaGreatRows
import Derived.WalkKit
import Derived.ProofKit
import Derived.OpenShut
import Derived.ShutString
import Derived.Test.YtgdkomkflfodaaaGreatMaA
import Derived.WalkSpells
import Derived.WalkLawsBesides
/- What every statement's proof of this seat shares: the program's own knobs, and how a slice of ints that came in lies in memory. -/
namespace Go.Proofs.YtgdkomkflfodaaaGreat.Frame
open Go.ChangeShapes Go.WideShapes Go.ChangeAt Go.RowKit
theorem own : ownKnob Tryz.prog.godebug = none := by kernel_rfl
theorem laidOut : laidOutB Tryz.prog = true := by kernel_rfl

/-- a slice of ints in memory: nil, or a row of 'cap' numbers, of which the first 'len' are its elements -/
def Ints (w : World) (a : Option Addr) (len cap : Nat) (zs : List Int) : Prop :=
  (a = none ∧ len = 0 ∧ cap = 0 ∧ zs = []) ∨
  ∃ x, a = some x ∧ len ≤ cap ∧ cap ≤ maxLen ∧ zs.length = cap ∧ (∀ i, i < zs.length → w.cell? (x.add i) = some (.int .i64 (zs.getD i 0))) ∧ ∀ n ∈ zs, (Lit.int .i64 n).wf = true
/-- one call behind another: what was there is there -/
theorem then_ {a b c : World} (h : Below a.heap.size a b) (k : Below b.heap.size b c) : Below a.heap.size a c := h.trans (k.mono h.size)
end Go.Proofs.YtgdkomkflfodaaaGreat.Frame
/- letter, digit, within and Name of package colour: contracts of the calls, over the turned program. -/
namespace Go.Proofs.YtgdkomkflfodaaaGreat.Colour
open Go.RowKit
set_option linter.unusedVariables false

set_option maxHeartbeats 400000 in
theorem letter_any (n : Int) (w : World) :
    Calls Tryz.prog 61 #[.int .u8 n] w fun e w' => e = .returned (.bool (letB n)) ∧ w' = w := by
  go_enter Tryz.func61, Tryz.ntmps61
  go_wp2
  all_goals go_ret
  all_goals exact ⟨retb (by unfold letB; rw [Bool.eq_iff_iff]; simp; omega), rfl⟩

set_option maxHeartbeats 400000 in
theorem digit_any (n : Int) (w : World) :
    Calls Tryz.prog 62 #[.int .u8 n] w fun e w' => e = .returned (.bool (digB n)) ∧ w' = w := by
  go_enter Tryz.func62, Tryz.ntmps62
  go_wp2
  all_goals go_ret
  all_goals exact ⟨retb (by unfold digB; simp; omega), rfl⟩

set_option maxHeartbeats 400000 in
theorem within_any (i n : Int) (w : World) :
    Calls Tryz.prog 113 #[.int .i64 i, .int .i64 n] w fun e w' => e = .returned (.bool (withinB i n)) ∧ w' = w := by
  go_enter Tryz.func113, Tryz.ntmps113
  go_wp2
  all_goals go_ret
  all_goals exact ⟨retb (by unfold withinB; simp; omega), rfl⟩

theorem head_at {s : ByteArray} (h : 0 < s.size) : (s.data.toList.getD 0 0) = s[0] := by
  rw [List.getD_eq_getElem?_getD, List.getElem?_eq_getElem (by simpa using h)]; rfl

set_option maxHeartbeats 1000000 in
theorem name_any (s : ByteArray) (w : World) :
    Calls Tryz.prog 18 #[.string s] w fun e w' => e = .returned (.bool (nameB s)) ∧ w' = w := by
  by_cases h0 : s.size = 0
  · have N : Hid (nameB s = _) := nameB_none (s := s) (.inl h0)
    go_enter Tryz.func18, Tryz.ntmps18
    go_wp2
    go_ret
    exact ⟨by rw [N.out]; rfl, rfl⟩
  have h0' : ((s.size : Int) == 0) = false := beq_eq_false_iff_ne.2 (by omega)
  by_cases h32 : 32 < s.size
  · have N : Hid (nameB s = _) := nameB_none (s := s) (.inr h32)
    have h32' : (32 : Int) < s.size := by omega
    go_enter Tryz.func18, Tryz.ntmps18
    go_wp2
    go_ret
    exact ⟨by rw [N.out]; rfl, rfl⟩
  have h32' : ¬ (32 : Int) < s.size := by omega
  have hp : 0 < s.size := by omega
  have hp' : (0 : Int) < s.size := by omega
  have e0 := head_at hp
  cases hl : letB (s[0]).toNat with
  | false =>
    have N : Hid (nameB s = _) := nameB_head (s := s) (by rw [e0]; exact hl)
    have L : Hid (letB (s[0]).toNat = false) := hl
    clear hl e0
    go_enter Tryz.func18, Tryz.ntmps18
    go_wp2_with (go_at_call 61; refine (letter_any _ _).mono ?_; rintro e w' ⟨he, hw⟩; subst he; have hw := hw.symm; subst hw; rw [L.out])
    go_ret
    exact ⟨by rw [N.out]; rfl, rfl⟩
  | true =>
    have L : Hid (letB (s[0]).toNat = true) := hl
    have G : Hid ((∀ k (hk : k < s.size), okB (s[k]).toNat = true) → nameB s = true) := fun h => nameB_good (by omega) (by omega) (by rw [e0]; exact hl) h
    clear hl e0
    go_enter Tryz.func18, Tryz.ntmps18
    go_wp2_with (go_at_call 61; refine (letter_any _ _).mono ?_; rintro e w' ⟨he, hw⟩; subst he; have hw := hw.symm; subst hw; rw [L.out])
    clear L
    go_loop [21] (fun i => ∃ k : Nat, k ≤ s.size ∧ i = .int .i64 k ∧ Hid (∀ j (hj : j < s.size), j < k → okB (s[j]).toNat = true)) (fun i => s.size - (intOf i).toNat)
    case atStart => exact ⟨0, by omega, rfl, fun j _ h => by omega⟩
    case round =>
      obtain ⟨k, hk, rfl, hok⟩ := hrel
      by_cases hlt : k < s.size
      · have hlt' : (k : Int) < s.size := by omega
        cases h1 : letB (s[k]).toNat with
        | true =>
          have H1 : Hid (letB (s[k]).toNat = true) := h1
          clear h1
          go_wp2_with (go_at_call 61; refine (letter_any _ _).mono ?_; rintro e w' ⟨he, hw⟩; subst he; have hw := hw.symm; subst hw; rw [H1.out])
          go_round
          case rel => exact ⟨k + 1, by omega, by go_num, fun j hj hjk => by
            rcases Nat.lt_or_ge j k with h | h
            · exact hok.out j hj h
            · obtain rfl : j = k := by omega
              unfold okB; rw [H1.out]; rfl⟩
          case measure => simp [intOf]; omega
        | false =>
          have H1 : Hid (letB (s[k]).toNat = false) := h1
          clear h1
          cases h2 : digB (s[k]).toNat with
          | true =>
            have H2 : Hid (digB (s[k]).toNat = true) := h2
            clear h2
            go_wp2_with (first
              | (go_at_call 61; refine (letter_any _ _).mono ?_; rintro e w' ⟨he, hw⟩; subst he; have hw := hw.symm; subst hw; rw [H1.out])
              | (go_at_call 62; refine (digit_any _ _).mono ?_; rintro e w' ⟨he, hw⟩; subst he; have hw := hw.symm; subst hw; rw [H2.out]))
            go_round
            case rel => exact ⟨k + 1, by omega, by go_num, fun j hj hjk => by
              rcases Nat.lt_or_ge j k with h | h
              · exact hok.out j hj h
              · obtain rfl : j = k := by omega
                unfold okB; rw [H1.out, H2.out]; rfl⟩
            case measure => simp [intOf]; omega
          | false =>
            have H2 : Hid (digB (s[k]).toNat = false) := h2
            clear h2
            by_cases h3 : ((s[k]).toNat : Int) = 95
            · have h3' : (((s[k]).toNat : Int) != 95) = false := by simp; omega
              have H3 : Hid (((s[k]).toNat : Int) = 95) := h3
              clear h3
              go_wp2_with (first
                | (go_at_call 61; refine (letter_any _ _).mono ?_; rintro e w' ⟨he, hw⟩; subst he; have hw := hw.symm; subst hw; rw [H1.out])
                | (go_at_call 62; refine (digit_any _ _).mono ?_; rintro e w' ⟨he, hw⟩; subst he; have hw := hw.symm; subst hw; rw [H2.out]))
              go_round
              case rel => exact ⟨k + 1, by omega, by go_num, fun j hj hjk => by
                rcases Nat.lt_or_ge j k with h | h
                · exact hok.out j hj h
                · obtain rfl : j = k := by omega
                  unfold okB; rw [H1.out, H2.out, H3.out]; rfl⟩
              case measure => simp [intOf]; omega
            · have h3' : (((s[k]).toNat : Int) != 95) = true := by simp; omega
              have N : Hid (nameB s = _) := nameB_bad (s := s) k hlt (by unfold okB; rw [H1.out, H2.out]; simp; omega)
              clear h3
              go_wp2_with (first
                | (go_at_call 61; refine (letter_any _ _).mono ?_; rintro e w' ⟨he, hw⟩; subst he; have hw := hw.symm; subst hw; rw [H1.out])
                | (go_at_call 62; refine (digit_any _ _).mono ?_; rintro e w' ⟨he, hw⟩; subst he; have hw := hw.symm; subst hw; rw [H2.out]))
              go_ret
              exact ⟨by rw [N.out]; rfl, rfl⟩
      · have N : Hid (nameB s = _) := G.out (fun j hj => hok.out j hj (by omega))
        go_wp2
        go_ret
        exact ⟨by rw [N.out]; rfl, rfl⟩
end Go.Proofs.YtgdkomkflfodaaaGreat.Colour
