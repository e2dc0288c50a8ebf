/- Contracts and plain mathematics, together: ColNames, ColInt. -/
import Derived.Test.YtnjpblmplneojaaGreatDoorColSort
import Derived.Test.YtnjpblmplneojaaGreatDoorColName
import Derived.Test.YtnjpblmplneojaaGreatDoorFrame
import Derived.Deep.QuietTactic
import Derived.BigQuiet
import Derived.WalkSmall
import Derived.Laws.Bits64
/- allNames of package colour: a contract of the call, over the turned program. -/
namespace Go.Proofs.YtnjpblmplneojaaGreatDoor.Colour
open Go.RowKit Go.Proofs.YtnjpblmplneojaaGreatDoor.Frame
set_option linter.unusedVariables false

set_option maxHeartbeats 1000000 in
theorem allNames_nil (c : Nat) (w : World) :
    Calls Tryz.prog 89 #[.slice none 0 c] w fun e w' => e = .returned (.bool true) ∧ Below w.heap.size w w' := by
  go_enter Tryz.func89, Tryz.ntmps89
  go_wp2
  refine wp_loop_rounds 1 ?_
  rw [rounds_succ]
  go_wp2_with (first
    | (go_at_call 98; refine (Tryz.slices_Clone_string_nil _ _ _).mono ?_; rintro e w' ⟨he, hw⟩; subst he; have hw := hw.symm; subst hw)
    | (go_at_call 99; refine (Tryz.slices_Sort_string_none _ _ _).mono ?_; rintro e w' ⟨he, hw⟩; subst he; have hw := hw.symm; subst hw))
  refine wp_loop_rounds 1 ?_
  rw [rounds_succ]
  go_wp2
  go_ret
  exact ⟨rfl, Below.refl _ _⟩

set_option maxHeartbeats 1000000 in
theorem allNames_zero (a : Addr) (c : Nat) (w : World) :
    Calls Tryz.prog 89 #[.slice (some a) 0 c] w fun e w' => e = .returned (.bool true) ∧ Below w.heap.size w w' := by
  go_enter Tryz.func89, Tryz.ntmps89
  go_wp2
  refine wp_loop_rounds 1 ?_
  rw [rounds_succ]
  go_wp2_with (first
    | (go_at_call 98; refine (clone_some a 0 c [] _ ⟨rfl, .inl rfl⟩ (by decide)).mono ?_; rintro e w' ⟨g, cap, cur, he, h1, h2, h3, h4, h5, h6, hb⟩; subst he)
    | (go_at_call 99; refine (Tryz.slices_Sort_string_none _ _ _).mono ?_; rintro e w' ⟨he, hw⟩; subst he; have hw := hw.symm; subst hw))
  refine wp_loop_rounds 1 ?_
  rw [rounds_succ]
  go_wp2
  go_ret
  exact ⟨rfl, hb⟩

set_option maxHeartbeats 2000000 in
theorem allNames_some (b off n c : Nat) (zs : List ByteArray) (w : World) (hz : zs.length = n) (h0 : 0 < n) (hn : n ≤ 1024) (hc : ∀ j, j < n → w.cell? ⟨b, off + j, none⟩ = some (.string (zs.getD j ByteArray.empty))) :
    Calls Tryz.prog 89 #[.slice (some ⟨b, off, none⟩) n c] w fun e w' => e = .returned (.bool (allB zs)) ∧ Below w.heap.size w w' := by
  have HC : Hid (∀ j, j < n → w.cell? ⟨b, off + j, none⟩ = some (.string (zs.getD j ByteArray.empty))) := hc
  have HZ : Hid (zs.length = n) := hz
  clear hc hz
  go_enter Tryz.func89, Tryz.ntmps89
  go_wp2
  go_loop [9] (fun i => ∃ k : Nat, k ≤ n ∧ i = .int .i64 k ∧ Hid (∀ j, j < k → nameB (zs.getD j ByteArray.empty) = true)) (fun i => n - (intOf i).toNat)
  case atStart => exact ⟨0, by omega, rfl, fun j h => by omega⟩
  case round =>
    obtain ⟨k, hk, rfl, hok⟩ := hrel
    by_cases hlt : k < n
    · have hlt' : (k : Int) < n := by omega
      have hck := HC.out k hlt
      cases hnm : nameB (zs.getD k ByteArray.empty) with
      | true =>
        have N : Hid (nameB (zs.getD k ByteArray.empty) = true) := hnm
        have hok' : Hid (∀ j, j < k + 1 → nameB (zs.getD j ByteArray.empty) = true) := fun j hj => by
          rcases Nat.lt_or_ge j k with h | h
          · exact hok.out j h
          · obtain rfl : j = k := by omega
            exact hnm
        clear hnm hok
        obtain ⟨s, hs⟩ : ∃ s, s = zs.getD k ByteArray.empty := ⟨_, rfl⟩
        rw [← hs] at hck N
        clear hs
        go_wp2_with (go_at_call 97; refine (name_any _ _).mono ?_; rintro e w' ⟨he, hw⟩; subst he; have hw := hw.symm; subst hw; rw [N.out])
        go_round
        case rel => exact ⟨k + 1, by omega, by go_num, hok'⟩
        case measure => simp [intOf]; omega
      | false =>
        have N : Hid (nameB (zs.getD k ByteArray.empty) = false) := hnm
        have A : Hid (allB zs = false) := allB_bad k (by have := HZ.out; omega) hnm
        clear hnm hok
        obtain ⟨s, hs⟩ : ∃ s, s = zs.getD k ByteArray.empty := ⟨_, rfl⟩
        rw [← hs] at hck N
        clear hs
        go_wp2_with (go_at_call 97; refine (name_any _ _).mono ?_; rintro e w' ⟨he, hw⟩; subst he; have hw := hw.symm; subst hw; rw [N.out])
        go_ret
        exact ⟨by rw [A.out]; rfl, Below.refl _ _⟩
    · have hall : Hid (zs.all nameB = true) := all_names (fun j hj => hok.out j (by have := HZ.out; omega))
      clear hok
      go_wp2_with fail
      refine (clone_some _ _ _ zs _ ⟨HZ.out, .inr ⟨b, off, rfl, HC.out⟩⟩ hn).mono ?_
      rintro e w1 ⟨g, cap, cur, he, h1, h2, h3, h4, h5, h6, hb⟩
      subst he
      have S : Hid (Calls Tryz.prog 99 #[.slice (some ⟨g, 0, none⟩) n cap] w1 fun e w' => e = .returned (.tuple #[]) ∧ (∀ j, j < n → w'.cell? ⟨g, j, none⟩ = some (.string ((sortF zs).getD j ByteArray.empty))) ∧ Below w.heap.size w w') :=
        sort_own w.heap.size g cap n zs w w1 cur HZ.out hn h2 h1 h3 h4 h5 h6 hb
      clear h1 h2 h5 h6 hb
      go_wp2_with (go_at_call 99; refine S.out.mono ?_; rintro e w2 ⟨he, hcs, hb2⟩; subst he)
      have HS : Hid (∀ j, j < n → w2.cell? ⟨g, j, none⟩ = some (.string ((sortF zs).getD j ByteArray.empty))) := hcs
      clear hcs S HC
      unfold maxLen at h4
      go_loopw [6] (fun i wr => ∃ k m : Nat, k + 1 ≤ n ∧ i = .int .i64 (k + 1) ∧ wr = w2.drewN m ∧ Hid (∀ j, j < k → (((sortF zs).getD (j + 1) ByteArray.empty).toList == ((sortF zs).getD j ByteArray.empty).toList) = false)) (fun i _ => n - (intOf i).toNat)
      case atStart => exact ⟨0, 0, by omega, rfl, rfl, fun j h => by omega⟩
      case round =>
        obtain ⟨k, m, hk, rfl, rfl, hne⟩ := hrel
        by_cases hlt : k + 1 < n
        · have hlt' : (k : Int) + 1 < n := by omega
          have c1 := HS.out (k + 1) hlt
          have c2 := HS.out k (by omega)
          cases heq : (((sortF zs).getD (k + 1) ByteArray.empty).toList == ((sortF zs).getD k ByteArray.empty).toList) with
          | true =>
            have A : Hid (allB zs = false) := allB_twice k (by have := HZ.out; omega) heq
            obtain ⟨x, hx⟩ : ∃ s, s = (sortF zs).getD (k + 1) ByteArray.empty := ⟨_, rfl⟩
            obtain ⟨y, hy⟩ : ∃ s, s = (sortF zs).getD k ByteArray.empty := ⟨_, rfl⟩
            rw [← hx] at c1 heq
            rw [← hy] at c2 heq
            clear hx hy hne
            go_wp2
            go_quiet (fail)
            go_wp2
            go_ret
            exact ⟨by rw [A.out]; rfl, below_drewN (below_drewN hb2 _) _⟩
          | false =>
            have hne' : Hid (∀ j, j < k + 1 → (((sortF zs).getD (j + 1) ByteArray.empty).toList == ((sortF zs).getD j ByteArray.empty).toList) = false) := fun j hj => by
              rcases Nat.lt_or_ge j k with h | h
              · exact hne.out j h
              · obtain rfl : j = k := by omega
                exact heq
            obtain ⟨x, hx⟩ : ∃ s, s = (sortF zs).getD (k + 1) ByteArray.empty := ⟨_, rfl⟩
            obtain ⟨y, hy⟩ : ∃ s, s = (sortF zs).getD k ByteArray.empty := ⟨_, rfl⟩
            rw [← hx] at c1 heq
            rw [← hy] at c2 heq
            clear hx hy hne
            go_wp2
            go_quiet (fail)
            go_wp2
            go_roundw
            case rel => exact ⟨k + 1, _, by omega, by go_num, rfl, hne'⟩
            case measure => simp [intOf]; omega
        · have A : Hid (allB zs = true) := allB_good hall.out (fun j hj => hne.out j (by have := HZ.out; omega))
          go_wp2
          go_ret
          exact ⟨by rw [A.out]; rfl, below_drewN hb2 _⟩

theorem allNames_any (a : Option Addr) (n c : Nat) (zs : List ByteArray) (w : World) (h : Strs w a n zs) (hn : n ≤ 1024) :
    Calls Tryz.prog 89 #[.slice a n c] w fun e w' => e = .returned (.bool (allB zs)) ∧ Below w.heap.size w w' := by
  obtain ⟨hz, h⟩ := h
  rcases h with h0 | ⟨b, off, rfl, hc⟩
  · subst h0
    obtain rfl : zs = [] := List.eq_nil_of_length_eq_zero hz
    rw [allB_nil]
    cases a with
    | none => exact allNames_nil c w
    | some x => exact allNames_zero x c w
  · rcases Nat.eq_zero_or_pos n with h0 | h0
    · subst h0
      obtain rfl : zs = [] := List.eq_nil_of_length_eq_zero hz
      rw [allB_nil]
      exact allNames_zero _ c w
    · exact allNames_some b off n c zs w hz h0 hn hc
end Go.Proofs.YtnjpblmplneojaaGreatDoor.Colour
/- intSize of package colour: a contract of the call, over the turned program. -/
namespace Go.Proofs.YtnjpblmplneojaaGreatDoor.Colour
open Go.RowKit
set_option linter.unusedVariables false
def intSizeF (lo hi : Int) : Int := if hi < lo ∨ 1024 ≤ hi - lo then 0 else hi - lo + 1

set_option maxHeartbeats 400000 in
theorem intSize_any (lo hi : Int) (w : World) (a1 : -9223372036854775808 ≤ lo) (a2 : lo ≤ 9223372036854775807) (b1 : -9223372036854775808 ≤ hi) (b2 : hi ≤ 9223372036854775807) :
    Calls Tryz.prog 96 #[.int .i64 lo, .int .i64 hi] w fun e w' => e = .returned (.int .i64 (intSizeF lo hi)) ∧ w' = w := by
  by_cases h : hi < lo
  · go_enter Tryz.func96, Tryz.ntmps96
    go_wp2
    go_ret
    exact ⟨reti (by unfold intSizeF; rw [if_pos (.inl h)]), rfl⟩
  · have h' : lo ≤ hi := by omega
    have hw : IntKind.u64.wrap (IntKind.u64.wrap hi - IntKind.u64.wrap lo) = hi - lo := by
      simp only [IntKind.wrap_u64]; omega
    by_cases h2 : 1024 ≤ hi - lo
    · go_enter Tryz.func96, Tryz.ntmps96
      go_wp2
      go_ret
      exact ⟨reti (by unfold intSizeF; rw [if_pos (.inr h2)]), rfl⟩
    · have h3 : hi - lo < 1024 := by omega
      go_enter Tryz.func96, Tryz.ntmps96
      go_wp2
      go_ret
      exact ⟨reti (by unfold intSizeF; rw [if_neg (by omega)]), rfl⟩
end Go.Proofs.YtnjpblmplneojaaGreatDoor.Colour
