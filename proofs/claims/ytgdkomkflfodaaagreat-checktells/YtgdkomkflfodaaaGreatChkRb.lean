/- The document's own Right of bags (out of layer 3's texts): a contract of the call, over the turned program. -/
import Derived.Test.YtgdkomkflfodaaaGreatMaG
namespace Go.Proofs.YtgdkomkflfodaaaGreat.Bag
open Go.RowKit Go.Proofs.YtgdkomkflfodaaaGreat.Frame
set_option linter.unusedVariables false

set_option maxHeartbeats 2000000 in
theorem rright_q (a : Option Addr) (len cap : Nat) (rs : List Row) (w : World) (h : Bags w a len rs) (hl : len ≤ 1000000) :
    Calls Tryz.prog 45 #[.slice a len cap] w fun e w' => e = .returned (.bool (rightB rs)) ∧ ∃ n, w' = w.drewN n := by
  have HC : Hid (Bags w a len rs) := h
  have HL : Hid (rs.length = len) := h.1.1
  clear h
  go_enter Tryz.func45, Tryz.ntmps45
  go_wp2
  go_loopw [3] (fun i wr => ∃ k n : Nat, k ≤ len ∧ i = .int .i64 k ∧ Hid (∀ j, j < k → goodAt rs j) ∧ wr = w.drewN n) (fun i _ => len - (intOf i).toNat)
  case atStart => exact ⟨0, 0, by omega, rfl, fun j h => by omega, rfl⟩
  case round =>
    obtain ⟨k, n, hk, rfl, hok, rfl⟩ := hrel
    by_cases hlt : k < len
    · have hlt' : (k : Int) < len := by omega
      obtain ⟨b, off, ha, hbl, hat⟩ := HC.out.row (k := k) hlt
      subst ha
      obtain ⟨c0, c1⟩ := hat k (by rw [HL.out]; exact hlt)
      obtain ⟨m, hm⟩ : ∃ m, m = (rs.getD k zr).1 := ⟨_, rfl⟩
      obtain ⟨c, hc⟩ : ∃ c, c = (rs.getD k zr).2 := ⟨_, rfl⟩
      rw [← hm] at c0
      rw [← hc] at c1
      have HM : Hid (m = (rs.getD k zr).1) := hm
      have HN : Hid (c = (rs.getD k zr).2) := hc
      have BAD : Hid ((m < 0 ∨ c < 1 ∨ 1048576 < c) → rightB rs = false) := fun h => rightB_bad (j := k) (by rw [HL.out]; exact hlt) (fun g => by have := g.1; rw [← HM.out, ← HN.out] at this; omega)
      clear hm hc
      by_cases h1 : m < 0
      · have N : Hid (rightB rs = false) := BAD.out (.inl h1)
        clear hat BAD
        go_wp2
        go_quiet (fail)
        go_wp2
        go_ret
        exact ⟨by rw [N.out]; rfl, _, World.drewN_drewN _ _ _⟩
      have h1' : decide (m < 0) = false := decide_eq_false h1
      by_cases h2 : c < 1
      · have N : Hid (rightB rs = false) := BAD.out (.inr (.inl h2))
        clear hat BAD h1
        go_wp2
        go_quiet (fail)
        go_wp2
        go_ret
        exact ⟨by rw [N.out]; rfl, _, World.drewN_drewN _ _ _⟩
      have h2' : decide (c < 1) = false := decide_eq_false h2
      by_cases h3 : 1048576 < c
      · have N : Hid (rightB rs = false) := BAD.out (.inr (.inr h3))
        clear hat BAD h1 h2
        go_wp2
        go_quiet (fail)
        go_wp2
        go_ret
        exact ⟨by rw [N.out]; rfl, _, World.drewN_drewN _ _ _⟩
      have h3' : decide (1048576 < c) = false := decide_eq_false h3
      clear BAD
      by_cases hk0 : k = 0
      · have hk0' : decide (0 < k) = false := decide_eq_false (by omega)
        have hok' : Hid (∀ j, j < k + 1 → goodAt rs j) := fun j hj => by
          obtain rfl : j = k := by omega
          exact ⟨by rw [← HM.out, ← HN.out]; omega, fun h => by omega⟩
        clear hat hk0 h1 h2 h3
        go_wp2
        go_quiet (fail)
        go_wp2
        go_roundw
        case rel => exact ⟨k + 1, _, by omega, by go_num, hok', rfl⟩
        case measure => simp [intOf]; omega
      · have hk0' : 0 < k := by omega
        have hlk : (k : Int) - 1 < len := by omega
        have hlk0 : ¬ (k : Int) - 1 < 0 := by omega
        obtain ⟨p0, p1⟩ := hat (k - 1) (by rw [HL.out]; omega)
        obtain ⟨q, hq⟩ : ∃ q, q = (rs.getD (k - 1) zr).1 := ⟨_, rfl⟩
        rw [← hq] at p0
        have HQ : Hid (q = (rs.getD (k - 1) zr).1) := hq
        clear hat p1 hq
        by_cases hle : m ≤ q
        · have N : Hid (rightB rs = false) := rightB_bad (j := k) (by rw [HL.out]; exact hlt) (fun g => by have := g.2 (by omega); rw [← HM.out, ← HQ.out] at this; omega)
          clear h1 h2 h3 hk0
          go_wp2
          go_quiet (fail)
          go_wp2
          go_ret
          exact ⟨by rw [N.out]; rfl, _, World.drewN_drewN _ _ _⟩
        · have hok' : Hid (∀ j, j < k + 1 → goodAt rs j) := fun j hj => by
            rcases Nat.lt_or_ge j k with h | h
            · exact hok.out j h
            · obtain rfl : j = k := by omega
              exact ⟨by rw [← HM.out, ← HN.out]; omega, fun h => by rw [← HM.out, ← HQ.out]; omega⟩
          have hle' : decide (m ≤ q) = false := decide_eq_false hle
          clear h1 h2 h3 hk0 hle
          go_wp2
          go_quiet (fail)
          go_wp2
          go_roundw
          case rel => exact ⟨k + 1, _, by omega, by go_num, hok', rfl⟩
          case measure => simp [intOf]; omega
    · have N : Hid (rightB rs = true) := rightB_good fun j hj => hok.out j (by have := HC.out.1.1; omega)
      go_wp2
      go_ret
      exact ⟨by rw [N.out]; rfl, _, rfl⟩
end Go.Proofs.YtgdkomkflfodaaaGreat.Bag
