/- Right of package bag and of the document's own: contracts of the calls, over the turned program. -/
import Derived.Test.YtnjpblmplneojaaGreatDoorBagMem
import Derived.Deep.QuietTactic
import Derived.BigQuiet
namespace Go.Proofs.YtnjpblmplneojaaGreatDoor.Bag
open Go.RowKit Go.Proofs.YtnjpblmplneojaaGreatDoor.Frame
set_option linter.unusedVariables false

set_option maxHeartbeats 1000000 in
theorem right_any (a : Option Addr) (len cap : Nat) (rs : List Row) (w : World) (h : Bags w a len rs) (hl : len ≤ 1000000) :
    Calls Tryz.prog 22 #[.slice a len cap] w fun e w' => e = .returned (.bool (rightB rs)) ∧ Below w.heap.size w w' := by
  have HC : Hid (Bags w a len rs) := h
  clear h
  go_enter Tryz.func22, Tryz.ntmps22
  go_wp2
  go_loopw [7] (fun i wr => ∃ k : Nat, k ≤ len ∧ i = .int .i64 k ∧ Hid (∀ j, j < k → goodAt rs j) ∧ Below w.heap.size w wr) (fun i _ => len - (intOf i).toNat)
  case atStart => exact ⟨0, by omega, rfl, fun j h => by omega, Below.refl _ _⟩
  case round =>
    obtain ⟨k, hk, rfl, hok, hnx⟩ := hrel
    by_cases hlt : k < len
    · have hlt' : (k : Int) < len := by omega
      obtain ⟨b, off, ha, hat⟩ : ∃ b off, a = some ⟨b, off, none⟩ ∧ At wr b off rs := by
        rcases (HC.out.below hnx).2 with h0 | ⟨b, off, ha, hc⟩
        · omega
        · exact ⟨b, off, ha, hc⟩
      subst ha
      have hlen := HC.out.1.1
      obtain ⟨c0, c1⟩ := hat k (by omega)
      have hbl : b < wr.heap.size := World.block_lt_of_cell? wr _ c0
      obtain ⟨m, hm⟩ : ∃ m, m = (rs.getD k zr).1 := ⟨_, rfl⟩
      obtain ⟨c, hc⟩ : ∃ c, c = (rs.getD k zr).2 := ⟨_, rfl⟩
      rw [← hm] at c0
      rw [← hc] at c1
      have HM : Hid (m = (rs.getD k zr).1) := hm
      have HN : Hid (c = (rs.getD k zr).2) := hc
      have HL : Hid (rs.length = len) := hlen
      have BAD : Hid ((m < 0 ∨ c < 1 ∨ 1048576 < c) → rightB rs = false) := fun h => rightB_bad (j := k) (by rw [HL.out]; exact hlt) (fun g => by have := g.1; rw [← HM.out, ← HN.out] at this; omega)
      clear hm hc hlen
      by_cases h1 : m < 0
      · have N := BAD.out (.inl h1)
        have N : Hid (rightB rs = false) := N
        clear hat
        go_wp2
        go_ret
        exact ⟨by rw [N.out]; rfl, hnx.alloc hnx.size _⟩
      by_cases h2 : c < 1
      · have N : Hid (rightB rs = false) := BAD.out (.inr (.inl h2))
        clear hat
        go_wp2
        go_ret
        exact ⟨by rw [N.out]; rfl, hnx.alloc hnx.size _⟩
      by_cases h3 : 1048576 < c
      · have N : Hid (rightB rs = false) := BAD.out (.inr (.inr h3))
        clear hat
        go_wp2
        go_ret
        exact ⟨by rw [N.out]; rfl, hnx.alloc hnx.size _⟩
      clear BAD
      by_cases hk0 : k = 0
      · have hk0' : ¬ 0 < k := by omega
        have hok' : Hid (∀ j, j < k + 1 → goodAt rs j) := fun j hj => by
          obtain rfl : j = k := by omega
          exact ⟨by rw [← HM.out, ← HN.out]; omega, fun h => by omega⟩
        clear hat hk0
        go_wp2
        go_quiet (fail)
        go_wp2
        go_roundw
        case rel => exact ⟨k + 1, by omega, by go_num, hok', below_drewN (hnx.alloc hnx.size _) _⟩
        case measure => simp [intOf]; omega
      · have hk0' : 0 < k := by omega
        have hlk : (k : Int) - 1 < len := by omega
        have hlk0 : ¬ (k : Int) - 1 < 0 := by omega
        obtain ⟨p0, p1⟩ := hat (k - 1) (by rw [HL.out]; omega)
        obtain ⟨q, hq⟩ : ∃ q, q = (rs.getD (k - 1) zr).1 := ⟨_, rfl⟩
        rw [← hq] at p0
        have HQ : Hid (q = (rs.getD (k - 1) zr).1) := hq
        clear hat p1 hq
        by_cases hle : m ≤ q
        · have N : Hid (rightB rs = false) := rightB_bad (j := k) (by rw [HL.out]; exact hlt) (fun g => by have := g.2 (by omega); rw [← HM.out, ← HQ.out] at this; omega)
          go_wp2
          go_quiet (fail)
          go_wp2
          go_ret
          exact ⟨by rw [N.out]; rfl, below_drewN (hnx.alloc hnx.size _) _⟩
        · have hok' : Hid (∀ j, j < k + 1 → goodAt rs j) := fun j hj => by
            rcases Nat.lt_or_ge j k with h | h
            · exact hok.out j h
            · obtain rfl : j = k := by omega
              exact ⟨by rw [← HM.out, ← HN.out]; omega, fun h => by rw [← HM.out, ← HQ.out]; omega⟩
          go_wp2
          go_quiet (fail)
          go_wp2
          go_roundw
          case rel => exact ⟨k + 1, by omega, by go_num, hok', below_drewN (hnx.alloc hnx.size _) _⟩
          case measure => simp [intOf]; omega
    · have N : Hid (rightB rs = true) := rightB_good fun j hj => hok.out j (by have := HC.out.1.1; omega)
      go_wp2
      go_ret
      exact ⟨by rw [N.out]; rfl, hnx⟩
end Go.Proofs.YtnjpblmplneojaaGreatDoor.Bag
