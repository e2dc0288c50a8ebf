/- held of package bag: a contract of the call, over the turned program. -/
import Derived.Test.YtoinepmlbcnbgaaBagBag
import Derived.Test.YtoinepmlbcnbgaaBagTot
namespace Go.Proofs.Ytoinepmlbcnbgaa.Bag
open Go.RowKit Go.Maps Go.Proofs.Ytoinepmlbcnbgaa.Frame
set_option linter.unusedVariables false

/-- a row put into a map of counts -/
theorem Cnts.put {w w1 : World} {B n : Nat} {c c' : Int → Int} {m z : Int} (h : Mp w1 B n (fun i => i == m || c i != 0) (setC c m z)) (hz : z ≠ 0) (e : ∀ x, setC c m z x = c' x) : Cnts w1 B n c' :=
  Mp.congr h (fun x => by
    rw [← e x]
    unfold setC
    by_cases hx : x = m
    · rw [if_pos hx]; simp [hx, hz]
    · rw [if_neg hx]; simp [hx]) e

theorem makeMap_run (n : Int) (w : World) : (Instr.makeMap 44 (some (.int .i64 n))).run Try.prog w = .ok (.map (some w.heap.size)) (w.alloc (.map #[] 0)) := by
  simp only [Instr.makeMap, Sem.run_bind, run_underlying Try.underlying44, Result.andThen_ok]
  rfl

set_option maxHeartbeats 1000000 in
theorem held_any (a : Option Addr) (len cap : Nat) (rs : List Row) (w : World) (h : Bags w a len rs) (hr : RightP rs) (hl : len ≤ 1000000) :
    Calls Try.prog 39 #[.slice a len cap] w fun e w' => ∃ B, e = .returned (.map (some B)) ∧ (w.heap.size ≤ B ∧ Cnts w' B len (cntF rs)) ∧ Below w.heap.size w w' := by
  have HC : Hid (Bags w a len rs) := h
  have HR : Hid (RightP rs) := hr
  have HL : Hid (rs.length = len) := h.1.1
  clear h hr
  have hmm := makeMap_run
  go_enter Try.func39, Try.ntmps39
  go_wp2
  go_loopw [11] (fun i wr => ∃ k : Nat, k ≤ len ∧ i = .int .i64 k ∧ Hid (Cnts wr w.heap.size k (cntF (rs.take k))) ∧ Below w.heap.size w wr) (fun i _ => len - (intOf i).toNat)
  case atStart => exact ⟨0, by omega, rfl, (Cnts.made w : Cnts _ _ _ _), (Below.refl _ _).alloc (Nat.le_refl _) _⟩
  case round =>
    obtain ⟨k, hk, rfl, hM, hnx⟩ := hrel
    clear hmm
    by_cases hlt : k < len
    · have hlt' : (k : Int) < len := by omega
      obtain ⟨b, off, ha, hbl, hat⟩ := (HC.out.below hnx).row (k := k) hlt
      subst ha
      have hkl : k < rs.length := by rw [HL.out]; exact hlt
      obtain ⟨c0, c1⟩ := hat k hkl
      have hI := HC.out.1.2 k hkl
      have hG := (right_good HR.out hkl).1
      have hT := cnt_take HR.out hkl
      obtain ⟨m, hm⟩ : ∃ m, m = (rs.getD k zr).1 := ⟨_, rfl⟩
      obtain ⟨c, hc⟩ : ∃ c, c = (rs.getD k zr).2 := ⟨_, rfl⟩
      rw [← hm, ← hc] at hI hG
      simp only [← hm, ← hc] at hT
      rw [← hm] at c0
      rw [← hc] at c1
      have I : Hid (In64 m ∧ In64 c) := hI
      have G : Hid (c ≠ 0) := (show c ≠ 0 by omega)
      have T : Hid (∀ x, cntF (rs.take (k + 1)) x = if x = m then c else cntF (rs.take k) x) := hT
      clear hat hm hc hI hG hT hkl
      have hws := hnx.size
      go_wp2_with (first
        | (at_mapUpdate; refine wp_put _ rfl _ _ _ rfl w.heap.size k _ _ rfl (hM.out.alloc _) (by omega) m c rfl I.out.1 rfl I.out.2 ?_; intro w1 h1 hg1)
        | go_in)
      have N1 : Cnts w1 w.heap.size (k + 1) (cntF (rs.take (k + 1))) := Cnts.put (w := wr) h1 G.out (fun x => (T.out x).symm)
      have N2 : Below w.heap.size w w1 := (hnx.alloc hnx.size _).grown hg1 (by simp; omega) (fun i hi => by cases hi; exact Nat.le_refl _)
      go_roundw
      case rel => exact ⟨k + 1, by omega, by go_num, N1, N2⟩
      case measure => simp [intOf]; omega
    · obtain rfl : k = len := by omega
      have E : Hid (rs.take k = rs) := List.take_of_length_le (by rw [HL.out]; omega)
      go_wp2
      go_ret
      exact ⟨_, rfl, ⟨Nat.le_refl _, by have := hM.out; rw [E.out] at this; exact this⟩, hnx⟩
end Go.Proofs.Ytoinepmlbcnbgaa.Bag
