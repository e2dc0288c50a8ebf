/- Numbers side by side (the document's own Ints): a contract, over the turned program. -/
import Derived.Test.YtjcanodnlnodpaaGreatDoorMExMem
import Derived.Deep.QuietTactic
import Derived.BigQuiet
namespace Go.Proofs.YtjcanodnlnodpaaGreatDoor.Expr
open Go.RowKit Go.Proofs.YtjcanodnlnodpaaGreatDoor.Frame
set_option linter.unusedVariables false
set_option linter.unusedSimpArgs false

theorem dn' {B : Nat} {a w : World} (h : Below B a w) (n : Nat) : Below B a (w.drewN n) := ⟨h.os, h.tape, h.output, h.size, h.block⟩
theorem list_ext_z {xs ys : List Int} (hl : xs.length = ys.length) (h : ∀ j, j < xs.length → xs.getD j 0 = ys.getD j 0) : xs = ys := by
  refine List.ext_getElem hl fun j h1 h2 => ?_
  have := h j h1
  rwa [List.getD_eq_getElem?_getD, List.getElem?_eq_getElem h1, List.getD_eq_getElem?_getD, List.getElem?_eq_getElem h2] at this
def eqI (xs ys : List Int) : Bool := decide (xs = ys)

set_option maxHeartbeats 1000000 in
theorem ints_any (a b : Option Addr) (la ca lb cb : Nat) (xs ys : List Int) (w : World) (ha : Nm w a la xs) (hb : Nm w b lb ys) (hla : la ≤ 1000000) (hlb : lb ≤ 1000000) :
    Calls Tryz.prog 94 #[.slice a la ca, .slice b lb cb] w fun e w' => e = .returned (.bool (eqI xs ys)) ∧ Below w.heap.size w w' := by
  have HA : Hid (Nm w a la xs) := ha
  have HB : Hid (Nm w b lb ys) := hb
  have LA : Hid (xs.length = la) := ha.1.1
  have LB : Hid (ys.length = lb) := hb.1.1
  clear ha hb
  by_cases hl : la = lb
  · subst hl
    go_enter Tryz.func94, Tryz.ntmps94
    go_wp2
    go_loopw [5] (fun i wr => ∃ k : Nat, k ≤ la ∧ i = .int .i64 k ∧ Hid (∀ j, j < k → xs.getD j 0 = ys.getD j 0) ∧ Below w.heap.size w wr) (fun i _ => la - (intOf i).toNat)
    case atStart => exact ⟨0, by omega, rfl, fun j h => by omega, Below.refl _ _⟩
    case round =>
      obtain ⟨k, hk, rfl, hok, hnx⟩ := hrel
      by_cases hlt : k < la
      · have hlt' : (k : Int) < la := by omega
        obtain ⟨b1, o1, h1, l1, c0⟩ := (HA.out.below hnx).at (i := k) hlt
        obtain ⟨b2, o2, h2, l2, d0⟩ := (HB.out.below hnx).at (i := k) hlt
        subst h1 h2
        obtain ⟨x, hx⟩ : ∃ x, x = xs.getD k 0 := ⟨_, rfl⟩
        obtain ⟨y, hy⟩ : ∃ y, y = ys.getD k 0 := ⟨_, rfl⟩
        have HX : Hid (x = xs.getD k 0) := hx
        have HY : Hid (y = ys.getD k 0) := hy
        rw [← hx] at c0
        rw [← hy] at d0
        clear hx hy
        cases hq : (x == y) with
        | true =>
          have hok' : Hid (∀ j, j < k + 1 → xs.getD j 0 = ys.getD j 0) := fun j hj => by
            rcases Nat.lt_or_ge j k with h | h
            · exact hok.out j h
            · obtain rfl : j = k := by omega
              rw [← HX.out, ← HY.out]; exact eq_of_beq hq
          go_wp2
          go_quiet (fail)
          go_wp2
          go_roundw
          case rel => exact ⟨k + 1, by omega, by go_num, hok', dn' hnx _⟩
          case measure => simp [intOf]; omega
        | false =>
          have E : Hid (eqI xs ys = false) := decide_eq_false fun e => by
            have : (x == y) = true := beq_iff_eq.2 (by rw [HX.out, HY.out, e])
            rw [hq] at this; cases this
          go_wp2
          go_quiet (fail)
          go_wp2
          go_ret
          exact ⟨by rw [E.out]; rfl, dn' hnx _⟩
      · have E : Hid (eqI xs ys = true) := decide_eq_true (list_ext_z (by rw [LA.out, LB.out]) fun j hj => hok.out j (by rw [LA.out] at hj; omega))
        go_wp2
        go_ret
        exact ⟨by rw [E.out]; rfl, hnx⟩
  · have hl' : ¬ (la : Int) = lb := by omega
    have E : Hid (eqI xs ys = false) := decide_eq_false fun e => hl (by rw [← LA.out, ← LB.out, e])
    go_enter Tryz.func94, Tryz.ntmps94
    go_wp2
    go_ret
    exact ⟨by rw [E.out]; rfl, Below.refl _ _⟩

theorem nm_one (w : World) (z : Int) (t : TypeId) (h : In64 z) : Nm (w.alloc (.cells #[.int .i64 z] t)) (some ⟨w.heap.size, 0, none⟩) 1 [z] := by
  refine ⟨⟨rfl, fun i hi => ?_⟩, .inr ⟨w.heap.size, 0, rfl, fun i hi => ?_⟩⟩
  · obtain rfl : i = 0 := by omega
    exact h
  · obtain rfl : i = 0 := by omega
    simp
theorem nm_nil (w : World) : Nm w none 0 [] := ⟨⟨rfl, fun i hi => by omega⟩, .inl rfl⟩
end Go.Proofs.YtjcanodnlnodpaaGreatDoor.Expr
