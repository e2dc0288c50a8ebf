/- Rows held side by side: slices.Equal, and the document's own Rows and Ints: contracts of the calls, over the turned program. -/
import Derived.Test.YtoinepmlbcnbgaaBagTot
import Derived.ChangeKeysEq
namespace Go.Proofs.Ytoinepmlbcnbgaa.Bag
open Go.RowKit Go.Proofs.Ytoinepmlbcnbgaa.Frame
set_option linter.unusedVariables false

def rowEq (x c y d : Int) : Bool := x == y && c == d
theorem rowEq_iff {x c y d : Int} : rowEq x c y d = true ↔ (x, c) = (y, d) := by unfold rowEq; simp
theorem intInfo' : ∃ i, Try.prog.info? 3 = some i := Option.isSome_iff_exists.1 (by kernel_rfl)
theorem intCells : Try.prog.cellsOf 3 = 1 := by kernel_rfl
theorem eq_run (x c y d : Int) (w : World) : (Op.equalIn 10000 39 (.agg #[.int .i64 x, .int .i64 c]) (.agg #[.int .i64 y, .int .i64 d])).run Try.prog w = .ok (rowEq x c y d) w := by
  obtain ⟨i, hi⟩ := intInfo'
  rw [run_equalIn_array w 9999 _ _ Try.underlying39 hi, intCells]
  have p : ∀ (a b : Int) (j : Nat) (v : Value), (#[.int .i64 a, .int .i64 b] : Array Value)[j]? = some v → (part 3 #[.int .i64 a, .int .i64 b] j).run Try.prog w = .ok v w := fun a b j v h => by
    simp [part, isAgg, run_underlying Try.underlying3, h]
  have e : ∀ a b : Int, (Op.equalIn 9999 3 (.int .i64 a) (.int .i64 b)).run Try.prog w = .ok (a == b) w := fun a b => run_equalIn_int w 9998 3 .i64 .i64 a b Try.underlying3
  show (Op.eqItems 9999 3 1 _ _ [0, 1]).run Try.prog w = _
  have e1 := e x y
  have e2 := e c d
  have p1 := p x c 0 (.int .i64 x) rfl
  have p2 := p x c 1 (.int .i64 c) rfl
  have p3 := p y d 0 (.int .i64 y) rfl
  have p4 := p y d 1 (.int .i64 d) rfl
  clear e p
  unfold rowEq
  cases h1 : (x == y) <;> rw [h1] at e1 <;> cases h2 : (c == d) <;> rw [h2] at e2 <;> simp [Op.eqItems, p1, p2, p3, p4, e1, e2]

theorem list_ext {xs ys : List Row} (hl : xs.length = ys.length) (h : ∀ j, j < xs.length → xs.getD j zr = ys.getD j zr) : xs = ys := by
  refine List.ext_getElem hl fun j h1 h2 => ?_
  have := h j h1
  rwa [getD_get zr h1, getD_get zr h2] at this

def eqB (xs ys : List Row) : Bool := decide (xs = ys)

set_option maxHeartbeats 1000000 in
theorem equal_any (a b : Option Addr) (la ca lb cb : Nat) (xs ys : List Row) (w : World) (ha : Bags w a la xs) (hb : Bags w b lb ys) (hla : la ≤ 1000000) (hlb : lb ≤ 1000000) :
    Calls Try.prog 40 #[.slice a la ca, .slice b lb cb] w fun e w' => e = .returned (.bool (eqB xs ys)) ∧ Below w.heap.size w w' := by
  have HA : Hid (Bags w a la xs) := ha
  have HB : Hid (Bags w b lb ys) := hb
  have LA : Hid (xs.length = la) := ha.1.1
  have LB : Hid (ys.length = lb) := hb.1.1
  have he := eq_run
  clear ha hb
  by_cases hl : la = lb
  · subst hl
    go_enter Try.func40, Try.ntmps40
    go_wp2
    go_loopw [13] (fun i wr => ∃ k : Nat, k ≤ la ∧ i = .int .i64 k ∧ Hid (∀ j, j < k → xs.getD j zr = ys.getD j zr) ∧ Below w.heap.size w wr) (fun i _ => la - (intOf i).toNat)
    case atStart => exact ⟨0, by omega, rfl, fun j h => by omega, Below.refl _ _⟩
    case round =>
      obtain ⟨k, hk, rfl, hok, hnx⟩ := hrel
      by_cases hlt : k < la
      · have hlt' : (k : Int) < la := by omega
        obtain ⟨b1, o1, h1, l1, t1⟩ := (HA.out.below hnx).row (k := k) hlt
        obtain ⟨b2, o2, h2, l2, t2⟩ := (HB.out.below hnx).row (k := k) hlt
        subst h1 h2
        obtain ⟨c0, c1⟩ := t1 k (by rw [LA.out]; exact hlt)
        obtain ⟨d0, d1⟩ := t2 k (by rw [LB.out]; exact hlt)
        clear t1 t2
        obtain ⟨x, hx⟩ : ∃ x, x = xs.getD k zr := ⟨_, rfl⟩
        obtain ⟨y, hy⟩ : ∃ y, y = ys.getD k zr := ⟨_, rfl⟩
        have HX : Hid (x = xs.getD k zr) := hx
        have HY : Hid (y = ys.getD k zr) := hy
        rw [← hx] at c0 c1
        rw [← hy] at d0 d1
        clear hx hy
        obtain ⟨x1, x2⟩ := x
        obtain ⟨y1, y2⟩ := y
        simp only at c0 c1 d0 d1
        cases hq : rowEq x1 x2 y1 y2 with
        | true =>
          have hok' : Hid (∀ j, j < k + 1 → xs.getD j zr = ys.getD j zr) := fun j hj => by
            rcases Nat.lt_or_ge j k with h | h
            · exact hok.out j h
            · obtain rfl : j = k := by omega
              rw [← HX.out, ← HY.out]; exact rowEq_iff.1 hq
          go_wp2
          go_quiet (fail)
          go_wp2
          go_roundw
          case rel => exact ⟨k + 1, by omega, by go_num, hok', below_drewN hnx _⟩
          case measure => simp [intOf]; omega
        | false =>
          have E : Hid (eqB xs ys = false) := decide_eq_false fun e => by
            have : rowEq x1 x2 y1 y2 = true := rowEq_iff.2 (by rw [HX.out, HY.out, e])
            rw [hq] at this; cases this
          go_wp2
          go_quiet (fail)
          go_wp2
          go_ret
          exact ⟨by rw [E.out]; rfl, below_drewN hnx _⟩
      · have E : Hid (eqB xs ys = true) := decide_eq_true (list_ext (by rw [LA.out, LB.out]) fun j hj => hok.out j (by rw [LA.out] at hj; omega))
        go_wp2
        go_ret
        exact ⟨by rw [E.out]; rfl, hnx⟩
  · have hl' : ¬ (la : Int) = lb := by omega
    have E : Hid (eqB xs ys = false) := decide_eq_false fun e => hl (by rw [← LA.out, ← LB.out, e])
    go_enter Try.func40, Try.ntmps40
    go_wp2
    go_ret
    exact ⟨by rw [E.out]; rfl, Below.refl _ _⟩
set_option maxHeartbeats 1000000 in
theorem rows_any (a b : Option Addr) (la ca lb cb : Nat) (xs ys : List Row) (w : World) (ha : Bags w a la xs) (hb : Bags w b lb ys) (hla : la ≤ 1000000) (hlb : lb ≤ 1000000) :
    Calls Try.prog 16 #[.slice a la ca, .slice b lb cb] w fun e w' => e = .returned (.bool (eqB xs ys)) ∧ Below w.heap.size w w' := by
  have HA : Hid (Bags w a la xs) := ha
  have HB : Hid (Bags w b lb ys) := hb
  have LA : Hid (xs.length = la) := ha.1.1
  have LB : Hid (ys.length = lb) := hb.1.1
  have he := eq_run
  clear ha hb
  by_cases hl : la = lb
  · subst hl
    go_enter Try.func16, Try.ntmps16
    go_wp2
    go_loopw [5] (fun i wr => ∃ k : Nat, k ≤ la ∧ i = .int .i64 k ∧ Hid (∀ j, j < k → xs.getD j zr = ys.getD j zr) ∧ Below w.heap.size w wr) (fun i _ => la - (intOf i).toNat)
    case atStart => exact ⟨0, by omega, rfl, fun j h => by omega, Below.refl _ _⟩
    case round =>
      obtain ⟨k, hk, rfl, hok, hnx⟩ := hrel
      by_cases hlt : k < la
      · have hlt' : (k : Int) < la := by omega
        obtain ⟨b1, o1, h1, l1, t1⟩ := (HA.out.below hnx).row (k := k) hlt
        obtain ⟨b2, o2, h2, l2, t2⟩ := (HB.out.below hnx).row (k := k) hlt
        subst h1 h2
        obtain ⟨c0, c1⟩ := t1 k (by rw [LA.out]; exact hlt)
        obtain ⟨d0, d1⟩ := t2 k (by rw [LB.out]; exact hlt)
        clear t1 t2
        obtain ⟨x, hx⟩ : ∃ x, x = xs.getD k zr := ⟨_, rfl⟩
        obtain ⟨y, hy⟩ : ∃ y, y = ys.getD k zr := ⟨_, rfl⟩
        have HX : Hid (x = xs.getD k zr) := hx
        have HY : Hid (y = ys.getD k zr) := hy
        rw [← hx] at c0 c1
        rw [← hy] at d0 d1
        clear hx hy
        obtain ⟨x1, x2⟩ := x
        obtain ⟨y1, y2⟩ := y
        simp only at c0 c1 d0 d1
        cases hq : rowEq x1 x2 y1 y2 with
        | true =>
          have hok' : Hid (∀ j, j < k + 1 → xs.getD j zr = ys.getD j zr) := fun j hj => by
            rcases Nat.lt_or_ge j k with h | h
            · exact hok.out j h
            · obtain rfl : j = k := by omega
              rw [← HX.out, ← HY.out]; exact rowEq_iff.1 hq
          go_wp2
          go_quiet (fail)
          go_wp2
          go_roundw
          case rel => exact ⟨k + 1, by omega, by go_num, hok', below_drewN hnx _⟩
          case measure => simp [intOf]; omega
        | false =>
          have E : Hid (eqB xs ys = false) := decide_eq_false fun e => by
            have : rowEq x1 x2 y1 y2 = true := rowEq_iff.2 (by rw [HX.out, HY.out, e])
            rw [hq] at this; cases this
          go_wp2
          go_quiet (fail)
          go_wp2
          go_ret
          exact ⟨by rw [E.out]; rfl, below_drewN hnx _⟩
      · have E : Hid (eqB xs ys = true) := decide_eq_true (list_ext (by rw [LA.out, LB.out]) fun j hj => hok.out j (by rw [LA.out] at hj; omega))
        go_wp2
        go_ret
        exact ⟨by rw [E.out]; rfl, hnx⟩
  · have hl' : ¬ (la : Int) = lb := by omega
    have E : Hid (eqB xs ys = false) := decide_eq_false fun e => hl (by rw [← LA.out, ← LB.out, e])
    go_enter Try.func16, Try.ntmps16
    go_wp2
    go_ret
    exact ⟨by rw [E.out]; rfl, Below.refl _ _⟩
end Go.Proofs.Ytoinepmlbcnbgaa.Bag
