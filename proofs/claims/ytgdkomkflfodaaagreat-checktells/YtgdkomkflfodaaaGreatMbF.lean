/- Contracts and plain mathematics, together: ExInts, ChkSom. -/
import Derived.Test.YtgdkomkflfodaaaGreatMaI
import Derived.Deep.QuietTactic
import Derived.BigQuiet
import Derived.Test.YtgdkomkflfodaaaGreatMbE
/- Numbers side by side (the document's own Ints): a contract, over the turned program. -/
namespace Go.Proofs.YtgdkomkflfodaaaGreat.Expr
open Go.RowKit Go.Proofs.YtgdkomkflfodaaaGreat.Frame
set_option linter.unusedVariables false
set_option linter.unusedSimpArgs false

theorem dn' {B : Nat} {a w : World} (h : Below B a w) (n : Nat) : Below B a (w.drewN n) := ⟨h.os, h.tape, h.output, h.size, h.block⟩
theorem list_ext_z {xs ys : List Int} (hl : xs.length = ys.length) (h : ∀ j, j < xs.length → xs.getD j 0 = ys.getD j 0) : xs = ys := by
  refine List.ext_getElem hl fun j h1 h2 => ?_
  have := h j h1
  rwa [List.getD_eq_getElem?_getD, List.getElem?_eq_getElem h1, List.getD_eq_getElem?_getD, List.getElem?_eq_getElem h2] at this
def eqI (xs ys : List Int) : Bool := decide (xs = ys)

set_option maxHeartbeats 1000000 in
theorem ints_any (a b : Option Addr) (la ca lb cb : Nat) (xs ys : List Int) (w : World) (ha : Nm w a la xs) (hb : Nm w b lb ys) (hla : la ≤ 1000000) (hlb : lb ≤ 1000000) :
    Calls Tryz.prog 22 #[.slice a la ca, .slice b lb cb] w fun e w' => e = .returned (.bool (eqI xs ys)) ∧ Below w.heap.size w w' := by
  have HA : Hid (Nm w a la xs) := ha
  have HB : Hid (Nm w b lb ys) := hb
  have LA : Hid (xs.length = la) := ha.1.1
  have LB : Hid (ys.length = lb) := hb.1.1
  clear ha hb
  by_cases hl : la = lb
  · subst hl
    go_enter Tryz.func22, Tryz.ntmps22
    go_wp2
    go_loopw [5] (fun i wr => ∃ k : Nat, k ≤ la ∧ i = .int .i64 k ∧ Hid (∀ j, j < k → xs.getD j 0 = ys.getD j 0) ∧ Below w.heap.size w wr) (fun i _ => la - (intOf i).toNat)
    case atStart => exact ⟨0, by omega, rfl, fun j h => by omega, Below.refl _ _⟩
    case round =>
      obtain ⟨k, hk, rfl, hok, hnx⟩ := hrel
      by_cases hlt : k < la
      · have hlt' : (k : Int) < la := by omega
        obtain ⟨b1, o1, h1, l1, c0⟩ := (HA.out.below hnx).at (i := k) hlt
        obtain ⟨b2, o2, h2, l2, d0⟩ := (HB.out.below hnx).at (i := k) hlt
        subst h1 h2
        obtain ⟨x, hx⟩ : ∃ x, x = xs.getD k 0 := ⟨_, rfl⟩
        obtain ⟨y, hy⟩ : ∃ y, y = ys.getD k 0 := ⟨_, rfl⟩
        have HX : Hid (x = xs.getD k 0) := hx
        have HY : Hid (y = ys.getD k 0) := hy
        rw [← hx] at c0
        rw [← hy] at d0
        clear hx hy
        cases hq : (x == y) with
        | true =>
          have hok' : Hid (∀ j, j < k + 1 → xs.getD j 0 = ys.getD j 0) := fun j hj => by
            rcases Nat.lt_or_ge j k with h | h
            · exact hok.out j h
            · obtain rfl : j = k := by omega
              rw [← HX.out, ← HY.out]; exact eq_of_beq hq
          go_wp2
          go_quiet (fail)
          go_wp2
          go_roundw
          case rel => exact ⟨k + 1, by omega, by go_num, hok', dn' hnx _⟩
          case measure => simp [intOf]; omega
        | false =>
          have E : Hid (eqI xs ys = false) := decide_eq_false fun e => by
            have : (x == y) = true := beq_iff_eq.2 (by rw [HX.out, HY.out, e])
            rw [hq] at this; cases this
          go_wp2
          go_quiet (fail)
          go_wp2
          go_ret
          exact ⟨by rw [E.out]; rfl, dn' hnx _⟩
      · have E : Hid (eqI xs ys = true) := decide_eq_true (list_ext_z (by rw [LA.out, LB.out]) fun j hj => hok.out j (by rw [LA.out] at hj; omega))
        go_wp2
        go_ret
        exact ⟨by rw [E.out]; rfl, hnx⟩
  · have hl' : ¬ (la : Int) = lb := by omega
    have E : Hid (eqI xs ys = false) := decide_eq_false fun e => hl (by rw [← LA.out, ← LB.out, e])
    go_enter Tryz.func22, Tryz.ntmps22
    go_wp2
    go_ret
    exact ⟨by rw [E.out]; rfl, Below.refl _ _⟩

theorem nm_one (w : World) (z : Int) (t : TypeId) (h : In64 z) : Nm (w.alloc (.cells #[.int .i64 z] t)) (some ⟨w.heap.size, 0, none⟩) 1 [z] := by
  refine ⟨⟨rfl, fun i hi => ?_⟩, .inr ⟨w.heap.size, 0, rfl, fun i hi => ?_⟩⟩
  · obtain rfl : i = 0 := by omega
    exact h
  · obtain rfl : i = 0 := by omega
    simp
theorem nm_nil (w : World) : Nm w none 0 [] := ⟨⟨rfl, fun i hi => by omega⟩, .inl rfl⟩
end Go.Proofs.YtgdkomkflfodaaaGreat.Expr
/- The laws' small net: a contract of the call, over the turned program. -/
namespace Go.Proofs.YtgdkomkflfodaaaGreat.Check
open Go.Proofs.YtgdkomkflfodaaaGreat.Dag Go.RowKit Go.Proofs.YtgdkomkflfodaaaGreat.Frame Go.Proofs.YtgdkomkflfodaaaGreat.Colour Go.Proofs.YtgdkomkflfodaaaGreat.Expr
set_option linter.unusedVariables false
set_option linter.unusedSimpArgs false

def somT (B : Nat) : Ta := ⟨⟨#[116]⟩, [⟨⟨#[120]⟩, 0⟩], some ⟨B + 1 + 1 + 1 + 1 + 1 + 1, 0, none⟩, 1, ⟨1, 1, []⟩, none, 0, 1, 1, [⟨0, ⟨2, 0, []⟩, none, 0⟩], some ⟨B + 1 + 1 + 1 + 1 + 1 + 1 + 1, 0, none⟩, 1, [⟨1, ⟨2, 0, []⟩, none, 0⟩], some ⟨B + 1 + 1 + 1 + 1 + 1 + 1 + 1 + 1, 0, none⟩, 1, [], none, 0, 0, 0, 0, 0⟩
def somN (B : Nat) (c : Int) : Ne := ⟨[⟨⟨#[110]⟩, 1, 0, 3, [], none, 0, 0, 0⟩], some ⟨B + 1 + 1 + 1, 0, none⟩, 1, [⟨⟨#[97]⟩, c, [(0, 2)], some ⟨B + 1 + 1 + 1 + 1, 0, none⟩, 1⟩, ⟨⟨#[98]⟩, 0, [], none, 0⟩, ⟨⟨#[99]⟩, 0, [], none, 0⟩], some ⟨B + 1 + 1 + 1 + 1 + 1, 0, none⟩, 3, [somT B], some ⟨B + 1 + 1 + 1 + 1 + 1 + 1 + 1 + 1 + 1, 0, none⟩, 1, 0, 1⟩
def SomM (B : Nat) (c : Int) (W : World) : Prop := W.rowIs (B + 1 + 1 + 1) 62 7 (fun j => (#[.string ⟨#[110]⟩, .int .i64 1, .int .i64 0, .int .i64 3, .slice none 0 0, .int .i64 0, .int .i64 0] : Array Value).getD j undef) ∧ W.rowIs (B + 1 + 1 + 1 + 1) 80 2 (fun j => (#[.int .i64 0, .int .i64 2] : Array Value).getD j undef) ∧ W.rowIs (B + 1 + 1 + 1 + 1 + 1) 45 9 (fun j => (#[.string ⟨#[97]⟩, .int .i64 c, .slice (some ⟨B + 1 + 1 + 1 + 1, 0, none⟩) 1 1, .string ⟨#[98]⟩, .int .i64 0, .slice none 0 0, .string ⟨#[99]⟩, .int .i64 0, .slice none 0 0] : Array Value).getD j undef) ∧ W.rowIs (B + 1 + 1 + 1 + 1 + 1 + 1) 56 2 (fun j => (#[.string ⟨#[120]⟩, .int .i64 0] : Array Value).getD j undef) ∧ W.rowIs (B + 1 + 1 + 1 + 1 + 1 + 1 + 1) 65 4 (fun j => (#[.int .i64 0, .int .i64 2, .int .i64 0, .slice none 0 0] : Array Value).getD j undef) ∧ W.rowIs (B + 1 + 1 + 1 + 1 + 1 + 1 + 1 + 1) 65 4 (fun j => (#[.int .i64 1, .int .i64 2, .int .i64 0, .slice none 0 0] : Array Value).getD j undef) ∧ W.rowIs (B + 1 + 1 + 1 + 1 + 1 + 1 + 1 + 1 + 1) 53 14 (fun j => (#[.string ⟨#[116]⟩, .slice (some ⟨B + 1 + 1 + 1 + 1 + 1 + 1, 0, none⟩) 1 1, .int .i64 1, .int .i64 1, .slice none 0 0, .int .i64 1, .int .i64 1, .slice (some ⟨B + 1 + 1 + 1 + 1 + 1 + 1 + 1, 0, none⟩) 1 1, .slice (some ⟨B + 1 + 1 + 1 + 1 + 1 + 1 + 1 + 1, 0, none⟩) 1 1, .slice none 0 0, .int .i64 0, .int .i64 0, .int .i64 0, .int .i64 0] : Array Value).getD j undef)
theorem SomM.below {B : Nat} {c : Int} {W W' : World} (h : SomM B c W) (hb : Below W.heap.size W W') : SomM B c W' := by
  obtain ⟨h3, h4, h5, h6, h7, h8, h9⟩ := h
  exact ⟨rowIs_below h3 hb, rowIs_below h4 hb, rowIs_below h5 hb, rowIs_below h6 hb, rowIs_below h7 hb, rowIs_below h8 hb, rowIs_below h9 hb⟩
theorem SomM.store {B : Nat} {c : Int} {W : World} (h : SomM B c W) (c' : Int) : SomM B c' (W.setCell ⟨B + 1 + 1 + 1 + 1 + 1, 1, none⟩ (.int .i64 c')) := by
  obtain ⟨h3, h4, h5, h6, h7, h8, h9⟩ := h
  refine ⟨h3.setOther (by show _ ≠ B + 1 + 1 + 1 + 1 + 1; omega) _, h4.setOther (by show _ ≠ B + 1 + 1 + 1 + 1 + 1; omega) _, ?_, h6.setOther (by show _ ≠ B + 1 + 1 + 1 + 1 + 1; omega) _, h7.setOther (by show _ ≠ B + 1 + 1 + 1 + 1 + 1; omega) _, h8.setOther (by show _ ≠ B + 1 + 1 + 1 + 1 + 1; omega) _, h9.setOther (by show _ ≠ B + 1 + 1 + 1 + 1 + 1; omega) _⟩
  refine (h5.set 1 _).congr fun j hj => ?_
  match j, hj with
  | 0, _ => rfl
  | 1, _ => rfl
  | 2, _ => rfl
  | 3, _ => rfl
  | 4, _ => rfl
  | 5, _ => rfl
  | 6, _ => rfl
  | 7, _ => rfl
  | 8, _ => rfl
  | j + 9, hj => omega
theorem SomM.ok {B : Nat} {c : Int} {W : World} (h : SomM B c W) (hc : In64 c) : NeOk W (somN B c) := by
  obtain ⟨h3, h4, h5, h6, h7, h8, h9⟩ := h
  have i0 : In64 0 := by unfold In64; omega
  have i1 : In64 1 := by unfold In64; omega
  have i2 : In64 2 := by unfold In64; omega
  have xk : ∀ (k n : Int) (a : Option Addr), In64 k → In64 n → X W ⟨k, n, []⟩ a := fun k n a hk hn => (xg_eq _ W k n [] a).2 ⟨⟨hk, hn⟩, .inl rfl⟩
  refine ⟨⟨⟨i0, i1⟩, Nat.le_refl _, Nat.le_refl _⟩, ⟨rfl, .inr ⟨_, 0, rfl, fun i hi => ?_⟩⟩, .inr ⟨_, 0, rfl, fun i hi => ?_⟩, .inr ⟨_, 0, rfl, fun i hi => ?_⟩⟩
  · match i, hi with
    | 0, _ => exact ⟨⟨h3.cell (i := 0) (by decide), h3.cell (i := 1) (by decide), h3.cell (i := 2) (by decide), h3.cell (i := 3) (by decide), h3.cell (i := 4) (by decide), h3.cell (i := 5) (by decide), h3.cell (i := 6) (by decide)⟩, ⟨rfl, .inl rfl⟩, ⟨i0, by unfold In64 at *; show _ ≤ (3 : Int) ∧ (3 : Int) ≤ _; omega⟩⟩
  · match i, hi with
    | 0, _ => exact ⟨(fun j v hv => by
        match j, hv with
        | 0, hv => cases hv; exact h5.cell (i := 0) (by decide)
        | 1, hv => cases hv; exact h5.cell (i := 1) (by decide)
        | 2, hv => cases hv; exact h5.cell (i := 2) (by decide)
        | j + 3, hv => cases hv), hc, ⟨rfl, fun i hi => by match i, hi with | 0, _ => exact ⟨i0, i2⟩⟩, .inr ⟨_, 0, rfl, fun i hi => by match i, hi with | 0, _ => exact ⟨h4.cell (i := 0) (by decide), h4.cell (i := 1) (by decide)⟩⟩⟩
    | 1, _ => exact ⟨(fun j v hv => by
        match j, hv with
        | 0, hv => cases hv; exact h5.cell (i := 3) (by decide)
        | 1, hv => cases hv; exact h5.cell (i := 4) (by decide)
        | 2, hv => cases hv; exact h5.cell (i := 5) (by decide)
        | j + 3, hv => cases hv), i0, ⟨rfl, fun i hi => by cases hi⟩, .inl rfl⟩
    | 2, _ => exact ⟨(fun j v hv => by
        match j, hv with
        | 0, hv => cases hv; exact h5.cell (i := 6) (by decide)
        | 1, hv => cases hv; exact h5.cell (i := 7) (by decide)
        | 2, hv => cases hv; exact h5.cell (i := 8) (by decide)
        | j + 3, hv => cases hv), i0, ⟨rfl, fun i hi => by cases hi⟩, .inl rfl⟩
  · match i, hi with
    | 0, _ =>
      refine ⟨(fun j v hv => by
        match j, hv with
        | 0, hv => cases hv; exact h9.cell (i := 0) (by decide)
        | 1, hv => cases hv; exact h9.cell (i := 1) (by decide)
        | 2, hv => cases hv; exact h9.cell (i := 2) (by decide)
        | 3, hv => cases hv; exact h9.cell (i := 3) (by decide)
        | 4, hv => cases hv; exact h9.cell (i := 4) (by decide)
        | 5, hv => cases hv; exact h9.cell (i := 5) (by decide)
        | 6, hv => cases hv; exact h9.cell (i := 6) (by decide)
        | 7, hv => cases hv; exact h9.cell (i := 7) (by decide)
        | 8, hv => cases hv; exact h9.cell (i := 8) (by decide)
        | 9, hv => cases hv; exact h9.cell (i := 9) (by decide)
        | 10, hv => cases hv; exact h9.cell (i := 10) (by decide)
        | 11, hv => cases hv; exact h9.cell (i := 11) (by decide)
        | 12, hv => cases hv; exact h9.cell (i := 12) (by decide)
        | 13, hv => cases hv; exact h9.cell (i := 13) (by decide)
        | j + 14, hv => cases hv), ⟨⟨i1, i1, i0, i0, i0, i0⟩, Nat.le_refl _⟩, xk 1 1 _ i1 i1, .inr ⟨_, 0, rfl, fun i hi => ?_⟩, .inr ⟨_, 0, rfl, fun i hi => ?_⟩, .inr ⟨_, 0, rfl, fun i hi => ?_⟩, .inl rfl⟩
      · match i, hi with
        | 0, _ => exact ⟨(fun j v hv => by
        match j, hv with
        | 0, hv => cases hv; exact h6.cell (i := 0) (by decide)
        | 1, hv => cases hv; exact h6.cell (i := 1) (by decide)
        | j + 2, hv => cases hv), i0⟩
      · match i, hi with
        | 0, _ => exact ⟨(fun j v hv => by
        match j, hv with
        | 0, hv => cases hv; exact h7.cell (i := 0) (by decide)
        | 1, hv => cases hv; exact h7.cell (i := 1) (by decide)
        | 2, hv => cases hv; exact h7.cell (i := 2) (by decide)
        | 3, hv => cases hv; exact h7.cell (i := 3) (by decide)
        | j + 4, hv => cases hv), i0, xk 2 0 _ i2 i0⟩
      · match i, hi with
        | 0, _ => exact ⟨(fun j v hv => by
        match j, hv with
        | 0, hv => cases hv; exact h8.cell (i := 0) (by decide)
        | 1, hv => cases hv; exact h8.cell (i := 1) (by decide)
        | 2, hv => cases hv; exact h8.cell (i := 2) (by decide)
        | 3, hv => cases hv; exact h8.cell (i := 3) (by decide)
        | j + 4, hv => cases hv), i1, xk 2 0 _ i2 i0⟩
theorem som_world (w : World) : ∃ W, Below w.heap.size w W ∧ SomM w.heap.size 0 W ∧ W = ((((((((((w.alloc (.cells #[.slice (some ⟨w.heap.size + 1 + 1 + 1, 0, none⟩) 1 1, .slice (some ⟨w.heap.size + 1 + 1 + 1 + 1 + 1, 0, none⟩) 3 3, .slice (some ⟨w.heap.size + 1 + 1 + 1 + 1 + 1 + 1 + 1 + 1 + 1, 0, none⟩) 1 1, .int .i64 0, .int .i64 1] 26)).alloc (.cells #[.int .i64 2, .int .i64 0, .slice none 0 0] 49)).alloc (.cells #[.int .i64 1, .int .i64 1, .slice none 0 0] 49)).alloc (.cells #[.string ⟨#[110]⟩, .int .i64 1, .int .i64 0, .int .i64 3, .slice none 0 0, .int .i64 0, .int .i64 0] 62)).alloc (.cells #[.int .i64 0, .int .i64 2] 80)).alloc (.cells #[.string ⟨#[97]⟩, .int .i64 0, .slice (some ⟨w.heap.size + 1 + 1 + 1 + 1, 0, none⟩) 1 1, .string ⟨#[98]⟩, .int .i64 0, .slice none 0 0, .string ⟨#[99]⟩, .int .i64 0, .slice none 0 0] 45)).alloc (.cells #[.string ⟨#[120]⟩, .int .i64 0] 56)).alloc (.cells #[.int .i64 0, .int .i64 2, .int .i64 0, .slice none 0 0] 65)).alloc (.cells #[.int .i64 1, .int .i64 2, .int .i64 0, .slice none 0 0] 65)).alloc (.cells #[.string ⟨#[116]⟩, .slice (some ⟨w.heap.size + 1 + 1 + 1 + 1 + 1 + 1, 0, none⟩) 1 1, .int .i64 1, .int .i64 1, .slice none 0 0, .int .i64 1, .int .i64 1, .slice (some ⟨w.heap.size + 1 + 1 + 1 + 1 + 1 + 1 + 1, 0, none⟩) 1 1, .slice (some ⟨w.heap.size + 1 + 1 + 1 + 1 + 1 + 1 + 1 + 1, 0, none⟩) 1 1, .slice none 0 0, .int .i64 0, .int .i64 0, .int .i64 0, .int .i64 0] 53)) := by
  obtain ⟨w0, e0⟩ : ∃ W, W = w.alloc (.cells #[.slice (some ⟨w.heap.size + 1 + 1 + 1, 0, none⟩) 1 1, .slice (some ⟨w.heap.size + 1 + 1 + 1 + 1 + 1, 0, none⟩) 3 3, .slice (some ⟨w.heap.size + 1 + 1 + 1 + 1 + 1 + 1 + 1 + 1 + 1, 0, none⟩) 1 1, .int .i64 0, .int .i64 1] 26) := ⟨_, rfl⟩
  have s0 : w0.heap.size = w.heap.size + 1 := by rw [e0]; simp
  have b0 : Below w.heap.size w w0 := by rw [e0]; exact (Below.refl _ _).alloc (Nat.le_refl _) _
  obtain ⟨w1, e1⟩ : ∃ W, W = w0.alloc (.cells #[.int .i64 2, .int .i64 0, .slice none 0 0] 49) := ⟨_, rfl⟩
  have s1 : w1.heap.size = w.heap.size + 1 + 1 := by rw [e1]; simp; rw [s0]
  have b1 : Below w0.heap.size w0 w1 := by rw [e1]; exact (Below.refl _ _).alloc (Nat.le_refl _) _
  obtain ⟨w2, e2⟩ : ∃ W, W = w1.alloc (.cells #[.int .i64 1, .int .i64 1, .slice none 0 0] 49) := ⟨_, rfl⟩
  have s2 : w2.heap.size = w.heap.size + 1 + 1 + 1 := by rw [e2]; simp; rw [s1]
  have b2 : Below w1.heap.size w1 w2 := by rw [e2]; exact (Below.refl _ _).alloc (Nat.le_refl _) _
  obtain ⟨w3, e3⟩ : ∃ W, W = w2.alloc (.cells #[.string ⟨#[110]⟩, .int .i64 1, .int .i64 0, .int .i64 3, .slice none 0 0, .int .i64 0, .int .i64 0] 62) := ⟨_, rfl⟩
  have s3 : w3.heap.size = w.heap.size + 1 + 1 + 1 + 1 := by rw [e3]; simp; rw [s2]
  have b3 : Below w2.heap.size w2 w3 := by rw [e3]; exact (Below.refl _ _).alloc (Nat.le_refl _) _
  have r3 : w3.rowIs w2.heap.size 62 7 (fun j => (#[.string ⟨#[110]⟩, .int .i64 1, .int .i64 0, .int .i64 3, .slice none 0 0, .int .i64 0, .int .i64 0] : Array Value).getD j undef) := by
    rw [e3]
    exact World.rowIs_alloc w2 #[.string ⟨#[110]⟩, .int .i64 1, .int .i64 0, .int .i64 3, .slice none 0 0, .int .i64 0, .int .i64 0] _ _ fun i hi => by
      match i, hi with
      | 0, _ => rfl
      | 1, _ => rfl
      | 2, _ => rfl
      | 3, _ => rfl
      | 4, _ => rfl
      | 5, _ => rfl
      | 6, _ => rfl
      | i + 7, hi => exact absurd hi (by simp)
    
  rw [s2] at r3
  obtain ⟨w4, e4⟩ : ∃ W, W = w3.alloc (.cells #[.int .i64 0, .int .i64 2] 80) := ⟨_, rfl⟩
  have s4 : w4.heap.size = w.heap.size + 1 + 1 + 1 + 1 + 1 := by rw [e4]; simp; rw [s3]
  have b4 : Below w3.heap.size w3 w4 := by rw [e4]; exact (Below.refl _ _).alloc (Nat.le_refl _) _
  have r4 : w4.rowIs w3.heap.size 80 2 (fun j => (#[.int .i64 0, .int .i64 2] : Array Value).getD j undef) := by
    rw [e4]
    exact World.rowIs_alloc w3 #[.int .i64 0, .int .i64 2] _ _ fun i hi => by
      match i, hi with
      | 0, _ => rfl
      | 1, _ => rfl
      | i + 2, hi => exact absurd hi (by simp)
    
  rw [s3] at r4
  obtain ⟨w5, e5⟩ : ∃ W, W = w4.alloc (.cells #[.string ⟨#[97]⟩, .int .i64 0, .slice (some ⟨w.heap.size + 1 + 1 + 1 + 1, 0, none⟩) 1 1, .string ⟨#[98]⟩, .int .i64 0, .slice none 0 0, .string ⟨#[99]⟩, .int .i64 0, .slice none 0 0] 45) := ⟨_, rfl⟩
  have s5 : w5.heap.size = w.heap.size + 1 + 1 + 1 + 1 + 1 + 1 := by rw [e5]; simp; rw [s4]
  have b5 : Below w4.heap.size w4 w5 := by rw [e5]; exact (Below.refl _ _).alloc (Nat.le_refl _) _
  have r5 : w5.rowIs w4.heap.size 45 9 (fun j => (#[.string ⟨#[97]⟩, .int .i64 0, .slice (some ⟨w.heap.size + 1 + 1 + 1 + 1, 0, none⟩) 1 1, .string ⟨#[98]⟩, .int .i64 0, .slice none 0 0, .string ⟨#[99]⟩, .int .i64 0, .slice none 0 0] : Array Value).getD j undef) := by
    rw [e5]
    exact World.rowIs_alloc w4 #[.string ⟨#[97]⟩, .int .i64 0, .slice (some ⟨w.heap.size + 1 + 1 + 1 + 1, 0, none⟩) 1 1, .string ⟨#[98]⟩, .int .i64 0, .slice none 0 0, .string ⟨#[99]⟩, .int .i64 0, .slice none 0 0] _ _ fun i hi => by
      match i, hi with
      | 0, _ => rfl
      | 1, _ => rfl
      | 2, _ => rfl
      | 3, _ => rfl
      | 4, _ => rfl
      | 5, _ => rfl
      | 6, _ => rfl
      | 7, _ => rfl
      | 8, _ => rfl
      | i + 9, hi => exact absurd hi (by simp)
    
  rw [s4] at r5
  obtain ⟨w6, e6⟩ : ∃ W, W = w5.alloc (.cells #[.string ⟨#[120]⟩, .int .i64 0] 56) := ⟨_, rfl⟩
  have s6 : w6.heap.size = w.heap.size + 1 + 1 + 1 + 1 + 1 + 1 + 1 := by rw [e6]; simp; rw [s5]
  have b6 : Below w5.heap.size w5 w6 := by rw [e6]; exact (Below.refl _ _).alloc (Nat.le_refl _) _
  have r6 : w6.rowIs w5.heap.size 56 2 (fun j => (#[.string ⟨#[120]⟩, .int .i64 0] : Array Value).getD j undef) := by
    rw [e6]
    exact World.rowIs_alloc w5 #[.string ⟨#[120]⟩, .int .i64 0] _ _ fun i hi => by
      match i, hi with
      | 0, _ => rfl
      | 1, _ => rfl
      | i + 2, hi => exact absurd hi (by simp)
    
  rw [s5] at r6
  obtain ⟨w7, e7⟩ : ∃ W, W = w6.alloc (.cells #[.int .i64 0, .int .i64 2, .int .i64 0, .slice none 0 0] 65) := ⟨_, rfl⟩
  have s7 : w7.heap.size = w.heap.size + 1 + 1 + 1 + 1 + 1 + 1 + 1 + 1 := by rw [e7]; simp; rw [s6]
  have b7 : Below w6.heap.size w6 w7 := by rw [e7]; exact (Below.refl _ _).alloc (Nat.le_refl _) _
  have r7 : w7.rowIs w6.heap.size 65 4 (fun j => (#[.int .i64 0, .int .i64 2, .int .i64 0, .slice none 0 0] : Array Value).getD j undef) := by
    rw [e7]
    exact World.rowIs_alloc w6 #[.int .i64 0, .int .i64 2, .int .i64 0, .slice none 0 0] _ _ fun i hi => by
      match i, hi with
      | 0, _ => rfl
      | 1, _ => rfl
      | 2, _ => rfl
      | 3, _ => rfl
      | i + 4, hi => exact absurd hi (by simp)
    
  rw [s6] at r7
  obtain ⟨w8, e8⟩ : ∃ W, W = w7.alloc (.cells #[.int .i64 1, .int .i64 2, .int .i64 0, .slice none 0 0] 65) := ⟨_, rfl⟩
  have s8 : w8.heap.size = w.heap.size + 1 + 1 + 1 + 1 + 1 + 1 + 1 + 1 + 1 := by rw [e8]; simp; rw [s7]
  have b8 : Below w7.heap.size w7 w8 := by rw [e8]; exact (Below.refl _ _).alloc (Nat.le_refl _) _
  have r8 : w8.rowIs w7.heap.size 65 4 (fun j => (#[.int .i64 1, .int .i64 2, .int .i64 0, .slice none 0 0] : Array Value).getD j undef) := by
    rw [e8]
    exact World.rowIs_alloc w7 #[.int .i64 1, .int .i64 2, .int .i64 0, .slice none 0 0] _ _ fun i hi => by
      match i, hi with
      | 0, _ => rfl
      | 1, _ => rfl
      | 2, _ => rfl
      | 3, _ => rfl
      | i + 4, hi => exact absurd hi (by simp)
    
  rw [s7] at r8
  obtain ⟨w9, e9⟩ : ∃ W, W = w8.alloc (.cells #[.string ⟨#[116]⟩, .slice (some ⟨w.heap.size + 1 + 1 + 1 + 1 + 1 + 1, 0, none⟩) 1 1, .int .i64 1, .int .i64 1, .slice none 0 0, .int .i64 1, .int .i64 1, .slice (some ⟨w.heap.size + 1 + 1 + 1 + 1 + 1 + 1 + 1, 0, none⟩) 1 1, .slice (some ⟨w.heap.size + 1 + 1 + 1 + 1 + 1 + 1 + 1 + 1, 0, none⟩) 1 1, .slice none 0 0, .int .i64 0, .int .i64 0, .int .i64 0, .int .i64 0] 53) := ⟨_, rfl⟩
  have s9 : w9.heap.size = w.heap.size + 1 + 1 + 1 + 1 + 1 + 1 + 1 + 1 + 1 + 1 := by rw [e9]; simp; rw [s8]
  have b9 : Below w8.heap.size w8 w9 := by rw [e9]; exact (Below.refl _ _).alloc (Nat.le_refl _) _
  have r9 : w9.rowIs w8.heap.size 53 14 (fun j => (#[.string ⟨#[116]⟩, .slice (some ⟨w.heap.size + 1 + 1 + 1 + 1 + 1 + 1, 0, none⟩) 1 1, .int .i64 1, .int .i64 1, .slice none 0 0, .int .i64 1, .int .i64 1, .slice (some ⟨w.heap.size + 1 + 1 + 1 + 1 + 1 + 1 + 1, 0, none⟩) 1 1, .slice (some ⟨w.heap.size + 1 + 1 + 1 + 1 + 1 + 1 + 1 + 1, 0, none⟩) 1 1, .slice none 0 0, .int .i64 0, .int .i64 0, .int .i64 0, .int .i64 0] : Array Value).getD j undef) := by
    rw [e9]
    exact World.rowIs_alloc w8 #[.string ⟨#[116]⟩, .slice (some ⟨w.heap.size + 1 + 1 + 1 + 1 + 1 + 1, 0, none⟩) 1 1, .int .i64 1, .int .i64 1, .slice none 0 0, .int .i64 1, .int .i64 1, .slice (some ⟨w.heap.size + 1 + 1 + 1 + 1 + 1 + 1 + 1, 0, none⟩) 1 1, .slice (some ⟨w.heap.size + 1 + 1 + 1 + 1 + 1 + 1 + 1 + 1, 0, none⟩) 1 1, .slice none 0 0, .int .i64 0, .int .i64 0, .int .i64 0, .int .i64 0] _ _ fun i hi => by
      match i, hi with
      | 0, _ => rfl
      | 1, _ => rfl
      | 2, _ => rfl
      | 3, _ => rfl
      | 4, _ => rfl
      | 5, _ => rfl
      | 6, _ => rfl
      | 7, _ => rfl
      | 8, _ => rfl
      | 9, _ => rfl
      | 10, _ => rfl
      | 11, _ => rfl
      | 12, _ => rfl
      | 13, _ => rfl
      | i + 14, hi => exact absurd hi (by simp)
    
  rw [s8] at r9
  have r3 := rowIs_below r3 b4
  have r3 := rowIs_below r3 b5
  have r3 := rowIs_below r3 b6
  have r3 := rowIs_below r3 b7
  have r3 := rowIs_below r3 b8
  have r3 := rowIs_below r3 b9
  have r4 := rowIs_below r4 b5
  have r4 := rowIs_below r4 b6
  have r4 := rowIs_below r4 b7
  have r4 := rowIs_below r4 b8
  have r4 := rowIs_below r4 b9
  have r5 := rowIs_below r5 b6
  have r5 := rowIs_below r5 b7
  have r5 := rowIs_below r5 b8
  have r5 := rowIs_below r5 b9
  have r6 := rowIs_below r6 b7
  have r6 := rowIs_below r6 b8
  have r6 := rowIs_below r6 b9
  have r7 := rowIs_below r7 b8
  have r7 := rowIs_below r7 b9
  have r8 := rowIs_below r8 b9
  have bb := b0
  have bb := then_ bb b1
  have bb := then_ bb b2
  have bb := then_ bb b3
  have bb := then_ bb b4
  have bb := then_ bb b5
  have bb := then_ bb b6
  have bb := then_ bb b7
  have bb := then_ bb b8
  have bb := then_ bb b9
  refine ⟨w9, bb, ⟨r3, r4, r5, r6, r7, r8, r9⟩, ?_⟩
  rw [e9, e8, e7, e6, e5, e4, e3, e2, e1, e0]
set_option maxRecDepth 10000 in
theorem some_any (w : World) : Calls Tryz.prog 21 #[] w fun e w' => e = .returned (.agg (netC (somN w.heap.size 0))) ∧ SomM w.heap.size 0 w' ∧ Below w.heap.size w w' := by
  obtain ⟨W, hb, hm, hW⟩ := som_world w
  have HW : Hid (SomM w.heap.size 0 W ∧ Below w.heap.size w W ∧ W.cell? ⟨w.heap.size, 0, none⟩ = W.cell? ⟨w.heap.size, 0, none⟩) := ⟨hm, hb, rfl⟩
  clear hb hm
  go_enter Tryz.func21, Tryz.ntmps21
  go_wp2_with fail
  refine bodyPost_ret (v := .agg (netC (somN w.heap.size 0))) ?_ rfl ?_
  · simp [results, Tryz.results21, go_sem, netC, somN]
  · refine ⟨rfl, ?_⟩
    rw [← hW]
    exact ⟨HW.out.1, HW.out.2.1⟩
end Go.Proofs.YtgdkomkflfodaaaGreat.Check
