/- How long an expression's text is. -/
import Derived.Test.YtnhhajbfohjlbaaGreatDoorExRText3
namespace Go.Proofs.YtnhhajbfohjlbaaGreatDoor.Expr
open Go.RowKit Go.Proofs.YtnhhajbfohjlbaaGreatDoor.Frame Go.Proofs.YtnhhajbfohjlbaaGreatDoor.Calc
set_option linter.unusedVariables false
set_option linter.unusedSimpArgs false

theorem dec_pow : ∀ (k u : Nat), u < 10 ^ (k + 1) → (Lib.decDigits u).length ≤ k + 1 := by
  intro k
  induction k with
  | zero => intro u hu; rw [Lib.decDigits_one (by simpa using hu)]; simp
  | succ k ih =>
    intro u hu
    rw [Lib.decDigits]
    split
    · simp
    · have h1 : u / 10 < 10 ^ (k + 1) := by rw [Nat.pow_succ] at hu; omega
      have := ih _ h1
      simp only [List.length_append, List.length_cons, List.length_nil]
      omega
theorem itoa_len (n : Int) (h : In64 n) : (Lib.itoa n).length ≤ 20 := by
  have h1 := h.1
  have h2 := h.2
  have p : (10 : Nat) ^ 19 = 10000000000000000000 := by decide
  unfold Lib.itoa
  split
  · have := dec_pow 18 n.natAbs (by rw [p]; omega)
    simp only [List.length_cons]; omega
  · have := dec_pow 18 n.toNat (by rw [p]; omega)
    omega
theorem br_le (b : Bool) (l : List UInt8) : (br b l).length ≤ l.length + 2 := by cases b <;> simp [br]
theorem sign_len (op : Int) : (signF op).data.toList.length ≤ 2 := by
  unfold signF
  repeat' split
  all_goals simp
theorem text_len (names : List ByteArray) (hn : ∀ i, (names.getD i ByteArray.empty).data.toList.length ≤ 100) (w : World) : ∀ (t : Ex) (a : Option Addr), X w t a → (textF names t).length ≤ 110 * sizeF t := by
  refine Ex.ind fun k n ks ih a hx => ?_
  have hnum := itoa_len n hx.node.2
  have hk : ∀ i, i < ks.length → (textF names (ks.getD i nilEx)).length ≤ 110 * sizeF (ks.getD i nilEx) := fun i hi => by
    obtain ⟨b, off, x, ai, ci, _, _, hm, he, _, _, _, hxx⟩ := hx.kid hi
    rw [← he]; exact ih x hm ai hxx
  have h0 : ∀ i, ¬ i < ks.length → (textF names (ks.getD i nilEx)).length = 1 := fun i hi => by
    rw [show ks.getD i nilEx = nilEx by rw [List.getD_eq_getElem?_getD, List.getElem?_eq_none (by omega)]; rfl, text_nil]; rfl
  have key : (textF names (ks.getD 0 nilEx)).length + (textF names (ks.getD 1 nilEx)).length + (textF names (ks.getD 2 nilEx)).length ≤ 110 * sm (ks.map sizeF) + 3 := by
    match ks, hk, h0 with
    | [], hk, h0 =>
      have e0 := h0 0 (by simp); have e1 := h0 1 (by simp); have e2 := h0 2 (by simp)
      omega
    | [x], hk, h0 =>
      have e0 := hk 0 (by simp); have e1 := h0 1 (by simp); have e2 := h0 2 (by simp)
      simp only [List.map_cons, List.map_nil, sm, List.getD_cons_zero, List.getD_cons_succ] at e0 e1 e2 ⊢
      omega
    | [x, y], hk, h0 =>
      have e0 := hk 0 (by simp); have e1 := hk 1 (by simp); have e2 := h0 2 (by simp)
      simp only [List.map_cons, List.map_nil, sm, List.getD_cons_zero, List.getD_cons_succ] at e0 e1 e2 ⊢
      omega
    | x :: y :: z :: r, hk, h0 =>
      have e0 := hk 0 (by simp); have e1 := hk 1 (by simp); have e2 := hk 2 (by simp)
      simp only [List.map_cons, sm, List.getD_cons_zero, List.getD_cons_succ] at e0 e1 e2 ⊢
      omega
  rw [text_eq, size_eq]
  unfold textN
  rw [text_kid, text_kid, text_kid]
  have b0 := br_le (isBin (ks.getD 0 nilEx)) (textF names (ks.getD 0 nilEx))
  have b1 := br_le (isBin (ks.getD 0 nilEx) && decide (strengthF (ks.getD 0 nilEx).num < strengthF n)) (textF names (ks.getD 0 nilEx))
  have b2 := br_le (isBin (ks.getD 1 nilEx) && decide (strengthF (ks.getD 1 nilEx).num ≤ strengthF n)) (textF names (ks.getD 1 nilEx))
  have b3 := br_le (decide (n < 0)) (Lib.itoa n)
  have sg := sign_len n
  have nm := hn n.toNat
  split
  · omega
  split
  · split
    · simp only [List.length_cons, List.length_nil]; omega
    · omega
  split
  · simp only [List.length_cons]; omega
  split
  · simp only [List.length_cons]; omega
  split
  · simp only [List.length_append, List.length_cons, List.length_nil]; omega
  split
  · simp only [List.length_append, List.length_cons, List.length_nil]; omega
  · simp only [List.length_cons, List.length_nil]; omega
end Go.Proofs.YtnhhajbfohjlbaaGreatDoor.Expr
