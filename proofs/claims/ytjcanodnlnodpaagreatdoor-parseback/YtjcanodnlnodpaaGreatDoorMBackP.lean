/- What the law of texts that are read back leans on: how long texts are, numbers, the two ways of writing side by side. No program stands in it, but how expressions lie. -/
import Derived.Test.YtjcanodnlnodpaaGreatDoorMText
import Derived.Test.YtjcanodnlnodpaaGreatDoorMGroP
namespace Go.Proofs.YtjcanodnlnodpaaGreatDoor.Parse
open Go.RowKit Go.Proofs.YtjcanodnlnodpaaGreatDoor.Frame Go.Proofs.YtjcanodnlnodpaaGreatDoor.Token Go.Proofs.YtjcanodnlnodpaaGreatDoor.Expr Go.Proofs.YtjcanodnlnodpaaGreatDoor.Calc
set_option linter.unusedVariables false
set_option linter.unusedSimpArgs false

theorem dec_pow : ∀ (k u : Nat), u < 10 ^ (k + 1) → (Lib.decDigits u).length ≤ k + 1 := by
  intro k
  induction k with
  | zero => intro u hu; rw [Lib.decDigits_one (by simpa using hu)]; simp
  | succ k ih =>
    intro u hu
    rw [Lib.decDigits]
    split
    · simp
    · have h1 : u / 10 < 10 ^ (k + 1) := by rw [Nat.pow_succ] at hu; omega
      have := ih _ h1
      simp only [List.length_append, List.length_cons, List.length_nil]
      omega
theorem itoa_len (n : Int) (h : In64 n) : (Lib.itoa n).length ≤ 20 := by
  have h1 := h.1
  have h2 := h.2
  have p : (10 : Nat) ^ 19 = 10000000000000000000 := by decide
  unfold Lib.itoa
  split
  · have := dec_pow 18 n.natAbs (by rw [p]; omega)
    simp only [List.length_cons]; omega
  · have := dec_pow 18 n.toNat (by rw [p]; omega)
    omega
theorem br_le (b : Bool) (l : List UInt8) : (br b l).length ≤ l.length + 2 := by cases b <;> simp [br]
theorem sign_len (op : Int) : (signF op).data.toList.length ≤ 2 := by
  unfold signF
  repeat' split
  all_goals simp
theorem text_len (names : List ByteArray) (hn : ∀ i, (names.getD i ByteArray.empty).data.toList.length ≤ 100) (w : World) : ∀ (t : Ex) (a : Option Addr), X w t a → (Expr.textF names t).length ≤ 110 * sizeF t := by
  refine Ex.ind fun k n ks ih a hx => ?_
  have hnum := itoa_len n hx.node.2
  have hk : ∀ i, i < ks.length → (Expr.textF names (ks.getD i nilEx)).length ≤ 110 * sizeF (ks.getD i nilEx) := fun i hi => by
    obtain ⟨b, off, x, ai, ci, _, _, hm, he, _, _, _, hxx⟩ := hx.kid hi
    rw [← he]; exact ih x hm ai hxx
  have h0 : ∀ i, ¬ i < ks.length → (Expr.textF names (ks.getD i nilEx)).length = 1 := fun i hi => by
    rw [show ks.getD i nilEx = nilEx by rw [List.getD_eq_getElem?_getD, List.getElem?_eq_none (by omega)]; rfl, Expr.text_nil]; rfl
  have key : (Expr.textF names (ks.getD 0 nilEx)).length + (Expr.textF names (ks.getD 1 nilEx)).length + (Expr.textF names (ks.getD 2 nilEx)).length ≤ 110 * sm (ks.map sizeF) + 3 := by
    match ks, hk, h0 with
    | [], hk, h0 =>
      have e0 := h0 0 (by simp); have e1 := h0 1 (by simp); have e2 := h0 2 (by simp)
      omega
    | [x], hk, h0 =>
      have e0 := hk 0 (by simp); have e1 := h0 1 (by simp); have e2 := h0 2 (by simp)
      simp only [List.map_cons, List.map_nil, sm, List.getD_cons_zero, List.getD_cons_succ] at e0 e1 e2 ⊢
      omega
    | [x, y], hk, h0 =>
      have e0 := hk 0 (by simp); have e1 := hk 1 (by simp); have e2 := h0 2 (by simp)
      simp only [List.map_cons, List.map_nil, sm, List.getD_cons_zero, List.getD_cons_succ] at e0 e1 e2 ⊢
      omega
    | x :: y :: z :: r, hk, h0 =>
      have e0 := hk 0 (by simp); have e1 := hk 1 (by simp); have e2 := hk 2 (by simp)
      simp only [List.map_cons, sm, List.getD_cons_zero, List.getD_cons_succ] at e0 e1 e2 ⊢
      omega
  rw [Expr.text_eq, Expr.size_eq]
  unfold textN
  rw [text_kid, text_kid, text_kid]
  have b0 := br_le (isBin (ks.getD 0 nilEx)) (Expr.textF names (ks.getD 0 nilEx))
  have b1 := br_le (isBin (ks.getD 0 nilEx) && decide (strengthF (ks.getD 0 nilEx).num < strengthF n)) (Expr.textF names (ks.getD 0 nilEx))
  have b2 := br_le (isBin (ks.getD 1 nilEx) && decide (strengthF (ks.getD 1 nilEx).num ≤ strengthF n)) (Expr.textF names (ks.getD 1 nilEx))
  have b3 := br_le (decide (n < 0)) (Lib.itoa n)
  have sg := sign_len n
  have nm := hn n.toNat
  split
  · omega
  split
  · split
    · simp only [List.length_cons, List.length_nil]; omega
    · omega
  split
  · simp only [List.length_cons]; omega
  split
  · simp only [List.length_cons]; omega
  split
  · simp only [List.length_append, List.length_cons, List.length_nil]; omega
  split
  · simp only [List.length_append, List.length_cons, List.length_nil]; omega
  · simp only [List.length_cons, List.length_nil]; omega

/- numbers, as they are written -/
theorem valL_snoc (c : UInt8) : ∀ (l : List UInt8) (a : Nat), valL a (l ++ [c]) = valL a l * 10 + (c.toNat - 48)
  | [], a => rfl
  | d :: l, a => valL_snoc c l (a * 10 + (d.toNat - 48))
theorem digit_nat {u : Nat} (h : u < 10) : (UInt8.ofNat (48 + u)).toNat = 48 + u := by
  rw [UInt8.toNat_ofNat']; omega
theorem dec_parts (u : Nat) : 0 < (Lib.decDigits u).length ∧ (Lib.decDigits u).all dig8 = true ∧ valL 0 (Lib.decDigits u) = u ∧ (1 ≤ u → ((Lib.decDigits u).headD 0).toNat ≠ 48) := by
  induction u using Nat.strongRecOn with
  | _ u ih =>
    by_cases h : u < 10
    · rw [Lib.decDigits_one h]
      have e := digit_nat h
      refine ⟨by simp, ?_, ?_, fun h1 => ?_⟩
      · simp only [List.all_cons, List.all_nil, Bool.and_true]
        unfold dig8 Colour.digB
        rw [e]; simp; omega
      · show 0 * 10 + ((UInt8.ofNat (48 + u)).toNat - 48) = u
        rw [e]; omega
      · show (UInt8.ofNat (48 + u)).toNat ≠ 48
        rw [e]; omega
    · obtain ⟨i1, i2, i3, i4⟩ := ih (u / 10) (by omega)
      have hm : u % 10 < 10 := Nat.mod_lt _ (by decide)
      have e := digit_nat hm
      rw [Lib.decDigits, dif_neg h]
      refine ⟨by simp, ?_, ?_, fun _ => ?_⟩
      · rw [List.all_append, i2]
        simp only [List.all_cons, List.all_nil, Bool.and_true, Bool.true_and]
        unfold dig8 Colour.digB
        rw [e]; simp; omega
      · rw [valL_snoc, i3, e]; omega
      · have := i4 (by omega)
        cases hd : Lib.decDigits (u / 10) with
        | nil => rw [hd] at i1; simp at i1
        | cons c l => rw [hd] at this; exact this
theorem itoa_num (n : Int) (h0 : 0 ≤ n) (h1 : n < 9223372036854775808) : numB (Lib.itoa n) = true ∧ (valL 0 (Lib.itoa n) : Int) = n := by
  unfold Lib.itoa
  rw [if_neg (by omega)]
  obtain ⟨d1, d2, d3, d4⟩ := dec_parts n.toNat
  refine ⟨?_, by rw [d3]; omega⟩
  unfold numB
  rw [d2, d3, decide_eq_true d1, decide_eq_true (show n.toNat < 9223372036854775808 by omega)]
  have hz : zero8 (Lib.decDigits n.toNat) = false := by
    unfold zero8
    by_cases hn : 1 ≤ n.toNat
    · have := d4 hn
      have hq : (((Lib.decDigits n.toNat).headD 0).toNat == 48) = false := beq_eq_false_iff_ne.2 this
      rw [hq, Bool.and_false]
    · have : n.toNat = 0 := by omega
      rw [this, Lib.decDigits_one (by decide)]; rfl
  rw [hz]; rfl
def xyz1 : List (List UInt8) := [[120], [121], [122, 49]]
def xyzB : List ByteArray := [⟨#[120]⟩, ⟨#[121]⟩, ⟨#[122, 49]⟩]
theorem xyz1_ok : ∀ i, i < xyz1.length → nameAt xyz1 (xyz1.getD i []) = some i ∧ wordB (xyz1.getD i []) = false ∧ nmB (xyz1.getD i []) = true := by
  intro i hi
  have hi : i < 3 := hi
  have : i = 0 ∨ i = 1 ∨ i = 2 := by omega
  rcases this with rfl | rfl | rfl <;> decide
theorem sgn_sign {n : Int} (h1 : 1 ≤ n) (h2 : n ≤ 11) : (signF n).data.toList = sgn n := by
  have : n = 1 ∨ n = 2 ∨ n = 3 ∨ n = 4 ∨ n = 5 ∨ n = 6 ∨ n = 7 ∨ n = 8 ∨ n = 9 ∨ n = 10 ∨ n = 11 := by omega
  rcases this with rfl | rfl | rfl | rfl | rfl | rfl | rfl | rfl | rfl | rfl | rfl <;> decide
theorem br_brX (b : Bool) (l : List UInt8) : br b l = brX b l := rfl
/-- both ways of writing tell the same -/
theorem txt_text : ∀ t : Ex, okE 3 t → txtF xyz1 Lib.itoa t = Expr.textF xyzB t := by
  refine Ex.ind fun k n ks ih h => ?_
  rw [ok_eq] at h
  obtain ⟨hn, hk⟩ := h
  have hK : ∀ x, x ∈ ks → txtF xyz1 Lib.itoa x = Expr.textF xyzB x := fun x hx => ih x hx (hk _ (List.mem_map_of_mem hx))
  rw [txt_eq, Expr.text_eq]
  unfold okN at hn
  rcases hn with ⟨rfl, hl, h0, h1⟩ | ⟨rfl, hl, h0, h1⟩ | ⟨hkk, hl⟩ | ⟨rfl, hl, h0, h1⟩ | ⟨rfl, hl⟩
  · unfold txtN textN
    rw [if_pos rfl, if_pos rfl, decide_eq_false (by omega)]; rfl
  · unfold txtN textN
    rw [if_neg (by decide), if_pos rfl, if_neg (by decide), if_pos rfl, if_neg (by show ¬ (n < 0 ∨ (3 : Int) ≤ n); omega)]
    have : n = 0 ∨ n = 1 ∨ n = 2 := by omega
    rcases this with rfl | rfl | rfl <;> rfl
  · match ks, hl, hK with
    | [x], _, hK =>
      have e := hK x (by simp)
      rcases hkk with rfl | rfl
      · show 45 :: brX (isBinX x) (txtF xyz1 Lib.itoa x) = 45 :: br (isBin x) (Expr.textF xyzB x)
        rw [e]; rfl
      · show 33 :: brX (isBinX x) (txtF xyz1 Lib.itoa x) = 33 :: br (isBin x) (Expr.textF xyzB x)
        rw [e]; rfl
  · match ks, hl, hK with
    | [x, y], _, hK =>
      have e := hK x (by simp)
      have f := hK y (by simp)
      show brX (isBinX x && decide (strengthF x.num < strengthF n)) (txtF xyz1 Lib.itoa x) ++ 32 :: (sgn n ++ 32 :: brX (isBinX y && decide (strengthF y.num ≤ strengthF n)) (txtF xyz1 Lib.itoa y)) = br (isBin x && decide (strengthF x.num < strengthF n)) (Expr.textF xyzB x) ++ [32] ++ (signF n).data.toList ++ [32] ++ br (isBin y && decide (strengthF y.num ≤ strengthF n)) (Expr.textF xyzB y)
      rw [e, f, sgn_sign h0 h1]
      simp [br_brX, isBin, isBinX]
  · match ks, hl, hK with
    | [x, y, z], _, hK =>
      have e := hK x (by simp)
      have f := hK y (by simp)
      have g := hK z (by simp)
      show [105, 102, 40] ++ txtF xyz1 Lib.itoa x ++ 44 :: 32 :: (txtF xyz1 Lib.itoa y ++ 44 :: 32 :: (txtF xyz1 Lib.itoa z ++ [41])) = [105, 102, 40] ++ Expr.textF xyzB x ++ [44, 32] ++ Expr.textF xyzB y ++ [44, 32] ++ Expr.textF xyzB z ++ [41]
      rw [e, f, g]
      simp
/-- are all numbers 0 at least? -/
def plainB : Ex → Bool := fold fun k n _ l => l.all id && (!(k == 1) || decide (0 ≤ n))
theorem plain_eq (k n : Int) (ks : List Ex) : plainB ⟨k, n, ks⟩ = (ks.all plainB && (!(k == 1) || decide (0 ≤ n))) := by
  unfold plainB
  rw [fold_eq, List.all_map]; rfl
theorem right_ok {w : World} : ∀ (t : Ex) (a : Option Addr), X w t a → partsB 3 t = true → plainB t = true → okE 3 t := by
  refine Ex.ind fun k n ks ih a hx hp hq => ?_
  have hnum := hx.node.2
  have hnode := parts_node hp
  rw [plain_eq, Bool.and_eq_true] at hq
  rw [ok_eq]
  refine ⟨?_, fun p hpm => ?_⟩
  · obtain ⟨-, hq⟩ := hq
    unfold nodeB at hnode
    unfold okN
    split at hnode
    · rename_i h1; subst h1
      have h3 : 0 ≤ n := by simpa using hq
      exact .inl ⟨rfl, of_decide_eq_true hnode, h3, by have := hnum.2; omega⟩
    split at hnode
    · rename_i h1 h2
      have := of_decide_eq_true hnode
      exact .inr (.inl ⟨h2, this.1, this.2.1, this.2.2⟩)
    split at hnode
    · rename_i h1 h2 h3
      exact .inr (.inr (.inl ⟨.inl h3, of_decide_eq_true hnode⟩))
    split at hnode
    · rename_i h1 h2 h3 h4
      exact .inr (.inr (.inl ⟨.inr h4, of_decide_eq_true hnode⟩))
    split at hnode
    · rename_i h1 h2 h3 h4 h5
      rw [Bool.and_eq_true] at hnode
      have hkn := hnode.2
      unfold knownB at hkn
      have hkn := of_decide_eq_true hkn
      exact .inr (.inr (.inr (.inl ⟨h5, of_decide_eq_true hnode.1, by omega, by omega⟩)))
    split at hnode
    · rename_i h1 h2 h3 h4 h5 h6
      exact .inr (.inr (.inr (.inr ⟨h6, of_decide_eq_true hnode⟩)))
    · cases hnode
  · obtain ⟨x, hx1, rfl⟩ := List.mem_map.1 hpm
    obtain ⟨i, hi, rfl⟩ := List.getElem_of_mem hx1
    obtain ⟨b, off, y, ai, ci, _, _, hm, he, _, _, _, hxx⟩ := hx.kid hi
    have e : ks[i] = y := by rw [he, List.getD_eq_getElem?_getD, List.getElem?_eq_getElem hi]; rfl
    rw [e]
    exact ih y hm ai hxx (parts_kid hp hm) (List.all_eq_true.1 hq.1 y hm)
end Go.Proofs.YtjcanodnlnodpaaGreatDoor.Parse
