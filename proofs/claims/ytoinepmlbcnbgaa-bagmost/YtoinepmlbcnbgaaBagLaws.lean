/- What the laws lean on: sums and what is left, in counts. The plain mathematics. -/
import Derived.Test.YtoinepmlbcnbgaaBagKnown
namespace Go.Proofs.Ytoinepmlbcnbgaa.Bag
set_option linter.unusedVariables false

theorem fits_iff {xs ys : List Row} (hx : RightP xs) (hy : RightP ys) : fitsB xs ys = true ↔ ∀ m, cntF xs m + cntF ys m ≤ 1048576 := by
  constructor
  · intro h m
    by_cases h0 : cntF xs m + cntF ys m = 0
    · omega
    · exact (fitsB_all hx hy h m h0).2.2
  · intro h
    refine fitsB_good fun k hk => ?_
    have := h (ys.getD k zr).1
    rwa [cnt_at hy hk] at this
theorem fits_turn {xs ys : List Row} (hx : RightP xs) (hy : RightP ys) : fitsB xs ys = fitsB ys xs := by
  rw [Bool.eq_iff_iff, fits_iff hx hy, fits_iff hy hx]
  exact forall_congr' fun m => by rw [Int.add_comm]
theorem sum_turn (xs ys : List Row) (m : Int) : sumC xs ys m = sumC ys xs m := by unfold sumC; omega
theorem same_of {c : Int → Int} {a b : List Row} (ha : Has c a) (hb : Has c b) : sameB a b = true := by
  unfold sameB
  rw [ha.uniq hb, rightB_iff.2 hb.1]; simp
theorem covers_iff {xs ys : List Row} (hx : RightP xs) (hy : RightP ys) : coversB xs ys = true ↔ ∀ m, cntF ys m ≤ cntF xs m := by rw [covers_within hx hy, within_iff hy hx]
theorem sum_covers {xs ys ss : List Row} (hx : RightP xs) (hy : RightP ys) (h : Has (sumC xs ys) ss) : coversB ss xs = true ∧ coversB ss ys = true :=
  ⟨(covers_iff h.1 hx).2 fun m => by have := h.2 m; unfold sumC at this; have := cntF_range hy m; omega, (covers_iff h.1 hy).2 fun m => by have := h.2 m; unfold sumC at this; have := cntF_range hx m; omega⟩
theorem less_sum_r {xs ys ss : List Row} (h : Has (sumC xs ys) ss) (m : Int) : lessC ss ys m = cntF xs m := by have := h.2 m; unfold sumC at this; unfold lessC; omega
theorem less_sum_l {xs ys ss : List Row} (h : Has (sumC xs ys) ss) (m : Int) : lessC ss xs m = cntF ys m := by have := h.2 m; unfold sumC at this; unfold lessC; omega
theorem compare_is {xs ys : List Row} (hx : RightP xs) (hy : RightP ys) : Cmp (cntF xs) (cntF ys) (compareB xs ys) := by
  rw [compareB_right (by rw [rightB_iff.2 hx, rightB_iff.2 hy]; rfl)]
  exact cmpF_cmp hx hy
theorem compare_range {xs ys : List Row} (hx : RightP xs) (hy : RightP ys) : -1 ≤ compareB xs ys ∧ compareB xs ys ≤ 1 := by
  rcases compare_is hx hy with ⟨h, _⟩ | ⟨h, _⟩ | ⟨h, _⟩ <;> omega
theorem compare_turn {xs ys : List Row} (hx : RightP xs) (hy : RightP ys) : compareB ys xs = -compareB xs ys := (compare_is hy hx).uniq (compare_is hx hy).turn
theorem compare_same {xs ys : List Row} (hx : RightP xs) (hy : RightP ys) : sameB xs ys = (compareB xs ys == 0) := by
  rw [Bool.eq_iff_iff, beq_iff_eq]
  constructor
  · intro h
    unfold sameB at h
    simp only [Bool.and_eq_true, decide_eq_true_eq] at h
    have := h.2
    subst this
    exact (compare_is hx hx).uniq (.inr (.inr ⟨rfl, fun _ => rfl⟩))
  · intro h
    rcases compare_is hx hy with ⟨h', _⟩ | ⟨h', _⟩ | ⟨_, g⟩
    · omega
    · omega
    · exact same_of (Has.self hx) ((Has.self hy).of fun m => (g m).symm)
theorem compare_within {xs ys : List Row} (hx : RightP xs) (hy : RightP ys) (h : withinB xs ys = true) : compareB xs ys ≤ 0 := by
  have hw := (within_iff hx hy).1 h
  rcases compare_is hx hy with ⟨_, m, _, g⟩ | ⟨h', _⟩ | ⟨h', _⟩
  · have := hw m; omega
  · omega
  · omega
theorem compare_trans {xs ys zs : List Row} (hx : RightP xs) (hy : RightP ys) (hz : RightP zs) (h : compareB xs ys < 0) (k : compareB ys zs < 0) : compareB xs zs < 0 := by
  have g1 : Gt (cntF ys) (cntF xs) := by rcases compare_is hx hy with ⟨h', _⟩ | ⟨_, g⟩ | ⟨h', _⟩; omega; exact g; omega
  have g2 : Gt (cntF zs) (cntF ys) := by rcases compare_is hy hz with ⟨h', _⟩ | ⟨_, g⟩ | ⟨h', _⟩; omega; exact g; omega
  have := (compare_is hx hz).uniq (.inr (.inl ⟨rfl, g2.trans g1⟩))
  omega
theorem within_sum {xs ys zs ss ts : List Row} (hx : RightP xs) (hy : RightP ys) (hs : Has (sumC xs zs) ss) (ht : Has (sumC ys zs) ts) : withinB ss ts = withinB xs ys := by
  rw [Bool.eq_iff_iff, within_iff hs.1 ht.1, within_iff hx hy]
  refine forall_congr' fun m => ?_
  have h1 := hs.2 m
  have h2 := ht.2 m
  unfold sumC at h1 h2
  omega
theorem compare_sum {xs ys zs ss ts : List Row} (hx : RightP xs) (hy : RightP ys) (hs : Has (sumC xs zs) ss) (ht : Has (sumC ys zs) ts) : compareB ss ts = compareB xs ys :=
  (compare_is hs.1 ht.1).uniq ((compare_is hx hy).shift.congr (fun m => (hs.2 m).symm) (fun m => (ht.2 m).symm))
end Go.Proofs.Ytoinepmlbcnbgaa.Bag
