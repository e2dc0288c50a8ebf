/- What right colours' sizes are: the plain mathematics. -/
import Derived.Test.YtgdkomkflfodaaaGreatColSizes
namespace Go.Proofs.YtgdkomkflfodaaaGreat.Colour
set_option linter.unusedVariables false

theorem go_out : ∀ (l : List Col) (acc ns : List Int), goSizes l acc = some ns →
    ns.length = acc.length + l.length ∧ ns.take acc.length = acc ∧ ∀ i, i < l.length → ns.getD (acc.length + i) 0 = sizeOfF (l.getD i nilCol) (ns.take (acc.length + i)) ∧ 1 ≤ ns.getD (acc.length + i) 0 ∧ ns.getD (acc.length + i) 0 ≤ 1024
  | [], acc, ns, h => by
    simp only [goSizes, Option.some.injEq] at h
    subst h
    exact ⟨by simp, by simp, fun i hi => by simp at hi⟩
  | c :: r, acc, ns, h => by
    unfold goSizes at h
    split at h
    · cases h
    · rename_i hb
      obtain ⟨h1, h2, h3⟩ := go_out r _ ns h
      have hla : (acc ++ [sizeOfF c acc]).length = acc.length + 1 := by simp
      have hta : ns.take acc.length = acc := by
        have := congrArg (List.take acc.length) h2
        rw [List.take_take, hla, Nat.min_eq_left (by omega)] at this
        simpa using this
      have hat : ns.getD acc.length 0 = sizeOfF c acc := by
        have h4 : (ns.take (acc ++ [sizeOfF c acc]).length)[acc.length]? = some (sizeOfF c acc) := by rw [h2]; simp
        rw [List.getElem?_take_of_lt (by omega)] at h4
        rw [List.getD_eq_getElem?_getD, h4]; rfl
      refine ⟨by simp at h1 ⊢; omega, hta, fun i hi => ?_⟩
      cases i with
      | zero =>
        rw [Nat.add_zero, hta, hat]
        exact ⟨rfl, by omega, by omega⟩
      | succ i =>
        have := h3 i (by simpa using hi)
        rw [hla, show acc.length + 1 + i = acc.length + (i + 1) by omega] at this
        exact this

theorem sizesF_out {cs : List Col} {ns : List Int} (h : sizesF cs = some ns) :
    cs.length ≤ 32 ∧ ns.length = cs.length ∧ ∀ i, i < cs.length → ns.getD i 0 = sizeOfF (cs.getD i nilCol) (ns.take i) ∧ 1 ≤ ns.getD i 0 ∧ ns.getD i 0 ≤ 1024 := by
  unfold sizesF at h
  split at h
  · cases h
  · split at h
    · cases h
    · rename_i hl m hg
      split at h
      · cases h
        obtain ⟨h1, _, h3⟩ := go_out cs [] _ hg
        refine ⟨by omega, by simpa using h1, fun i hi => ?_⟩
        have := h3 i hi
        simpa using this
      · cases h

theorem getD_take {ns : List Int} {i j : Nat} (h : j < i) : (ns.take i).getD j 0 = ns.getD j 0 := by
  rw [List.getD_eq_getElem?_getD, List.getElem?_take_of_lt h, ← List.getD_eq_getElem?_getD]

/-- of a pair of right colours: where its parts are, and how great it is -/
theorem sizesF_pair {cs : List Col} {ns : List Int} (h : sizesF cs = some ns) (k : Nat) (hk : k < cs.length) (h3 : (cs.getD k nilCol).kind = 3) :
    ∃ p q : Nat, (cs.getD k nilCol).first = p ∧ (cs.getD k nilCol).thn = q ∧ p < k ∧ q < k ∧ ns.getD k 0 = ns.getD p 0 * ns.getD q 0 := by
  obtain ⟨_, hl, ha⟩ := sizesF_out h
  obtain ⟨he, h1, _⟩ := ha k hk
  generalize cs.getD k nilCol = c at *
  have ht : (ns.take k).length = k := by rw [List.length_take]; omega
  have e1 : ¬ c.kind = 1 := by omega
  have e2 : ¬ c.kind = 2 := by omega
  unfold sizeOfF at he
  rw [if_neg e1, if_neg e2, if_pos h3, ht] at he
  split at he
  · rename_i hw
    rw [Bool.and_eq_true] at hw
    obtain ⟨w1, w2⟩ := hw
    unfold withinB at w1 w2
    have w1 := of_decide_eq_true w1
    have w2 := of_decide_eq_true w2
    obtain ⟨p, hp⟩ := Int.eq_ofNat_of_zero_le w1.1
    obtain ⟨q, hq⟩ := Int.eq_ofNat_of_zero_le w2.1
    rw [hp, hq, Int.toNat_natCast, Int.toNat_natCast, getD_take (by omega), getD_take (by omega)] at he
    exact ⟨p, q, hp, hq, by omega, by omega, he⟩
  · omega

/-- how great the colour k is; 0, if there is none -/
def sizeF (cs : List Col) (k : Int) : Int :=
  match sizesF cs with
  | none => 0
  | some ns => if withinB k ns.length then ns.getD k.toNat 0 else 0
theorem sizeF_none {cs : List Col} (h : sizesF cs = none) (k : Int) : sizeF cs k = 0 := by unfold sizeF; rw [h]
theorem sizeF_out {cs : List Col} {ns : List Int} (h : sizesF cs = some ns) {k : Int} (hk : withinB k ns.length = false) : sizeF cs k = 0 := by unfold sizeF; rw [h]; simp only [hk]; rfl
theorem sizeF_in {cs : List Col} {ns : List Int} (h : sizesF cs = some ns) {k : Nat} (hk : k < ns.length) : sizeF cs k = ns.getD k 0 := by
  unfold sizeF; rw [h]; simp only [withinB_nat hk, Int.toNat_natCast]; rfl
end Go.Proofs.YtgdkomkflfodaaaGreat.Colour
