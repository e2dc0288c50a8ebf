/- Contracts and plain mathematics, together: MarkPlain, MarkByte, MarkMem. -/
import Derived.Test.YtnjpblmplneojaaGreatDoorBagPlain
import Derived.Test.YtnjpblmplneojaaGreatDoorMaK
import Derived.Test.YtnjpblmplneojaaGreatDoorMaJ
import Derived.Test.YtnjpblmplneojaaGreatDoorBagMem
/- Markings, in plain Lean: what is alike, within, more; their bytes, read back. -/
namespace Go.Proofs.YtnjpblmplneojaaGreatDoor.Mark
open Go.Proofs.YtnjpblmplneojaaGreatDoor.Bag
set_option linter.unusedVariables false

abbrev Mk := List (List Row)
def at_ (m : Mk) (i : Nat) : List Row := m.getD i []
theorem at_mem {m : Mk} {i : Nat} (h : i < m.length) : at_ m i ∈ m := by
  unfold at_; rw [List.getD_eq_getElem?_getD, List.getElem?_eq_getElem h]; exact List.getElem_mem _
theorem at_get {m : Mk} {i : Nat} (h : i < m.length) : at_ m i = m[i] := by
  unfold at_; rw [List.getD_eq_getElem?_getD, List.getElem?_eq_getElem h]; rfl
theorem ext_at {a b : Mk} (hl : a.length = b.length) (h : ∀ i, i < a.length → at_ a i = at_ b i) : a = b := by
  refine List.ext_getElem hl fun i h1 h2 => ?_
  have := h i h1
  rwa [at_get h1, at_get h2] at this
def RightM (m : Mk) : Prop := ∀ x, x ∈ m → RightP x
/-- both as many bags, and f of each two -/
def twoB (f : List Row → List Row → Bool) (a b : Mk) : Bool := decide (a.length = b.length) && (List.range a.length).all fun i => f (at_ a i) (at_ b i)
theorem two_len {f : List Row → List Row → Bool} {a b : Mk} (h : a.length ≠ b.length) : twoB f a b = false := by unfold twoB; rw [decide_eq_false h]; rfl
theorem two_no {f : List Row → List Row → Bool} {a b : Mk} {i : Nat} (hi : i < a.length) (h : f (at_ a i) (at_ b i) = false) : twoB f a b = false := by
  unfold twoB
  have : ((List.range a.length).all fun i => f (at_ a i) (at_ b i)) = false := by
    rw [List.all_eq_false]
    exact ⟨i, List.mem_range.2 hi, by rw [h]; simp⟩
  rw [this, Bool.and_false]
theorem two_iff {f : List Row → List Row → Bool} {a b : Mk} : twoB f a b = true ↔ a.length = b.length ∧ ∀ i, i < a.length → f (at_ a i) (at_ b i) = true := by
  unfold twoB
  rw [Bool.and_eq_true, decide_eq_true_eq, List.all_eq_true]
  exact ⟨fun h => ⟨h.1, fun i hi => h.2 i (List.mem_range.2 hi)⟩, fun h => ⟨h.1, fun i hi => h.2 i (List.mem_range.1 hi)⟩⟩
def sameM (a b : Mk) : Bool := twoB sameB a b
def withinM (a b : Mk) : Bool := twoB withinB a b
theorem sameB_iff {a b : List Row} : sameB a b = true ↔ RightP a ∧ a = b := by
  unfold sameB
  rw [Bool.and_eq_true, Bool.and_eq_true, rightB_iff, rightB_iff, decide_eq_true_eq]
  exact ⟨fun h => ⟨h.1.1, h.2⟩, fun h => ⟨⟨h.1, h.2 ▸ h.1⟩, h.2⟩⟩
theorem sameM_iff {a b : Mk} : sameM a b = true ↔ RightM a ∧ a = b := by
  unfold sameM
  rw [two_iff]
  constructor
  · rintro ⟨hl, h⟩
    refine ⟨fun x hx => ?_, ext_at hl fun i hi => (sameB_iff.1 (h i hi)).2⟩
    obtain ⟨i, hi, rfl⟩ := List.getElem_of_mem hx
    have := (sameB_iff.1 (h i hi)).1
    rwa [at_get hi] at this
  · rintro ⟨hr, rfl⟩
    exact ⟨rfl, fun i hi => sameB_iff.2 ⟨hr _ (at_mem hi), rfl⟩⟩
/-- the first that is not 0 -/
def fz : List Int → Int
  | [] => 0
  | e :: r => if e = 0 then fz r else e
theorem fz_at {es : List Int} {k : Nat} (hk : k < es.length) (h0 : ∀ j, j < k → es.getD j 0 = 0) (h : es.getD k 0 ≠ 0) : fz es = es.getD k 0 := by
  induction es generalizing k with
  | nil => simp at hk
  | cons e r ih =>
    cases k with
    | zero => simp at h ⊢; unfold fz; rw [if_neg h]
    | succ k =>
      have e0 : e = 0 := by have := h0 0 (by omega); simpa using this
      unfold fz
      rw [if_pos e0]
      simpa using ih (k := k) (by simpa using hk) (fun j hj => by have := h0 (j + 1) (by omega); simpa using this) (by simpa using h)
theorem fz_none {es : List Int} (h0 : ∀ j, j < es.length → es.getD j 0 = 0) : fz es = 0 := by
  induction es with
  | nil => rfl
  | cons e r ih =>
    have e0 : e = 0 := by have := h0 0 (by simp); simpa using this
    unfold fz
    rw [if_pos e0]
    exact ih fun j hj => by have := h0 (j + 1) (by simpa using hj); simpa using this
def cmpL (a b : Mk) : List Int := (List.range a.length).map fun i => compareB (at_ a i) (at_ b i)
theorem cmpL_len (a b : Mk) : (cmpL a b).length = a.length := by unfold cmpL; rw [List.length_map, List.length_range]
theorem cmpL_at {a b : Mk} {i : Nat} (hi : i < a.length) : (cmpL a b).getD i 0 = compareB (at_ a i) (at_ b i) := by
  unfold cmpL
  rw [List.getD_eq_getElem?_getD, List.getElem?_map, List.getElem?_range hi]; rfl
def compareM (a b : Mk) : Int := if b.length < a.length then 1 else if a.length < b.length then -1 else fz (cmpL a b)
theorem compareM_at {a b : Mk} (hl : a.length = b.length) {i : Nat} (hi : i < a.length) (h0 : ∀ j, j < i → compareB (at_ a j) (at_ b j) = 0) (h : compareB (at_ a i) (at_ b i) ≠ 0) : compareM a b = compareB (at_ a i) (at_ b i) := by
  unfold compareM
  rw [if_neg (by omega), if_neg (by omega), fz_at (k := i) (by rw [cmpL_len]; exact hi) (fun j hj => by rw [cmpL_at (by omega)]; exact h0 j hj) (by rw [cmpL_at hi]; exact h), cmpL_at hi]
theorem compareM_none {a b : Mk} (hl : a.length = b.length) (h0 : ∀ j, j < a.length → compareB (at_ a j) (at_ b j) = 0) : compareM a b = 0 := by
  unfold compareM
  rw [if_neg (by omega), if_neg (by omega)]
  exact fz_none fun j hj => by rw [cmpL_len] at hj; rw [cmpL_at hj]; exact h0 j hj
/-- where two markings of as many bags part -/
theorem part_at (a b : Mk) (hl : a.length = b.length) : (∀ j, j < a.length → compareB (at_ a j) (at_ b j) = 0) ∨ ∃ i, i < a.length ∧ (∀ j, j < i → compareB (at_ a j) (at_ b j) = 0) ∧ compareB (at_ a i) (at_ b i) ≠ 0 := by
  by_cases h : ∀ j, j < a.length → compareB (at_ a j) (at_ b j) = 0
  · exact .inl h
  · right
    have hex : ∃ j, j < a.length ∧ compareB (at_ a j) (at_ b j) ≠ 0 := by
      refine Classical.byContradiction fun hn => h fun j hj => Classical.byContradiction fun hc => hn ⟨j, hj, hc⟩
    have key : ∀ n, (∃ j, j < n ∧ j < a.length ∧ compareB (at_ a j) (at_ b j) ≠ 0) → ∃ i, i < a.length ∧ (∀ j, j < i → compareB (at_ a j) (at_ b j) = 0) ∧ compareB (at_ a i) (at_ b i) ≠ 0 := by
      intro n
      induction n with
      | zero => rintro ⟨j, hj, _⟩; omega
      | succ n ih =>
        rintro ⟨j, hj, hja, hc⟩
        by_cases hm : ∃ j, j < n ∧ j < a.length ∧ compareB (at_ a j) (at_ b j) ≠ 0
        · exact ih hm
        · have e : j = n := Classical.byContradiction fun hne => hm ⟨j, by omega, hja, hc⟩
          subst e
          exact ⟨j, hja, fun i hi => Classical.byContradiction fun hc' => hm ⟨i, hi, by omega, hc'⟩, hc⟩
    obtain ⟨j, hj, hc⟩ := hex
    exact key a.length ⟨j, hj, hj, hc⟩
theorem compareB_cmp {x y : List Row} (hx : RightP x) (hy : RightP y) : Cmp (cntF x) (cntF y) (compareB x y) := by
  unfold compareB
  rw [rightB_iff.2 hx, rightB_iff.2 hy]
  exact cmpF_cmp hx hy
theorem compareB_turn {x y : List Row} (hx : RightP x) (hy : RightP y) : compareB x y = -compareB y x :=
  (compareB_cmp hx hy).uniq (compareB_cmp hy hx).turn
theorem compareB_zero {x y : List Row} (hx : RightP x) (hy : RightP y) : compareB x y = 0 ↔ x = y := by
  constructor
  · intro h
    rcases compareB_cmp hx hy with ⟨e, _⟩ | ⟨e, _⟩ | ⟨_, e⟩
    · rw [h] at e; cases e
    · rw [h] at e; cases e
    · exact right_ext hx hy e
  · rintro rfl
    exact (compareB_cmp hx hx).uniq (.inr (.inr ⟨rfl, fun _ => rfl⟩))
theorem compareB_neg {x y : List Row} (hx : RightP x) (hy : RightP y) : compareB x y < 0 ↔ Gt (cntF y) (cntF x) := by
  constructor
  · intro h
    rcases compareB_cmp hx hy with ⟨e, _⟩ | ⟨_, g⟩ | ⟨e, _⟩
    · omega
    · exact g
    · omega
  · intro g
    rcases compareB_cmp hx hy with ⟨_, g'⟩ | ⟨e, _⟩ | ⟨_, e⟩
    · exact (g.asymm g').elim
    · omega
    · obtain ⟨m, _, hm⟩ := g
      rw [e m] at hm
      omega
theorem compareB_trans {x y z : List Row} (hx : RightP x) (hy : RightP y) (hz : RightP z) (h1 : compareB x y < 0) (h2 : compareB y z < 0) : compareB x z < 0 :=
  (compareB_neg hx hz).2 (((compareB_neg hy hz).1 h2).trans ((compareB_neg hx hy).1 h1))
theorem compareM_turn {a b : Mk} (ha : RightM a) (hb : RightM b) : compareM a b = -compareM b a := by
  by_cases h1 : b.length < a.length
  · unfold compareM; rw [if_pos h1, if_neg (by omega), if_pos h1]; rfl
  by_cases h2 : a.length < b.length
  · unfold compareM; rw [if_neg h1, if_pos h2, if_pos h2]
  have hl : a.length = b.length := by omega
  have T : ∀ j, j < a.length → compareB (at_ b j) (at_ a j) = -compareB (at_ a j) (at_ b j) := fun j hj => compareB_turn (hb _ (at_mem (by omega))) (ha _ (at_mem hj))
  rcases part_at a b hl with h | ⟨i, hi, h0, hc⟩
  · rw [compareM_none hl h, compareM_none hl.symm fun j hj => by rw [T j (by omega), h j (by omega)]; rfl]; rfl
  · rw [compareM_at hl hi h0 hc, compareM_at hl.symm (i := i) (by omega) (fun j hj => by rw [T j (by omega), h0 j hj]; rfl) (by rw [T i hi]; omega), T i hi]; omega
theorem compareM_zero {a b : Mk} (ha : RightM a) (hb : RightM b) : compareM a b = 0 ↔ a = b := by
  constructor
  · intro h
    by_cases h1 : b.length < a.length
    · unfold compareM at h; rw [if_pos h1] at h; cases h
    by_cases h2 : a.length < b.length
    · unfold compareM at h; rw [if_neg h1, if_pos h2] at h; cases h
    have hl : a.length = b.length := by omega
    rcases part_at a b hl with g | ⟨i, hi, h0, hc⟩
    · exact ext_at hl fun i hi => (compareB_zero (ha _ (at_mem hi)) (hb _ (at_mem (by omega)))).1 (g i hi)
    · rw [compareM_at hl hi h0 hc] at h; exact absurd h hc
  · rintro rfl
    exact compareM_none rfl fun j hj => (compareB_zero (ha _ (at_mem hj)) (ha _ (at_mem hj))).2 rfl
theorem compareM_same {a b : Mk} (ha : RightM a) (hb : RightM b) : decide (compareM a b = 0) = sameM a b := by
  rw [Bool.eq_iff_iff, decide_eq_true_eq, compareM_zero ha hb, sameM_iff]
  exact ⟨fun h => ⟨ha, h⟩, fun h => h.2⟩
theorem compareM_trans {a b c : Mk} (ha : RightM a) (hb : RightM b) (hc : RightM c) (h1 : compareM a b < 0) (h2 : compareM b c < 0) : compareM a c < 0 := by
  have L1 : ¬ b.length < a.length := fun h => by unfold compareM at h1; rw [if_pos h] at h1; omega
  have L2 : ¬ c.length < b.length := fun h => by unfold compareM at h2; rw [if_pos h] at h2; omega
  by_cases g : a.length < c.length
  · unfold compareM; rw [if_neg (by omega), if_pos g]; omega
  have e1 : a.length = b.length := by omega
  have e2 : b.length = c.length := by omega
  rcases part_at a b e1 with g1 | ⟨i, hi, i0, ic⟩
  · rw [compareM_none e1 g1] at h1; omega
  rcases part_at b c e2 with g2 | ⟨k, hk, k0, kc⟩
  · rw [compareM_none e2 g2] at h2; omega
  rw [compareM_at e1 hi i0 ic] at h1
  rw [compareM_at e2 hk k0 kc] at h2
  have E1 : ∀ j, j < a.length → compareB (at_ a j) (at_ b j) = 0 → at_ a j = at_ b j := fun j hj h => (compareB_zero (ha _ (at_mem hj)) (hb _ (at_mem (by omega)))).1 h
  have E2 : ∀ j, j < b.length → compareB (at_ b j) (at_ c j) = 0 → at_ b j = at_ c j := fun j hj h => (compareB_zero (hb _ (at_mem hj)) (hc _ (at_mem (by omega)))).1 h
  rcases Nat.lt_trichotomy i k with h | h | h
  · have e : at_ b i = at_ c i := E2 i (by omega) (k0 i h)
    rw [compareM_at (e1.trans e2) hi (fun j hj => by rw [← E2 j (by omega) (k0 j (by omega))]; exact i0 j hj) (by rw [← e]; exact ic), ← e]; exact h1
  · subst h
    have t := compareB_trans (ha _ (at_mem hi)) (hb _ (at_mem (by omega))) (hc _ (at_mem (by omega))) h1 h2
    rw [compareM_at (e1.trans e2) hi (fun j hj => by rw [← E2 j (by omega) (k0 j hj)]; exact i0 j hj) (by omega)]; exact t
  · have e : at_ a k = at_ b k := E1 k (by omega) (i0 k h)
    rw [compareM_at (e1.trans e2) (i := k) (by omega) (fun j hj => by rw [E1 j (by omega) (i0 j (by omega))]; exact k0 j hj) (by rw [e]; exact kc), e]; exact h2
theorem within_le {x y : List Row} (h : withinB x y = true) : compareB x y ≤ 0 := by
  have hr : rightB x = true ∧ rightB y = true := by
    unfold withinB at h
    rw [Bool.and_eq_true, Bool.and_eq_true] at h
    exact h.1
  have hx := rightB_iff.1 hr.1
  have hy := rightB_iff.1 hr.2
  have hw := (Bag.within_iff hx hy).1 h
  rcases compareB_cmp hx hy with ⟨_, m, _, hm⟩ | ⟨e, _⟩ | ⟨e, _⟩
  · have := hw m; omega
  · omega
  · omega
theorem withinM_le {a b : Mk} (h : withinM a b = true) : compareM a b ≤ 0 := by
  obtain ⟨hl, hw⟩ := two_iff.1 h
  rcases part_at a b hl with g | ⟨i, hi, h0, hc⟩
  · rw [compareM_none hl g]; omega
  · rw [compareM_at hl hi h0 hc]; exact within_le (hw i hi)
theorem withinB_right {x y : List Row} (h : withinB x y = true) : RightP x ∧ RightP y := by
  unfold withinB at h
  rw [Bool.and_eq_true, Bool.and_eq_true] at h
  exact ⟨rightB_iff.1 h.1.1, rightB_iff.1 h.1.2⟩
theorem withinM_trans {a b c : Mk} (h1 : withinM a b = true) (h2 : withinM b c = true) : withinM a c = true := by
  obtain ⟨l1, w1⟩ := two_iff.1 h1
  obtain ⟨l2, w2⟩ := two_iff.1 h2
  refine two_iff.2 ⟨l1.trans l2, fun i hi => ?_⟩
  have a1 := w1 i hi
  have a2 := w2 i (by omega)
  obtain ⟨r1, r2⟩ := withinB_right a1
  obtain ⟨_, r3⟩ := withinB_right a2
  exact (Bag.within_iff r1 r3).2 fun m => Int.le_trans ((Bag.within_iff r1 r2).1 a1 m) ((Bag.within_iff r2 r3).1 a2 m)
/-- Total of all together; Final, Ended -/
def totM (m : Mk) : Int := (m.map totalB).foldr (· + ·) 0
def endedM (to : Int) (m : Mk) : Bool := decide (0 ≤ to) && decide (to < m.length) && decide (1 ≤ totalB (at_ m to.toNat))
def finalAt (to : Int) (m : Mk) (i : Nat) : Bool := if (i : Int) = to then totalB (at_ m i) == 1 else totalB (at_ m i) == 0
def finalM (places : Nat) (to : Int) (m : Mk) : Bool := decide (m.length = places) && decide (0 ≤ to) && decide (to < m.length) && (List.range m.length).all (finalAt to m)
theorem final_iff {places : Nat} {to : Int} {m : Mk} : finalM places to m = true ↔ m.length = places ∧ 0 ≤ to ∧ to < m.length ∧ ∀ i, i < m.length → finalAt to m i = true := by
  unfold finalM
  rw [Bool.and_eq_true, Bool.and_eq_true, Bool.and_eq_true, decide_eq_true_eq, decide_eq_true_eq, decide_eq_true_eq, List.all_eq_true]
  exact ⟨fun h => ⟨h.1.1.1, h.1.1.2, h.1.2, fun i hi => h.2 i (List.mem_range.2 hi)⟩, fun h => ⟨⟨⟨h.1, h.2.1⟩, h.2.2.1⟩, fun i hi => h.2.2.2 i (List.mem_range.1 hi)⟩⟩
end Go.Proofs.YtnjpblmplneojaaGreatDoor.Mark
/- Markings as bytes, in plain Lean: what is encoded is decoded, and the other way; one token more. -/
namespace Go.Proofs.YtnjpblmplneojaaGreatDoor.Mark
open Go.Proofs.YtnjpblmplneojaaGreatDoor.Bag
set_option linter.unusedVariables false

def four (n : Nat) : List UInt8 := [UInt8.ofNat (n / 16777216), UInt8.ofNat (n / 65536), UInt8.ofNat (n / 256), UInt8.ofNat n]
def two (n : Nat) : List UInt8 := [UInt8.ofNat (n / 256), UInt8.ofNat n]
def rowE (r : Row) : List UInt8 := four r.1.toNat ++ four r.2.toNat
def rowsE : List Row → List UInt8
  | [] => []
  | r :: b => rowE r ++ rowsE b
def bagE (b : List Row) : List UInt8 := two b.length ++ rowsE b
def bagsE : Mk → List UInt8
  | [] => []
  | b :: m => bagE b ++ bagsE m
def okB (b : List Row) : Bool := rightB b && decide (b.length ≤ 65535) && b.all fun r => decide (r.1 ≤ 4294967295)
def okM (m : Mk) : Bool := decide (m.length ≤ 64) && m.all okB
def encF (m : Mk) : Option (List UInt8) := if okM m then some (UInt8.ofNat m.length :: bagsE m) else none
def byteAt (l : List UInt8) (k : Nat) : Nat := (l.getD k 0).toNat
def num4 (l : List UInt8) : Nat := byteAt l 0 * 16777216 + byteAt l 1 * 65536 + byteAt l 2 * 256 + byteAt l 3
def rowsD : Nat → List UInt8 → List Row
  | 0, _ => []
  | k + 1, l => ((num4 l : Int), (num4 (l.drop 4) : Int)) :: rowsD k (l.drop 8)
def numR (l : List UInt8) : Nat := byteAt l 0 * 256 + byteAt l 1
def bagsD : Nat → List UInt8 → Option (Mk × List UInt8)
  | 0, l => some ([], l)
  | k + 1, l =>
    if l.length < 2 then none else
    if (l.drop 2).length < 8 * numR l then none else
    if rightB (rowsD (numR l) (l.drop 2)) then
      match bagsD k ((l.drop 2).drop (8 * numR l)) with
      | none => none
      | some (m, q) => some (rowsD (numR l) (l.drop 2) :: m, q)
    else none
def decF (c : List UInt8) : Option Mk :=
  if c.length = 0 then none else
  if 64 < byteAt c 0 then none else
  match bagsD (byteAt c 0) (c.drop 1) with
  | none => none
  | some (m, q) => if q.length = 0 then some m else none

theorem u8_nat (n : Nat) : (UInt8.ofNat n).toNat = n % 256 := by simp
theorem u8_back (c : UInt8) (n : Nat) (h : n % 256 = c.toNat) : UInt8.ofNat n = c := by
  apply UInt8.toNat_inj.1
  rw [u8_nat, h]
theorem u8_lt (c : UInt8) : c.toNat < 256 := c.toNat_lt
theorem rowsD_len : ∀ (k : Nat) (l : List UInt8), (rowsD k l).length = k
  | 0, _ => rfl
  | k + 1, l => by unfold rowsD; rw [List.length_cons, rowsD_len k]
theorem rowsE_len : ∀ b : List Row, (rowsE b).length = 8 * b.length
  | [] => rfl
  | r :: b => by
    unfold rowsE rowE four
    rw [List.length_append, rowsE_len b]
    simp
    omega
theorem num4_four (n : Nat) (h : n < 4294967296) (q : List UInt8) : num4 (four n ++ q) = n := by
  unfold num4 four byteAt
  simp
  omega
theorem drop4 (n : Nat) (q : List UInt8) : (four n ++ q).drop 4 = q := rfl
theorem rows_back : ∀ (b : List Row), (∀ r, r ∈ b → (0 ≤ r.1 ∧ r.1 ≤ 4294967295) ∧ 0 ≤ r.2 ∧ r.2 ≤ 4294967295) → ∀ q, rowsD b.length (rowsE b ++ q) = b
  | [], _, _ => rfl
  | r :: b, h, q => by
    obtain ⟨⟨h1, h2⟩, h3, h4⟩ := h r (List.mem_cons_self ..)
    have e : rowsE (r :: b) ++ q = four r.1.toNat ++ (four r.2.toNat ++ (rowsE b ++ q)) := by simp [rowsE, rowE]
    rw [e, List.length_cons]
    unfold rowsD
    rw [num4_four _ (by omega), drop4, num4_four _ (by omega)]
    have e8 : (four r.1.toNat ++ (four r.2.toNat ++ (rowsE b ++ q))).drop 8 = rowsE b ++ q := rfl
    rw [e8, rows_back b (fun r hr => h r (List.mem_cons_of_mem _ hr)) q]
    have e1 : ((r.1.toNat : Nat) : Int) = r.1 := by omega
    have e2 : ((r.2.toNat : Nat) : Int) = r.2 := by omega
    rw [e1, e2]
theorem okB_is {b : List Row} (h : okB b = true) : RightP b ∧ b.length ≤ 65535 ∧ ∀ r, r ∈ b → (0 ≤ r.1 ∧ r.1 ≤ 4294967295) ∧ 0 ≤ r.2 ∧ r.2 ≤ 4294967295 := by
  unfold okB at h
  rw [Bool.and_eq_true, Bool.and_eq_true, rightB_iff, decide_eq_true_eq, List.all_eq_true] at h
  refine ⟨h.1.1, h.1.2, fun r hr => ?_⟩
  have h1 := h.1.1.2 r hr
  have h2 := of_decide_eq_true (h.2 r hr)
  exact ⟨⟨h1.1, h2⟩, by omega, by omega⟩
theorem numR_two (n : Nat) (h : n ≤ 65535) (q : List UInt8) : numR (two n ++ q) = n := by
  unfold numR two byteAt
  simp
  omega
theorem bags_back : ∀ (m : Mk), (∀ b, b ∈ m → okB b = true) → ∀ q, bagsD m.length (bagsE m ++ q) = some (m, q)
  | [], _, _ => rfl
  | b :: m, h, q => by
    obtain ⟨hr, hl, hb⟩ := okB_is (h b (List.mem_cons_self ..))
    have e : bagsE (b :: m) ++ q = two b.length ++ (rowsE b ++ (bagsE m ++ q)) := by simp [bagsE, bagE]
    have ed : (two b.length ++ (rowsE b ++ (bagsE m ++ q))).drop 2 = rowsE b ++ (bagsE m ++ q) := rfl
    rw [e, List.length_cons]
    unfold bagsD
    rw [numR_two _ hl, ed, rows_back b hb, rightB_iff.2 hr]
    have e3 : (rowsE b ++ (bagsE m ++ q)).drop (8 * b.length) = bagsE m ++ q := by
      rw [← rowsE_len]; exact List.drop_left
    rw [e3, bags_back m (fun b hb => h b (List.mem_cons_of_mem _ hb)) q]
    rw [if_neg (by simp [two]), if_neg (by rw [List.length_append, rowsE_len]; omega)]
    rfl
theorem enc_dec {m : Mk} {c : List UInt8} (h : encF m = some c) : decF c = some m := by
  unfold encF at h
  split at h
  · rename_i ho
    unfold okM at ho
    rw [Bool.and_eq_true, decide_eq_true_eq, List.all_eq_true] at ho
    cases h
    have e0 : byteAt (UInt8.ofNat m.length :: bagsE m) 0 = m.length := by
      unfold byteAt
      rw [List.getD_cons_zero, u8_nat]
      omega
    have b0 := bags_back m ho.2 []
    rw [List.append_nil] at b0
    unfold decF
    rw [if_neg (by simp), e0, if_neg (by omega)]
    simp only [List.drop_succ_cons, List.drop_zero, b0]
    rfl
  · cases h
theorem four_num (l : List UInt8) (h : 4 ≤ l.length) : four (num4 l) = l.take 4 := by
  obtain ⟨a, b, c, d, r, rfl⟩ : ∃ a b c d r, l = a :: b :: c :: d :: r := by
    match l, h with
    | a :: b :: c :: d :: r, _ => exact ⟨a, b, c, d, r, rfl⟩
  have ha := u8_lt a
  have hb := u8_lt b
  have hc := u8_lt c
  have hd := u8_lt d
  show four (a.toNat * 16777216 + b.toNat * 65536 + c.toNat * 256 + d.toNat) = [a, b, c, d]
  unfold four
  rw [u8_back a _ (by omega), u8_back b _ (by omega), u8_back c _ (by omega), u8_back d _ (by omega)]
theorem num4_lt (l : List UInt8) : num4 l < 4294967296 := by
  unfold num4 byteAt
  have h0 := u8_lt (l.getD 0 0)
  have h1 := u8_lt (l.getD 1 0)
  have h2 := u8_lt (l.getD 2 0)
  have h3 := u8_lt (l.getD 3 0)
  omega
theorem rows_forth : ∀ (k : Nat) (l : List UInt8), 8 * k ≤ l.length → rowsE (rowsD k l) = l.take (8 * k)
  | 0, l, _ => by simp [rowsD, rowsE]
  | k + 1, l, h => by
    unfold rowsD rowsE rowE
    rw [rows_forth k (l.drop 8) (by rw [List.length_drop]; omega)]
    simp only [Int.toNat_natCast]
    rw [four_num l (by omega), four_num (l.drop 4) (by rw [List.length_drop]; omega)]
    have e : l.take (8 * (k + 1)) = l.take 4 ++ ((l.drop 4).take 4 ++ (l.drop 8).take (8 * k)) := by
      have e1 : 8 * (k + 1) = 4 + (4 + 8 * k) := by omega
      rw [e1, List.take_add, List.take_add, List.drop_drop]
    rw [e, List.append_assoc]
theorem rows_ok (k : Nat) : ∀ (l : List UInt8) (r : Row), r ∈ rowsD k l → r.1 ≤ 4294967295 := by
  induction k with
  | zero => intro l r h; cases h
  | succ k ih =>
    intro l r h
    unfold rowsD at h
    rcases List.mem_cons.1 h with rfl | h
    · have := num4_lt l
      show ((num4 l : Nat) : Int) ≤ 4294967295
      omega
    · exact ih _ r h
theorem two_num (l : List UInt8) (h : 2 ≤ l.length) : two (numR l) = l.take 2 ∧ numR l ≤ 65535 := by
  obtain ⟨a, b, r, rfl⟩ : ∃ a b r, l = a :: b :: r := by
    match l, h with
    | a :: b :: r, _ => exact ⟨a, b, r, rfl⟩
  have ha := u8_lt a
  have hb := u8_lt b
  refine ⟨?_, ?_⟩
  · show two (a.toNat * 256 + b.toNat) = [a, b]
    unfold two
    rw [u8_back a _ (by omega), u8_back b _ (by omega)]
  · show a.toNat * 256 + b.toNat ≤ 65535
    omega
theorem bags_forth : ∀ (k : Nat) (l : List UInt8) (m : Mk) (q : List UInt8), bagsD k l = some (m, q) → l = bagsE m ++ q ∧ m.length = k ∧ ∀ b, b ∈ m → okB b = true
  | 0, l, m, q, h => by
    unfold bagsD at h
    cases h
    exact ⟨rfl, rfl, fun b hb => by cases hb⟩
  | k + 1, l, m, q, h => by
    unfold bagsD at h
    by_cases h1 : l.length < 2
    · rw [if_pos h1] at h; cases h
    rw [if_neg h1] at h
    by_cases h2 : (l.drop 2).length < 8 * numR l
    · rw [if_pos h2] at h; cases h
    rw [if_neg h2] at h
    by_cases h3 : rightB (rowsD (numR l) (l.drop 2)) = true
    rotate_left 1
    · rw [if_neg h3] at h; cases h
    rw [if_pos h3] at h
    split at h
    · cases h
    · rename_i m' q' he
      cases h
      obtain ⟨e1, e2, e3⟩ := bags_forth k _ _ _ he
      obtain ⟨t1, t2⟩ := two_num l (by omega)
      refine ⟨?_, by rw [List.length_cons, e2], fun b hb => ?_⟩
      · unfold bagsE bagE
        rw [rowsD_len, t1, rows_forth _ _ (by omega), List.append_assoc, List.append_assoc, ← e1, List.take_append_drop, List.take_append_drop]
      · rcases List.mem_cons.1 hb with rfl | hb
        · unfold okB
          rw [h3, decide_eq_true (show (rowsD (numR l) (l.drop 2)).length ≤ 65535 by rw [rowsD_len]; exact t2), Bool.true_and, Bool.true_and, List.all_eq_true]
          exact fun r hr => decide_eq_true (rows_ok _ _ r hr)
        · exact e3 b hb
theorem dec_enc {c : List UInt8} {m : Mk} (h : decF c = some m) : encF m = some c := by
  unfold decF at h
  by_cases h1 : c.length = 0
  · rw [if_pos h1] at h; cases h
  rw [if_neg h1] at h
  by_cases h2 : 64 < byteAt c 0
  · rw [if_pos h2] at h; cases h
  rw [if_neg h2] at h
  split at h
  · cases h
  · rename_i m' q he
    split at h
    · rename_i hq
      cases h
      obtain ⟨e1, e2, e3⟩ := bags_forth _ _ _ _ he
      have hq0 : q = [] := List.eq_nil_of_length_eq_zero hq
      obtain ⟨x, r, rfl⟩ : ∃ x r, c = x :: r := by
        cases c with
        | nil => exact absurd rfl h1
        | cons x r => exact ⟨x, r, rfl⟩
      have b0 : byteAt (x :: r) 0 = x.toNat := rfl
      have er : r = bagsE m := by
        have : (x :: r).drop 1 = r := rfl
        rw [this, hq0, List.append_nil] at e1
        exact e1
      unfold encF
      rw [if_pos (by unfold okM; rw [decide_eq_true (by omega), List.all_eq_true.2 e3]; rfl), u8_back x _ (by rw [e2, b0]; exact Nat.mod_eq_of_lt (u8_lt x)), ← er]
    · cases h
theorem enc_right {m : Mk} {c : List UInt8} (h : encF m = some c) : RightM m := by
  unfold encF at h
  split at h
  · rename_i ho
    unfold okM at ho
    rw [Bool.and_eq_true, decide_eq_true_eq, List.all_eq_true] at ho
    exact fun x hx => (okB_is (ho.2 x hx)).1
  · cases h
theorem enc_same {a b : Mk} {x y : List UInt8} (hx : encF a = some x) (hy : encF b = some y) : decide (x = y) = sameM a b := by
  rw [Bool.eq_iff_iff, decide_eq_true_eq, sameM_iff]
  constructor
  · rintro rfl
    have e := (enc_dec hx).symm.trans (enc_dec hy)
    cases e
    exact ⟨enc_right hx, rfl⟩
  · rintro ⟨_, rfl⟩
    have e := hx.symm.trans hy
    cases e
    rfl

/- one token more -/
theorem sum_one : ∀ (l : List Int) (k : Nat), k < l.length → (∀ i, i < l.length → l.getD i 0 = if i = k then 1 else 0) → l.foldr (· + ·) 0 = 1
  | [], k, h, _ => by simp at h
  | e :: l, 0, _, h => by
    have h0 := h 0 (by simp)
    have z : ∀ (l : List Int), (∀ i, i < l.length → l.getD i 0 = 0) → l.foldr (· + ·) 0 = 0 := by
      intro l
      induction l with
      | nil => intro _; rfl
      | cons e l ih =>
        intro h
        have h0 := h 0 (by simp)
        have hr := ih fun i hi => by have := h (i + 1) (by simpa using hi); simpa using this
        simp only [List.getD_cons_zero] at h0
        rw [List.foldr_cons, hr, h0]; rfl
    have hr := z l fun i hi => by have := h (i + 1) (by simpa using hi); simpa using this
    simp only [List.getD_cons_zero, if_pos] at h0
    rw [List.foldr_cons, hr, h0]; rfl
  | e :: l, k + 1, hk, h => by
    have h0 := h 0 (by simp)
    have hr := sum_one l k (by simpa using hk) fun i hi => by have := h (i + 1) (by simpa using hi); simpa using this
    rw [List.getD_cons_zero, if_neg (by omega)] at h0
    rw [List.foldr_cons, hr, h0]; rfl
theorem final_tot {places : Nat} {to : Int} {m : Mk} (h : finalM places to m = true) : totM m = 1 ∧ endedM to m = true := by
  obtain ⟨h1, h2, h3, h4⟩ := final_iff.1 h
  refine ⟨sum_one _ to.toNat (by rw [List.length_map]; omega) fun i hi => ?_, ?_⟩
  · rw [List.length_map] at hi
    have := h4 i hi
    unfold finalAt at this
    rw [List.getD_eq_getElem?_getD, List.getElem?_map, List.getElem?_eq_getElem hi]
    rw [at_get hi] at this
    show totalB m[i] = _
    by_cases e : (i : Int) = to
    · rw [if_pos e] at this; rw [if_pos (by omega)]; exact beq_iff_eq.1 this
    · rw [if_neg e] at this; rw [if_neg (by omega)]; exact beq_iff_eq.1 this
  · have := h4 to.toNat (by omega)
    unfold finalAt at this
    rw [if_pos (by omega)] at this
    unfold endedM
    rw [decide_eq_true h2, decide_eq_true h3, decide_eq_true (by rw [beq_iff_eq.1 this]; omega)]; rfl
theorem at_set {m : Mk} {p : Nat} {b : List Row} (hp : p < m.length) (i : Nat) : at_ (m.set p b) i = if i = p then b else at_ m i := by
  unfold at_
  rw [List.getD_eq_getElem?_getD, List.getD_eq_getElem?_getD, List.getElem?_set]
  by_cases e : p = i
  · subst e; rw [if_pos rfl, if_pos rfl, if_pos hp]; rfl
  · rw [if_neg e, if_neg (fun h => e h.symm)]
theorem more_right {m : Mk} (hm : RightM m) {p : Nat} {b : List Row} (hb : RightP b) : RightM (m.set p b) := fun x hx => by
  rcases List.mem_or_eq_of_mem_set hx with h | rfl
  · exact hm x h
  · exact hb
def oneC (z x : Int) : Int := if x = z then 1 else 0
theorem more_within {m : Mk} (hm : RightM m) {p : Nat} (hp : p < m.length) {b : List Row} {z : Int} (hb : Has (fun x => cntF (at_ m p) x + oneC z x) b) : withinM m (m.set p b) = true := by
  refine two_iff.2 ⟨by rw [List.length_set], fun i hi => ?_⟩
  rw [at_set hp]
  by_cases e : i = p
  · subst e
    rw [if_pos rfl]
    refine (Bag.within_iff (hm _ (at_mem hi)) hb.1).2 fun x => ?_
    rw [hb.2 x]
    show _ ≤ cntF (at_ m i) x + oneC z x
    unfold oneC
    split <;> omega
  · rw [if_neg e]
    exact (Bag.within_iff (hm _ (at_mem hi)) (hm _ (at_mem hi))).2 fun x => Int.le_refl _
theorem more_more {m : Mk} (hm : RightM m) {p : Nat} (hp : p < m.length) {b : List Row} {z : Int} (hb : Has (fun x => cntF (at_ m p) x + oneC z x) b) : compareM (m.set p b) m = 1 := by
  have hc : compareB b (at_ m p) = 1 := by
    refine (compareB_cmp hb.1 (hm _ (at_mem hp))).uniq (.inl ⟨rfl, z, fun x hx => ?_, ?_⟩)
    · rw [hb.2 x]; show cntF (at_ m p) x + oneC z x = _; unfold oneC; rw [if_neg (by omega)]; omega
    · rw [hb.2 z]; show _ < cntF (at_ m p) z + oneC z z; unfold oneC; rw [if_pos rfl]; omega
  have e := compareM_at (a := m.set p b) (b := m) (by rw [List.length_set]) (i := p) (by rw [List.length_set]; exact hp) (fun j hj => by rw [at_set hp, if_neg (by omega)]; exact (compareB_zero (hm _ (at_mem (by omega))) (hm _ (at_mem (by omega)))).2 rfl) (by rw [at_set hp, if_pos rfl, hc]; decide)
  rw [e, at_set hp, if_pos rfl, hc]
theorem more_ends {m : Mk} {places : Nat} {to : Int} (hf : finalM places to m = true) {p : Nat} (hp : p < m.length) {b : List Row} (ht : totalB b = totalB (at_ m p) + 1) : finalM places to (m.set p b) = false ∧ endedM to (m.set p b) = true := by
  obtain ⟨h1, h2, h3, h4⟩ := final_iff.1 hf
  constructor
  · cases hq : finalM places to (m.set p b) with
    | false => rfl
    | true =>
      obtain ⟨_, _, _, g4⟩ := final_iff.1 hq
      have a1 := h4 p hp
      have a2 := g4 p (by rw [List.length_set]; exact hp)
      unfold finalAt at a1 a2
      rw [at_set hp, if_pos rfl] at a2
      by_cases e : (p : Int) = to
      · rw [if_pos e] at a1 a2
        have := beq_iff_eq.1 a1
        have := beq_iff_eq.1 a2
        omega
      · rw [if_neg e] at a1 a2
        have := beq_iff_eq.1 a1
        have := beq_iff_eq.1 a2
        omega
  · have a1 := h4 to.toNat (by omega)
    unfold finalAt at a1
    rw [if_pos (by omega)] at a1
    have a1 := beq_iff_eq.1 a1
    unfold endedM
    rw [List.length_set, decide_eq_true h2, decide_eq_true h3, Bool.true_and, Bool.true_and, at_set hp]
    refine decide_eq_true ?_
    by_cases e : to.toNat = p
    · rw [if_pos e, ht, ← e, a1]; omega
    · rw [if_neg e, a1]; omega
end Go.Proofs.YtnjpblmplneojaaGreatDoor.Mark
/- Markings in memory. -/
namespace Go.Proofs.YtnjpblmplneojaaGreatDoor.Mark
open Go.RowKit Go.Proofs.YtnjpblmplneojaaGreatDoor.Frame Go.Proofs.YtnjpblmplneojaaGreatDoor.Bag
set_option linter.unusedVariables false

/-- a bag, and where it lies -/
structure Bg where
  rows : List Row
  a : Option Addr
  c : Nat
def nilBg : Bg := ⟨[], none, 0⟩
def mkOf (gs : List Bg) : Mk := gs.map (·.rows)
theorem mkOf_len (gs : List Bg) : (mkOf gs).length = gs.length := by unfold mkOf; rw [List.length_map]
theorem mkOf_at (gs : List Bg) {i : Nat} (hi : i < gs.length) : at_ (mkOf gs) i = (gs.getD i nilBg).rows := by
  unfold mkOf at_
  rw [List.getD_eq_getElem?_getD, List.getElem?_map, List.getElem?_eq_getElem hi, List.getD_eq_getElem?_getD, List.getElem?_eq_getElem hi]; rfl
theorem mkOf_take (gs : List Bg) (k : Nat) : (mkOf gs).take k = mkOf (gs.take k) := by unfold mkOf; rw [List.map_take]
def BgOk (w : World) (g : Bg) : Prop := Bags w g.a g.rows.length g.rows ∧ g.rows.length ≤ 140737488355328
/-- the cells of a marking -/
def MAt (w : World) (b off : Nat) (gs : List Bg) : Prop :=
  ∀ i, i < gs.length → w.cell? ⟨b, off + i, none⟩ = some (.slice (gs.getD i nilBg).a (gs.getD i nilBg).rows.length (gs.getD i nilBg).c) ∧ BgOk w (gs.getD i nilBg)
/-- a marking in memory -/
def Mks (w : World) (a : Option Addr) (len : Nat) (gs : List Bg) : Prop := gs.length = len ∧ (len = 0 ∨ ∃ b off, a = some ⟨b, off, none⟩ ∧ MAt w b off gs)
theorem BgOk.below {w w' : World} {g : Bg} (h : BgOk w g) (hb : Below w.heap.size w w') : BgOk w' g := ⟨h.1.below hb, h.2⟩
theorem MAt.below {w w' : World} {b off : Nat} {gs : List Bg} (h : MAt w b off gs) (hb : Below w.heap.size w w') : MAt w' b off gs := fun i hi => by
  obtain ⟨h0, h1⟩ := h i hi
  exact ⟨(hb.cell (p := ⟨b, off + i, none⟩) (World.block_lt_of_cell? w _ h0)).trans h0, h1.below hb⟩
theorem Mks.below {w w' : World} {a : Option Addr} {len : Nat} {gs : List Bg} (h : Mks w a len gs) (hb : Below w.heap.size w w') : Mks w' a len gs := by
  refine ⟨h.1, ?_⟩
  rcases h.2 with h0 | ⟨b, off, ha, hc⟩
  · exact .inl h0
  · exact .inr ⟨b, off, ha, hc.below hb⟩
/-- a bag of it -/
theorem Mks.row {w : World} {a : Option Addr} {len : Nat} {gs : List Bg} (h : Mks w a len gs) {k : Nat} (hk : k < len) : ∃ b off, a = some ⟨b, off, none⟩ ∧ b < w.heap.size ∧ w.cell? ⟨b, off + k, none⟩ = some (.slice (gs.getD k nilBg).a (gs.getD k nilBg).rows.length (gs.getD k nilBg).c) ∧ BgOk w (gs.getD k nilBg) := by
  rcases h.2 with h0 | ⟨b, off, ha, hc⟩
  · omega
  · obtain ⟨h1, h2⟩ := hc k (by rw [h.1]; exact hk)
    exact ⟨b, off, ha, World.block_lt_of_cell? w _ h1, h1, h2⟩
theorem mks_nil (w : World) (a : Option Addr) : Mks w a 0 [] := ⟨rfl, .inl rfl⟩
/-- small enough -/
def Sm (gs : List Bg) : Prop := gs.length ≤ 1000 ∧ ∀ g, g ∈ gs → g.rows.length ≤ 10000
theorem Sm.at {gs : List Bg} (h : Sm gs) {k : Nat} (hk : k < gs.length) : (gs.getD k nilBg).rows.length ≤ 10000 := by
  refine h.2 _ ?_
  rw [List.getD_eq_getElem?_getD, List.getElem?_eq_getElem hk]; exact List.getElem_mem _
/-- how many rows, of the first hundred bags -/
def sumL : List Nat → Nat
  | [] => 0
  | x :: r => x + sumL r
theorem sumL_snoc (l : List Nat) (x : Nat) : sumL (l ++ [x]) = sumL l + x := by
  induction l with
  | nil => simp [sumL]
  | cons y l ih => rw [List.cons_append]; unfold sumL; rw [ih]; omega
theorem sumL_le {l : List Nat} {x : Nat} (h : x ∈ l) : x ≤ sumL l := by
  induction l with
  | nil => cases h
  | cons y l ih =>
    unfold sumL
    rcases List.mem_cons.1 h with rfl | h
    · omega
    · have := ih h; omega
def lensF (gs : List Bg) : List Nat := gs.map (·.rows.length)
def fewB (gs : List Bg) : Bool := decide (gs.length ≤ 70) && decide (sumL (lensF (gs.take 100)) ≤ 300)
theorem few_sm {gs : List Bg} (h : fewB gs = true) : Sm gs := by
  unfold fewB at h
  rw [Bool.and_eq_true, decide_eq_true_eq, decide_eq_true_eq] at h
  obtain ⟨h1, h2⟩ := h
  rw [List.take_of_length_le (by omega)] at h2
  refine ⟨by omega, fun g hg => ?_⟩
  have : g.rows.length ≤ sumL (lensF gs) := sumL_le (List.mem_map_of_mem (f := fun g : Bg => g.rows.length) hg)
  omega
theorem few_len {gs : List Bg} (h : fewB gs = true) : gs.length ≤ 70 := by
  unfold fewB at h
  rw [Bool.and_eq_true, decide_eq_true_eq, decide_eq_true_eq] at h
  exact h.1
theorem lens_snoc {gs : List Bg} {k : Nat} (h : k < gs.length) : sumL (lensF (gs.take (k + 1))) = sumL (lensF (gs.take k)) + (gs.getD k nilBg).rows.length := by
  have : gs.take (k + 1) = gs.take k ++ [gs.getD k nilBg] := by
    rw [List.take_add_one, List.getElem?_eq_getElem h, List.getD_eq_getElem?_getD, List.getElem?_eq_getElem h]; rfl
  rw [this]
  unfold lensF
  rw [List.map_append, List.map_cons, List.map_nil, sumL_snoc]
end Go.Proofs.YtnjpblmplneojaaGreatDoor.Mark
