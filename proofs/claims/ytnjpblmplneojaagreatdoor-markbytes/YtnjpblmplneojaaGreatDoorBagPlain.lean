/- The plain mathematics of layer 3: rows of a member and a count. No program stands in it. -/
namespace Go.Proofs.YtnjpblmplneojaaGreatDoor.Bag
set_option linter.unusedVariables false
abbrev Row := Int × Int
def zr : Row := (0, 0)

/-- a right bag -/
def RightP (b : List Row) : Prop := b.Pairwise (fun x y => x.1 < y.1) ∧ ∀ r ∈ b, 0 ≤ r.1 ∧ 1 ≤ r.2 ∧ r.2 ≤ 1048576
def rightB (b : List Row) : Bool := decide (b.Pairwise (fun x y => x.1 < y.1)) && b.all fun r => decide (0 ≤ r.1 ∧ 1 ≤ r.2 ∧ r.2 ≤ 1048576)
theorem rightB_iff {b : List Row} : rightB b = true ↔ RightP b := by
  unfold rightB RightP
  rw [Bool.and_eq_true, decide_eq_true_iff, List.all_eq_true]
  exact and_congr_right fun _ => forall_congr' fun r => forall_congr' fun _ => by rw [decide_eq_true_iff]
theorem rightB_false {b : List Row} : rightB b = false ↔ ¬ RightP b := by rw [← rightB_iff]; simp

def goodAt (b : List Row) (j : Nat) : Prop := (0 ≤ (b.getD j zr).1 ∧ 1 ≤ (b.getD j zr).2 ∧ (b.getD j zr).2 ≤ 1048576) ∧ (0 < j → (b.getD (j - 1) zr).1 < (b.getD j zr).1)
theorem getD_get {α : Type} {l : List α} {j : Nat} (d : α) (h : j < l.length) : l.getD j d = l[j] := by
  rw [List.getD_eq_getElem?_getD, List.getElem?_eq_getElem h]; rfl
theorem getD_mem {b : List Row} {j : Nat} (h : j < b.length) : b.getD j zr ∈ b := by rw [getD_get zr h]; exact List.getElem_mem _
theorem right_good {b : List Row} (h : RightP b) {j : Nat} (hj : j < b.length) : goodAt b j := by
  refine ⟨h.2 _ (getD_mem hj), fun h0 => ?_⟩
  rw [getD_get zr hj, getD_get zr (show j - 1 < b.length by omega)]
  exact List.pairwise_iff_getElem.1 h.1 (j - 1) j (by omega) hj (by omega)
theorem right_of_good {b : List Row} (h : ∀ j, j < b.length → goodAt b j) : RightP b := by
  constructor
  · rw [List.pairwise_iff_getElem]
    intro i j hi hj hij
    have key : ∀ d, i + d + 1 < b.length → (b.getD i zr).1 < (b.getD (i + d + 1) zr).1 := by
      intro d
      induction d with
      | zero => intro hd; exact (h (i + 0 + 1) hd).2 (by omega)
      | succ d ih =>
        intro hd
        have h1 := ih (by omega)
        have h2 := (h (i + (d + 1) + 1) hd).2 (by omega)
        rw [show i + (d + 1) + 1 - 1 = i + d + 1 by omega] at h2
        omega
    have := key (j - i - 1) (by omega)
    rw [show i + (j - i - 1) + 1 = j by omega, getD_get zr hi, getD_get zr hj] at this
    exact this
  · intro r hr
    obtain ⟨j, hj, rfl⟩ := List.getElem_of_mem hr
    have := (h j hj).1
    rwa [getD_get zr hj] at this
theorem rightB_good {b : List Row} (h : ∀ j, j < b.length → goodAt b j) : rightB b = true := rightB_iff.2 (right_of_good h)
theorem rightB_bad {b : List Row} {j : Nat} (hj : j < b.length) (h : ¬ goodAt b j) : rightB b = false := rightB_false.2 fun hr => h (right_good hr hj)
theorem right_nil : RightP [] := ⟨List.Pairwise.nil, fun r h => by cases h⟩
theorem right_cons {r : Row} {b : List Row} (h : RightP (r :: b)) : RightP b ∧ (0 ≤ r.1 ∧ 1 ≤ r.2 ∧ r.2 ≤ 1048576) ∧ ∀ s ∈ b, r.1 < s.1 := by
  obtain ⟨h1, h2⟩ := h
  rw [List.pairwise_cons] at h1
  exact ⟨⟨h1.2, fun s hs => h2 s (by simp [hs])⟩, h2 r (by simp), h1.1⟩
theorem right_cons_mk {r : Row} {b : List Row} (h : RightP b) (h1 : 0 ≤ r.1 ∧ 1 ≤ r.2 ∧ r.2 ≤ 1048576) (h2 : ∀ s ∈ b, r.1 < s.1) : RightP (r :: b) :=
  ⟨List.pairwise_cons.2 ⟨h2, h.1⟩, fun s hs => by rcases List.mem_cons.1 hs with rfl | hs; exact h1; exact h.2 s hs⟩

/-- how many there are of a member -/
def cntF : List Row → Int → Int
  | [], _ => 0
  | r :: b, m => if r.1 = m then r.2 else cntF b m
theorem cntF_not : ∀ {b : List Row} {m : Int}, (∀ r ∈ b, r.1 ≠ m) → cntF b m = 0
  | [], _, _ => rfl
  | r :: b, m, h => by
    unfold cntF
    rw [if_neg (h r (by simp))]
    exact cntF_not fun s hs => h s (by simp [hs])
theorem cntF_mem : ∀ {b : List Row} {r : Row}, b.Pairwise (fun x y => x.1 < y.1) → r ∈ b → cntF b r.1 = r.2
  | s :: b, r, h, hr => by
    rw [List.pairwise_cons] at h
    unfold cntF
    rcases List.mem_cons.1 hr with rfl | hr
    · rw [if_pos rfl]
    · have := h.1 r hr
      rw [if_neg (by omega)]
      exact cntF_mem h.2 hr
theorem cntF_some {b : List Row} {m : Int} (h : cntF b m ≠ 0) : ∃ r ∈ b, r.1 = m := by
  apply Classical.byContradiction
  intro hn
  exact h (cntF_not fun r hr e => hn ⟨r, hr, e⟩)
theorem cntF_range {b : List Row} (h : RightP b) (m : Int) : 0 ≤ cntF b m ∧ cntF b m ≤ 1048576 := by
  by_cases h0 : cntF b m = 0
  · omega
  · obtain ⟨r, hr, rfl⟩ := cntF_some h0
    rw [cntF_mem h.1 hr]
    have := h.2 r hr
    omega
theorem cntF_low {b : List Row} (h : RightP b) {m : Int} (hm : m < 0) : cntF b m = 0 :=
  cntF_not fun r hr e => by have := h.2 r hr; omega
theorem cntF_snoc : ∀ {b : List Row} {r : Row} (m : Int), (∀ s ∈ b, s.1 ≠ r.1) → cntF (b ++ [r]) m = if m = r.1 then r.2 else cntF b m
  | [], r, m, _ => by
    show (if r.1 = m then r.2 else 0) = if m = r.1 then r.2 else 0
    by_cases h : m = r.1
    · rw [if_pos h, if_pos h.symm]
    · rw [if_neg h, if_neg fun e => h e.symm]
  | s :: b, r, m, h => by
    have hs := h s (by simp)
    have ih := cntF_snoc (b := b) (r := r) m fun x hx => h x (by simp [hx])
    show (if s.1 = m then s.2 else cntF (b ++ [r]) m) = if m = r.1 then r.2 else if s.1 = m then s.2 else cntF b m
    rw [ih]
    by_cases h1 : s.1 = m
    · have h2 : ¬ m = r.1 := by omega
      rw [if_pos h1, if_neg h2, if_pos h1]
    · rw [if_neg h1, if_neg h1]
/-- two right bags with as many of each member are one -/
theorem right_ext : ∀ {a b : List Row}, RightP a → RightP b → (∀ m, cntF a m = cntF b m) → a = b
  | [], [], _, _, _ => rfl
  | [], r :: b, _, hb, h => by
    have := h r.1
    have h2 := right_cons hb
    simp [cntF] at this
    omega
  | r :: a, [], ha, _, h => by
    have := h r.1
    have h2 := right_cons ha
    simp [cntF] at this
    omega
  | r :: a, s :: b, ha, hb, h => by
    obtain ⟨ha1, ha2, ha3⟩ := right_cons ha
    obtain ⟨hb1, hb2, hb3⟩ := right_cons hb
    have hrs : r.1 = s.1 := by
      apply Classical.byContradiction
      intro hne
      rcases Int.lt_or_gt_of_ne hne with hlt | hlt
      · have h1 := h r.1
        rw [cntF_not (b := s :: b) (fun x hx => by rcases List.mem_cons.1 hx with rfl | hx; omega; have := hb3 x hx; omega)] at h1
        simp [cntF] at h1
        omega
      · have h1 := h s.1
        rw [cntF_not (b := r :: a) (fun x hx => by rcases List.mem_cons.1 hx with rfl | hx; omega; have := ha3 x hx; omega)] at h1
        simp [cntF] at h1
        omega
    have h2 : r.2 = s.2 := by
      have := h r.1
      simp only [cntF, if_pos hrs.symm] at this
      exact this
    obtain rfl : r = s := Prod.ext hrs h2
    have : a = b := right_ext ha1 hb1 fun m => by
      by_cases hm : r.1 = m
      · subst hm
        rw [cntF_not fun x hx => by have := ha3 x hx; omega, cntF_not fun x hx => by have := hb3 x hx; omega]
      · have := h m
        simp only [cntF, if_neg hm] at this
        exact this
    rw [this]

/-- the bag with these counts -/
def Has (c : Int → Int) (b : List Row) : Prop := RightP b ∧ ∀ m, cntF b m = c m
theorem Has.uniq {c : Int → Int} {a b : List Row} (ha : Has c a) (hb : Has c b) : a = b := right_ext ha.1 hb.1 fun m => by rw [ha.2, hb.2]
theorem Has.self {b : List Row} (h : RightP b) : Has (cntF b) b := ⟨h, fun _ => rfl⟩
theorem Has.of {c d : Int → Int} {b : List Row} (h : Has c b) (e : ∀ m, c m = d m) : Has d b := ⟨h.1, fun m => (h.2 m).trans (e m)⟩

/-- the rows of keys that rise -/
def rowsOf (ks : List Int) (c : Int → Int) : List Row := ks.map fun m => (m, c m)
theorem rowsOf_cnt (c : Int → Int) : ∀ (ks : List Int) (m : Int), cntF (rowsOf ks c) m = if m ∈ ks then c m else 0
  | [], m => by simp [rowsOf, cntF]
  | k :: ks, m => by
    have ih := rowsOf_cnt c ks m
    show (if k = m then c k else cntF (rowsOf ks c) m) = _
    rw [ih]
    by_cases h : k = m
    · subst h; simp
    · have : ¬ m = k := fun e => h e.symm
      simp [h, this]
theorem rowsOf_has {ks : List Int} {c : Int → Int} (h1 : ks.Pairwise (· < ·)) (h2 : ∀ m, m ∈ ks ↔ c m ≠ 0) (h3 : ∀ m, c m ≠ 0 → 0 ≤ m ∧ 1 ≤ c m ∧ c m ≤ 1048576) : Has c (rowsOf ks c) := by
  refine ⟨⟨?_, ?_⟩, fun m => ?_⟩
  · unfold rowsOf
    rw [List.pairwise_map]
    exact h1
  · intro r hr
    obtain ⟨m, hm, rfl⟩ := List.mem_map.1 hr
    exact h3 m ((h2 m).1 hm)
  · rw [rowsOf_cnt]
    by_cases h : m ∈ ks
    · rw [if_pos h]
    · rw [if_neg h]
      have := (not_congr (h2 m)).1 h
      omega
/-- keys, sorted -/
theorem sort_rises {ss : List Int} (h : ss.Nodup) : (ss.mergeSort fun x y => decide (x ≤ y)).Pairwise (· < ·) := by
  have h1 : (ss.mergeSort fun x y => decide (x ≤ y)).Pairwise (fun x y => decide (x ≤ y) = true) :=
    List.pairwise_mergeSort (fun a b c h1 h2 => by simp at *; omega) (fun a b => by simp; omega) ss
  have h2 : (ss.mergeSort fun x y => decide (x ≤ y)).Nodup := (List.mergeSort_perm ss _).nodup_iff.2 h
  have h3 := h1.and h2
  exact h3.imp fun {a b} hab => by
    have := of_decide_eq_true hab.1
    have := hab.2
    omega

/-- is of each member no more in a than in b? -/
def withinB (a b : List Row) : Bool := rightB a && rightB b && a.all fun r => decide (r.2 ≤ cntF b r.1)
theorem within_iff {a b : List Row} (ha : RightP a) (hb : RightP b) : withinB a b = true ↔ ∀ m, cntF a m ≤ cntF b m := by
  unfold withinB
  rw [rightB_iff.2 ha, rightB_iff.2 hb, Bool.true_and, Bool.true_and, List.all_eq_true]
  constructor
  · intro h m
    by_cases h0 : cntF a m = 0
    · have := cntF_range hb m; omega
    · obtain ⟨r, hr, rfl⟩ := cntF_some h0
      rw [cntF_mem ha.1 hr]
      exact of_decide_eq_true (h r hr)
  · intro h r hr
    have := h r.1
    rw [cntF_mem ha.1 hr] at this
    exact decide_eq_true this
/-- as many of each in both? -/
def sameB (a b : List Row) : Bool := rightB a && rightB b && decide (a = b)

/-- how many of all -/
def totF : List Row → Int
  | [] => 0
  | r :: b => r.2 + totF b
theorem totF_snoc : ∀ (b : List Row) (r : Row), totF (b ++ [r]) = totF b + r.2
  | [], r => by simp [totF]
  | s :: b, r => by simp only [List.cons_append, totF, totF_snoc b r]; omega
def sumOver (S : List Int) (c : Int → Int) : Int := (S.map c).foldr (· + ·) 0
theorem sumOver_cons (s : Int) (S : List Int) (c : Int → Int) : sumOver (s :: S) c = c s + sumOver S c := rfl
theorem sumOver_congr {S : List Int} {c d : Int → Int} (h : ∀ m ∈ S, c m = d m) : sumOver S c = sumOver S d := by
  induction S with
  | nil => rfl
  | cons s S ih => rw [sumOver_cons, sumOver_cons, h s (by simp), ih fun m hm => h m (by simp [hm])]
theorem sumOver_add (S : List Int) (c d : Int → Int) : sumOver S (fun m => c m + d m) = sumOver S c + sumOver S d := by
  induction S with
  | nil => rfl
  | cons s S ih => rw [sumOver_cons, sumOver_cons, sumOver_cons, ih]; omega
theorem sumOver_zero {S : List Int} {c : Int → Int} (h : ∀ m ∈ S, c m = 0) : sumOver S c = 0 := by
  induction S with
  | nil => rfl
  | cons s S ih => rw [sumOver_cons, h s (by simp), ih fun m hm => h m (by simp [hm])]; rfl
theorem totF_over : ∀ {S : List Int} {b : List Row}, S.Pairwise (· < ·) → b.Pairwise (fun x y => x.1 < y.1) → (∀ r ∈ b, r.1 ∈ S) → totF b = sumOver S (cntF b)
  | S, [], _, _, _ => (sumOver_zero (c := cntF []) fun m _ => rfl).symm
  | [], r :: b, _, _, h => absurd (h r (by simp)) (by simp)
  | s :: S, r :: b, hS, hb, h => by
    rw [List.pairwise_cons] at hS
    by_cases hr : r.1 = s
    · have hb' := List.pairwise_cons.1 hb
      have h2 : ∀ x ∈ b, x.1 ∈ S := fun x hx => by
        rcases List.mem_cons.1 (h x (by simp [hx])) with e | e
        · have := hb'.1 x hx; omega
        · exact e
      rw [sumOver_cons]
      have e1 : cntF (r :: b) s = r.2 := by simp [cntF, hr]
      have e2 : sumOver S (cntF (r :: b)) = sumOver S (cntF b) := sumOver_congr fun m hm => by
        have := hS.1 m hm
        simp only [cntF]
        rw [if_neg (by omega)]
      rw [e1, e2, ← totF_over hS.2 hb'.2 h2]
      rfl
    · have h2 : ∀ x ∈ r :: b, x.1 ∈ S := fun x hx => by
        rcases List.mem_cons.1 (h x hx) with e | e
        · exfalso
          have hrS : r.1 ∈ S := by
            rcases List.mem_cons.1 (h r (by simp)) with e' | e'
            · exact absurd e' hr
            · exact e'
          have := hS.1 r.1 hrS
          rcases List.mem_cons.1 hx with rfl | hx
          · exact hr e
          · have := (List.pairwise_cons.1 hb).1 x hx; omega
        · exact e
      rw [sumOver_cons, ← totF_over hS.2 hb h2]
      have : cntF (r :: b) s = 0 := cntF_not fun x hx e => by
        have := hS.1 x.1 (h2 x hx)
        omega
      rw [this]; omega
theorem members_rise {b : List Row} (h : RightP b) : (b.map (·.1)).Pairwise (· < ·) := by rw [List.pairwise_map]; exact h.1
theorem totF_sum {a b s : List Row} (ha : RightP a) (hb : RightP b) (hs : Has (fun m => cntF a m + cntF b m) s) : totF s = totF a + totF b := by
  have hS := members_rise hs.1
  have hin : ∀ (x : List Row), RightP x → (∀ m, cntF x m ≤ cntF s m) → ∀ r ∈ x, r.1 ∈ s.map (·.1) := fun x hx hle r hr => by
    have h1 := hle r.1
    rw [cntF_mem hx.1 hr] at h1
    have h2 := hx.2 r hr
    obtain ⟨q, hq, e⟩ := cntF_some (b := s) (m := r.1) (by omega)
    exact List.mem_map.2 ⟨q, hq, e⟩
  rw [totF_over hS hs.1.1 (fun r hr => List.mem_map.2 ⟨r, hr, rfl⟩), totF_over hS ha.1 (hin a ha fun m => by have e := hs.2 m; simp only at e; have := cntF_range hb m; omega),
    totF_over hS hb.1 (hin b hb fun m => by have e := hs.2 m; simp only at e; have := cntF_range ha m; omega), ← sumOver_add]
  exact sumOver_congr fun m _ => hs.2 m
theorem totF_nonneg {b : List Row} (h : RightP b) : 0 ≤ totF b ∧ totF b ≤ 1048576 * b.length := by
  induction b with
  | nil => simp [totF]
  | cons r b ih =>
    obtain ⟨h1, h2, _⟩ := right_cons h
    have := ih h1
    simp only [totF, List.length_cons]
    omega
theorem totF_take_le {b : List Row} (h : RightP b) (k : Nat) : 0 ≤ totF (b.take k) ∧ totF (b.take k) ≤ totF b := by
  induction b generalizing k with
  | nil => simp [totF]
  | cons r b ih =>
    obtain ⟨h1, h2, _⟩ := right_cons h
    have h3 := totF_nonneg h
    cases k with
    | zero => simp only [List.take_zero, totF] at h3 ⊢; omega
    | succ k => have := ih h1 k; simp only [List.take_succ_cons, totF]; omega
theorem take_snoc {b : List Row} {k : Nat} (h : k < b.length) : b.take (k + 1) = b.take k ++ [b.getD k zr] := by
  rw [List.take_succ_eq_append_getElem h, getD_get zr h]
theorem right_take {b : List Row} (h : RightP b) (k : Nat) : RightP (b.take k) :=
  ⟨h.1.sublist (List.take_sublist _ _), fun r hr => h.2 r (List.mem_of_mem_take hr)⟩
theorem take_new {b : List Row} (h : RightP b) {k : Nat} (hk : k < b.length) : ∀ s ∈ b.take k, s.1 < (b.getD k zr).1 := by
  have := (right_take h (k + 1)).1
  rw [take_snoc hk, List.pairwise_append] at this
  exact fun s hs => this.2.2 s hs _ (by simp)
theorem cnt_take {b : List Row} (h : RightP b) {k : Nat} (hk : k < b.length) (m : Int) : cntF (b.take (k + 1)) m = if m = (b.getD k zr).1 then (b.getD k zr).2 else cntF (b.take k) m := by
  rw [take_snoc hk]
  exact cntF_snoc m fun s hs e => by have := take_new h hk s hs; omega
theorem cnt_take_new {b : List Row} (h : RightP b) {k : Nat} (hk : k < b.length) : cntF (b.take k) (b.getD k zr).1 = 0 :=
  cntF_not fun s hs e => by have := take_new h hk s hs; omega
theorem cnt_at {b : List Row} (h : RightP b) {k : Nat} (hk : k < b.length) : cntF b (b.getD k zr).1 = (b.getD k zr).2 := cntF_mem h.1 (getD_mem hk)

/-- which has more of the least member of which not as many are in both: is it the first? -/
def Gt (c d : Int → Int) : Prop := ∃ m, (∀ x, x < m → c x = d x) ∧ d m < c m
theorem Gt.irrefl {c : Int → Int} (h : Gt c c) : False := by obtain ⟨m, _, h⟩ := h; omega
theorem Gt.trans {c d e : Int → Int} (h : Gt c d) (k : Gt d e) : Gt c e := by
  obtain ⟨m, h1, h2⟩ := h
  obtain ⟨n, k1, k2⟩ := k
  rcases Int.lt_trichotomy m n with hmn | hmn | hmn
  · exact ⟨m, fun x hx => (h1 x hx).trans (k1 x (by omega)), by have := k1 m hmn; omega⟩
  · subst hmn; exact ⟨m, fun x hx => (h1 x hx).trans (k1 x hx), by omega⟩
  · exact ⟨n, fun x hx => (h1 x (by omega)).trans (k1 x hx), by have := h1 n hmn; omega⟩
theorem Gt.asymm {c d : Int → Int} (h : Gt c d) (k : Gt d c) : False := (h.trans k).irrefl
theorem Gt.congr {c d c' d' : Int → Int} (h : Gt c d) (e1 : ∀ m, c m = c' m) (e2 : ∀ m, d m = d' m) : Gt c' d' := by
  obtain ⟨m, h1, h2⟩ := h
  exact ⟨m, fun x hx => by rw [← e1, ← e2]; exact h1 x hx, by rw [← e1, ← e2]; exact h2⟩
theorem Gt.shift {c d e : Int → Int} : Gt (fun m => c m + e m) (fun m => d m + e m) ↔ Gt c d := by
  constructor
  · rintro ⟨m, h1, h2⟩
    exact ⟨m, fun x hx => by have := h1 x hx; simp only at this; omega, by simp only at h2; omega⟩
  · rintro ⟨m, h1, h2⟩
    exact ⟨m, fun x hx => by have := h1 x hx; simp only; omega, by simp only; omega⟩
/-- Compare, of right bags -/
def cmpF : List Row → List Row → Int
  | [], [] => 0
  | [], _ :: _ => -1
  | _ :: _, [] => 1
  | r :: a, s :: b => if s.1 < r.1 then -1 else if r.1 < s.1 then 1 else if r.2 < s.2 then -1 else if s.2 < r.2 then 1 else cmpF a b
def Cmp (c d : Int → Int) (n : Int) : Prop := (n = 1 ∧ Gt c d) ∨ (n = -1 ∧ Gt d c) ∨ (n = 0 ∧ ∀ m, c m = d m)
theorem Cmp.uniq {c d : Int → Int} {n k : Int} (h : Cmp c d n) (h' : Cmp c d k) : n = k := by
  have eqg : ∀ {c d : Int → Int}, (∀ m, c m = d m) → Gt c d → False := fun e g => (g.congr e (fun _ => rfl)).irrefl
  rcases h with ⟨h, g⟩ | ⟨h, g⟩ | ⟨h, g⟩ <;> rcases h' with ⟨h', g'⟩ | ⟨h', g'⟩ | ⟨h', g'⟩
  · omega
  · exact (g.asymm g').elim
  · exact (eqg g' g).elim
  · exact (g.asymm g').elim
  · omega
  · exact (eqg (fun m => (g' m).symm) g).elim
  · exact (eqg g g').elim
  · exact (eqg (fun m => (g m).symm) g').elim
  · omega
theorem Cmp.turn {c d : Int → Int} {n : Int} (h : Cmp c d n) : Cmp d c (-n) := by
  rcases h with ⟨h, g⟩ | ⟨h, g⟩ | ⟨h, g⟩
  · exact .inr (.inl ⟨by omega, g⟩)
  · exact .inl ⟨by omega, g⟩
  · exact .inr (.inr ⟨by omega, fun m => (g m).symm⟩)
theorem Cmp.shift {c d e : Int → Int} {n : Int} (h : Cmp c d n) : Cmp (fun m => c m + e m) (fun m => d m + e m) n := by
  rcases h with ⟨h, g⟩ | ⟨h, g⟩ | ⟨h, g⟩
  · exact .inl ⟨h, Gt.shift.2 g⟩
  · exact .inr (.inl ⟨h, Gt.shift.2 g⟩)
  · exact .inr (.inr ⟨h, fun m => by simp only [g m]⟩)
theorem Cmp.congr {c d c' d' : Int → Int} {n : Int} (h : Cmp c d n) (e1 : ∀ m, c m = c' m) (e2 : ∀ m, d m = d' m) : Cmp c' d' n := by
  rcases h with ⟨h, g⟩ | ⟨h, g⟩ | ⟨h, g⟩
  · exact .inl ⟨h, g.congr e1 e2⟩
  · exact .inr (.inl ⟨h, g.congr e2 e1⟩)
  · exact .inr (.inr ⟨h, fun m => by rw [← e1, ← e2]; exact g m⟩)
theorem cmpF_cmp : ∀ {a b : List Row}, RightP a → RightP b → Cmp (cntF a) (cntF b) (cmpF a b)
  | [], [], _, _ => .inr (.inr ⟨rfl, fun _ => rfl⟩)
  | [], s :: b, _, hb => .inr (.inl ⟨rfl, s.1, fun x hx => cntF_not fun q hq => by
      rcases List.mem_cons.1 hq with rfl | hq
      · omega
      · have := (right_cons hb).2.2 q hq; omega, by have := (right_cons hb).2.1; simp [cntF]; omega⟩)
  | r :: a, [], ha, _ => .inl ⟨rfl, r.1, fun x hx => cntF_not fun q hq => by
      rcases List.mem_cons.1 hq with rfl | hq
      · omega
      · have := (right_cons ha).2.2 q hq; omega, by have := (right_cons ha).2.1; simp [cntF]; omega⟩
  | r :: a, s :: b, ha, hb => by
    obtain ⟨ha1, ha2, ha3⟩ := right_cons ha
    obtain ⟨hb1, hb2, hb3⟩ := right_cons hb
    have za : ∀ x, x < r.1 → cntF (r :: a) x = 0 := fun x hx => cntF_not fun q hq => by
      rcases List.mem_cons.1 hq with rfl | hq
      · omega
      · have := ha3 q hq; omega
    have zb : ∀ x, x < s.1 → cntF (s :: b) x = 0 := fun x hx => cntF_not fun q hq => by
      rcases List.mem_cons.1 hq with rfl | hq
      · omega
      · have := hb3 q hq; omega
    have atr : cntF (r :: a) r.1 = r.2 := by simp [cntF]
    have ats : cntF (s :: b) s.1 = s.2 := by simp [cntF]
    unfold cmpF
    by_cases h1 : s.1 < r.1
    · rw [if_pos h1]
      exact .inr (.inl ⟨rfl, s.1, fun x hx => by rw [za x (by omega), zb x hx], by rw [za _ h1, ats]; omega⟩)
    rw [if_neg h1]
    by_cases h2 : r.1 < s.1
    · rw [if_pos h2]
      exact .inl ⟨rfl, r.1, fun x hx => by rw [za x hx, zb x (by omega)], by rw [zb _ h2, atr]; omega⟩
    rw [if_neg h2]
    have e : r.1 = s.1 := by omega
    by_cases h3 : r.2 < s.2
    · rw [if_pos h3]
      exact .inr (.inl ⟨rfl, s.1, fun x hx => by rw [za x (by omega), zb x hx], by rw [ats, ← e, atr]; exact h3⟩)
    rw [if_neg h3]
    by_cases h4 : s.2 < r.2
    · rw [if_pos h4]
      exact .inl ⟨rfl, r.1, fun x hx => by rw [za x hx, zb x (by omega)], by rw [atr, e, ats]; exact h4⟩
    rw [if_neg h4]
    have e2 : r.2 = s.2 := by omega
    have ea : cntF a r.1 = 0 := cntF_not fun q hq => by have := ha3 q hq; omega
    have eb : cntF b r.1 = 0 := cntF_not fun q hq => by have := hb3 q hq; omega
    rcases cmpF_cmp ha1 hb1 with ⟨h, m, g1, g2⟩ | ⟨h, m, g1, g2⟩ | ⟨h, g⟩
    · refine .inl ⟨h, m, fun x hx => ?_, ?_⟩
      · simp only [cntF]; rw [← e, ← e2, g1 x hx]
      · have : ¬ r.1 = m := fun em => by rw [← em] at g2; omega
        simp only [cntF]; rw [← e, if_neg this, if_neg this]; exact g2
    · refine .inr (.inl ⟨h, m, fun x hx => ?_, ?_⟩)
      · simp only [cntF]; rw [← e, ← e2, g1 x hx]
      · have : ¬ r.1 = m := fun em => by rw [← em] at g2; omega
        simp only [cntF]; rw [← e, if_neg this, if_neg this]; exact g2
    · refine .inr (.inr ⟨h, fun m => ?_⟩)
      simp only [cntF]; rw [← e, ← e2, g m]

/-- the members, each as often as there are -/
def listF : List Row → List Int
  | [] => []
  | r :: b => List.replicate r.2.toNat r.1 ++ listF b
theorem listF_snoc : ∀ (b : List Row) (r : Row), listF (b ++ [r]) = listF b ++ List.replicate r.2.toNat r.1
  | [], r => by simp [listF]
  | s :: b, r => by simp only [List.cons_append, listF, listF_snoc b r, List.append_assoc]
theorem listF_length {b : List Row} (h : RightP b) : ((listF b).length : Int) = totF b := by
  induction b with
  | nil => rfl
  | cons r b ih =>
    obtain ⟨h1, h2, _⟩ := right_cons h
    have := ih h1
    simp only [listF, totF, List.length_append, List.length_replicate]
    omega
theorem listF_count {b : List Row} (h : RightP b) (m : Int) : ((listF b).count m : Int) = cntF b m := by
  induction b with
  | nil => rfl
  | cons r b ih =>
    obtain ⟨h1, h2, h3⟩ := right_cons h
    have := ih h1
    simp only [listF, cntF, List.count_append, List.count_replicate]
    by_cases hm : r.1 = m
    · have h0 : cntF b m = 0 := cntF_not fun s hs => by have := h3 s hs; omega
      rw [if_pos hm, if_pos (by simpa using hm)]
      omega
    · rw [if_neg hm, if_neg (by simpa using hm)]
      omega
theorem listF_mem {b : List Row} (h : RightP b) {m : Int} (hm : m ∈ listF b) : 0 ≤ m := by
  have h1 := listF_count h m
  have h2 := List.count_pos_iff.2 hm
  obtain ⟨r, hr, rfl⟩ := cntF_some (b := b) (m := m) (by omega)
  exact (h.2 r hr).1

/-- the counts of a list -/
def ofC (l : List Int) (m : Int) : Int := if 0 ≤ m then min (l.count m : Int) 1048576 else 0
theorem ofC_nil (m : Int) : ofC [] m = 0 := by unfold ofC; split <;> simp <;> omega
theorem ofC_snoc (l : List Int) (x m : Int) : ofC (l ++ [x]) m = if m = x ∧ 0 ≤ x ∧ ofC l x < 1048576 then ofC l x + 1 else ofC l m := by
  have hc : ((l ++ [x]).count m : Int) = l.count m + if m = x then 1 else 0 := by
    rw [List.count_append]
    by_cases h : m = x
    · subst h; simp
    · rw [if_neg h]
      have : ([x] : List Int).count m = 0 := List.count_eq_zero.2 (by simp [h])
      omega
  unfold ofC
  rw [hc]
  by_cases h : m = x
  · subst h
    by_cases h0 : 0 ≤ m
    · simp only [h0, if_true, true_and]
      by_cases h1 : min (l.count m : Int) 1048576 < 1048576
      · rw [if_pos h1]; omega
      · rw [if_neg h1]; omega
    · simp [h0]
  · rw [if_neg h]
    simp only [h, false_and, if_false]
    omega
theorem ofC_range (l : List Int) (m : Int) : (ofC l m ≠ 0 → 0 ≤ m ∧ 1 ≤ ofC l m) ∧ ofC l m ≤ 1048576 ∧ 0 ≤ ofC l m := by
  unfold ofC
  split <;> omega
theorem of_list {b : List Row} (h : RightP b) (hc : ∀ m, cntF b m ≤ 1048576) : Has (ofC (listF b)) b := ⟨h, fun m => by
  unfold ofC
  rw [listF_count h]
  split
  · have := hc m; omega
  · exact cntF_low h (by omega)⟩
theorem ofC_perm {l k : List Int} (h : l.Perm k) (m : Int) : ofC l m = ofC k m := by unfold ofC; rw [h.count_eq]
theorem sum_count : ∀ (l : List Int) (S : List Int), S.Pairwise (· < ·) → (∀ x ∈ l, x ∈ S) → sumOver S (fun m => (l.count m : Int)) = l.length
  | [], S, _, _ => by rw [sumOver_zero fun m _ => by simp]; rfl
  | x :: l, S, hS, h => by
    have ih := sum_count l S hS fun y hy => h y (by simp [hy])
    have one : ∀ (S : List Int), S.Pairwise (· < ·) → x ∈ S → sumOver S (fun m => if m = x then 1 else 0) = 1 := by
      intro S
      induction S with
      | nil => intro _ hx; cases hx
      | cons s S ihS =>
        intro hp hx
        rw [List.pairwise_cons] at hp
        rw [sumOver_cons]
        by_cases hs : s = x
        · rw [if_pos hs, sumOver_zero fun m hm => by have := hp.1 m hm; rw [if_neg (by omega)]]; rfl
        · rw [if_neg hs, ihS hp.2 (by rcases List.mem_cons.1 hx with e | e; exact absurd e.symm hs; exact e)]; rfl
    have e : sumOver S (fun m => ((x :: l).count m : Int)) = sumOver S (fun m => (l.count m : Int) + if m = x then 1 else 0) := sumOver_congr fun m _ => by
      rw [List.count_cons]
      by_cases hm : m = x
      · subst hm; simp
      · have : ¬ x = m := fun e => hm e.symm
        simp [hm, this]
    rw [e, sumOver_add, ih, one S hS (h x (by simp))]
    simp
theorem of_total {l : List Int} {b : List Row} (h : Has (ofC l) b) (hl : l.length ≤ 1048576) : totF b = ((l.filter fun x => decide (0 ≤ x)).length : Int) := by
  have hc : ∀ m, 0 ≤ m → ofC l m = ((l.filter fun x => decide (0 ≤ x)).count m : Int) := fun m hm => by
    unfold ofC
    have := List.count_le_length (a := m) (l := l)
    rw [if_pos hm, List.count_filter (by simpa using hm)]
    omega
  rw [totF_over (members_rise h.1) h.1.1 (fun r hr => List.mem_map.2 ⟨r, hr, rfl⟩), ← sum_count _ _ (members_rise h.1) (fun x hx => ?_)]
  · refine sumOver_congr fun m hm => ?_
    obtain ⟨r, hr, rfl⟩ := List.mem_map.1 hm
    rw [h.2, hc _ (h.1.2 r hr).1]
  · have h0 : 0 ≤ x := by simpa using (List.mem_filter.1 hx).2
    have h1 : 0 < (l.filter fun x => decide (0 ≤ x)).count x := List.count_pos_iff.2 hx
    obtain ⟨r, hr, rfl⟩ := cntF_some (b := b) (m := x) (by rw [h.2, hc x h0]; omega)
    exact List.mem_map.2 ⟨r, hr, rfl⟩

/-- a member set to a count, at its place -/
def insF (m n : Int) : List Row := if 0 < n then [(m, n)] else []
def tailF (m n : Int) : Bool → List Row → List Row
  | true, b => b.filter fun r => decide (r.1 ≠ m)
  | false, [] => insF m n
  | false, r :: b => if m ≤ r.1 then insF m n ++ (r :: b).filter fun r => decide (r.1 ≠ m) else r :: tailF m n false b
def withF (b : List Row) (m n : Int) : List Row := tailF m n false b
def setC (c : Int → Int) (m n : Int) (x : Int) : Int := if x = m then n else c x
theorem cnt_filter : ∀ (b : List Row) (m x : Int), cntF (b.filter fun r => decide (r.1 ≠ m)) x = if x = m then 0 else cntF b x
  | [], m, x => by simp [cntF]
  | r :: b, m, x => by
    have ih := cnt_filter b m x
    by_cases hr : r.1 = m
    · rw [List.filter_cons_of_neg (by simp [hr]), ih]
      by_cases hx : x = m
      · simp [hx]
      · have : ¬ r.1 = x := by omega
        simp [hx, cntF, this]
    · rw [List.filter_cons_of_pos (by simp [hr])]
      simp only [cntF]
      rw [ih]
      by_cases hx : x = m
      · have : ¬ r.1 = x := by omega
        simp [hx, hr]
      · simp [hx]
theorem withF_has : ∀ {b : List Row} {m n : Int}, RightP b → 0 ≤ m → 0 ≤ n → n ≤ 1048576 → Has (setC (cntF b) m n) (withF b m n)
  | [], m, n, _, hm, h0, h1 => by
    unfold withF tailF insF
    by_cases hn : 0 < n
    · rw [if_pos hn]
      exact ⟨right_cons_mk right_nil ⟨hm, hn, h1⟩ (fun s hs => by cases hs), fun x => by
        simp only [cntF, setC]
        by_cases hx : x = m
        · simp [hx]
        · have : ¬ m = x := fun e => hx e.symm
          simp [hx, this]⟩
    · rw [if_neg hn]
      exact ⟨right_nil, fun x => by simp only [cntF, setC]; split <;> omega⟩
  | r :: b, m, n, h, hm, h0, h1 => by
    obtain ⟨hb, hr, hlt⟩ := right_cons h
    unfold withF tailF
    by_cases hle : m ≤ r.1
    · rw [if_pos hle]
      have hf : RightP ((r :: b).filter fun r => decide (r.1 ≠ m)) := ⟨h.1.sublist List.filter_sublist, fun s hs => h.2 s ((List.mem_filter.1 hs).1)⟩
      have hgt : ∀ s ∈ (r :: b).filter fun r => decide (r.1 ≠ m), m < s.1 := fun s hs => by
        obtain ⟨h2, h3⟩ := List.mem_filter.1 hs
        have h3 : s.1 ≠ m := by simpa using h3
        rcases List.mem_cons.1 h2 with rfl | h2
        · omega
        · have := hlt s h2; omega
      unfold insF
      by_cases hn : 0 < n
      · rw [if_pos hn]
        refine ⟨right_cons_mk hf ⟨hm, hn, h1⟩ hgt, fun x => ?_⟩
        show (if m = x then n else cntF ((r :: b).filter fun r => decide (r.1 ≠ m)) x) = _
        rw [cnt_filter]
        unfold setC
        by_cases hx : x = m
        · simp [hx]
        · have : ¬ m = x := fun e => hx e.symm
          simp [hx, this]
      · rw [if_neg hn, List.nil_append]
        refine ⟨hf, fun x => ?_⟩
        rw [cnt_filter]
        unfold setC
        by_cases hx : x = m
        · rw [if_pos hx, if_pos hx]; omega
        · rw [if_neg hx, if_neg hx]
    · rw [if_neg hle]
      have ih : Has (setC (cntF b) m n) (tailF m n false b) := withF_has hb hm h0 h1
      refine ⟨right_cons_mk ih.1 hr (fun s hs => ?_), fun x => ?_⟩
      · have h2 := cntF_mem ih.1.1 hs
        rw [ih.2] at h2
        have h3 := ih.1.2 s hs
        unfold setC at h2
        by_cases hx : s.1 = m
        · omega
        · rw [if_neg hx] at h2
          obtain ⟨q, hq, e⟩ := cntF_some (b := b) (m := s.1) (by omega)
          have := hlt q hq
          omega
      · show (if r.1 = x then r.2 else cntF (tailF m n false b) x) = _
        rw [ih.2]
        unfold setC
        simp only [cntF]
        by_cases hx : x = m
        · have : ¬ r.1 = x := by omega
          simp [hx]
          omega
        · simp [hx]
theorem tail_step (m n : Int) (d : Bool) (b : List Row) (k : Nat) (hk : k < b.length) :
    tailF m n d (b.drop k) = (if d = false ∧ m ≤ (b.getD k zr).1 then insF m n else []) ++ (if (b.getD k zr).1 ≠ m then [b.getD k zr] else []) ++ tailF m n (d || decide (m ≤ (b.getD k zr).1)) (b.drop (k + 1)) := by
  rw [List.drop_eq_getElem_cons hk, ← getD_get zr hk]
  generalize b.getD k zr = r
  cases d with
  | true =>
    simp only [tailF, Bool.true_or]
    by_cases hr : r.1 = m
    · rw [List.filter_cons_of_neg (by simp [hr])]; simp [hr]
    · rw [List.filter_cons_of_pos (by simp [hr])]; simp [hr]
  | false =>
    simp only [tailF, Bool.false_or]
    by_cases hle : m ≤ r.1
    · rw [if_pos hle, decide_eq_true hle]
      by_cases hr : r.1 = m
      · rw [List.filter_cons_of_neg (by simp [hr])]; simp [hr, tailF]
      · rw [List.filter_cons_of_pos (by simp [hr])]; simp [hr, hle, tailF]
    · rw [if_neg hle, decide_eq_false hle]
      have : ¬ r.1 = m := by omega
      simp [hle, this]
end Go.Proofs.YtnjpblmplneojaaGreatDoor.Bag
