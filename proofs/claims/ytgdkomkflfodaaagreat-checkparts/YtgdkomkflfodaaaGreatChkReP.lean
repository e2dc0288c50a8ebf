/- What can be come to in a net: the rule, and what a walk keeps, in plain Lean. No program stands in it. -/
import Derived.Test.YtgdkomkflfodaaaGreatChkTkO
namespace Go.Proofs.YtgdkomkflfodaaaGreat.Check
open Go.Proofs.YtgdkomkflfodaaaGreat.Dag Go.RowKit Go.Proofs.YtgdkomkflfodaaaGreat.Frame Go.Proofs.YtgdkomkflfodaaaGreat.Colour Go.Proofs.YtgdkomkflfodaaaGreat.Expr
set_option linter.unusedVariables false
set_option linter.unusedSimpArgs false

def At (l : List Ar) (p : Nat) : Prop := ∃ x, x ∈ l ∧ x.place = (p : Int)
def TI (n : Ne) (t p : Nat) : Prop := At (n.tasks.getD t nilTa).ins p
def TO (n : Ne) (t k : Nat) : Prop := At (n.tasks.getD t nilTa).outs k
def Ori (n : Ne) (k : Nat) : Prop := n.frm = (k : Int) ∨ (n.places.getD k nilPl).first ≠ []
/-- these places hold where all begins, and what their tasks give -/
def Clo (n : Ne) (S : Nat → Prop) : Prop := (∀ k, k < n.places.length → Ori n k → S k) ∧ ∀ t, t < n.tasks.length → ∀ p, p < n.places.length → TI n t p → S p → ∀ k, k < n.places.length → TO n t k → S k
/-- the place can be come to; the task can -/
def Rp (n : Ne) (k : Nat) : Prop := ∀ S, Clo n S → S k
def Rt (n : Ne) (t : Nat) : Prop := ∃ p, p < n.places.length ∧ Rp n p ∧ TI n t p
theorem Rp.ori {n : Ne} {k : Nat} (hk : k < n.places.length) (h : Ori n k) : Rp n k := fun S hS => hS.1 k hk h
theorem Rp.step {n : Ne} {t p k : Nat} (ht : t < n.tasks.length) (hp : p < n.places.length) (hi : TI n t p) (h : Rp n p) (hk : k < n.places.length) (ho : TO n t k) : Rp n k := fun S hS => hS.2 t ht p hp hi (h S hS) k hk ho
/-- what a walk keeps; cur: the place whose tasks are being looked at -/
def WI (n : Ne) (P T : Nat → Bool) (O : List Int) (cur : Nat → Prop) : Prop :=
  (∀ k, k < n.places.length → P k = true → Rp n k) ∧ (∀ k, k < n.places.length → Ori n k → P k = true) ∧ (∀ t, t < n.tasks.length → T t = true → ∃ p, p < n.places.length ∧ P p = true ∧ TI n t p) ∧
  (∀ t, t < n.tasks.length → T t = true → ∀ k, k < n.places.length → TO n t k → P k = true) ∧ ∀ p, p < n.places.length → P p = true → ¬ (p : Int) ∈ O → ¬ cur p → ∀ t, t < n.tasks.length → TI n t p → T t = true
/-- ahead of the tasks -/
def W0I (n : Ne) (P : Nat → Bool) (O : List Int) (j : Nat) : Prop :=
  (∀ k, k < n.places.length → P k = true → Rp n k) ∧ (∀ k, k < n.places.length → (n.frm = (k : Int) ∨ (k < j ∧ (n.places.getD k nilPl).first ≠ [])) → P k = true) ∧ ∀ k, k < n.places.length → P k = true → (k : Int) ∈ O
theorem comeP_le {P : Nat → Bool} {x : Int} {k : Nat} (h : P k = true) : comeP P x k = true := by unfold comeP; rw [h]; rfl
theorem comeP_at {P : Nat → Bool} {k : Nat} : comeP P (k : Int) k = true := by unfold comeP; simp
theorem comeP_cases {P : Nat → Bool} {x : Int} {k : Nat} (h : comeP P x k = true) : P k = true ∨ (k : Int) = x := by
  unfold comeP at h
  rw [Bool.or_eq_true] at h
  rcases h with h | h
  · exact .inl h
  · exact .inr (by simpa using h)
theorem comeO_sub {np : Nat} {P : Nat → Bool} {O : List Int} {x z : Int} (h : z ∈ O) : z ∈ comeO np P O x := by
  unfold comeO
  split
  · exact List.mem_append_left _ h
  · exact h
theorem comeO_new {np : Nat} {P : Nat → Bool} {O : List Int} {x : Int} {k : Nat} (hk : k < np) (h : comeP P x k = true) : P k = true ∨ (k : Int) ∈ comeO np P O x := by
  cases hp : P k with
  | true => exact .inl rfl
  | false =>
    rcases comeP_cases h with h | h
    · rw [hp] at h; cases h
    · subst h
      refine .inr ?_
      unfold comeO isNew
      rw [inB_nat hk, Int.toNat_natCast, hp]
      simp
theorem W0I.come {n : Ne} {P : Nat → Bool} {O : List Int} {j : Nat} (h : W0I n P O j) (x : Int) (hx : ∀ k : Nat, k < n.places.length → (k : Int) = x → Ori n k) (j' : Nat) (hj : ∀ k, k < n.places.length → k < j' → ¬ k < j → (n.places.getD k nilPl).first ≠ [] → (k : Int) = x) : W0I n (comeP P x) (comeO n.places.length P O x) j' := by
  refine ⟨fun k hk hp => ?_, fun k hk ho => ?_, fun k hk hp => ?_⟩
  · rcases comeP_cases hp with hp | hp
    · exact h.1 k hk hp
    · exact Rp.ori hk (hx k hk hp)
  · rcases ho with ho | ⟨h1, h2⟩
    · exact comeP_le (h.2.1 k hk (.inl ho))
    · by_cases hkj : k < j
      · exact comeP_le (h.2.1 k hk (.inr ⟨hkj, h2⟩))
      · rw [← hj k hk h1 hkj h2]; exact comeP_at
  · rcases comeO_new (O := O) hk hp with g | g
    · exact comeO_sub (h.2.2 k hk g)
    · exact g
theorem W0I.skip {n : Ne} {P : Nat → Bool} {O : List Int} {j : Nat} (h : W0I n P O j) (hf : (n.places.getD j nilPl).first = []) : W0I n P O (j + 1) :=
  ⟨h.1, fun k hk ho => by
    rcases ho with ho | ⟨h1, h2⟩
    · exact h.2.1 k hk (.inl ho)
    · by_cases e : k = j
      · subst e; exact absurd hf h2
      · exact h.2.1 k hk (.inr ⟨by omega, h2⟩), h.2.2⟩
/-- the walk's beginning: From is come to -/
theorem W0I.first (n : Ne) : W0I n (comeP (fun _ => false) n.frm) (comeO n.places.length (fun _ => false) [] n.frm) 0 := by
  refine ⟨fun k hk hp => ?_, fun k hk ho => ?_, fun k hk hp => ?_⟩
  · rcases comeP_cases hp with hp | hp
    · cases hp
    · exact Rp.ori hk (.inl hp.symm)
  · rcases ho with ho | ⟨h1, _⟩
    · rw [ho]; exact comeP_at
    · omega
  · rcases comeO_new (O := []) hk hp with g | g
    · cases g
    · exact g
theorem W0I.done {n : Ne} {P : Nat → Bool} {O : List Int} (h : W0I n P O n.places.length) : WI n P (fun _ => false) O (fun _ => False) :=
  ⟨h.1, fun k hk ho => h.2.1 k hk (ho.imp id fun g => ⟨hk, g⟩), fun t ht g => by simp at g, fun t ht g => by simp at g, fun p hp g hno => absurd (h.2.2 p hp g) hno⟩
/-- a task's places, come to one behind the other -/
theorem comes_le {np : Nat} : ∀ (l : List Ar) (s : PO), (∀ k, s.1 k = true → (comes np s l).1 k = true) ∧ (∀ z, z ∈ s.2 → z ∈ (comes np s l).2) ∧ (∀ k, (comes np s l).1 k = true → s.1 k = true ∨ At l k) ∧ (∀ k, At l k → (comes np s l).1 k = true) ∧ ∀ k, k < np → (comes np s l).1 k = true → s.1 k = true ∨ (k : Int) ∈ (comes np s l).2
  | [], s => ⟨fun _ h => h, fun _ h => h, fun _ h => .inl h, fun k ⟨x, hx, _⟩ => (by cases hx), fun _ _ h => .inl h⟩
  | x :: r, s => by
    have ih := comes_le (np := np) r (comeP s.1 x.place, comeO np s.1 s.2 x.place)
    have e : comes np s (x :: r) = comes np (comeP s.1 x.place, comeO np s.1 s.2 x.place) r := rfl
    rw [e]
    refine ⟨fun k h => ih.1 k (comeP_le h), fun z h => ih.2.1 z (comeO_sub h), fun k h => ?_, fun k ⟨y, hy, hk⟩ => ?_, fun k hk h => ?_⟩
    · rcases ih.2.2.1 k h with g | ⟨y, hy, g⟩
      · rcases comeP_cases g with g | g
        · exact .inl g
        · exact .inr ⟨x, by simp, g.symm⟩
      · exact .inr ⟨y, by simp [hy], g⟩
    · rcases List.mem_cons.1 hy with rfl | hy
      · exact ih.1 k (by rw [hk]; exact comeP_at)
      · exact ih.2.2.2.1 k ⟨y, hy, hk⟩
    · rcases ih.2.2.2.2 k hk h with g | g
      · rcases comeO_new (O := s.2) hk g with g | g
        · exact .inl g
        · exact .inr (ih.2.1 _ g)
      · exact .inr g
theorem doT_le {T : Nat → Bool} {k j : Nat} (h : T j = true) : doT T k j = true := by
  unfold doT
  split
  · exact h
  · unfold setT; split <;> simp [h]
theorem doT_at {T : Nat → Bool} {k : Nat} : doT T k k = true := by
  unfold doT
  split
  · rename_i h; exact h
  · unfold setT; rw [if_pos rfl]
theorem doPO_le {np : Nat} {P T : Nat → Bool} {O : List Int} {t : Ta} {k j : Nat} (h : P j = true) : (doPO np P T O t k).1 j = true := by
  unfold doPO
  split
  · exact h
  · exact (comes_le t.outs (P, O)).1 j h
theorem comes_WS {np : Nat} : ∀ (l : List Ar) (s : PO), far np (comes np s l).1 (comes np s l).2 ≤ far np s.1 s.2
  | [], s => Nat.le_refl _
  | x :: r, s => Nat.le_trans (comes_WS r (comeP s.1 x.place, comeO np s.1 s.2 x.place)) (far_come np s.1 s.2 x.place)
theorem far_do (np : Nat) (P T : Nat → Bool) (O : List Int) (t : Ta) (k : Nat) : far np (doPO np P T O t k).1 (doPO np P T O t k).2 ≤ far np P O := by
  unfold doPO
  split
  · exact Nat.le_refl _
  · exact comes_WS t.outs (P, O)
/-- a task of a place that is come to is done -/
theorem WI.do {n : Ne} {P T : Nat → Bool} {O : List Int} {cur : Nat → Prop} {t p : Nat} (h : WI n P T O cur) (ht : t < n.tasks.length) (hp : p < n.places.length) (hP : P p = true) (hi : TI n t p) :
    WI n (doPO n.places.length P T O (n.tasks.getD t nilTa) t).1 (doT T t) (doPO n.places.length P T O (n.tasks.getD t nilTa) t).2 cur := by
  unfold doPO doT
  cases hT : T t with
  | true => rw [if_pos rfl, if_pos rfl]; exact h
  | false =>
    rw [if_neg (by simp), if_neg (by simp)]
    have C := comes_le (np := n.places.length) (n.tasks.getD t nilTa).outs (P, O)
    refine ⟨fun k hk g => ?_, fun k hk g => C.1 k (h.2.1 k hk g), fun t' ht' g => ?_, fun t' ht' g k hk ho => ?_, fun p' hp' g hno hc t' ht' hi' => ?_⟩
    · rcases C.2.2.1 k g with g | g
      · exact h.1 k hk g
      · exact Rp.step ht hp hi (h.1 p hp hP) hk g
    · unfold setT at g
      by_cases e : t' = t
      · subst e; exact ⟨p, hp, C.1 p hP, hi⟩
      · rw [if_neg e] at g
        obtain ⟨p', h1, h2, h3⟩ := h.2.2.1 t' ht' g
        exact ⟨p', h1, C.1 p' h2, h3⟩
    · unfold setT at g
      by_cases e : t' = t
      · subst e; exact C.2.2.2.1 k ho
      · rw [if_neg e] at g
        exact C.1 k (h.2.2.2.1 t' ht' g k hk ho)
    · rcases C.2.2.2.2 p' hp' g with g2 | g2
      · unfold setT
        split
        · rfl
        · exact h.2.2.2.2 p' hp' g2 (fun hm => hno (C.2.1 _ hm)) hc t' ht' hi'
      · exact absurd g2 hno
theorem WI.pop {n : Ne} {P T : Nat → Bool} {O : List Int} {p : Nat} (h : WI n P T O (fun _ => False)) (hO : O ≠ []) (hl : O.getLast hO = (p : Int)) : WI n P T O.dropLast (fun q => q = p) :=
  ⟨h.1, h.2.1, h.2.2.1, h.2.2.2.1, fun q hq g hno hc t ht hi => h.2.2.2.2 q hq g (fun hm => by
    have : O = O.dropLast ++ [O.getLast hO] := (List.dropLast_concat_getLast hO).symm
    rw [this] at hm
    rcases List.mem_append.1 hm with hm | hm
    · exact hno hm
    · have : (q : Int) = O.getLast hO := by simpa using hm
      exact hc (by rw [hl] at this; omega)) (fun hF => hF) t ht hi⟩
theorem WI.push {n : Ne} {P T : Nat → Bool} {O : List Int} {p : Nat} (h : WI n P T O (fun q => q = p)) (hd : ∀ t, t < n.tasks.length → TI n t p → T t = true) : WI n P T O (fun _ => False) :=
  ⟨h.1, h.2.1, h.2.2.1, h.2.2.2.1, fun q hq g hno _ t ht hi => by
    by_cases e : q = p
    · subst e; exact hd t ht hi
    · exact h.2.2.2.2 q hq g hno e t ht hi⟩
/-- what is told: just what can be come to -/
def Told (n : Ne) (P T : Nat → Bool) : Prop := (∀ k, k < n.places.length → (P k = true ↔ Rp n k)) ∧ ∀ t, t < n.tasks.length → (T t = true ↔ Rt n t)
theorem WI.told {n : Ne} {P T : Nat → Bool} (h : WI n P T [] (fun _ => False)) : Told n P T := by
  have cl : Clo n fun k => P k = true := ⟨h.2.1, fun t ht p hp hi hP k hk ho => h.2.2.2.1 t ht (h.2.2.2.2 p hp hP (by simp) (fun f => f) t ht hi) k hk ho⟩
  refine ⟨fun k hk => ⟨h.1 k hk, fun g => g _ cl⟩, fun t ht => ⟨fun g => ?_, fun ⟨p, hp, hR, hi⟩ => ?_⟩⟩
  · obtain ⟨p, hp, hP, hi⟩ := h.2.2.1 t ht g
    exact ⟨p, hp, h.1 p hp hP, hi⟩
  · exact h.2.2.2.2 p hp (hR _ cl) (by simp) (fun f => f) t ht hi
/-- which tasks stand where -/
theorem tkArcs_mem {np : Nat} {i : Int} : ∀ (l : List Ar) (L : Nat → List Int) (p : Nat) (z : Int), p < np → (z ∈ tkArcs np i L l p ↔ z ∈ L p ∨ (z = i ∧ At l p))
  | [], L, p, z, hp => ⟨fun h => .inl h, fun h => h.elim id fun ⟨_, x, hx, _⟩ => (by cases hx)⟩
  | x :: r, L, p, z, hp => by
    have e : tkArcs np i L (x :: r) = tkArcs np i (if inB x.place np then upd L x.place.toNat (L x.place.toNat ++ [i]) else L) r := rfl
    rw [e, tkArcs_mem r _ p z hp]
    have key : z ∈ (if inB x.place np then upd L x.place.toNat (L x.place.toNat ++ [i]) else L) p ↔ z ∈ L p ∨ (z = i ∧ x.place = (p : Int)) := by
      cases hb : inB x.place np with
      | false =>
        rw [if_neg (by simp)]
        refine ⟨.inl, fun h => h.elim id fun ⟨_, h⟩ => ?_⟩
        rw [h, inB_nat hp] at hb; cases hb
      | true =>
        rw [if_pos rfl]
        obtain ⟨k, hk, hkn⟩ := inB_yes hb
        rw [hk, Int.toNat_natCast]
        unfold upd
        by_cases f : p = k
        · subst f; rw [if_pos rfl]; simp
        · rw [if_neg f]
          refine ⟨.inl, fun h => h.elim id fun ⟨_, h⟩ => absurd (by omega) f⟩
    rw [key]
    constructor
    · rintro ((h | ⟨h1, h2⟩) | ⟨h1, y, hy, h2⟩)
      · exact .inl h
      · exact .inr ⟨h1, x, by simp, h2⟩
      · exact .inr ⟨h1, y, by simp [hy], h2⟩
    · rintro (h | ⟨h1, y, hy, h2⟩)
      · exact .inl (.inl h)
      · rcases List.mem_cons.1 hy with rfl | hy
        · exact .inl (.inr ⟨h1, h2⟩)
        · exact .inr ⟨h1, y, hy, h2⟩
theorem tkAll_mem (n : Ne) (p : Nat) (z : Int) (hp : p < n.places.length) : ∀ m, z ∈ tkAll n m p ↔ ∃ t : Nat, z = t ∧ t < m ∧ TI n t p
  | 0 => ⟨fun h => (by cases h), fun ⟨t, _, h, _⟩ => (by omega)⟩
  | m + 1 => by
    show z ∈ tkArcs n.places.length m (tkAll n m) (n.tasks.getD m nilTa).ins p ↔ _
    rw [tkArcs_mem _ _ p z hp, tkAll_mem n p z hp m]
    constructor
    · rintro (⟨t, h1, h2, h3⟩ | ⟨h1, h2⟩)
      · exact ⟨t, h1, by omega, h3⟩
      · exact ⟨m, h1, by omega, h2⟩
    · rintro ⟨t, h1, h2, h3⟩
      by_cases e : t = m
      · subst e; exact .inr ⟨h1, h3⟩
      · exact .inl ⟨t, h1, by omega, h3⟩
end Go.Proofs.YtgdkomkflfodaaaGreat.Check
