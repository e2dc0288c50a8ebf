/- Contracts and plain mathematics, together: ChkReP, ChkReM. -/
import Derived.Test.YtgdkomkflfodaaaGreatMbC
import Derived.WalkSmall
/- What can be come to in a net: the rule, and what a walk keeps, in plain Lean. No program stands in it. -/
namespace Go.Proofs.YtgdkomkflfodaaaGreat.Check
open Go.Proofs.YtgdkomkflfodaaaGreat.Dag Go.RowKit Go.Proofs.YtgdkomkflfodaaaGreat.Frame Go.Proofs.YtgdkomkflfodaaaGreat.Colour Go.Proofs.YtgdkomkflfodaaaGreat.Expr
set_option linter.unusedVariables false
set_option linter.unusedSimpArgs false

def At (l : List Ar) (p : Nat) : Prop := ∃ x, x ∈ l ∧ x.place = (p : Int)
def TI (n : Ne) (t p : Nat) : Prop := At (n.tasks.getD t nilTa).ins p
def TO (n : Ne) (t k : Nat) : Prop := At (n.tasks.getD t nilTa).outs k
def Ori (n : Ne) (k : Nat) : Prop := n.frm = (k : Int) ∨ (n.places.getD k nilPl).first ≠ []
/-- these places hold where all begins, and what their tasks give -/
def Clo (n : Ne) (S : Nat → Prop) : Prop := (∀ k, k < n.places.length → Ori n k → S k) ∧ ∀ t, t < n.tasks.length → ∀ p, p < n.places.length → TI n t p → S p → ∀ k, k < n.places.length → TO n t k → S k
/-- the place can be come to; the task can -/
def Rp (n : Ne) (k : Nat) : Prop := ∀ S, Clo n S → S k
def Rt (n : Ne) (t : Nat) : Prop := ∃ p, p < n.places.length ∧ Rp n p ∧ TI n t p
theorem Rp.ori {n : Ne} {k : Nat} (hk : k < n.places.length) (h : Ori n k) : Rp n k := fun S hS => hS.1 k hk h
theorem Rp.step {n : Ne} {t p k : Nat} (ht : t < n.tasks.length) (hp : p < n.places.length) (hi : TI n t p) (h : Rp n p) (hk : k < n.places.length) (ho : TO n t k) : Rp n k := fun S hS => hS.2 t ht p hp hi (h S hS) k hk ho
/-- what a walk keeps; cur: the place whose tasks are being looked at -/
def WI (n : Ne) (P T : Nat → Bool) (O : List Int) (cur : Nat → Prop) : Prop :=
  (∀ k, k < n.places.length → P k = true → Rp n k) ∧ (∀ k, k < n.places.length → Ori n k → P k = true) ∧ (∀ t, t < n.tasks.length → T t = true → ∃ p, p < n.places.length ∧ P p = true ∧ TI n t p) ∧
  (∀ t, t < n.tasks.length → T t = true → ∀ k, k < n.places.length → TO n t k → P k = true) ∧ ∀ p, p < n.places.length → P p = true → ¬ (p : Int) ∈ O → ¬ cur p → ∀ t, t < n.tasks.length → TI n t p → T t = true
/-- ahead of the tasks -/
def W0I (n : Ne) (P : Nat → Bool) (O : List Int) (j : Nat) : Prop :=
  (∀ k, k < n.places.length → P k = true → Rp n k) ∧ (∀ k, k < n.places.length → (n.frm = (k : Int) ∨ (k < j ∧ (n.places.getD k nilPl).first ≠ [])) → P k = true) ∧ ∀ k, k < n.places.length → P k = true → (k : Int) ∈ O
theorem comeP_le {P : Nat → Bool} {x : Int} {k : Nat} (h : P k = true) : comeP P x k = true := by unfold comeP; rw [h]; rfl
theorem comeP_at {P : Nat → Bool} {k : Nat} : comeP P (k : Int) k = true := by unfold comeP; simp
theorem comeP_cases {P : Nat → Bool} {x : Int} {k : Nat} (h : comeP P x k = true) : P k = true ∨ (k : Int) = x := by
  unfold comeP at h
  rw [Bool.or_eq_true] at h
  rcases h with h | h
  · exact .inl h
  · exact .inr (by simpa using h)
theorem comeO_sub {np : Nat} {P : Nat → Bool} {O : List Int} {x z : Int} (h : z ∈ O) : z ∈ comeO np P O x := by
  unfold comeO
  split
  · exact List.mem_append_left _ h
  · exact h
theorem comeO_new {np : Nat} {P : Nat → Bool} {O : List Int} {x : Int} {k : Nat} (hk : k < np) (h : comeP P x k = true) : P k = true ∨ (k : Int) ∈ comeO np P O x := by
  cases hp : P k with
  | true => exact .inl rfl
  | false =>
    rcases comeP_cases h with h | h
    · rw [hp] at h; cases h
    · subst h
      refine .inr ?_
      unfold comeO isNew
      rw [inB_nat hk, Int.toNat_natCast, hp]
      simp
theorem W0I.come {n : Ne} {P : Nat → Bool} {O : List Int} {j : Nat} (h : W0I n P O j) (x : Int) (hx : ∀ k : Nat, k < n.places.length → (k : Int) = x → Ori n k) (j' : Nat) (hj : ∀ k, k < n.places.length → k < j' → ¬ k < j → (n.places.getD k nilPl).first ≠ [] → (k : Int) = x) : W0I n (comeP P x) (comeO n.places.length P O x) j' := by
  refine ⟨fun k hk hp => ?_, fun k hk ho => ?_, fun k hk hp => ?_⟩
  · rcases comeP_cases hp with hp | hp
    · exact h.1 k hk hp
    · exact Rp.ori hk (hx k hk hp)
  · rcases ho with ho | ⟨h1, h2⟩
    · exact comeP_le (h.2.1 k hk (.inl ho))
    · by_cases hkj : k < j
      · exact comeP_le (h.2.1 k hk (.inr ⟨hkj, h2⟩))
      · rw [← hj k hk h1 hkj h2]; exact comeP_at
  · rcases comeO_new (O := O) hk hp with g | g
    · exact comeO_sub (h.2.2 k hk g)
    · exact g
theorem W0I.skip {n : Ne} {P : Nat → Bool} {O : List Int} {j : Nat} (h : W0I n P O j) (hf : (n.places.getD j nilPl).first = []) : W0I n P O (j + 1) :=
  ⟨h.1, fun k hk ho => by
    rcases ho with ho | ⟨h1, h2⟩
    · exact h.2.1 k hk (.inl ho)
    · by_cases e : k = j
      · subst e; exact absurd hf h2
      · exact h.2.1 k hk (.inr ⟨by omega, h2⟩), h.2.2⟩
/-- the walk's beginning: From is come to -/
theorem W0I.first (n : Ne) : W0I n (comeP (fun _ => false) n.frm) (comeO n.places.length (fun _ => false) [] n.frm) 0 := by
  refine ⟨fun k hk hp => ?_, fun k hk ho => ?_, fun k hk hp => ?_⟩
  · rcases comeP_cases hp with hp | hp
    · cases hp
    · exact Rp.ori hk (.inl hp.symm)
  · rcases ho with ho | ⟨h1, _⟩
    · rw [ho]; exact comeP_at
    · omega
  · rcases comeO_new (O := []) hk hp with g | g
    · cases g
    · exact g
theorem W0I.done {n : Ne} {P : Nat → Bool} {O : List Int} (h : W0I n P O n.places.length) : WI n P (fun _ => false) O (fun _ => False) :=
  ⟨h.1, fun k hk ho => h.2.1 k hk (ho.imp id fun g => ⟨hk, g⟩), fun t ht g => by simp at g, fun t ht g => by simp at g, fun p hp g hno => absurd (h.2.2 p hp g) hno⟩
/-- a task's places, come to one behind the other -/
theorem comes_le {np : Nat} : ∀ (l : List Ar) (s : PO), (∀ k, s.1 k = true → (comes np s l).1 k = true) ∧ (∀ z, z ∈ s.2 → z ∈ (comes np s l).2) ∧ (∀ k, (comes np s l).1 k = true → s.1 k = true ∨ At l k) ∧ (∀ k, At l k → (comes np s l).1 k = true) ∧ ∀ k, k < np → (comes np s l).1 k = true → s.1 k = true ∨ (k : Int) ∈ (comes np s l).2
  | [], s => ⟨fun _ h => h, fun _ h => h, fun _ h => .inl h, fun k ⟨x, hx, _⟩ => (by cases hx), fun _ _ h => .inl h⟩
  | x :: r, s => by
    have ih := comes_le (np := np) r (comeP s.1 x.place, comeO np s.1 s.2 x.place)
    have e : comes np s (x :: r) = comes np (comeP s.1 x.place, comeO np s.1 s.2 x.place) r := rfl
    rw [e]
    refine ⟨fun k h => ih.1 k (comeP_le h), fun z h => ih.2.1 z (comeO_sub h), fun k h => ?_, fun k ⟨y, hy, hk⟩ => ?_, fun k hk h => ?_⟩
    · rcases ih.2.2.1 k h with g | ⟨y, hy, g⟩
      · rcases comeP_cases g with g | g
        · exact .inl g
        · exact .inr ⟨x, by simp, g.symm⟩
      · exact .inr ⟨y, by simp [hy], g⟩
    · rcases List.mem_cons.1 hy with rfl | hy
      · exact ih.1 k (by rw [hk]; exact comeP_at)
      · exact ih.2.2.2.1 k ⟨y, hy, hk⟩
    · rcases ih.2.2.2.2 k hk h with g | g
      · rcases comeO_new (O := s.2) hk g with g | g
        · exact .inl g
        · exact .inr (ih.2.1 _ g)
      · exact .inr g
theorem doT_le {T : Nat → Bool} {k j : Nat} (h : T j = true) : doT T k j = true := by
  unfold doT
  split
  · exact h
  · unfold setT; split <;> simp [h]
theorem doT_at {T : Nat → Bool} {k : Nat} : doT T k k = true := by
  unfold doT
  split
  · rename_i h; exact h
  · unfold setT; rw [if_pos rfl]
theorem doPO_le {np : Nat} {P T : Nat → Bool} {O : List Int} {t : Ta} {k j : Nat} (h : P j = true) : (doPO np P T O t k).1 j = true := by
  unfold doPO
  split
  · exact h
  · exact (comes_le t.outs (P, O)).1 j h
theorem comes_WS {np : Nat} : ∀ (l : List Ar) (s : PO), far np (comes np s l).1 (comes np s l).2 ≤ far np s.1 s.2
  | [], s => Nat.le_refl _
  | x :: r, s => Nat.le_trans (comes_WS r (comeP s.1 x.place, comeO np s.1 s.2 x.place)) (far_come np s.1 s.2 x.place)
theorem far_do (np : Nat) (P T : Nat → Bool) (O : List Int) (t : Ta) (k : Nat) : far np (doPO np P T O t k).1 (doPO np P T O t k).2 ≤ far np P O := by
  unfold doPO
  split
  · exact Nat.le_refl _
  · exact comes_WS t.outs (P, O)
/-- a task of a place that is come to is done -/
theorem WI.do {n : Ne} {P T : Nat → Bool} {O : List Int} {cur : Nat → Prop} {t p : Nat} (h : WI n P T O cur) (ht : t < n.tasks.length) (hp : p < n.places.length) (hP : P p = true) (hi : TI n t p) :
    WI n (doPO n.places.length P T O (n.tasks.getD t nilTa) t).1 (doT T t) (doPO n.places.length P T O (n.tasks.getD t nilTa) t).2 cur := by
  unfold doPO doT
  cases hT : T t with
  | true => rw [if_pos rfl, if_pos rfl]; exact h
  | false =>
    rw [if_neg (by simp), if_neg (by simp)]
    have C := comes_le (np := n.places.length) (n.tasks.getD t nilTa).outs (P, O)
    refine ⟨fun k hk g => ?_, fun k hk g => C.1 k (h.2.1 k hk g), fun t' ht' g => ?_, fun t' ht' g k hk ho => ?_, fun p' hp' g hno hc t' ht' hi' => ?_⟩
    · rcases C.2.2.1 k g with g | g
      · exact h.1 k hk g
      · exact Rp.step ht hp hi (h.1 p hp hP) hk g
    · unfold setT at g
      by_cases e : t' = t
      · subst e; exact ⟨p, hp, C.1 p hP, hi⟩
      · rw [if_neg e] at g
        obtain ⟨p', h1, h2, h3⟩ := h.2.2.1 t' ht' g
        exact ⟨p', h1, C.1 p' h2, h3⟩
    · unfold setT at g
      by_cases e : t' = t
      · subst e; exact C.2.2.2.1 k ho
      · rw [if_neg e] at g
        exact C.1 k (h.2.2.2.1 t' ht' g k hk ho)
    · rcases C.2.2.2.2 p' hp' g with g2 | g2
      · unfold setT
        split
        · rfl
        · exact h.2.2.2.2 p' hp' g2 (fun hm => hno (C.2.1 _ hm)) hc t' ht' hi'
      · exact absurd g2 hno
theorem WI.pop {n : Ne} {P T : Nat → Bool} {O : List Int} {p : Nat} (h : WI n P T O (fun _ => False)) (hO : O ≠ []) (hl : O.getLast hO = (p : Int)) : WI n P T O.dropLast (fun q => q = p) :=
  ⟨h.1, h.2.1, h.2.2.1, h.2.2.2.1, fun q hq g hno hc t ht hi => h.2.2.2.2 q hq g (fun hm => by
    have : O = O.dropLast ++ [O.getLast hO] := (List.dropLast_concat_getLast hO).symm
    rw [this] at hm
    rcases List.mem_append.1 hm with hm | hm
    · exact hno hm
    · have : (q : Int) = O.getLast hO := by simpa using hm
      exact hc (by rw [hl] at this; omega)) (fun hF => hF) t ht hi⟩
theorem WI.push {n : Ne} {P T : Nat → Bool} {O : List Int} {p : Nat} (h : WI n P T O (fun q => q = p)) (hd : ∀ t, t < n.tasks.length → TI n t p → T t = true) : WI n P T O (fun _ => False) :=
  ⟨h.1, h.2.1, h.2.2.1, h.2.2.2.1, fun q hq g hno _ t ht hi => by
    by_cases e : q = p
    · subst e; exact hd t ht hi
    · exact h.2.2.2.2 q hq g hno e t ht hi⟩
/-- what is told: just what can be come to -/
def Told (n : Ne) (P T : Nat → Bool) : Prop := (∀ k, k < n.places.length → (P k = true ↔ Rp n k)) ∧ ∀ t, t < n.tasks.length → (T t = true ↔ Rt n t)
theorem WI.told {n : Ne} {P T : Nat → Bool} (h : WI n P T [] (fun _ => False)) : Told n P T := by
  have cl : Clo n fun k => P k = true := ⟨h.2.1, fun t ht p hp hi hP k hk ho => h.2.2.2.1 t ht (h.2.2.2.2 p hp hP (by simp) (fun f => f) t ht hi) k hk ho⟩
  refine ⟨fun k hk => ⟨h.1 k hk, fun g => g _ cl⟩, fun t ht => ⟨fun g => ?_, fun ⟨p, hp, hR, hi⟩ => ?_⟩⟩
  · obtain ⟨p, hp, hP, hi⟩ := h.2.2.1 t ht g
    exact ⟨p, hp, h.1 p hp hP, hi⟩
  · exact h.2.2.2.2 p hp (hR _ cl) (by simp) (fun f => f) t ht hi
/-- which tasks stand where -/
theorem tkArcs_mem {np : Nat} {i : Int} : ∀ (l : List Ar) (L : Nat → List Int) (p : Nat) (z : Int), p < np → (z ∈ tkArcs np i L l p ↔ z ∈ L p ∨ (z = i ∧ At l p))
  | [], L, p, z, hp => ⟨fun h => .inl h, fun h => h.elim id fun ⟨_, x, hx, _⟩ => (by cases hx)⟩
  | x :: r, L, p, z, hp => by
    have e : tkArcs np i L (x :: r) = tkArcs np i (if inB x.place np then upd L x.place.toNat (L x.place.toNat ++ [i]) else L) r := rfl
    rw [e, tkArcs_mem r _ p z hp]
    have key : z ∈ (if inB x.place np then upd L x.place.toNat (L x.place.toNat ++ [i]) else L) p ↔ z ∈ L p ∨ (z = i ∧ x.place = (p : Int)) := by
      cases hb : inB x.place np with
      | false =>
        rw [if_neg (by simp)]
        refine ⟨.inl, fun h => h.elim id fun ⟨_, h⟩ => ?_⟩
        rw [h, inB_nat hp] at hb; cases hb
      | true =>
        rw [if_pos rfl]
        obtain ⟨k, hk, hkn⟩ := inB_yes hb
        rw [hk, Int.toNat_natCast]
        unfold upd
        by_cases f : p = k
        · subst f; rw [if_pos rfl]; simp
        · rw [if_neg f]
          refine ⟨.inl, fun h => h.elim id fun ⟨_, h⟩ => absurd (by omega) f⟩
    rw [key]
    constructor
    · rintro ((h | ⟨h1, h2⟩) | ⟨h1, y, hy, h2⟩)
      · exact .inl h
      · exact .inr ⟨h1, x, by simp, h2⟩
      · exact .inr ⟨h1, y, by simp [hy], h2⟩
    · rintro (h | ⟨h1, y, hy, h2⟩)
      · exact .inl (.inl h)
      · rcases List.mem_cons.1 hy with rfl | hy
        · exact .inl (.inr ⟨h1, h2⟩)
        · exact .inr ⟨h1, y, hy, h2⟩
theorem tkAll_mem (n : Ne) (p : Nat) (z : Int) (hp : p < n.places.length) : ∀ m, z ∈ tkAll n m p ↔ ∃ t : Nat, z = t ∧ t < m ∧ TI n t p
  | 0 => ⟨fun h => (by cases h), fun ⟨t, _, h, _⟩ => (by omega)⟩
  | m + 1 => by
    show z ∈ tkArcs n.places.length m (tkAll n m) (n.tasks.getD m nilTa).ins p ↔ _
    rw [tkArcs_mem _ _ p z hp, tkAll_mem n p z hp m]
    constructor
    · rintro (⟨t, h1, h2, h3⟩ | ⟨h1, h2⟩)
      · exact ⟨t, h1, by omega, h3⟩
      · exact ⟨m, h1, by omega, h2⟩
    · rintro ⟨t, h1, h2, h3⟩
      by_cases e : t = m
      · subst e; exact .inr ⟨h1, h3⟩
      · exact .inl ⟨t, h1, by omega, h3⟩
end Go.Proofs.YtgdkomkflfodaaaGreat.Check
/- A walk's memory: as it is made, as a place is taken from it. -/
namespace Go.Proofs.YtgdkomkflfodaaaGreat.Check
open Go.Proofs.YtgdkomkflfodaaaGreat.Dag Go.RowKit Go.Proofs.YtgdkomkflfodaaaGreat.Frame Go.Proofs.YtgdkomkflfodaaaGreat.Colour Go.Proofs.YtgdkomkflfodaaaGreat.Expr
set_option linter.unusedVariables false
set_option linter.unusedSimpArgs false

theorem WM.rebase {B : Nat} {H : World} {M : Nat → Prop} {q gp gt np nt : Nat} {P T : Nat → Bool} {O : List Int} {a : Option Addr} {c : Nat} {wr : World} (h : WM B H M q gp gt np nt P T O a c wr) : WM B wr (fun b => b = q ∨ b = gp ∨ b = gt ∨ a.map Addr.block = some b) q gp gt np nt P T O a c wr :=
  ⟨h.1, h.2.1, Ch.refl _ _, fun b hb => .inl hb, h.2.2.2.2⟩
theorem WM.own_le {B : Nat} {H : World} {M : Nat → Prop} {q gp gt np nt : Nat} {P T : Nat → Bool} {O : List Int} {a : Option Addr} {c : Nat} {wr : World} (h : WM B H M q gp gt np nt P T O a c wr) : ∀ b, (b = q ∨ b = gp ∨ b = gt ∨ a.map Addr.block = some b) → B ≤ b ∧ b < wr.heap.size := fun b hb => by
  rcases hb with e | e | e | e
  · subst e; exact ⟨h.2.1.1.1, h.1.1.lt⟩
  · subst e; exact ⟨h.2.1.1.2.1, h.1.2.1.lt⟩
  · subst e; exact ⟨h.2.1.1.2.2.1, h.1.2.2.1.lt⟩
  · exact own_lt h.1.2.2.2 e
/-- the last of the open places -/
theorem WM.last {B : Nat} {H : World} {M : Nat → Prop} {q gp gt np nt : Nat} {P T : Nat → Bool} {O : List Int} {a : Option Addr} {c m : Nat} {wr : World} (h : WM B H M q gp gt np nt P T O a c wr) (hm : O.length = m + 1) :
    ∃ (l : List Int) (g p : Nat), O = l ++ [(p : Int)] ∧ l.length = m ∧ a = some ⟨g, 0, none⟩ ∧ p < np ∧ P p = true ∧ wr.cell? ⟨g, m, none⟩ = some (.int .i64 (p : Int)) ∧ m + 1 ≤ c ∧ c ≤ maxLen := by
  have hne : O ≠ [] := by intro e; subst e; simp at hm
  obtain ⟨l, z, rfl⟩ : ∃ l z, O = l ++ [z] := ⟨O.dropLast, O.getLast hne, (List.dropLast_concat_getLast hne).symm⟩
  obtain ⟨k, rfl, hk, hp⟩ := h.2.2.2.2.2 z (by simp)
  have hl : l.length = m := by simpa using hm
  have ho := h.1.2.2.2
  rcases ho.2 with ⟨_, h0⟩ | ⟨g, cap, cur, hv, hb, hg, hn, hcm, hs, ht⟩
  · omega
  · injection hv with h1 h2 h3
    subst h1 h3
    refine ⟨l, g, k, rfl, hl, rfl, hk, hp, ?_, by rw [← hm]; exact hn, hcm⟩
    have e := World.ownsRow.cellAt ho m (by omega)
    rw [e]
    unfold ints
    rw [List.getElem?_map, List.getElem?_append_right (by omega), hl]
    simp
theorem WM.pop {B : Nat} {H : World} {M : Nat → Prop} {q gp gt np nt : Nat} {P T : Nat → Bool} {l : List Int} {p : Int} {g c m : Nat} {wr : World} (h : WM B H M q gp gt np nt P T (l ++ [p]) (some ⟨g, 0, none⟩) c wr) (hm : l.length = m) :
    WM B H M q gp gt np nt P T l (some ⟨g, 0, none⟩) c (wr.setCell ⟨q, 2, none⟩ (.slice (some ⟨g, 0, none⟩) m c)) := by
  subst hm
  have hc : Ch (fun b => b = q) wr (wr.setCell ⟨q, 2, none⟩ (.slice (some ⟨g, 0, none⟩) l.length c)) := (Ch.refl (fun b => b = q) wr).setCell (b := q) (o := 2) (.inl rfl) _
  have hgq := h.2.1.2.2 g rfl
  have hown : wr.ownsRow B 3 1 (.slice (some ⟨g, 0, none⟩) l.length c) l.length (ints l) := by
    have := h.1.2.2.2
    rw [List.length_append] at this
    refine ownsRow_pop (last := ints [p]) (by unfold ints; simp) ?_
    have e : ints l ++ ints [p] = ints (l ++ [p]) := by unfold ints; simp
    rw [e]
    exact this
  refine ⟨⟨?_, rowIs_ch h.1.2.1 hc (fun e => h.2.1.2.1.1 e.symm), rowIs_ch h.1.2.2.1 hc (fun e => h.2.1.2.1.2.1 e.symm), own_ch2 hown hc (fun k hk e => by rw [own_block] at hk; exact (h.2.1.2.2 k hk).1 e)⟩, ⟨⟨h.2.1.1.1, h.2.1.1.2.1, h.2.1.1.2.2.1, Nat.le_trans h.2.1.1.2.2.2 hc.size⟩, h.2.1.2⟩, ?_, h.2.2.2.1, ?_⟩
  · refine (h.1.1.set 2 _).congr fun j hj => ?_
    match j, hj with
    | 0, _ => rfl
    | 1, _ => rfl
    | 2, _ => rfl
    | j + 3, hj => omega
  · exact Ch.up2 h.2.2.1 hc fun b e => h.2.2.2.1 b (.inl e)
  · have := h.2.2.2.2
    have e : (l ++ [p]).dropLast = l := by simp
    exact e ▸ this.pop
/-- how far it is from the end, read off memory -/
def farW (gp q np : Nat) (w : World) : Nat := far np (fun k => match w.cell? ⟨gp, k, none⟩ with | some (.bool b) => b | _ => false) (match w.cell? ⟨q, 2, none⟩ with | some (.slice _ n _) => List.replicate n 0 | _ => [])
theorem WM.farW {B : Nat} {H : World} {M : Nat → Prop} {q gp gt np nt : Nat} {P T : Nat → Bool} {O : List Int} {a : Option Addr} {c : Nat} {wr : World} (h : WM B H M q gp gt np nt P T O a c wr) : farW gp q np wr = far np P O := by
  unfold Check.farW far
  have x2 := (wk_at h).2.2.1
  rw [x2]
  have e : cnt np (fun k => match wr.cell? ⟨gp, k, none⟩ with | some (.bool b) => b | _ => false) = cnt np P := cnt_congr fun k hk => by
    have := h.1.2.1.cell hk
    simp only [this]
  rw [e]
  simp
theorem far_pop (np : Nat) (P : Nat → Bool) (l : List Int) (p : Int) : far np P (l ++ [p]) = far np P l + 1 := by
  unfold far; rw [List.length_append]; simp; omega

/- as it is made -/
def zero3 : Nat → Value := fun j => (#[.slice none 0 0, .slice none 0 0, .slice none 0 0] : Array Value).getD j undef
theorem box3 (W : World) : (W.alloc (.cells #[.slice none 0 0, .slice none 0 0, .slice none 0 0] 87)).rowIs W.heap.size 87 3 zero3 := World.rowIs_alloc W #[.slice none 0 0, .slice none 0 0, .slice none 0 0] _ zero3 fun i hi => by
  match i, hi with
  | 0, _ => rfl
  | 1, _ => rfl
  | 2, _ => rfl
  | i + 3, hi => exact absurd hi (by simp)
/-- a row of no; the walk's box -/
def Ro (wz : World) (np g : Nat) (W : World) : Prop := W.rowIs g 4 np (fun _ => .bool false) ∧ wz.heap.size ≤ g
def Bo (wz : World) (q : Nat) (W : World) : Prop := W.rowIs q 87 3 zero3 ∧ wz.heap.size ≤ q
theorem Ro.alloc {wz W : World} {np g : Nat} (h : Ro wz np g W) (o : Obj) : Ro wz np g (W.alloc o) := ⟨h.1.alloc o, h.2⟩
theorem Bo.alloc {wz W : World} {q : Nat} (h : Bo wz q W) (o : Obj) : Bo wz q (W.alloc o) := ⟨h.1.alloc o, h.2⟩
theorem Ro.of {wz W : World} (h : Below wz.heap.size wz W) (np : Nat) : Ro wz np W.heap.size (W.alloc (.cells (madeCells #[.bool false] np) 4)) := ⟨World.rowIs_made _ _ _ _, h.size⟩
theorem Bo.of {wz W : World} (h : Below wz.heap.size wz W) : Bo wz W.heap.size (W.alloc (.cells #[.slice none 0 0, .slice none 0 0, .slice none 0 0] 87)) := ⟨box3 W, h.size⟩
/-- three cells that are written -/
def put3 (W : World) (q : Nat) (v0 v1 v2 : Value) : World := ((W.setCell ⟨q, 0, none⟩ v0).setCell ⟨q, 1, none⟩ v1).setCell ⟨q, 2, none⟩ v2
theorem put3_row {W : World} {q : Nat} {t : TypeId} {f : Nat → Value} (h : W.rowIs q t 3 f) (v0 v1 v2 : Value) : (put3 W q v0 v1 v2).rowIs q t 3 (fun j => (#[v0, v1, v2] : Array Value).getD j undef) := by
  refine (((h.set 0 v0).set 1 v1).set 2 v2).congr fun i hi => ?_
  match i, hi with
  | 0, _ => rfl
  | 1, _ => rfl
  | 2, _ => rfl
  | i + 3, hi => omega
theorem put3_other {W : World} {q b n : Nat} {t : TypeId} {f : Nat → Value} (h : W.rowIs b t n f) (hq : b ≠ q) (v0 v1 v2 : Value) : (put3 W q v0 v1 v2).rowIs b t n f :=
  ((h.setOther (a := ⟨q, 0, none⟩) hq v0).setOther (a := ⟨q, 1, none⟩) hq v1).setOther (a := ⟨q, 2, none⟩) hq v2
theorem put3_below {B : Nat} {w W : World} {q : Nat} (h : Below B w W) (hq : B ≤ q) (v0 v1 v2 : Value) : Below B w (put3 W q v0 v1 v2) :=
  ((h.setCell (p := ⟨q, 0, none⟩) hq v0).setCell (p := ⟨q, 1, none⟩) hq v1).setCell (p := ⟨q, 2, none⟩) hq v2
/-- all three are there -/
def A3 (wz : World) (np nt gp gt q : Nat) (W : World) : Prop := Below wz.heap.size wz W ∧ Ro wz np gp W ∧ Ro wz nt gt W ∧ Bo wz q W ∧ q ≠ gp ∧ q ≠ gt ∧ gp ≠ gt
def F3 (wz : World) (np nt gp gt q : Nat) (W : World) : Prop := Below wz.heap.size wz W ∧ WM wz.heap.size W (fun b => b = q ∨ b = gp ∨ b = gt) q gp gt np nt (fun _ => false) (fun _ => false) [] none 0 W
theorem A3.fin {wz W : World} {np nt gp gt q : Nat} (h : A3 wz np nt gp gt q W) : F3 wz np nt gp gt q (put3 W q (.slice (some ⟨gp, 0, none⟩) np np) (.slice (some ⟨gt, 0, none⟩) nt nt) (.slice none 0 0)) := by
  obtain ⟨hb, ⟨h1, g1⟩, ⟨h2, g2⟩, ⟨h3, g3⟩, e1, e2, e3⟩ := h
  refine ⟨put3_below hb g3 _ _ _, ⟨⟨?_, put3_other h1 (fun e => e1 e.symm) _ _ _, put3_other h2 (fun e => e2 e.symm) _ _ _, World.ownsRow_nil _ _ _ _⟩, ⟨⟨g3, g1, g2, (put3_below hb g3 _ _ _).size⟩, ⟨e1, e2, e3⟩, fun k hk => by cases hk⟩, Ch.refl _ _, fun b hb => ?_, ⟨Nat.zero_le _, fun z hz => by cases hz⟩⟩⟩
  · exact put3_row h3 _ _ _
  · rcases hb with e | e | e | e
    · exact .inl (.inl e)
    · exact .inl (.inr (.inl e))
    · exact .inl (.inr (.inr e))
    · cases e
theorem A3.cells {wz W : World} {np nt gp gt q : Nat} (h : A3 wz np nt gp gt q W) : (W.cell? ⟨q, 0, none⟩ = some (.slice none 0 0) ∧ W.cell? ⟨q, 1, none⟩ = some (.slice none 0 0) ∧ W.cell? ⟨q, 2, none⟩ = some (.slice none 0 0)) ∧ (W.frozen? ⟨q, 0, none⟩ = false ∧ W.frozen? ⟨q, 1, none⟩ = false ∧ W.frozen? ⟨q, 2, none⟩ = false) ∧ q < W.heap.size :=
  ⟨⟨h.2.2.2.1.1.cell (by decide), h.2.2.2.1.1.cell (by decide), h.2.2.2.1.1.cell (by decide)⟩, ⟨h.2.2.2.1.1.frozen 0, h.2.2.2.1.1.frozen 1, h.2.2.2.1.1.frozen 2⟩, h.2.2.2.1.1.lt⟩
/- on the way there -/
def P1 (wz : World) (np gp : Nat) (W : World) : Prop := Below wz.heap.size wz W ∧ Ro wz np gp W
def B1 (wz : World) (q : Nat) (W : World) : Prop := Below wz.heap.size wz W ∧ Bo wz q W
def P2 (wz : World) (np nt gp gt : Nat) (W : World) : Prop := Below wz.heap.size wz W ∧ Ro wz np gp W ∧ Ro wz nt gt W ∧ gp ≠ gt
def PB (wz : World) (np gp q : Nat) (W : World) : Prop := Below wz.heap.size wz W ∧ Ro wz np gp W ∧ Bo wz q W ∧ q ≠ gp
abbrev mk (W : World) (np : Nat) : World := W.alloc (.cells (madeCells #[.bool false] np) 4)
abbrev mkB (W : World) : World := W.alloc (.cells #[.slice none 0 0, .slice none 0 0, .slice none 0 0] 87)
theorem P1.of {wz W : World} (h : Below wz.heap.size wz W) (np : Nat) : P1 wz np W.heap.size (mk W np) := ⟨al h _, Ro.of h np⟩
theorem B1.of {wz W : World} (h : Below wz.heap.size wz W) : B1 wz W.heap.size (mkB W) := ⟨al h _, Bo.of h⟩
theorem P1.row {wz W : World} {np gp : Nat} (h : P1 wz np gp W) (nt : Nat) : P2 wz np nt gp W.heap.size (mk W nt) := ⟨al h.1 _, h.2.alloc _, Ro.of h.1 nt, by have := h.2.1.lt; omega⟩
theorem P1.row' {wz W : World} {nt gt : Nat} (h : P1 wz nt gt W) (np : Nat) : P2 wz np nt W.heap.size gt (mk W np) := ⟨al h.1 _, Ro.of h.1 np, h.2.alloc _, by have := h.2.1.lt; omega⟩
theorem P1.box {wz W : World} {np gp : Nat} (h : P1 wz np gp W) : PB wz np gp W.heap.size (mkB W) := ⟨al h.1 _, h.2.alloc _, Bo.of h.1, by have := h.2.1.lt; omega⟩
theorem B1.row {wz W : World} {q : Nat} (h : B1 wz q W) (np : Nat) : PB wz np W.heap.size q (mk W np) := ⟨al h.1 _, Ro.of h.1 np, h.2.alloc _, by have := h.2.1.lt; omega⟩
theorem P2.box {wz W : World} {np nt gp gt : Nat} (h : P2 wz np nt gp gt W) : A3 wz np nt gp gt W.heap.size (mkB W) := ⟨al h.1 _, h.2.1.alloc _, h.2.2.1.alloc _, Bo.of h.1, by have := h.2.1.1.lt; omega, by have := h.2.2.1.1.lt; omega, h.2.2.2⟩
theorem PB.row {wz W : World} {np gp q : Nat} (h : PB wz np gp q W) (nt : Nat) : A3 wz np nt gp W.heap.size q (mk W nt) := ⟨al h.1 _, h.2.1.alloc _, Ro.of h.1 nt, h.2.2.1.alloc _, h.2.2.2, by have := h.2.2.1.1.lt; omega, by have := h.2.1.1.lt; omega⟩
theorem PB.row' {wz W : World} {nt gt q : Nat} (h : PB wz nt gt q W) (np : Nat) : A3 wz np nt W.heap.size gt q (mk W np) := ⟨al h.1 _, Ro.of h.1 np, h.2.1.alloc _, h.2.2.1.alloc _, by have := h.2.2.1.1.lt; omega, h.2.2.2, by have := h.2.1.1.lt; omega⟩
theorem infoBool : (Tryz.prog.info? 4).map (fun i => (i.zero, i.size, i.bytes)) = some (some (.bool false), 1, 1) := by kernel_rfl
end Go.Proofs.YtgdkomkflfodaaaGreat.Check
