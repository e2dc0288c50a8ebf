/- The tasks that may take from each place: what lies in memory. -/
import Derived.Test.YtgdkomkflfodaaaGreatChkDo
import Derived.Test.YtgdkomkflfodaaaGreatHeldDag
namespace Go.Proofs.YtgdkomkflfodaaaGreat.Check
open Go.Proofs.YtgdkomkflfodaaaGreat.Dag Go.RowKit Go.Proofs.YtgdkomkflfodaaaGreat.Frame Go.Proofs.YtgdkomkflfodaaaGreat.Colour Go.Proofs.YtgdkomkflfodaaaGreat.Expr
set_option linter.unusedVariables false
set_option linter.unusedSimpArgs false

/-- rows of numbers, each of the call's own, apart from one another -/
def TkM (B g np : Nat) (L : Nat → List Int) (sa : Nat → Option Addr) (cs : Nat → Nat) (wr : World) : Prop :=
  wr.rowIs g 36 np (fun p => .slice (sa p) (L p).length (cs p)) ∧ (B ≤ g ∧ B ≤ wr.heap.size) ∧ (∀ p, p < np → wr.ownsRow B 3 1 (.slice (sa p) (L p).length (cs p)) (L p).length (ints (L p))) ∧
  (∀ p, p < np → ∀ k, (sa p).map Addr.block = some k → k ≠ g) ∧ ∀ p p' k, p < np → p' < np → (sa p).map Addr.block = some k → (sa p').map Addr.block = some k → p = p'
theorem TkM.ch {B g np : Nat} {L : Nat → List Int} {sa : Nat → Option Addr} {cs : Nat → Nat} {wr w' : World} {M : Nat → Prop} (h : TkM B g np L sa cs wr) (hc : Ch M wr w') (hg : ¬ M g) (hm : ∀ p, p < np → ∀ k, (sa p).map Addr.block = some k → ¬ M k) : TkM B g np L sa cs w' :=
  ⟨rowIs_ch h.1 hc hg, ⟨h.2.1.1, Nat.le_trans h.2.1.2 hc.size⟩, fun p hp => own_ch2 (h.2.2.1 p hp) hc (fun k hk => hm p hp k (by rw [own_block] at hk; exact hk)), h.2.2.2⟩
theorem TkM.below {B g np : Nat} {L : Nat → List Int} {sa : Nat → Option Addr} {cs : Nat → Nat} {wr w' : World} (h : TkM B g np L sa cs wr) (hb : Below wr.heap.size wr w') : TkM B g np L sa cs w' :=
  h.ch (M := fun _ => False) (Ch.of_below hb) (fun h => h) (fun _ _ _ _ h => h)
def upd {α : Type} (f : Nat → α) (p : Nat) (x : α) : Nat → α := fun j => if j = p then x else f j
/-- one number more in one of the rows, and the row's cell written -/
theorem TkM.push {B g np : Nat} {L : Nat → List Int} {sa : Nat → Option Addr} {cs : Nat → Nat} {wr w1 w2 : World} {p : Nat} {x : Int} {a' : Option Addr} {c' : Nat} (h : TkM B g np L sa cs wr) (hp : p < np) (h1 : Below wr.heap.size wr w1)
    (hown : w2.ownsRow B 3 1 (.slice a' ((L p).length + 1) c') ((L p).length + 1) (ints (L p ++ [x]))) (hg : w1.grownBy w2 ((sa p).map Addr.block)) (hat : a'.map Addr.block = (sa p).map Addr.block ∨ a'.map Addr.block = some w1.heap.size) :
    TkM B g np (upd L p (L p ++ [x])) (upd sa p a') (upd cs p c') (w2.setCell ⟨g, p, none⟩ (.slice a' ((L p).length + 1) c')) := by
  have hw1 := h.below h1
  have hc : Ch (fun b => (sa p).map Addr.block = some b) w1 w2 := Ch.grown hg fun b e => e
  have hgl := hw1.1.lt
  have hblt : ∀ j, j < np → ∀ k, (sa j).map Addr.block = some k → k < w1.heap.size := fun j hj k hk => (own_lt (hw1.2.2.1 j hj) hk).2
  have hna : ∀ k, a'.map Addr.block = some k → k ≠ g := fun k hk => by
    rcases hat with e | e
    · exact h.2.2.2.1 p hp k (by rw [← e]; exact hk)
    · rw [hk] at e; injection e with e; omega
  have hc2 : Ch (fun b => b = g) w2 (w2.setCell ⟨g, p, none⟩ (.slice a' ((L p).length + 1) c')) := (Ch.refl (fun b => b = g) w2).setCell (b := g) (o := p) (.inl rfl) _
  refine ⟨?_, ⟨h.2.1.1, Nat.le_trans hw1.2.1.2 (Nat.le_trans hc.size hc2.size)⟩, fun j hj => ?_, fun j hj k hk => ?_, fun i j k hi hj e1 e2 => ?_⟩
  · refine ((rowIs_ch hw1.1 hc (fun e => h.2.2.2.1 p hp g e rfl)).set p _).congr fun j hj => ?_
    unfold upd
    by_cases e : j = p
    · rw [if_pos e, if_pos e, if_pos e, if_pos e, List.length_append]; rfl
    · rw [if_neg e, if_neg e, if_neg e, if_neg e]
  · unfold upd
    by_cases e : j = p
    · rw [if_pos e, if_pos e, if_pos e, List.length_append]
      exact own_ch2 hown hc2 (fun k hk e => hna k (by rw [own_block] at hk; exact hk) e)
    · rw [if_neg e, if_neg e, if_neg e]
      refine own_ch2 (own_ch2 (hw1.2.2.1 j hj) hc ?_) hc2 ?_
      · intro k hk e2
        rw [own_block] at hk
        exact e (h.2.2.2.2 j p k hj hp hk e2)
      · intro k hk e2
        rw [own_block] at hk
        exact h.2.2.2.1 j hj k hk e2
  · unfold upd at hk
    by_cases e : j = p
    · rw [if_pos e] at hk; exact hna k hk
    · rw [if_neg e] at hk; exact h.2.2.2.1 j hj k hk
  · unfold upd at e1 e2
    have key : ∀ j, j < np → j ≠ p → ∀ k, a'.map Addr.block = some k → (sa j).map Addr.block = some k → False := fun j hj hne k hk hk2 => by
      rcases hat with e | e
      · exact hne (h.2.2.2.2 j p k hj hp hk2 (by rw [← e]; exact hk))
      · rw [hk] at e; injection e with e
        have := hblt j hj k hk2
        omega
    by_cases f1 : i = p
    · by_cases f2 : j = p
      · omega
      · rw [if_pos f1] at e1; rw [if_neg f2] at e2
        exact (key j hj f2 k e1 e2).elim
    · by_cases f2 : j = p
      · rw [if_neg f1] at e1; rw [if_pos f2] at e2
        exact (key i hi f1 k e2 e1).elim
      · rw [if_neg f1] at e1; rw [if_neg f2] at e2
        exact h.2.2.2.2 i j k hi hj e1 e2
theorem TkM.at {B g np : Nat} {L : Nat → List Int} {sa : Nat → Option Addr} {cs : Nat → Nat} {wr : World} (h : TkM B g np L sa cs wr) {p : Nat} (hp : p < np) : wr.cell? ⟨g, p, none⟩ = some (.slice (sa p) (L p).length (cs p)) ∧ wr.frozen? ⟨g, p, none⟩ = false ∧ g < wr.heap.size := ⟨h.1.cell hp, h.1.frozen p, h.1.lt⟩
/-- the rows as they are made -/
theorem TkM.made {B np : Nat} {w : World} (hB : B ≤ w.heap.size) : TkM B w.heap.size np (fun _ => []) (fun _ => none) (fun _ => 0) (w.alloc (.cells (madeCells #[.slice none 0 0] np) 36)) :=
  ⟨World.rowIs_made _ _ _ _, ⟨hB, by simp; omega⟩, fun p hp => World.ownsRow_nil _ _ _ _, fun p hp k hk => (by cases hk), fun p p' k _ _ hk => (by cases hk)⟩

/- what the rows hold -/
/-- the tasks that may take from each place, after some of a task's arcs -/
def tkArcs (np : Nat) (i : Int) (L : Nat → List Int) (l : List Ar) : Nat → List Int := l.foldl (fun L x => if inB x.place np then upd L x.place.toNat (L x.place.toNat ++ [i]) else L) L
theorem tkArcs_take (np : Nat) (i : Int) (L : Nat → List Int) (l : List Ar) (j : Nat) (hj : j < l.length) : tkArcs np i L (l.take (j + 1)) = if inB (l.getD j nilAr).place np then upd (tkArcs np i L (l.take j)) (l.getD j nilAr).place.toNat (tkArcs np i L (l.take j) (l.getD j nilAr).place.toNat ++ [i]) else tkArcs np i L (l.take j) := by
  unfold tkArcs
  rw [List.take_succ_eq_append_getElem hj, List.foldl_append, List.getD_eq_getElem?_getD, List.getElem?_eq_getElem hj]
  rfl
def tkAll (n : Ne) : Nat → Nat → List Int
  | 0 => fun _ => []
  | i + 1 => tkArcs n.places.length i (tkAll n i) (n.tasks.getD i nilTa).ins
end Go.Proofs.YtgdkomkflfodaaaGreat.Check
