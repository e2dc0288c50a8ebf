/- A region that draws its order, in which all but its calls can be done at any time: walked in one way. No program stands in it. -/
import Derived.Deep.RegionHeld
import Derived.Deep.RegionLaw
namespace Go.Proofs.YtgdkomkflfodaaaGreat.Dag
open Go
set_option linter.unusedVariables false
section
variable {P : Program} {ops : Array Oper} {Q : Exit → Act → World → Prop} {md : Region.Mode} {S : World → Prop}
/-- each of these operations, done now, keeps S and comes to F behind it -/
def AllFH (P : Program) (ops : Array Oper) (Q : Exit → Act → World → Prop) (S : World → Prop) (F : Nat → Array Bool → Act → World → Prop) (n : Nat) (l : Array Bool) (a : Act) (w : World) (rs : List Nat) : Prop := ∀ i ∈ rs, wpOp P ops Q i (fun a' w' => S w' ∧ F n (l.setIfInBounds i true) a' w') a w
theorem AllFH.nil {F : Nat → Array Bool → Act → World → Prop} {n : Nat} {l : Array Bool} {a : Act} {w : World} : AllFH P ops Q S F n l a w [] := fun i h => by cases h
theorem AllFH.cons {F : Nat → Array Bool → Act → World → Prop} {n : Nat} {l l' : Array Bool} {a : Act} {w : World} {i : Nat} {o : Oper} {rs : List Nat} (ho : ops[i]? = some o) (hl : l.setIfInBounds i true = l')
    (h : ∀ K' : Act → World → Prop, (∀ a w, S w → F n l' a w → K' a w) → if Region.wanted o (yielded ops a.tmps) = true then Oper.wp P o a w K' Q else K' (a.put o.dst undef) w)
    (hs : AllFH P ops Q S F n l a w rs) : AllFH P ops Q S F n l a w (i :: rs) := fun j hj => by
  rcases List.mem_cons.1 hj with rfl | hj
  · subst hl; exact wpOp_step ho fun K' hK' => h K' fun a w hS hF => hK' a w ⟨hS, hF⟩
  · exact hs j hj
/-- the walk's name: an operation that tells the same in every world that S takes is done first; a call that alone may come up is done; it ends -/
theorem wpAnyH_steps {n : Nat} {l l' : Array Bool} {a a' : Act} {w : World} (hl : l = l') (ha : a = a') (hsel : Region.noSelect ops = true) (hQ : ∀ c a d (v : Value) w, Q (.panic c) (a.put d v) w → Q (.panic c) a w)
    (h : ∀ F : Nat → Array Bool → Act → World → Prop,
      (∀ (n : Nat) (l l' : Array Bool) (a a' : Act) (w : World) (i : Nat) (oi : Oper) (v : Value), ops[i]? = some oi → Region.free md ops l i = true → (Region.ready md ops l).contains i = true →
        Region.wanted oi (yielded ops a.tmps) = true → (∀ w', S w' → (execOp a.eval oi).run P w' = .ok (.value v) w') → S w → l.setIfInBounds i true = l' → a.put oi.dst v = a' → F n l' a' w → F (n + 1) l a w) →
      (∀ (n : Nat) (l l' : Array Bool) (a : Act) (w : World) (i : Nat) (oi : Oper), ops[i]? = some oi → Region.ready md ops l = [i] → l.setIfInBounds i true = l' →
        (∀ K' : Act → World → Prop, (∀ a w, S w → F n l' a w → K' a w) → if Region.wanted oi (yielded ops a.tmps) = true then Oper.wp P oi a w K' Q else K' (a.put oi.dst undef) w) → F (n + 1) l a w) →
      (∀ (n : Nat) (l : Array Bool) (a : Act) (w : World) (rs : List Nat), Region.ready md ops l = rs → rs ≠ [] → AllFH P ops Q S F n l a w rs → F (n + 1) l a w) →
      (∀ (n : Nat) (l : Array Bool) (a : Act) (w : World), Region.ready md ops l = [] → Q .normal a w → F n l a w) → F n l' a' w) : wpAnyH P md ops Q S n l a w := by
  subst hl ha
  refine h (wpAnyH P md ops Q S) (fun n l l' a a' w i oi v hi hf hr hw hy hS hl ha hF => ?_) (fun n l l' a w i oi hi hr hl hK => ?_) (fun n l a w rs hr hne hs => wpAnyH_all hr hne hs) (fun n l a w hr hq => wpAnyH_done hr hq n)
  · subst hl ha
    exact wpAnyH_take hi hsel hf hr (fun c a w => hQ c a _ v w) (.inl ⟨hw, hy⟩) hS hF
  · subst hl
    refine wpAnyH_all hr (by simp) (fun j hj => ?_)
    have hj : j = i := by simpa using hj
    subst hj
    exact wpOp_step hi (fun K' hK' => hK K' fun a w hS hF => hK' a w ⟨hS, hF⟩)
end
end Go.Proofs.YtgdkomkflfodaaaGreat.Dag
