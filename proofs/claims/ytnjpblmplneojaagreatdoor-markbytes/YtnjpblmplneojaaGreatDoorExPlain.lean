/- Expressions as trees: what is told of them, in plain Lean. -/
import Derived.Test.YtnjpblmplneojaaGreatDoorCalcPlain
namespace Go.Proofs.YtnjpblmplneojaaGreatDoor.Expr
open Go.Proofs.YtnjpblmplneojaaGreatDoor.Calc
set_option linter.unusedVariables false

/-- an expression -/
structure Ex where
  kind : Int
  num : Int
  kids : List Ex

theorem Ex.ind {p : Ex → Prop} (h : ∀ k n ks, (∀ x, x ∈ ks → p x) → p ⟨k, n, ks⟩) : ∀ t, p t := by
  have key : ∀ (m : Nat) (t : Ex), SizeOf.sizeOf t ≤ m → p t := by
    intro m
    induction m with
    | zero => intro t ht; cases t; simp at ht
    | succ m ih =>
      intro t ht
      obtain ⟨k, n, ks⟩ := t
      refine h k n ks fun x hx => ih x ?_
      have := List.sizeOf_lt_of_mem hx
      simp at ht
      omega
  exact fun t => key _ t (Nat.le_refl _)

def fold {α : Type} (f : Int → Int → List Ex → List α → α) : Ex → α
  | ⟨k, n, ks⟩ => f k n ks (ks.map (fold f))
theorem fold_eq {α : Type} (f : Int → Int → List Ex → List α → α) (k n : Int) (ks : List Ex) : fold f ⟨k, n, ks⟩ = f k n ks (ks.map (fold f)) := by
  rw [fold]

/-- the greatest of some numbers, and of 0 -/
def mx : List Nat → Nat
  | [] => 0
  | x :: l => max x (mx l)
def sm : List Nat → Nat
  | [] => 0
  | x :: l => x + sm l
def depthF : Ex → Nat := fold fun _ _ _ l => 1 + mx l
def sizeF : Ex → Nat := fold fun _ _ _ l => 1 + sm l
theorem depth_eq (k n : Int) (ks : List Ex) : depthF ⟨k, n, ks⟩ = 1 + mx (ks.map depthF) := fold_eq ..
theorem size_eq (k n : Int) (ks : List Ex) : sizeF ⟨k, n, ks⟩ = 1 + sm (ks.map sizeF) := fold_eq ..
theorem mx_snoc (l : List Nat) (x : Nat) : mx (l ++ [x]) = max (mx l) x := by
  induction l with
  | nil => simp [mx]
  | cons y l ih => simp only [List.cons_append, mx, ih]; omega
theorem sm_snoc (l : List Nat) (x : Nat) : sm (l ++ [x]) = sm l + x := by
  induction l with
  | nil => simp [sm]
  | cons y l ih => simp only [List.cons_append, sm, ih]; omega
theorem mx_mem {l : List Nat} {x : Nat} (h : x ∈ l) : x ≤ mx l := by
  induction l with
  | nil => cases h
  | cons y l ih =>
    rcases List.mem_cons.1 h with rfl | h
    · simp only [mx]; omega
    · have := ih h; simp only [mx]; omega
theorem mx_le {l : List Nat} {m : Nat} (h : ∀ x, x ∈ l → x ≤ m) : mx l ≤ m := by
  induction l with
  | nil => simp [mx]
  | cons y l ih =>
    have h1 := h y (by simp)
    have h2 := ih fun x hx => h x (by simp [hx])
    simp only [mx]; omega
theorem sm_mem {l : List Nat} {x : Nat} (h : x ∈ l) : x ≤ sm l := by
  induction l with
  | nil => cases h
  | cons y l ih =>
    rcases List.mem_cons.1 h with rfl | h
    · simp only [sm]; omega
    · have := ih h; simp only [sm]; omega
theorem sm_append (l r : List Nat) : sm (l ++ r) = sm l + sm r := by
  induction l with
  | nil => simp [sm]
  | cons y l ih => simp only [List.cons_append, sm, ih]; omega
theorem sm_take_le (l : List Nat) (k : Nat) : sm (l.take k) ≤ sm l := by
  have h := sm_append (l.take k) (l.drop k)
  rw [List.take_append_drop] at h
  omega
theorem mx_take_le (l : List Nat) (k : Nat) : mx (l.take k) ≤ mx l := mx_le fun x hx => mx_mem (List.mem_of_mem_take hx)
theorem depth_pos (t : Ex) : 1 ≤ depthF t := by obtain ⟨k, n, ks⟩ := t; rw [depth_eq]; omega
theorem size_pos (t : Ex) : 1 ≤ sizeF t := by obtain ⟨k, n, ks⟩ := t; rw [size_eq]; omega
theorem size_kid {k n : Int} {ks : List Ex} {x : Ex} (h : x ∈ ks) : sizeF x + 1 ≤ sizeF ⟨k, n, ks⟩ := by
  rw [size_eq]
  have := sm_mem (List.mem_map_of_mem (f := sizeF) h)
  omega
theorem depth_kid {k n : Int} {ks : List Ex} {x : Ex} (h : x ∈ ks) : depthF x + 1 ≤ depthF ⟨k, n, ks⟩ := by
  rw [depth_eq]
  have := mx_mem (List.mem_map_of_mem (f := depthF) h)
  omega
theorem len_le_sm (ks : List Ex) : ks.length ≤ sm (ks.map sizeF) := by
  induction ks with
  | nil => simp [sm]
  | cons x l ih => simp only [List.map_cons, sm, List.length_cons]; have := size_pos x; omega
theorem len_size (k n : Int) (ks : List Ex) : ks.length + 1 ≤ sizeF ⟨k, n, ks⟩ := by
  rw [size_eq]; have := len_le_sm ks; omega
theorem depth_le_size : ∀ t, depthF t ≤ sizeF t := by
  refine Ex.ind fun k n ks ih => ?_
  rw [depth_eq, size_eq]
  have : mx (ks.map depthF) ≤ sm (ks.map sizeF) := mx_le fun x hx => by
    obtain ⟨y, hy, rfl⟩ := List.mem_map.1 hx
    exact Nat.le_trans (ih y hy) (sm_mem (List.mem_map_of_mem hy))
  omega

/-- is a node as its kind asks? -/
def nodeB (vars : Int) (k n : Int) (len : Nat) : Bool :=
  if k = 1 then decide (len = 0) else if k = 2 then decide (len = 0 ∧ 0 ≤ n ∧ n < vars) else if k = 3 then decide (len = 1) else if k = 4 then decide (len = 1)
  else if k = 5 then decide (len = 2) && knownB n else if k = 6 then decide (len = 3) else false
def partsB (vars : Int) : Ex → Bool := fold fun k n ks l => nodeB vars k n ks.length && l.all id
theorem parts_eq (vars k n : Int) (ks : List Ex) : partsB vars ⟨k, n, ks⟩ = (nodeB vars k n ks.length && ks.all (partsB vars)) := by
  unfold partsB
  rw [fold_eq, List.all_map]; rfl
def rightB (vars : Int) (t : Ex) : Bool := decide (depthF t ≤ 40 ∧ sizeF t ≤ 400) && partsB vars t
theorem parts_kid {vars k n : Int} {ks : List Ex} {x : Ex} (h : partsB vars ⟨k, n, ks⟩ = true) (hx : x ∈ ks) : partsB vars x = true := by
  rw [parts_eq, Bool.and_eq_true] at h
  exact List.all_eq_true.1 h.2 x hx
theorem parts_node {vars k n : Int} {ks : List Ex} (h : partsB vars ⟨k, n, ks⟩ = true) : nodeB vars k n ks.length = true := by
  rw [parts_eq, Bool.and_eq_true] at h
  exact h.1

/-- what a node comes to, of what its kids do -/
def nodeF (env : List Int) (k n : Int) (l : List (Int × Int)) : Int × Int :=
  if k = 1 then (n, 0) else if k = 2 then (env.getD n.toNat 0, 0)
  else if (l.getD 0 (0, 0)).2 ≠ 0 then (0, (l.getD 0 (0, 0)).2)
  else if k = 3 then doF 2 0 (l.getD 0 (0, 0)).1
  else if k = 4 then (if (l.getD 0 (0, 0)).1 = 0 then 1 else 0, 0)
  else if k = 6 then (if (l.getD 0 (0, 0)).1 = 0 then l.getD 2 (0, 0) else l.getD 1 (0, 0))
  else if n = 10 ∧ (l.getD 0 (0, 0)).1 = 0 then (0, 0)
  else if n = 11 ∧ (l.getD 0 (0, 0)).1 ≠ 0 then (1, 0)
  else if (l.getD 1 (0, 0)).2 ≠ 0 then (0, (l.getD 1 (0, 0)).2)
  else doF n (l.getD 0 (0, 0)).1 (l.getD 1 (0, 0)).1
def valF (env : List Int) : Ex → Int × Int := fold fun k n _ l => nodeF env k n l
theorem val_eq (env : List Int) (k n : Int) (ks : List Ex) : valF env ⟨k, n, ks⟩ = nodeF env k n (ks.map (valF env)) := fold_eq ..
def evalF (env : List Int) (t : Ex) : Int × Int := if rightB env.length t then valF env t else (0, 1)

/-- the numbers of all variables, in their order -/
def varsF : Ex → List Int := fold fun k n _ l => (if k = 2 then [n] else []) ++ l.flatten
theorem vars_eq (k n : Int) (ks : List Ex) : varsF ⟨k, n, ks⟩ = (if k = 2 then [n] else []) ++ (ks.map varsF).flatten := fold_eq ..

def putF (v : Int) (by_ : Ex) : Ex → Ex := fold fun k n _ l => if k = 2 ∧ n = v then by_ else ⟨k, n, l⟩
theorem put_eq (v : Int) (by_ : Ex) (k n : Int) (ks : List Ex) : putF v by_ ⟨k, n, ks⟩ = if k = 2 ∧ n = v then by_ else ⟨k, n, ks.map (putF v by_)⟩ := fold_eq ..
end Go.Proofs.YtnjpblmplneojaaGreatDoor.Expr
