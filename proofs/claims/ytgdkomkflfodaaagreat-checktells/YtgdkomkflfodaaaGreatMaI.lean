/- Contracts and plain mathematics, together: ExPlain, ExMem. -/
import Derived.Test.YtgdkomkflfodaaaGreatMaH
import Derived.Test.YtgdkomkflfodaaaGreatMaC
import Derived.WalkSmall
/- Expressions as trees: what is told of them, in plain Lean. -/
namespace Go.Proofs.YtgdkomkflfodaaaGreat.Expr
open Go.Proofs.YtgdkomkflfodaaaGreat.Calc
set_option linter.unusedVariables false

/-- an expression -/
structure Ex where
  kind : Int
  num : Int
  kids : List Ex

theorem Ex.ind {p : Ex → Prop} (h : ∀ k n ks, (∀ x, x ∈ ks → p x) → p ⟨k, n, ks⟩) : ∀ t, p t := by
  have key : ∀ (m : Nat) (t : Ex), SizeOf.sizeOf t ≤ m → p t := by
    intro m
    induction m with
    | zero => intro t ht; cases t; simp at ht
    | succ m ih =>
      intro t ht
      obtain ⟨k, n, ks⟩ := t
      refine h k n ks fun x hx => ih x ?_
      have := List.sizeOf_lt_of_mem hx
      simp at ht
      omega
  exact fun t => key _ t (Nat.le_refl _)

def fold {α : Type} (f : Int → Int → List Ex → List α → α) : Ex → α
  | ⟨k, n, ks⟩ => f k n ks (ks.map (fold f))
theorem fold_eq {α : Type} (f : Int → Int → List Ex → List α → α) (k n : Int) (ks : List Ex) : fold f ⟨k, n, ks⟩ = f k n ks (ks.map (fold f)) := by
  rw [fold]

/-- the greatest of some numbers, and of 0 -/
def mx : List Nat → Nat
  | [] => 0
  | x :: l => max x (mx l)
def sm : List Nat → Nat
  | [] => 0
  | x :: l => x + sm l
def depthF : Ex → Nat := fold fun _ _ _ l => 1 + mx l
def sizeF : Ex → Nat := fold fun _ _ _ l => 1 + sm l
theorem depth_eq (k n : Int) (ks : List Ex) : depthF ⟨k, n, ks⟩ = 1 + mx (ks.map depthF) := fold_eq ..
theorem size_eq (k n : Int) (ks : List Ex) : sizeF ⟨k, n, ks⟩ = 1 + sm (ks.map sizeF) := fold_eq ..
theorem mx_snoc (l : List Nat) (x : Nat) : mx (l ++ [x]) = max (mx l) x := by
  induction l with
  | nil => simp [mx]
  | cons y l ih => simp only [List.cons_append, mx, ih]; omega
theorem sm_snoc (l : List Nat) (x : Nat) : sm (l ++ [x]) = sm l + x := by
  induction l with
  | nil => simp [sm]
  | cons y l ih => simp only [List.cons_append, sm, ih]; omega
theorem mx_mem {l : List Nat} {x : Nat} (h : x ∈ l) : x ≤ mx l := by
  induction l with
  | nil => cases h
  | cons y l ih =>
    rcases List.mem_cons.1 h with rfl | h
    · simp only [mx]; omega
    · have := ih h; simp only [mx]; omega
theorem mx_le {l : List Nat} {m : Nat} (h : ∀ x, x ∈ l → x ≤ m) : mx l ≤ m := by
  induction l with
  | nil => simp [mx]
  | cons y l ih =>
    have h1 := h y (by simp)
    have h2 := ih fun x hx => h x (by simp [hx])
    simp only [mx]; omega
theorem sm_mem {l : List Nat} {x : Nat} (h : x ∈ l) : x ≤ sm l := by
  induction l with
  | nil => cases h
  | cons y l ih =>
    rcases List.mem_cons.1 h with rfl | h
    · simp only [sm]; omega
    · have := ih h; simp only [sm]; omega
theorem sm_append (l r : List Nat) : sm (l ++ r) = sm l + sm r := by
  induction l with
  | nil => simp [sm]
  | cons y l ih => simp only [List.cons_append, sm, ih]; omega
theorem sm_take_le (l : List Nat) (k : Nat) : sm (l.take k) ≤ sm l := by
  have h := sm_append (l.take k) (l.drop k)
  rw [List.take_append_drop] at h
  omega
theorem mx_take_le (l : List Nat) (k : Nat) : mx (l.take k) ≤ mx l := mx_le fun x hx => mx_mem (List.mem_of_mem_take hx)
theorem depth_pos (t : Ex) : 1 ≤ depthF t := by obtain ⟨k, n, ks⟩ := t; rw [depth_eq]; omega
theorem size_pos (t : Ex) : 1 ≤ sizeF t := by obtain ⟨k, n, ks⟩ := t; rw [size_eq]; omega
theorem size_kid {k n : Int} {ks : List Ex} {x : Ex} (h : x ∈ ks) : sizeF x + 1 ≤ sizeF ⟨k, n, ks⟩ := by
  rw [size_eq]
  have := sm_mem (List.mem_map_of_mem (f := sizeF) h)
  omega
theorem depth_kid {k n : Int} {ks : List Ex} {x : Ex} (h : x ∈ ks) : depthF x + 1 ≤ depthF ⟨k, n, ks⟩ := by
  rw [depth_eq]
  have := mx_mem (List.mem_map_of_mem (f := depthF) h)
  omega
theorem len_le_sm (ks : List Ex) : ks.length ≤ sm (ks.map sizeF) := by
  induction ks with
  | nil => simp [sm]
  | cons x l ih => simp only [List.map_cons, sm, List.length_cons]; have := size_pos x; omega
theorem len_size (k n : Int) (ks : List Ex) : ks.length + 1 ≤ sizeF ⟨k, n, ks⟩ := by
  rw [size_eq]; have := len_le_sm ks; omega
theorem depth_le_size : ∀ t, depthF t ≤ sizeF t := by
  refine Ex.ind fun k n ks ih => ?_
  rw [depth_eq, size_eq]
  have : mx (ks.map depthF) ≤ sm (ks.map sizeF) := mx_le fun x hx => by
    obtain ⟨y, hy, rfl⟩ := List.mem_map.1 hx
    exact Nat.le_trans (ih y hy) (sm_mem (List.mem_map_of_mem hy))
  omega

/-- is a node as its kind asks? -/
def nodeB (vars : Int) (k n : Int) (len : Nat) : Bool :=
  if k = 1 then decide (len = 0) else if k = 2 then decide (len = 0 ∧ 0 ≤ n ∧ n < vars) else if k = 3 then decide (len = 1) else if k = 4 then decide (len = 1)
  else if k = 5 then decide (len = 2) && knownB n else if k = 6 then decide (len = 3) else false
def partsB (vars : Int) : Ex → Bool := fold fun k n ks l => nodeB vars k n ks.length && l.all id
theorem parts_eq (vars k n : Int) (ks : List Ex) : partsB vars ⟨k, n, ks⟩ = (nodeB vars k n ks.length && ks.all (partsB vars)) := by
  unfold partsB
  rw [fold_eq, List.all_map]; rfl
def rightB (vars : Int) (t : Ex) : Bool := decide (depthF t ≤ 40 ∧ sizeF t ≤ 400) && partsB vars t
theorem parts_kid {vars k n : Int} {ks : List Ex} {x : Ex} (h : partsB vars ⟨k, n, ks⟩ = true) (hx : x ∈ ks) : partsB vars x = true := by
  rw [parts_eq, Bool.and_eq_true] at h
  exact List.all_eq_true.1 h.2 x hx
theorem parts_node {vars k n : Int} {ks : List Ex} (h : partsB vars ⟨k, n, ks⟩ = true) : nodeB vars k n ks.length = true := by
  rw [parts_eq, Bool.and_eq_true] at h
  exact h.1

/-- what a node comes to, of what its kids do -/
def nodeF (env : List Int) (k n : Int) (l : List (Int × Int)) : Int × Int :=
  if k = 1 then (n, 0) else if k = 2 then (env.getD n.toNat 0, 0)
  else if (l.getD 0 (0, 0)).2 ≠ 0 then (0, (l.getD 0 (0, 0)).2)
  else if k = 3 then doF 2 0 (l.getD 0 (0, 0)).1
  else if k = 4 then (if (l.getD 0 (0, 0)).1 = 0 then 1 else 0, 0)
  else if k = 6 then (if (l.getD 0 (0, 0)).1 = 0 then l.getD 2 (0, 0) else l.getD 1 (0, 0))
  else if n = 10 ∧ (l.getD 0 (0, 0)).1 = 0 then (0, 0)
  else if n = 11 ∧ (l.getD 0 (0, 0)).1 ≠ 0 then (1, 0)
  else if (l.getD 1 (0, 0)).2 ≠ 0 then (0, (l.getD 1 (0, 0)).2)
  else doF n (l.getD 0 (0, 0)).1 (l.getD 1 (0, 0)).1
def valF (env : List Int) : Ex → Int × Int := fold fun k n _ l => nodeF env k n l
theorem val_eq (env : List Int) (k n : Int) (ks : List Ex) : valF env ⟨k, n, ks⟩ = nodeF env k n (ks.map (valF env)) := fold_eq ..
def evalF (env : List Int) (t : Ex) : Int × Int := if rightB env.length t then valF env t else (0, 1)

/-- the numbers of all variables, in their order -/
def varsF : Ex → List Int := fold fun k n _ l => (if k = 2 then [n] else []) ++ l.flatten
theorem vars_eq (k n : Int) (ks : List Ex) : varsF ⟨k, n, ks⟩ = (if k = 2 then [n] else []) ++ (ks.map varsF).flatten := fold_eq ..

def putF (v : Int) (by_ : Ex) : Ex → Ex := fold fun k n _ l => if k = 2 ∧ n = v then by_ else ⟨k, n, l⟩
theorem put_eq (v : Int) (by_ : Ex) (k n : Int) (ks : List Ex) : putF v by_ ⟨k, n, ks⟩ = if k = 2 ∧ n = v then by_ else ⟨k, n, ks.map (putF v by_)⟩ := fold_eq ..
end Go.Proofs.YtgdkomkflfodaaaGreat.Expr
/- How expressions lie in memory. -/
namespace Go.Proofs.YtgdkomkflfodaaaGreat.Expr
open Go.RowKit Go.Proofs.YtgdkomkflfodaaaGreat.Frame
set_option linter.unusedVariables false

def In64 (n : Int) : Prop := -9223372036854775808 ≤ n ∧ n ≤ 9223372036854775807
def nilEx : Ex := ⟨0, 0, []⟩
/-- the kids of an expression lie behind an address, in rows that 'ok' takes -/
def XG (ok : Nat → Nat → Prop) (w : World) : Ex → Option Addr → Prop := fold fun k n ks l a =>
  (In64 k ∧ In64 n) ∧ (ks.length = 0 ∨ ∃ b off, a = some ⟨b, off, none⟩ ∧ ok b off ∧ ∀ i, i < ks.length → ∃ ai ci, w.cell? ⟨b, off + i * 3, none⟩ = some (.int .i64 (ks.getD i nilEx).kind) ∧ w.cell? ⟨b, off + i * 3 + 1, none⟩ = some (.int .i64 (ks.getD i nilEx).num) ∧ w.cell? ⟨b, off + i * 3 + 2, none⟩ = some (.slice ai (ks.getD i nilEx).kids.length ci) ∧ (l.getD i (fun _ => True)) ai)
theorem xg_eq (ok : Nat → Nat → Prop) (w : World) (k n : Int) (ks : List Ex) (a : Option Addr) : XG ok w ⟨k, n, ks⟩ a ↔ (In64 k ∧ In64 n) ∧ (ks.length = 0 ∨ ∃ b off, a = some ⟨b, off, none⟩ ∧ ok b off ∧ ∀ i, i < ks.length → ∃ ai ci, w.cell? ⟨b, off + i * 3, none⟩ = some (.int .i64 (ks.getD i nilEx).kind) ∧ w.cell? ⟨b, off + i * 3 + 1, none⟩ = some (.int .i64 (ks.getD i nilEx).num) ∧ w.cell? ⟨b, off + i * 3 + 2, none⟩ = some (.slice ai (ks.getD i nilEx).kids.length ci) ∧ XG ok w (ks.getD i nilEx) ai) := by
  have key : ∀ i, i < ks.length → (ks.map (XG ok w)).getD i (fun _ => True) = XG ok w (ks.getD i nilEx) := fun i hi => by
    rw [List.getD_eq_getElem?_getD, List.getElem?_map, List.getD_eq_getElem?_getD, List.getElem?_eq_getElem hi]; rfl
  unfold XG
  rw [fold_eq]
  refine and_congr Iff.rfl (or_congr Iff.rfl ⟨?_, ?_⟩)
  · rintro ⟨b, off, ha, ho, h⟩
    refine ⟨b, off, ha, ho, fun i hi => ?_⟩
    obtain ⟨ai, ci, h1, h2, h3, h4⟩ := h i hi
    refine ⟨ai, ci, h1, h2, h3, ?_⟩
    have := key i hi
    unfold XG at this
    rw [← this]; exact h4
  · rintro ⟨b, off, ha, ho, h⟩
    refine ⟨b, off, ha, ho, fun i hi => ?_⟩
    obtain ⟨ai, ci, h1, h2, h3, h4⟩ := h i hi
    refine ⟨ai, ci, h1, h2, h3, ?_⟩
    have := key i hi
    unfold XG at this
    rw [this]; exact h4
def X (w : World) (t : Ex) (a : Option Addr) : Prop := XG (fun _ _ => True) w t a

theorem getD_mem {ks : List Ex} {i : Nat} (h : i < ks.length) : ks.getD i nilEx ∈ ks := by
  rw [List.getD_eq_getElem?_getD, List.getElem?_eq_getElem h]; exact List.getElem_mem h
theorem XG.mono {ok ok' : Nat → Nat → Prop} {w : World} (ho : ∀ b off, ok b off → ok' b off) : ∀ {t : Ex} {a : Option Addr}, XG ok w t a → XG ok' w t a := by
  intro t
  refine Ex.ind (p := fun t => ∀ {a : Option Addr}, XG ok w t a → XG ok' w t a) (fun k n ks ih a h => ?_) t
  rw [xg_eq] at h ⊢
  refine ⟨h.1, ?_⟩
  rcases h.2 with h0 | ⟨b, off, ha, hob, hc⟩
  · exact .inl h0
  · refine .inr ⟨b, off, ha, ho _ _ hob, fun i hi => ?_⟩
    obtain ⟨ai, ci, h1, h2, h3, h4⟩ := hc i hi
    exact ⟨ai, ci, h1, h2, h3, ih _ (getD_mem hi) h4⟩
theorem XG.x {ok : Nat → Nat → Prop} {w : World} {t : Ex} {a : Option Addr} (h : XG ok w t a) : X w t a := h.mono fun _ _ _ => trivial
/-- carried into another world whose cells are as they were, at all rows that 'ok' takes -/
theorem XG.carry {ok : Nat → Nat → Prop} {w w' : World} (hc : ∀ b off o, ok b off → ∀ v, w.cell? ⟨b, o, none⟩ = some v → w'.cell? ⟨b, o, none⟩ = some v) : ∀ {t : Ex} {a : Option Addr}, XG ok w t a → XG ok w' t a := by
  intro t
  refine Ex.ind (p := fun t => ∀ {a : Option Addr}, XG ok w t a → XG ok w' t a) (fun k n ks ih a h => ?_) t
  rw [xg_eq] at h ⊢
  refine ⟨h.1, ?_⟩
  rcases h.2 with h0 | ⟨b, off, ha, hob, hx⟩
  · exact .inl h0
  · refine .inr ⟨b, off, ha, hob, fun i hi => ?_⟩
    obtain ⟨ai, ci, h1, h2, h3, h4⟩ := hx i hi
    exact ⟨ai, ci, hc _ off _ hob _ h1, hc _ off _ hob _ h2, hc _ off _ hob _ h3, ih _ (getD_mem hi) h4⟩
theorem XG.below {ok : Nat → Nat → Prop} {w w' : World} {t : Ex} {a : Option Addr} (h : XG ok w t a) (hb : Below w.heap.size w w') : XG ok w' t a :=
  h.carry fun b off o _ v hv => (hb.cell (p := ⟨b, o, none⟩) (World.block_lt_of_cell? w _ hv)).trans hv
theorem X.below {w w' : World} {t : Ex} {a : Option Addr} (h : X w t a) (hb : Below w.heap.size w w') : X w' t a := XG.below h hb
/-- a tree that lies below B, and a world that is the same there -/
theorem XG.belowB {ok : Nat → Nat → Prop} {B : Nat} {w w' : World} {t : Ex} {a : Option Addr} (h : XG ok w t a) (ho : ∀ b off, ok b off → b < B) (hb : Below B w w') : XG ok w' t a :=
  h.carry fun b off o hob v hv => (hb.cell (p := ⟨b, o, none⟩) (ho _ _ hob)).trans hv
/-- every tree lies below the heap's end -/
theorem X.lt {w : World} : ∀ {t : Ex} {a : Option Addr}, X w t a → XG (fun b _ => b < w.heap.size) w t a := by
  intro t
  refine Ex.ind (p := fun t => ∀ {a : Option Addr}, X w t a → XG (fun b _ => b < w.heap.size) w t a) (fun k n ks ih a h => ?_) t
  unfold X at h
  rw [xg_eq] at h ⊢
  refine ⟨h.1, ?_⟩
  rcases h.2 with h0 | ⟨b, off, ha, hob, hx⟩
  · exact .inl h0
  · by_cases h0 : ks.length = 0
    · exact .inl h0
    obtain ⟨_, _, g1, _⟩ := hx 0 (by omega)
    refine .inr ⟨b, off, ha, World.block_lt_of_cell? w _ g1, fun i hi => ?_⟩
    obtain ⟨ai, ci, h1, h2, h3, h4⟩ := hx i hi
    exact ⟨ai, ci, h1, h2, h3, ih _ (getD_mem hi) h4⟩
theorem XG.lt2 {ok : Nat → Nat → Prop} {w : World} : ∀ {t : Ex} {a : Option Addr}, XG ok w t a → XG (fun b off => ok b off ∧ b < w.heap.size) w t a := by
  intro t
  refine Ex.ind (p := fun t => ∀ {a : Option Addr}, XG ok w t a → XG (fun b off => ok b off ∧ b < w.heap.size) w t a) (fun k n ks ih a h => ?_) t
  rw [xg_eq] at h ⊢
  refine ⟨h.1, ?_⟩
  rcases h.2 with h0 | ⟨b, off, ha, hob, hx⟩
  · exact .inl h0
  · by_cases h0 : ks.length = 0
    · exact .inl h0
    obtain ⟨_, _, g1, _⟩ := hx 0 (by omega)
    refine .inr ⟨b, off, ha, ⟨hob, World.block_lt_of_cell? w _ g1⟩, fun i hi => ?_⟩
    obtain ⟨ai, ci, h1, h2, h3, h4⟩ := hx i hi
    exact ⟨ai, ci, h1, h2, h3, ih _ (getD_mem hi) h4⟩
theorem X.node {w : World} {k n : Int} {ks : List Ex} {a : Option Addr} (h : X w ⟨k, n, ks⟩ a) : In64 k ∧ In64 n := ((xg_eq _ _ _ _ _ _).1 h).1
theorem X.root {w : World} {t : Ex} {a : Option Addr} (h : X w t a) : In64 t.kind ∧ In64 t.num := by obtain ⟨k, n, ks⟩ := t; exact h.node
/-- a kid -/
theorem X.kid {w : World} {k n : Int} {ks : List Ex} {a : Option Addr} (h : X w ⟨k, n, ks⟩ a) {i : Nat} (hi : i < ks.length) : ∃ b off x ai ci, a = some ⟨b, off, none⟩ ∧ b < w.heap.size ∧ x ∈ ks ∧ x = ks.getD i nilEx ∧
    w.cell? ⟨b, off + i * 3, none⟩ = some (.int .i64 x.kind) ∧ w.cell? ⟨b, off + i * 3 + 1, none⟩ = some (.int .i64 x.num) ∧ w.cell? ⟨b, off + i * 3 + 2, none⟩ = some (.slice ai x.kids.length ci) ∧ X w x ai := by
  unfold X at h
  rw [xg_eq] at h
  rcases h.2 with h0 | ⟨b, off, ha, hob, hx⟩
  · omega
  · obtain ⟨ai, ci, h1, h2, h3, h4⟩ := hx i hi
    exact ⟨b, off, ks.getD i nilEx, ai, ci, ha, World.block_lt_of_cell? w _ h1, getD_mem hi, rfl, h1, h2, h3, h4⟩
theorem kid_lt {ok : Nat → Nat → Prop} {w : World} {k n : Int} {ks : List Ex} {a : Option Addr} (h : XG ok w ⟨k, n, ks⟩ a) {i : Nat} (hi : i < ks.length) : ∃ b off x ai ci, a = some ⟨b, off, none⟩ ∧ b < w.heap.size ∧ ok b off ∧ x ∈ ks ∧ x = ks.getD i nilEx ∧
    w.cell? ⟨b, off + i * 3, none⟩ = some (.int .i64 x.kind) ∧ w.cell? ⟨b, off + i * 3 + 1, none⟩ = some (.int .i64 x.num) ∧ w.cell? ⟨b, off + i * 3 + 2, none⟩ = some (.slice ai x.kids.length ci) ∧ XG ok w x ai := by
  rw [xg_eq] at h
  rcases h.2 with h0 | ⟨b, off, ha, hob, hx⟩
  · omega
  · obtain ⟨ai, ci, h1, h2, h3, h4⟩ := hx i hi
    exact ⟨b, off, ks.getD i nilEx, ai, ci, ha, World.block_lt_of_cell? w _ h1, hob, getD_mem hi, rfl, h1, h2, h3, h4⟩
/-- numbers in memory -/
def Nm (w : World) (a : Option Addr) (len : Nat) (zs : List Int) : Prop :=
  (zs.length = len ∧ ∀ i, i < len → In64 (zs.getD i 0)) ∧ (len = 0 ∨ ∃ b off, a = some ⟨b, off, none⟩ ∧ ∀ i, i < len → w.cell? ⟨b, off + i, none⟩ = some (.int .i64 (zs.getD i 0)))
theorem Nm.below {w w' : World} {a : Option Addr} {len : Nat} {zs : List Int} (h : Nm w a len zs) (hb : Below w.heap.size w w') : Nm w' a len zs := by
  refine ⟨h.1, ?_⟩
  rcases h.2 with h0 | ⟨b, off, ha, hc⟩
  · exact .inl h0
  · exact .inr ⟨b, off, ha, fun i hi => (hb.cell (p := ⟨b, off + i, none⟩) (World.block_lt_of_cell? w _ (hc i hi))).trans (hc i hi)⟩
theorem Nm.at {w : World} {a : Option Addr} {len : Nat} {zs : List Int} (h : Nm w a len zs) {i : Nat} (hi : i < len) : ∃ b off, a = some ⟨b, off, none⟩ ∧ b < w.heap.size ∧ w.cell? ⟨b, off + i, none⟩ = some (.int .i64 (zs.getD i 0)) := by
  rcases h.2 with h0 | ⟨b, off, ha, hc⟩
  · omega
  · exact ⟨b, off, ha, World.block_lt_of_cell? w _ (hc i hi), hc i hi⟩
theorem take_snoc {α : Type} {l : List α} {k : Nat} (d : α) (h : k < l.length) : l.take (k + 1) = l.take k ++ [l.getD k d] := by
  rw [List.take_succ_eq_append_getElem h, List.getD_eq_getElem?_getD, List.getElem?_eq_getElem h]; rfl
theorem reti {a b : Int} (h : a = b) : Ending.returned (.int .i64 a) = .returned (.int .i64 b) := by rw [h]
theorem retb {a b : Bool} (h : a = b) : Ending.returned (.bool a) = .returned (.bool b) := by rw [h]
theorem bcell {W w1 : World} (hb : Below W.heap.size W w1) : (∀ b o, b < W.heap.size → w1.cell? ⟨b, o, none⟩ = W.cell? ⟨b, o, none⟩) ∧ (∀ b o, b < W.heap.size → w1.frozen? ⟨b, o, none⟩ = W.frozen? ⟨b, o, none⟩) :=
  ⟨fun b o h => hb.cell (p := ⟨b, o, none⟩) h, fun b o h => hb.frozen (p := ⟨b, o, none⟩) h⟩
end Go.Proofs.YtgdkomkflfodaaaGreat.Expr
