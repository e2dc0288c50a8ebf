/- How great all colours are: the plain mathematics, and how colours lie in memory. -/
import Derived.Test.YtgdkomkflfodaaaGreatColSizeOf
import Derived.Deep.OwnRows
namespace Go.Proofs.YtgdkomkflfodaaaGreat.Colour
open Go.RowKit Go.Proofs.YtgdkomkflfodaaaGreat.Frame
set_option linter.unusedVariables false
def nilCol : Col := ⟨ByteArray.empty, 0, 0, 0, [], none, 0, 0, 0⟩
def goSizes : List Col → List Int → Option (List Int)
  | [], acc => some acc
  | c :: r, acc => if sizeOfF c acc < 1 ∨ 1024 < sizeOfF c acc then none else goSizes r (acc ++ [sizeOfF c acc])
/-- the sizes of right colours; none, if they are not right -/
def sizesF (cs : List Col) : Option (List Int) :=
  if 32 < cs.length then none else
  match goSizes cs [] with
  | none => none
  | some ns => if allB (cs.map (·.name)) then some ns else none

theorem drop_at (cs : List Col) (k : Nat) (h : k < cs.length) : cs.drop k = cs.getD k nilCol :: cs.drop (k + 1) := by
  rw [List.drop_eq_getElem_cons h, List.getD_eq_getElem?_getD, List.getElem?_eq_getElem h]; rfl
theorem go_bad (cs : List Col) (k : Nat) (acc : List Int) (h : k < cs.length) (hb : sizeOfF (cs.getD k nilCol) acc < 1 ∨ 1024 < sizeOfF (cs.getD k nilCol) acc) : goSizes (cs.drop k) acc = none := by
  rw [drop_at cs k h]; unfold goSizes; rw [if_pos hb]
theorem go_next (cs : List Col) (k : Nat) (acc : List Int) (h : k < cs.length) (h1 : 1 ≤ sizeOfF (cs.getD k nilCol) acc) (h2 : sizeOfF (cs.getD k nilCol) acc ≤ 1024) : goSizes (cs.drop k) acc = goSizes (cs.drop (k + 1)) (acc ++ [sizeOfF (cs.getD k nilCol) acc]) := by
  rw [drop_at cs k h]; rw [goSizes, if_neg (by omega)]
theorem go_end (cs : List Col) (k : Nat) (acc : List Int) (h : cs.length ≤ k) : goSizes (cs.drop k) acc = some acc := by
  rw [List.drop_eq_nil_of_le h]; rfl
theorem sizesF_long {cs : List Col} (h : 32 < cs.length) : sizesF cs = none := by unfold sizesF; rw [if_pos h]
theorem sizesF_bad {cs : List Col} (h : goSizes cs [] = none) : sizesF cs = none := by unfold sizesF; rw [h]; simp
theorem sizesF_names {cs : List Col} (h : allB (cs.map (·.name)) = false) : sizesF cs = none := by
  unfold sizesF
  split
  · rfl
  · split
    · rfl
    · rw [h]; rfl
theorem sizesF_good {cs : List Col} {ns : List Int} (hl : cs.length ≤ 32) (h : goSizes cs [] = some ns) (hn : allB (cs.map (·.name)) = true) : sizesF cs = some ns := by
  unfold sizesF; rw [if_neg (by omega), h, hn]; rfl

/-- a colour's seven cells, and its names -/
def ColAt (w : World) (b o : Nat) (c : Col) : Prop :=
  (w.cell? ⟨b, o, none⟩ = some (.string c.name) ∧ w.cell? ⟨b, o + 1, none⟩ = some (.int .i64 c.kind) ∧ w.cell? ⟨b, o + 2, none⟩ = some (.int .i64 c.lo) ∧ w.cell? ⟨b, o + 3, none⟩ = some (.int .i64 c.hi) ∧
    w.cell? ⟨b, o + 4, none⟩ = some (.slice c.na c.names.length c.nc) ∧ w.cell? ⟨b, o + 5, none⟩ = some (.int .i64 c.first) ∧ w.cell? ⟨b, o + 6, none⟩ = some (.int .i64 c.thn)) ∧
  Strs w c.na c.names.length c.names ∧ Ints64 c
/-- a row of colours in memory -/
def Cols (w : World) (a : Option Addr) (len : Nat) (cs : List Col) : Prop :=
  cs.length = len ∧ (len = 0 ∨ ∃ b off, a = some ⟨b, off, none⟩ ∧ ∀ i, i < len → ColAt w b (off + i * 7) (cs.getD i nilCol))
theorem ColAt.below {w w' : World} {b o : Nat} {c : Col} (h : ColAt w b o c) (hb : Below w.heap.size w w') : ColAt w' b o c := by
  obtain ⟨⟨h0, h1, h2, h3, h4, h5, h6⟩, hs, hi⟩ := h
  have hl : b < w.heap.size := World.block_lt_of_cell? w _ h0
  have g : ∀ j v, w.cell? ⟨b, j, none⟩ = some v → w'.cell? ⟨b, j, none⟩ = some v := fun j v hv => (hb.cell (p := ⟨b, j, none⟩) hl).trans hv
  exact ⟨⟨g _ _ h0, g _ _ h1, g _ _ h2, g _ _ h3, g _ _ h4, g _ _ h5, g _ _ h6⟩, hs.below hb, hi⟩
theorem Cols.below {w w' : World} {a : Option Addr} {len : Nat} {cs : List Col} (h : Cols w a len cs) (hb : Below w.heap.size w w') : Cols w' a len cs := by
  refine ⟨h.1, ?_⟩
  rcases h.2 with h0 | ⟨b, off, ha, hc⟩
  · exact .inl h0
  · exact .inr ⟨b, off, ha, fun i hi => (hc i hi).below hb⟩

/-- what holds after k rounds of sizes -/
def SInv (w : World) (cs : List Col) (len k : Nat) (acc : List Int) (wr : World) : Prop :=
  (acc.length = k ∧ (∀ j, j < k → 1 ≤ acc.getD j 0 ∧ acc.getD j 0 ≤ 1024) ∧ goSizes cs [] = goSizes (cs.drop k) acc) ∧
  wr.rowIs w.heap.size 9 len (fun j => .string (if j < k then (cs.getD j nilCol).name else ByteArray.empty)) ∧ wr.rowIs (w.heap.size + 1) 3 len (fun j => .int .i64 (acc.getD j 0)) ∧ Below w.heap.size w wr

theorem SInv.start (w : World) (cs : List Col) (len : Nat) : SInv w cs len 0 [] ((w.alloc (.cells (madeCells #[.string ByteArray.empty] len) 9)).alloc (.cells (madeCells #[.int .i64 0] len) 3)) := by
  refine ⟨⟨rfl, fun j h => by omega, rfl⟩, ?_, ?_, ?_⟩
  · exact ((World.rowIs_made w (.string ByteArray.empty) len 9).alloc _).congr fun j _ => by simp
  · have := World.rowIs_made (w.alloc (.cells (madeCells #[.string ByteArray.empty] len) 9)) (.int .i64 0) len 3
    simp only [World.size_alloc] at this
    exact this.congr fun j _ => by simp
  · exact ((Below.refl _ _).alloc (Nat.le_refl _) _).alloc (by simp) _
end Go.Proofs.YtgdkomkflfodaaaGreat.Colour
