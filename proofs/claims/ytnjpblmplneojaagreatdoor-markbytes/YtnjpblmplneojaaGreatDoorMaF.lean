/- Contracts and plain mathematics, together: ColSizesP, ColSizes, ColSizeP, ColSize. -/
import Derived.Test.YtnjpblmplneojaaGreatDoorMaE
import Derived.Deep.OwnRows
import Derived.Deep.RegionHeld3
import Derived.Deep.DrawnRows
/- How great all colours are: the plain mathematics, and how colours lie in memory. -/
namespace Go.Proofs.YtnjpblmplneojaaGreatDoor.Colour
open Go.RowKit Go.Proofs.YtnjpblmplneojaaGreatDoor.Frame
set_option linter.unusedVariables false
def nilCol : Col := ⟨ByteArray.empty, 0, 0, 0, [], none, 0, 0, 0⟩
def goSizes : List Col → List Int → Option (List Int)
  | [], acc => some acc
  | c :: r, acc => if sizeOfF c acc < 1 ∨ 1024 < sizeOfF c acc then none else goSizes r (acc ++ [sizeOfF c acc])
/-- the sizes of right colours; none, if they are not right -/
def sizesF (cs : List Col) : Option (List Int) :=
  if 32 < cs.length then none else
  match goSizes cs [] with
  | none => none
  | some ns => if allB (cs.map (·.name)) then some ns else none

theorem drop_at (cs : List Col) (k : Nat) (h : k < cs.length) : cs.drop k = cs.getD k nilCol :: cs.drop (k + 1) := by
  rw [List.drop_eq_getElem_cons h, List.getD_eq_getElem?_getD, List.getElem?_eq_getElem h]; rfl
theorem go_bad (cs : List Col) (k : Nat) (acc : List Int) (h : k < cs.length) (hb : sizeOfF (cs.getD k nilCol) acc < 1 ∨ 1024 < sizeOfF (cs.getD k nilCol) acc) : goSizes (cs.drop k) acc = none := by
  rw [drop_at cs k h]; unfold goSizes; rw [if_pos hb]
theorem go_next (cs : List Col) (k : Nat) (acc : List Int) (h : k < cs.length) (h1 : 1 ≤ sizeOfF (cs.getD k nilCol) acc) (h2 : sizeOfF (cs.getD k nilCol) acc ≤ 1024) : goSizes (cs.drop k) acc = goSizes (cs.drop (k + 1)) (acc ++ [sizeOfF (cs.getD k nilCol) acc]) := by
  rw [drop_at cs k h]; rw [goSizes, if_neg (by omega)]
theorem go_end (cs : List Col) (k : Nat) (acc : List Int) (h : cs.length ≤ k) : goSizes (cs.drop k) acc = some acc := by
  rw [List.drop_eq_nil_of_le h]; rfl
theorem sizesF_long {cs : List Col} (h : 32 < cs.length) : sizesF cs = none := by unfold sizesF; rw [if_pos h]
theorem sizesF_bad {cs : List Col} (h : goSizes cs [] = none) : sizesF cs = none := by unfold sizesF; rw [h]; simp
theorem sizesF_names {cs : List Col} (h : allB (cs.map (·.name)) = false) : sizesF cs = none := by
  unfold sizesF
  split
  · rfl
  · split
    · rfl
    · rw [h]; rfl
theorem sizesF_good {cs : List Col} {ns : List Int} (hl : cs.length ≤ 32) (h : goSizes cs [] = some ns) (hn : allB (cs.map (·.name)) = true) : sizesF cs = some ns := by
  unfold sizesF; rw [if_neg (by omega), h, hn]; rfl

/-- a colour's seven cells, and its names -/
def ColAt (w : World) (b o : Nat) (c : Col) : Prop :=
  (w.cell? ⟨b, o, none⟩ = some (.string c.name) ∧ w.cell? ⟨b, o + 1, none⟩ = some (.int .i64 c.kind) ∧ w.cell? ⟨b, o + 2, none⟩ = some (.int .i64 c.lo) ∧ w.cell? ⟨b, o + 3, none⟩ = some (.int .i64 c.hi) ∧
    w.cell? ⟨b, o + 4, none⟩ = some (.slice c.na c.names.length c.nc) ∧ w.cell? ⟨b, o + 5, none⟩ = some (.int .i64 c.first) ∧ w.cell? ⟨b, o + 6, none⟩ = some (.int .i64 c.thn)) ∧
  Strs w c.na c.names.length c.names ∧ Ints64 c
/-- a row of colours in memory -/
def Cols (w : World) (a : Option Addr) (len : Nat) (cs : List Col) : Prop :=
  cs.length = len ∧ (len = 0 ∨ ∃ b off, a = some ⟨b, off, none⟩ ∧ ∀ i, i < len → ColAt w b (off + i * 7) (cs.getD i nilCol))
theorem ColAt.below {w w' : World} {b o : Nat} {c : Col} (h : ColAt w b o c) (hb : Below w.heap.size w w') : ColAt w' b o c := by
  obtain ⟨⟨h0, h1, h2, h3, h4, h5, h6⟩, hs, hi⟩ := h
  have hl : b < w.heap.size := World.block_lt_of_cell? w _ h0
  have g : ∀ j v, w.cell? ⟨b, j, none⟩ = some v → w'.cell? ⟨b, j, none⟩ = some v := fun j v hv => (hb.cell (p := ⟨b, j, none⟩) hl).trans hv
  exact ⟨⟨g _ _ h0, g _ _ h1, g _ _ h2, g _ _ h3, g _ _ h4, g _ _ h5, g _ _ h6⟩, hs.below hb, hi⟩
theorem Cols.below {w w' : World} {a : Option Addr} {len : Nat} {cs : List Col} (h : Cols w a len cs) (hb : Below w.heap.size w w') : Cols w' a len cs := by
  refine ⟨h.1, ?_⟩
  rcases h.2 with h0 | ⟨b, off, ha, hc⟩
  · exact .inl h0
  · exact .inr ⟨b, off, ha, fun i hi => (hc i hi).below hb⟩

/-- what holds after k rounds of sizes -/
def SInv (w : World) (cs : List Col) (len k : Nat) (acc : List Int) (wr : World) : Prop :=
  (acc.length = k ∧ (∀ j, j < k → 1 ≤ acc.getD j 0 ∧ acc.getD j 0 ≤ 1024) ∧ goSizes cs [] = goSizes (cs.drop k) acc) ∧
  wr.rowIs w.heap.size 9 len (fun j => .string (if j < k then (cs.getD j nilCol).name else ByteArray.empty)) ∧ wr.rowIs (w.heap.size + 1) 3 len (fun j => .int .i64 (acc.getD j 0)) ∧ Below w.heap.size w wr

theorem SInv.start (w : World) (cs : List Col) (len : Nat) : SInv w cs len 0 [] ((w.alloc (.cells (madeCells #[.string ByteArray.empty] len) 9)).alloc (.cells (madeCells #[.int .i64 0] len) 3)) := by
  refine ⟨⟨rfl, fun j h => by omega, rfl⟩, ?_, ?_, ?_⟩
  · exact ((World.rowIs_made w (.string ByteArray.empty) len 9).alloc _).congr fun j _ => by simp
  · have := World.rowIs_made (w.alloc (.cells (madeCells #[.string ByteArray.empty] len) 9)) (.int .i64 0) len 3
    simp only [World.size_alloc] at this
    exact this.congr fun j _ => by simp
  · exact ((Below.refl _ _).alloc (Nat.le_refl _) _).alloc (by simp) _
end Go.Proofs.YtnjpblmplneojaaGreatDoor.Colour
/- sizes of package colour: a contract of the call, over the turned program. -/
namespace Go.Proofs.YtnjpblmplneojaaGreatDoor.Colour
open Go.RowKit Go.Proofs.YtnjpblmplneojaaGreatDoor.Frame Go.Deep
set_option linter.unusedVariables false
attribute [local go_sem ↓] Go.wp_at_zero Go.wp_at_succ

theorem infoStr : (Tryz.prog.info? 9).map (fun i => (i.zero, i.size, i.bytes)) = some (some (.string ByteArray.empty), 1, 16) := by kernel_rfl
theorem infoInt : (Tryz.prog.info? 3).map (fun i => (i.zero, i.size, i.bytes)) = some (some (.int .i64 0), 1, 8) := by kernel_rfl

theorem after_call {W w2 : World} {b : Nat} (h : Below W.drew.heap.size W.drew w2) (hb : b < W.heap.size) : ∀ j, w2.cell? ⟨b, j, none⟩ = W.cell? ⟨b, j, none⟩ := fun j => h.cell (p := ⟨b, j, none⟩) hb
theorem after_call_f {W w2 : World} {b : Nat} (h : Below W.drew.heap.size W.drew w2) (hb : b < W.heap.size) : ∀ j, w2.frozen? ⟨b, j, none⟩ = W.frozen? ⟨b, j, none⟩ := fun j => h.frozen (p := ⟨b, j, none⟩) hb
theorem undrew {B : Nat} {W w2 : World} (h : Below B W.drew w2) : Below B W w2 := ⟨h.os, h.tape, h.output, h.size, h.block⟩
theorem set_cell {W : World} {b k : Nat} {v u : Value} (h : W.cell? ⟨b, k, none⟩ = some u) : (W.setCell ⟨b, k, none⟩ v).cell? ⟨b, k, none⟩ = some v := World.cell?_setCell_same W _ v h
/-- what sizes tells -/
def SizesPost (w : World) (len : Nat) (cs : List Col) (e : Ending) (w' : World) : Prop :=
  ((sizesF cs = none ∧ e = .returned (.tuple #[.slice none 0 0, .bool false])) ∨
   ∃ ns g, sizesF cs = some ns ∧ e = .returned (.tuple #[.slice (some ⟨g, 0, none⟩) len len, .bool true]) ∧ w.heap.size ≤ g ∧ ns.length = len ∧ ∀ j, j < len → w'.cell? ⟨g, j, none⟩ = some (.int .i64 (ns.getD j 0))) ∧ Below w.heap.size w w'

theorem round_facts {w wr W1 : World} {b off len cap k : Nat} {cs : List Col} {acc : List Int} {c : Col} (HC : Cols w (some ⟨b, off, none⟩) len cs) (HI : SInv w cs len k acc wr) (hlt : k < len) (h32 : len ≤ 32) (hcc : c = cs.getD k nilCol)
    (hW : ((wr.setCell { block := w.heap.size, off := k } (Value.string c.name)).alloc (Obj.cells #[Value.string c.name, Value.int IntKind.i64 c.kind, Value.int IntKind.i64 c.lo, Value.int IntKind.i64 c.hi, Value.slice c.na c.names.length c.nc, Value.int IntKind.i64 c.first, Value.int IntKind.i64 c.thn] 78)) = W1) :
    W1.cell? ⟨wr.heap.size, 0, none⟩ = some (Value.string c.name) ∧ W1.cell? ⟨wr.heap.size, 1, none⟩ = some (.int .i64 c.kind) ∧ W1.cell? ⟨wr.heap.size, 2, none⟩ = some (.int .i64 c.lo) ∧ W1.cell? ⟨wr.heap.size, 3, none⟩ = some (.int .i64 c.hi) ∧ W1.cell? ⟨wr.heap.size, 4, none⟩ = some (.slice c.na c.names.length c.nc) ∧ W1.cell? ⟨wr.heap.size, 5, none⟩ = some (.int .i64 c.first) ∧ W1.cell? ⟨wr.heap.size, 6, none⟩ = some (.int .i64 c.thn) ∧
    W1.cell? ⟨w.heap.size + 1, k, none⟩ = some (.int .i64 0) ∧ W1.frozen? ⟨w.heap.size + 1, k, none⟩ = false ∧ wr.heap.size < W1.heap.size ∧ w.heap.size + 1 < W1.heap.size ∧
    (∀ wx, Below W1.heap.size W1 wx → Calls Tryz.prog 88 #[.agg #[.string c.name, .int .i64 c.kind, .int .i64 c.lo, .int .i64 c.hi, .slice c.na c.names.length c.nc, .int .i64 c.first, .int .i64 c.thn], .slice (some ⟨w.heap.size + 1, 0, none⟩) k len] wx fun e w' => e = .returned (.int .i64 (sizeOfF c acc)) ∧ Below wx.heap.size wx w') ∧
    (∀ w2, Below W1.heap.size W1 w2 → (1 ≤ sizeOfF c acc ∧ sizeOfF c acc ≤ 1024 → SInv w cs len (k + 1) (acc ++ [sizeOfF c acc]) (w2.setCell ⟨w.heap.size + 1, k, none⟩ (.int .i64 (sizeOfF c acc)))) ∧ Below w.heap.size w (w2.setCell ⟨w.heap.size + 1, k, none⟩ (.int .i64 (sizeOfF c acc)))) := by
  obtain ⟨⟨hl, hb, hg⟩, hr1, hr2, hbel⟩ := HI
  have l1 := hr1.lt
  have l2 := hr2.lt
  have hC := HC.below hbel
  have hcol : ColAt wr b (off + k * 7) c := by
    rcases hC.2 with h0 | ⟨b', off', ha, hc⟩
    · omega
    · cases ha; rw [hcc]; exact hc k hlt
  have q1 : W1.rowIs w.heap.size 9 len (fun j => .string (if j < k + 1 then (cs.getD j nilCol).name else ByteArray.empty)) := by
    rw [← hW]
    refine ((hr1.set k (.string c.name)).alloc _).congr fun j hj => ?_
    by_cases h : j = k
    · subst h; simp [hcc]
    · by_cases h' : j < k
      · simp [h, h', show j < k + 1 by omega]
      · simp [h, h', show ¬ j < k + 1 by omega]
  have q2 : W1.rowIs (w.heap.size + 1) 3 len (fun j => .int .i64 (acc.getD j 0)) := by
    rw [← hW]
    exact ((hr2.setOther (a := ⟨w.heap.size, k, none⟩) (by simp) _).alloc _)
  have hW1 : Below w.heap.size wr W1 := by
    rw [← hW]
    exact ((Below.refl _ _).setCell (p := ⟨w.heap.size, k, none⟩) (Nat.le_refl _) _).alloc (by simp [World.setCell]; omega) _
  have hbW : Below w.heap.size w W1 := hbel.trans hW1
  have hz : W1.heap.size = wr.heap.size + 1 := by rw [← hW]; simp [World.setCell]
  have hcell : ∀ j, W1.cell? ⟨wr.heap.size, j, none⟩ = #[Value.string c.name, Value.int IntKind.i64 c.kind, Value.int IntKind.i64 c.lo, Value.int IntKind.i64 c.hi, Value.slice c.na c.names.length c.nc, Value.int IntKind.i64 c.first, Value.int IntKind.i64 c.thn][j]? := fun j => by
    rw [← hW]
    exact World.cell?_alloc_at _ _ _ _ (by simp [World.setCell])
  refine ⟨hcell 0, hcell 1, hcell 2, hcell 3, hcell 4, hcell 5, hcell 6, ?_, q2.frozen k, by omega, by omega, ?_, ?_⟩
  · rw [q2.cell hlt]; rw [List.getD_eq_getElem?_getD, List.getElem?_eq_none (by omega)]; rfl
  · intro wx hwx
    have hs : Strs wx c.na c.names.length c.names := by
      have : Strs W1 c.na c.names.length c.names := by
        rcases HC.2 with h0 | ⟨b', off', ha, hc⟩
        · omega
        · have := (hc k hlt).2.1
          rw [← hcc] at this
          exact this.below hbW
      exact this.below hwx
    refine sizeOf_any c acc (w.heap.size + 1) k len wx hl (by omega) (by omega) hb (fun j hj => ?_) hcol.2.2 hs
    exact (hwx.cell (p := ⟨w.heap.size + 1, j, none⟩) (by show w.heap.size + 1 < _; omega)).trans (q2.cell (by omega))
  · intro w2 hw2
    have hb2 : Below w.heap.size w w2 := hbW.trans (hw2.mono (by omega))
    refine ⟨fun ⟨h1, h2⟩ => ⟨⟨by simp [hl], fun j hj => ?_, ?_⟩, ?_, ?_, hb2.setCell (by show w.heap.size ≤ w.heap.size + 1; omega) _⟩, hb2.setCell (by show w.heap.size ≤ w.heap.size + 1; omega) _⟩
    · by_cases h : j < k
      · have := hb j h
        rw [List.getD_eq_getElem?_getD, List.getElem?_append_left (by omega), ← List.getD_eq_getElem?_getD]; exact this
      · obtain rfl : j = k := by omega
        rw [List.getD_eq_getElem?_getD, List.getElem?_append_right (by omega), hl, Nat.sub_self]; exact ⟨h1, h2⟩
    · rw [hg, go_next cs k acc (by rw [HC.1]; exact hlt) (by rw [← hcc]; exact h1) (by rw [← hcc]; exact h2), hcc]
    · exact (q1.of_block (hw2.block _ (by omega))).setOther (a := ⟨w.heap.size + 1, k, none⟩) (by show w.heap.size ≠ w.heap.size + 1; omega) _
    · refine ((q2.of_block (hw2.block _ (by omega))).set k _).congr fun j hj => ?_
      by_cases h : j = k
      · subst h; rw [if_pos rfl, List.getD_eq_getElem?_getD, List.getElem?_append_right (by omega), hl, Nat.sub_self]; simp
      · rw [if_neg h]
        by_cases h' : j < k
        · rw [List.getD_eq_getElem?_getD, List.getD_eq_getElem?_getD, List.getElem?_append_left (by omega)]
        · rw [List.getD_eq_getElem?_getD, List.getD_eq_getElem?_getD, List.getElem?_eq_none (by omega), List.getElem?_eq_none (by simp; omega)]

set_option maxHeartbeats 2000000 in
theorem sizes_any (a : Option Addr) (len cap : Nat) (cs : List Col) (w : World) (h : Cols w a len cs) :
    Calls Tryz.prog 76 #[.slice a len cap] w fun e w' => SizesPost w len cs e w' := by
  by_cases h32 : 32 < len
  · have h32' : (32 : Int) < len := by omega
    have N : Hid (sizesF cs = none) := sizesF_long (by rw [h.1]; exact h32)
    clear h
    go_enter Tryz.func76, Tryz.ntmps76
    go_wp2
    go_ret2
    exact ⟨.inl ⟨N.out, rfl⟩, Below.refl _ _⟩
  have h32' : ¬ (32 : Int) < len := by omega
  have hm1 := run_make_row' (P := Tryz.prog) 76 9 (.string ByteArray.empty) 16 Tryz.underlying76 infoStr rfl .i64 .i64 len (by omega) (by omega)
  have hm2 := run_make_row' (P := Tryz.prog) 75 3 (.int .i64 0) 8 Tryz.underlying75 infoInt rfl .i64 .i64 len (by omega) (by omega)
  have HC : Hid (Cols w a len cs) := h
  clear h
  go_enter Tryz.func76, Tryz.ntmps76
  go_wp2
  clear hm1 hm2
  go_loopw [19] (fun i wr => ∃ (k : Nat) (acc : List Int), k ≤ len ∧ i = .int .i64 k ∧ SInv w cs len k acc wr) (fun i _ => len - (intOf i).toNat)
  case atStart => exact ⟨0, [], by omega, rfl, SInv.start w cs len⟩
  case round =>
    obtain ⟨k, acc, hk, rfl, hI⟩ := hrel
    have HI : Hid (SInv w cs len k acc wr) := hI
    clear hI
    by_cases hlt : k < len
    · have hlt' : (k : Int) < len := by omega
      obtain ⟨b, off, ha, hcol⟩ : ∃ b off, a = some ⟨b, off, none⟩ ∧ ColAt wr b (off + k * 7) (cs.getD k nilCol) := by
        rcases (HC.out.below HI.out.2.2.2).2 with h0 | ⟨b, off, ha, hc⟩
        · omega
        · exact ⟨b, off, ha, hc k hlt⟩
      subst ha
      obtain ⟨c, hcc⟩ : ∃ c, c = cs.getD k nilCol := ⟨_, rfl⟩
      rw [← hcc] at hcol
      have HCC : Hid (c = cs.getD k nilCol) := hcc
      clear hcc
      obtain ⟨⟨c0, c1, c2, c3, c4, c5, c6⟩, hs, hi⟩ := hcol
      have hbl : b < wr.heap.size := World.block_lt_of_cell? wr _ c0
      have r1 := HI.out.2.1.cell hlt
      have f1 := HI.out.2.1.frozen k
      have r2 := HI.out.2.2.1.cell hlt
      have f2 := HI.out.2.2.1.frozen k
      have l1 := HI.out.2.1.lt
      have l2 := HI.out.2.2.1.lt
      have HS : Hid (Strs wr c.na c.names.length c.names) := hs
      have H6 : Hid (Ints64 c) := hi
      clear hs hi
      go_wp2
      generalize hW : ((wr.setCell { block := w.heap.size, off := k } (Value.string c.name)).alloc (Obj.cells #[Value.string c.name, Value.int IntKind.i64 c.kind, Value.int IntKind.i64 c.lo, Value.int IntKind.i64 c.hi, Value.slice c.na c.names.length c.nc, Value.int IntKind.i64 c.first, Value.int IntKind.i64 c.thn] 78)) = W1
      have F := round_facts (cap := cap) HC.out HI.out hlt (by omega) HCC.out hW
      obtain ⟨d0, d1, d2, d3, d4, d5, d6, n1, n2, hG, hG2, fSO, fB⟩ := F
      have SO : Hid (∀ wx, Below W1.heap.size W1 wx → _) := fSO
      have FB : Hid (∀ w2, Below W1.heap.size W1 w2 → _) := fB
      have HW : Hid (_ = W1) := hW
      clear hW fSO fB c0 c1 c2 c3 c4 c5 c6 r1 f1 r2 f2 l1 l2 hbl
      have hne1 : ¬ wr.heap.size = w.heap.size + 1 := by have := HI.out.2.2.1.lt; omega
      have hne2 : ¬ w.heap.size + 1 = wr.heap.size := by have := HI.out.2.2.1.lt; omega
      have hk0 : (0 : Int) ≤ (k : Int) := by omega
      have hkl : (k : Int) ≤ (len : Int) := by omega
      go_region_held3 (fun w' => w'.cell? ⟨wr.heap.size, 0, none⟩ = some (Value.string c.name) ∧ w'.cell? ⟨wr.heap.size, 1, none⟩ = some (.int .i64 c.kind) ∧ w'.cell? ⟨wr.heap.size, 2, none⟩ = some (.int .i64 c.lo) ∧ w'.cell? ⟨wr.heap.size, 3, none⟩ = some (.int .i64 c.hi) ∧ w'.cell? ⟨wr.heap.size, 4, none⟩ = some (.slice c.na c.names.length c.nc) ∧ w'.cell? ⟨wr.heap.size, 5, none⟩ = some (.int .i64 c.first) ∧ w'.cell? ⟨wr.heap.size, 6, none⟩ = some (.int .i64 c.thn)) (go_keep)
        (first | (go_at_call 88; refine (SO.out _ (by exact (Below.refl _ _).drew)).mono ?_; rintro e w2 ⟨he, hb2⟩; subst he; have g1 := after_call hb2 hG; have g2 := after_call hb2 hG2; have g3 := after_call_f hb2 hG2))
      obtain ⟨fI, fB⟩ := FB.out w2 (undrew hb2)
      have hcw := set_cell (W := w2) (b := w.heap.size + 1) (k := k) (v := .int .i64 (sizeOfF c acc)) (by rw [g2 k]; exact n1)
      have HL : Hid (cs.length = len) := HC.out.1
      have HGS : Hid (goSizes cs [] = goSizes (cs.drop k) acc) := HI.out.1.2.2
      generalize w2.setCell { block := w.heap.size + 1, off := k } (Value.int IntKind.i64 (sizeOfF c acc)) = W3 at *
      have HI3 : Hid (1 ≤ sizeOfF c acc ∧ sizeOfF c acc ≤ 1024 → SInv w cs len (k + 1) (acc ++ [sizeOfF c acc]) W3) := fI
      have HB3 : Hid (Below w.heap.size w W3) := fB
      clear fI fB g1 g2 g3 d0 d1 d2 d3 d4 d5 d6 n1 n2 hG hG2 SO FB HW hb2
      by_cases hs1 : sizeOfF c acc < 1
      · have N : Hid (sizesF cs = none) := sizesF_bad (by rw [HGS.out]; exact go_bad cs k acc (by rw [HL.out]; exact hlt) (.inl (by rw [← HCC.out]; exact hs1)))
        generalize sizeOfF c acc = s at *
        go_wp2
        go_ret2
        exact ⟨.inl ⟨N.out, rfl⟩, HB3.out⟩
      have hs1' : 1 ≤ sizeOfF c acc := by omega
      by_cases hs2 : 1024 < sizeOfF c acc
      · have N : Hid (sizesF cs = none) := sizesF_bad (by rw [HGS.out]; exact go_bad cs k acc (by rw [HL.out]; exact hlt) (.inr (by rw [← HCC.out]; exact hs2)))
        generalize sizeOfF c acc = s at *
        go_wp2
        go_ret2
        exact ⟨.inl ⟨N.out, rfl⟩, HB3.out⟩
      have hs2' : sizeOfF c acc ≤ 1024 := by omega
      have HI4 : Hid (SInv w cs len (k + 1) (acc ++ [sizeOfF c acc]) W3) := HI3.out ⟨hs1', hs2'⟩
      clear HI3
      obtain ⟨s, hs⟩ : ∃ s, s = sizeOfF c acc := ⟨_, rfl⟩
      rw [← hs] at *
      clear hs
      go_wp2
      go_roundw
      case rel => exact ⟨k + 1, _, by omega, by go_num, HI4.out⟩
      case measure => simp [intOf]; omega
    · have HL : Hid (cs.length = len) := HC.out.1
      have hkl : k = len := by omega
      have HN : Hid (Strs wr (some ⟨w.heap.size, 0, none⟩) len (cs.map (·.name))) := by
        refine ⟨by simpa using HL.out, .inr ⟨_, 0, rfl, fun j hj => ?_⟩⟩
        rw [Nat.zero_add, HI.out.2.1.cell hj, if_pos (by omega)]
        rw [List.getD_eq_getElem?_getD, List.getD_eq_getElem?_getD, List.getElem?_map, List.getElem?_eq_getElem (by rw [HL.out]; exact hj)]; rfl
      have HG : Hid (goSizes cs [] = some acc) := HI.out.1.2.2.trans (go_end cs k acc (by rw [HL.out]; omega))
      clear hkl
      have l2 := HI.out.2.2.1.lt
      cases hn : allB (cs.map (·.name)) with
      | true =>
        have N : Hid (sizesF cs = some acc) := sizesF_good (by rw [HL.out]; omega) HG.out hn
        have A : Hid (allB (cs.map (·.name)) = true) := hn
        clear hn
        go_wp2_with (go_at_call 89; refine (allNames_any _ _ _ _ _ HN.out (by omega)).mono ?_; rintro e w2 ⟨he, hb2⟩; subst he; rw [A.out])
        go_ret2
        exact ⟨.inr ⟨acc, w.heap.size + 1, N.out, rfl, by omega, by have := HI.out.1.1; omega, fun j hj => (hb2.cell (p := ⟨w.heap.size + 1, j, none⟩) l2).trans (HI.out.2.2.1.cell hj)⟩, then_ HI.out.2.2.2 hb2⟩
      | false =>
        have N : Hid (sizesF cs = none) := sizesF_names hn
        have A : Hid (allB (cs.map (·.name)) = false) := hn
        clear hn
        go_wp2_with (go_at_call 89; refine (allNames_any _ _ _ _ _ HN.out (by omega)).mono ?_; rintro e w2 ⟨he, hb2⟩; subst he; rw [A.out])
        go_ret2
        exact ⟨.inl ⟨N.out, rfl⟩, then_ HI.out.2.2.2 hb2⟩
end Go.Proofs.YtnjpblmplneojaaGreatDoor.Colour
/- What right colours' sizes are: the plain mathematics. -/
namespace Go.Proofs.YtnjpblmplneojaaGreatDoor.Colour
set_option linter.unusedVariables false

theorem go_out : ∀ (l : List Col) (acc ns : List Int), goSizes l acc = some ns →
    ns.length = acc.length + l.length ∧ ns.take acc.length = acc ∧ ∀ i, i < l.length → ns.getD (acc.length + i) 0 = sizeOfF (l.getD i nilCol) (ns.take (acc.length + i)) ∧ 1 ≤ ns.getD (acc.length + i) 0 ∧ ns.getD (acc.length + i) 0 ≤ 1024
  | [], acc, ns, h => by
    simp only [goSizes, Option.some.injEq] at h
    subst h
    exact ⟨by simp, by simp, fun i hi => by simp at hi⟩
  | c :: r, acc, ns, h => by
    unfold goSizes at h
    split at h
    · cases h
    · rename_i hb
      obtain ⟨h1, h2, h3⟩ := go_out r _ ns h
      have hla : (acc ++ [sizeOfF c acc]).length = acc.length + 1 := by simp
      have hta : ns.take acc.length = acc := by
        have := congrArg (List.take acc.length) h2
        rw [List.take_take, hla, Nat.min_eq_left (by omega)] at this
        simpa using this
      have hat : ns.getD acc.length 0 = sizeOfF c acc := by
        have h4 : (ns.take (acc ++ [sizeOfF c acc]).length)[acc.length]? = some (sizeOfF c acc) := by rw [h2]; simp
        rw [List.getElem?_take_of_lt (by omega)] at h4
        rw [List.getD_eq_getElem?_getD, h4]; rfl
      refine ⟨by simp at h1 ⊢; omega, hta, fun i hi => ?_⟩
      cases i with
      | zero =>
        rw [Nat.add_zero, hta, hat]
        exact ⟨rfl, by omega, by omega⟩
      | succ i =>
        have := h3 i (by simpa using hi)
        rw [hla, show acc.length + 1 + i = acc.length + (i + 1) by omega] at this
        exact this

theorem sizesF_out {cs : List Col} {ns : List Int} (h : sizesF cs = some ns) :
    cs.length ≤ 32 ∧ ns.length = cs.length ∧ ∀ i, i < cs.length → ns.getD i 0 = sizeOfF (cs.getD i nilCol) (ns.take i) ∧ 1 ≤ ns.getD i 0 ∧ ns.getD i 0 ≤ 1024 := by
  unfold sizesF at h
  split at h
  · cases h
  · split at h
    · cases h
    · rename_i hl m hg
      split at h
      · cases h
        obtain ⟨h1, _, h3⟩ := go_out cs [] _ hg
        refine ⟨by omega, by simpa using h1, fun i hi => ?_⟩
        have := h3 i hi
        simpa using this
      · cases h

theorem getD_take {ns : List Int} {i j : Nat} (h : j < i) : (ns.take i).getD j 0 = ns.getD j 0 := by
  rw [List.getD_eq_getElem?_getD, List.getElem?_take_of_lt h, ← List.getD_eq_getElem?_getD]

/-- of a pair of right colours: where its parts are, and how great it is -/
theorem sizesF_pair {cs : List Col} {ns : List Int} (h : sizesF cs = some ns) (k : Nat) (hk : k < cs.length) (h3 : (cs.getD k nilCol).kind = 3) :
    ∃ p q : Nat, (cs.getD k nilCol).first = p ∧ (cs.getD k nilCol).thn = q ∧ p < k ∧ q < k ∧ ns.getD k 0 = ns.getD p 0 * ns.getD q 0 := by
  obtain ⟨_, hl, ha⟩ := sizesF_out h
  obtain ⟨he, h1, _⟩ := ha k hk
  generalize cs.getD k nilCol = c at *
  have ht : (ns.take k).length = k := by rw [List.length_take]; omega
  have e1 : ¬ c.kind = 1 := by omega
  have e2 : ¬ c.kind = 2 := by omega
  unfold sizeOfF at he
  rw [if_neg e1, if_neg e2, if_pos h3, ht] at he
  split at he
  · rename_i hw
    rw [Bool.and_eq_true] at hw
    obtain ⟨w1, w2⟩ := hw
    unfold withinB at w1 w2
    have w1 := of_decide_eq_true w1
    have w2 := of_decide_eq_true w2
    obtain ⟨p, hp⟩ := Int.eq_ofNat_of_zero_le w1.1
    obtain ⟨q, hq⟩ := Int.eq_ofNat_of_zero_le w2.1
    rw [hp, hq, Int.toNat_natCast, Int.toNat_natCast, getD_take (by omega), getD_take (by omega)] at he
    exact ⟨p, q, hp, hq, by omega, by omega, he⟩
  · omega

/-- how great the colour k is; 0, if there is none -/
def sizeF (cs : List Col) (k : Int) : Int :=
  match sizesF cs with
  | none => 0
  | some ns => if withinB k ns.length then ns.getD k.toNat 0 else 0
theorem sizeF_none {cs : List Col} (h : sizesF cs = none) (k : Int) : sizeF cs k = 0 := by unfold sizeF; rw [h]
theorem sizeF_out {cs : List Col} {ns : List Int} (h : sizesF cs = some ns) {k : Int} (hk : withinB k ns.length = false) : sizeF cs k = 0 := by unfold sizeF; rw [h]; simp only [hk]; rfl
theorem sizeF_in {cs : List Col} {ns : List Int} (h : sizesF cs = some ns) {k : Nat} (hk : k < ns.length) : sizeF cs k = ns.getD k 0 := by
  unfold sizeF; rw [h]; simp only [withinB_nat hk, Int.toNat_natCast]; rfl
end Go.Proofs.YtnjpblmplneojaaGreatDoor.Colour
/- Right, Size, pairSizes, Parts, base and Number of package colour: contracts of the calls, over the turned program. -/
namespace Go.Proofs.YtnjpblmplneojaaGreatDoor.Colour
open Go.RowKit Go.Proofs.YtnjpblmplneojaaGreatDoor.Frame Go.Deep
set_option linter.unusedVariables false

theorem sizes_no (a : Option Addr) (len cap : Nat) (cs : List Col) (w : World) (h : Cols w a len cs) (hn : sizesF cs = none) :
    Calls Tryz.prog 76 #[.slice a len cap] w fun e w' => e = .returned (.tuple #[.slice none 0 0, .bool false]) ∧ Below w.heap.size w w' := by
  refine (sizes_any a len cap cs w h).mono ?_
  rintro e w' ⟨h1 | ⟨ns, g, h1, _⟩, hb⟩
  · exact ⟨h1.2, hb⟩
  · rw [hn] at h1; cases h1
theorem sizes_yes (a : Option Addr) (len cap : Nat) (cs : List Col) (ns : List Int) (w : World) (h : Cols w a len cs) (hn : sizesF cs = some ns) :
    Calls Tryz.prog 76 #[.slice a len cap] w fun e w' => ∃ g, e = .returned (.tuple #[.slice (some ⟨g, 0, none⟩) len len, .bool true]) ∧ (w.heap.size ≤ g ∧ ∀ j, j < len → w'.cell? ⟨g, j, none⟩ = some (.int .i64 (ns.getD j 0))) ∧ Below w.heap.size w w' := by
  refine (sizes_any a len cap cs w h).mono ?_
  rintro e w' ⟨h1 | ⟨ns', g, h1, he, hg, _, hc⟩, hb⟩
  · rw [hn] at h1; cases h1.1
  · rw [hn] at h1; cases h1
    exact ⟨g, he, ⟨hg, hc⟩, hb⟩

set_option maxHeartbeats 1000000 in
theorem size_any (a : Option Addr) (len cap : Nat) (cs : List Col) (k : Int) (w : World) (h : Cols w a len cs) :
    Calls Tryz.prog 58 #[.slice a len cap, .int .i64 k] w fun e w' => e = .returned (.int .i64 (sizeF cs k)) ∧ Below w.heap.size w w' := by
  have HC : Hid (Cols w a len cs) := h
  have hlen : cs.length = len := h.1
  clear h
  cases hs : sizesF cs with
  | none =>
    have H : Hid (sizesF cs = none) := hs
    have R : Hid (sizeF cs k = 0) := sizeF_none hs k
    clear hs hlen
    go_enter Tryz.func58, Tryz.ntmps58
    go_wp2_with (go_at_call 76; refine (sizes_no _ _ _ cs _ HC.out H.out).mono ?_; rintro e w' ⟨he, hb⟩; subst he)
    go_ret
    exact ⟨by rw [R.out]; rfl, hb⟩
  | some ns =>
    have H : Hid (sizesF cs = some ns) := hs
    obtain ⟨hl32, hnl, hall⟩ := sizesF_out hs
    have hnl' : ns.length = len := by omega
    have hl32' : len ≤ 32 := by omega
    clear hall
    cases hk : withinB k len with
    | false =>
      have K : Hid (withinB k len = false) := hk
      have R : Hid (sizeF cs k = 0) := sizeF_out hs (by rw [hnl']; exact hk)
      clear hs hlen hk hnl hnl' hl32
      go_enter Tryz.func58, Tryz.ntmps58
      go_wp2_with (first
        | (go_at_call 76; refine (sizes_yes _ _ _ cs ns _ HC.out H.out).mono ?_; rintro e w' ⟨g, he, hg, hb⟩; subst he; have HG : Hid (_ ∧ _) := hg; clear hg)
        | (go_at_call 77; refine (within_any _ _ _).mono ?_; rintro e w' ⟨he, hw⟩; subst he; have hw := hw.symm; subst hw; rw [K.out]))
      go_ret
      exact ⟨by rw [R.out]; rfl, hb⟩
    | true =>
      have hw := of_decide_eq_true (show decide _ = true from hk)
      obtain ⟨p, rfl⟩ := Int.eq_ofNat_of_zero_le hw.1
      have hp : p < len := by omega
      have hp' : (p : Int) < len := by omega
      have K : Hid (withinB p len = true) := hk
      have R : Hid (sizeF cs p = ns.getD p 0) := sizeF_in hs (by omega)
      clear hs hlen hk hnl hnl' hl32 hw
      go_enter Tryz.func58, Tryz.ntmps58
      go_wp2_with (first
        | (go_at_call 76; refine (sizes_yes _ _ _ cs ns _ HC.out H.out).mono ?_; rintro e w' ⟨g, he, hg, hb⟩; subst he; have hcp := hg.2 p hp; clear hg; obtain ⟨x, hx⟩ : ∃ x, x = ns.getD p 0 := ⟨_, rfl⟩; rw [← hx] at hcp R; clear hx)
        | (go_at_call 77; refine (within_any _ _ _).mono ?_; rintro e w' ⟨he, hw⟩; subst he; have hw := hw.symm; subst hw; rw [K.out]))
      go_ret
      exact ⟨by rw [R.out]; rfl, hb⟩
end Go.Proofs.YtnjpblmplneojaaGreatDoor.Colour
