/- Contracts and plain mathematics, together: ColOpen, ExOpen, ChkOpen. -/
import Derived.Test.YtgdkomkflfodaaaGreatMaF
import Derived.ProofKit
import Derived.OpenShut
import Derived.Deep.Strs
import Derived.Test.YtgdkomkflfodaaaGreatMaI
import Derived.Deep.Slices
import Derived.Lib.LaidTab
import Derived.LaidSub
import Derived.Test.YtgdkomkflfodaaaGreatMaJ
import Derived.SizedLaws
/- Colours that come in, as they lie in memory. -/
namespace Go.Proofs.YtgdkomkflfodaaaGreat.Colour
open Go.ChangeShapes Go.WideShapes Go.ChangeAt Go.RowKit Go.Deep
set_option linter.unusedVariables false

theorem cellsStr : Tryz.prog.cellsOf 9 = 1 := by kernel_rfl
theorem cellsInt : Tryz.prog.cellsOf 3 = 1 := by kernel_rfl
theorem cellsStrs : Tryz.prog.cellsOf 60 = 1 := by kernel_rfl
theorem cellsCol : Tryz.prog.cellsOf 62 = 7 := by kernel_rfl

theorem seven {α : Type} : ∀ l : List α, l.length = 7 → ∃ a b c d e f g, l = [a, b, c, d, e, f, g]
  | [a, b, c, d, e, f, g], _ => ⟨a, b, c, d, e, f, g, rfl⟩

section
variable {H : Type} {enc : TypeId × Value → H} {w : World} {base : Nat} {spare : Nat → Bool} {held : Bool}

theorem open_names {fuel : Nat} {v : Value} {x : DataW H × List MemPlace} (h : DataW.trod enc Tryz.prog w base spare held fuel 60 [v] = some x) :
    ∃ (a : Option Addr) (zs : List ByteArray) (c : Nat), v = .slice a zs.length c ∧ Strs w a zs.length zs := by
  rcases open_strs Tryz.underlying60 Tryz.underlying9 cellsStr h with ⟨hc, _⟩ | ⟨a, len, cap, m, Sx, hc, _, hl, _, hm, _, hx⟩
  · simp at hc
    exact ⟨none, [], 0, hc, rfl, .inl rfl⟩
  · simp at hc
    have hlm : len ≤ m := by rw [hm]; split <;> omega
    refine ⟨some a, (List.range len).map Sx, cap, by simpa using hc, rfl, ?_⟩
    rcases Nat.eq_zero_or_pos len with h0 | h0
    · left; simp [h0]
    · right
      obtain ⟨b, o, spot⟩ := a
      have hs : spot = none := by simpa [Addr.add] using World.cell?_spot (hx 0 (by omega)).1
      subst hs
      refine ⟨b, o, rfl, fun j hj => ?_⟩
      have hj' : j < len := by simpa using hj
      have := (hx j (by omega)).1
      rw [Go.WideShapes.add_plain] at this
      rw [this, List.getD_eq_getElem?_getD, List.getElem?_map, List.getElem?_range hj']; rfl

set_option maxRecDepth 100000 in
theorem open_col {fuel b o : Nat} {cs : List Value} {x : DataW H × List MemPlace} (h : DataW.trod enc Tryz.prog w base spare held fuel 62 cs = some x) (hc : ∀ j, j < 7 → w.cell? ⟨b, o + j, none⟩ = cs[j]?) :
    ∃ c : Col, ColAt w b o c := by
  obtain ⟨xs, n, _, _, hl, hxs, hf⟩ := DataW.trod_struct Tryz.underlying62 h
  rw [cellsCol] at hl
  obtain ⟨v0, v1, v2, v3, v4, v5, v6, rfl⟩ := seven cs hl
  obtain ⟨x0, x1, x2, x3, x4, x5, x6, rfl⟩ := seven xs hxs
  have f0 : DataW.trod enc Tryz.prog w base spare held n 9 [v0] = some x0 := by
    have := hf 0 _ rfl
    simpa [cellsStr] using this
  have f1 : DataW.trod enc Tryz.prog w base spare held n 3 [v1] = some x1 := by
    have := hf 1 _ rfl
    simpa [cellsInt] using this
  have f2 : DataW.trod enc Tryz.prog w base spare held n 3 [v2] = some x2 := by
    have := hf 2 _ rfl
    simpa [cellsInt] using this
  have f3 : DataW.trod enc Tryz.prog w base spare held n 3 [v3] = some x3 := by
    have := hf 3 _ rfl
    simpa [cellsInt] using this
  have f4 : DataW.trod enc Tryz.prog w base spare held n 60 [v4] = some x4 := by
    have := hf 4 _ rfl
    simpa [cellsStrs] using this
  have f5 : DataW.trod enc Tryz.prog w base spare held n 3 [v5] = some x5 := by
    have := hf 5 _ rfl
    simpa [cellsInt] using this
  have f6 : DataW.trod enc Tryz.prog w base spare held n 3 [v6] = some x6 := by
    have := hf 6 _ rfl
    simpa [cellsInt] using this
  obtain ⟨s0, e0, _, _⟩ := DataW.trod_string Tryz.underlying9 f0
  obtain ⟨k1, e1, _, _⟩ := DataW.trod_int Tryz.underlying3 f1
  obtain ⟨k2, e2, _, g2⟩ := DataW.trod_int Tryz.underlying3 f2
  obtain ⟨k3, e3, _, g3⟩ := DataW.trod_int Tryz.underlying3 f3
  obtain ⟨na, zs, nc, e4, hs⟩ := open_names f4
  obtain ⟨k5, e5, _, _⟩ := DataW.trod_int Tryz.underlying3 f5
  obtain ⟨k6, e6, _, _⟩ := DataW.trod_int Tryz.underlying3 f6
  simp only [List.cons.injEq, and_true] at e0 e1 e2 e3 e5 e6
  subst e0 e1 e2 e3 e4 e5 e6
  refine ⟨⟨s0, k1, k2, k3, zs, na, nc, k5, k6⟩, ⟨?_, ?_, ?_, ?_, ?_, ?_, ?_⟩, hs, ⟨bounds_i64 g2, bounds_i64 g3⟩⟩
  · exact hc 0 (by omega)
  · exact hc 1 (by omega)
  · exact hc 2 (by omega)
  · exact hc 3 (by omega)
  · exact hc 4 (by omega)
  · exact hc 5 (by omega)
  · exact hc 6 (by omega)

theorem open_cols {fuel : Nat} {a : Option Addr} {len cap : Nat} {x : DataW H × List MemPlace} (h : DataW.trod enc Tryz.prog w base spare held fuel 22 [.slice a len cap] = some x) : ∃ cs, Cols w a len cs := by
  rcases open_slice Tryz.underlying22 h with ⟨hc, _⟩ | ⟨ad, len', cap', m, n, D, Pl, hc, _, hl, _, hm, _, hx⟩
  · simp at hc
    obtain ⟨_, rfl, _⟩ := hc
    exact ⟨[], rfl, .inl rfl⟩
  · simp at hc
    obtain ⟨rfl, rfl, rfl⟩ := hc
    have hlm : len ≤ m := by rw [hm]; split <;> omega
    rcases Nat.eq_zero_or_pos len with h0 | h0
    · subst h0; exact ⟨[], rfl, .inl rfl⟩
    rw [cellsCol] at hx
    obtain ⟨b, o, spot⟩ := ad
    have hs : spot = none := by
      obtain ⟨cs', h1, _⟩ := hx 0 (by omega)
      obtain ⟨_, hlen, hcell⟩ := World.cells?_some h1
      have := hcell 0 (by omega)
      rw [List.getElem?_eq_getElem (by omega)] at this
      simpa [Addr.add] using World.cell?_spot this
    subst hs
    haveI : Inhabited Col := ⟨nilCol⟩
    obtain ⟨f, hf⟩ := choose_lt (n := len) (p := fun i c => ColAt w b (o + i * 7) c) (fun i hi => by
      obtain ⟨cs', h1, h2⟩ := hx i (by omega)
      obtain ⟨_, hlen, hcell⟩ := World.cells?_some h1
      refine open_col (b := b) (o := o + i * 7) h2 (fun j hj => ?_)
      have := hcell j hj
      rw [Go.WideShapes.add_plain, Go.WideShapes.add_plain] at this
      exact this)
    refine ⟨(List.range len).map f, by simp, .inr ⟨b, o, rfl, fun i hi => ?_⟩⟩
    rw [List.getD_eq_getElem?_getD, List.getElem?_map, List.getElem?_range hi]
    exact hf i hi
end
end Go.Proofs.YtgdkomkflfodaaaGreat.Colour
/- Expressions, numbers and names that come in, as they lie in memory. -/
namespace Go.Proofs.YtgdkomkflfodaaaGreat.Expr
open Go.ChangeShapes Go.WideShapes Go.ChangeAt Go.RowKit Go.Deep
set_option linter.unusedVariables false

theorem cellsIntE : Tryz.prog.cellsOf 3 = 1 := by kernel_rfl
theorem cellsStrE : Tryz.prog.cellsOf 9 = 1 := by kernel_rfl
theorem cellsExs : Tryz.prog.cellsOf 47 = 1 := by kernel_rfl
theorem cellsEx : Tryz.prog.cellsOf 49 = 3 := by kernel_rfl
theorem three {α : Type} : ∀ l : List α, l.length = 3 → ∃ a b c, l = [a, b, c]
  | [a, b, c], _ => ⟨a, b, c, rfl⟩
/-- cells that are an expression's -/
def IsEx (w : World) (cs : List Value) (y : Ex × Option Addr × Nat) : Prop := cs = [.int .i64 y.1.kind, .int .i64 y.1.num, .slice y.2.1 y.1.kids.length y.2.2] ∧ X w y.1 y.2.1

section
variable {H : Type} {enc : TypeId × Value → H} {w : World} {base : Nat} {spare : Nat → Bool} {held : Bool}

set_option maxRecDepth 100000 in
theorem open_ex : ∀ (fuel : Nat) (cs : List Value) (x : DataW H × List MemPlace), DataW.trod enc Tryz.prog w base spare held fuel 49 cs = some x → ∃ y, IsEx w cs y := by
  intro fuel
  induction fuel using Nat.strongRecOn with
  | _ fuel ih =>
  intro cs x h
  obtain ⟨xs, n, hfu, _, hl, hxs, hf⟩ := DataW.trod_struct Tryz.underlying49 h
  rw [cellsEx] at hl
  obtain ⟨v0, v1, v2, rfl⟩ := three cs hl
  obtain ⟨x0, x1, x2, rfl⟩ := three xs hxs
  have f0 : DataW.trod enc Tryz.prog w base spare held n 3 [v0] = some x0 := by
    have := hf 0 _ rfl
    simpa [cellsIntE] using this
  have f1 : DataW.trod enc Tryz.prog w base spare held n 3 [v1] = some x1 := by
    have := hf 1 _ rfl
    simpa [cellsIntE] using this
  have f2 : DataW.trod enc Tryz.prog w base spare held n 47 [v2] = some x2 := by
    have := hf 2 _ rfl
    simpa [cellsExs] using this
  obtain ⟨k0, e0, _, g0⟩ := DataW.trod_int Tryz.underlying3 f0
  obtain ⟨k1, e1, _, g1⟩ := DataW.trod_int Tryz.underlying3 f1
  simp only [List.cons.injEq, and_true] at e0 e1
  subst e0 e1
  rcases DataW.trod_slice Tryz.underlying47 f2 with ⟨hc, _⟩ | ⟨ad, len, cap, elems, rest, m, hm, hc, _, _, _, _, hel, hx, _⟩
  · simp at hc
    subst hc
    exact ⟨(⟨k0, k1, []⟩, none, 0), rfl, (xg_eq _ _ _ _ _ _).2 ⟨⟨bounds_i64 g0, bounds_i64 g1⟩, .inl rfl⟩⟩
  · simp at hc
    subst hc
    rw [cellsEx] at hx
    have hkid : ∀ i, i < len → ∃ cs', w.cells? base (ad.add (i * 3)) 3 = some cs' ∧ ∃ y, IsEx w cs' y := fun i hi => by
      have h1 := hx i hi
      have h2 : i < elems.length := by omega
      rw [List.getElem?_eq_getElem h2, Option.bind_eq_some_iff] at h1
      obtain ⟨cs', h3, h4⟩ := h1
      exact ⟨cs', h3, ih m (by omega) cs' _ h4⟩
    rcases Nat.eq_zero_or_pos len with h0 | h0
    · subst h0
      exact ⟨(⟨k0, k1, []⟩, some ad, cap), rfl, (xg_eq _ _ _ _ _ _).2 ⟨⟨bounds_i64 g0, bounds_i64 g1⟩, .inl rfl⟩⟩
    obtain ⟨b, o, spot⟩ := ad
    have hs : spot = none := by
      obtain ⟨cs', h1, _⟩ := hkid 0 (by omega)
      obtain ⟨_, hlen, hcell⟩ := World.cells?_some h1
      have := hcell 0 (by omega)
      rw [List.getElem?_eq_getElem (by omega)] at this
      simpa [Addr.add] using World.cell?_spot this
    subst hs
    haveI : Inhabited (Ex × Option Addr × Nat) := ⟨(nilEx, none, 0)⟩
    obtain ⟨f, hf'⟩ := choose_lt (n := len) (p := fun i (y : Ex × Option Addr × Nat) => (w.cell? ⟨b, o + i * 3, none⟩ = some (.int .i64 y.1.kind) ∧ w.cell? ⟨b, o + i * 3 + 1, none⟩ = some (.int .i64 y.1.num) ∧ w.cell? ⟨b, o + i * 3 + 2, none⟩ = some (.slice y.2.1 y.1.kids.length y.2.2)) ∧ X w y.1 y.2.1) (fun i hi => by
      obtain ⟨cs', h1, y, hy, hyx⟩ := hkid i hi
      obtain ⟨_, hlen, hcell⟩ := World.cells?_some h1
      subst hy
      have c0 := hcell 0 (by omega)
      have c1 := hcell 1 (by omega)
      have c2 := hcell 2 (by omega)
      rw [Go.WideShapes.add_plain, Go.WideShapes.add_plain] at c0 c1 c2
      exact ⟨y, ⟨c0, c1, c2⟩, hyx⟩)
    refine ⟨(⟨k0, k1, (List.range len).map fun i => (f i).1⟩, some ⟨b, o, none⟩, cap), by simp, (xg_eq _ _ _ _ _ _).2 ⟨⟨bounds_i64 g0, bounds_i64 g1⟩, .inr ⟨b, o, rfl, trivial, fun i hi => ?_⟩⟩⟩
    have hi' : i < len := by simpa using hi
    have e : ((List.range len).map fun i => (f i).1).getD i nilEx = (f i).1 := by
      rw [List.getD_eq_getElem?_getD, List.getElem?_map, List.getElem?_range hi']; rfl
    rw [e]
    obtain ⟨⟨c0, c1, c2⟩, hX⟩ := hf' i hi'
    exact ⟨_, _, c0, c1, c2, hX⟩

set_option maxRecDepth 100000 in
theorem open_exv {r : Reach} {b0 : Nat} {v : Value} {d : DataW H} {ps : List MemPlace} (hval : Value.okWide Tryz.prog w r b0 49 v) (hd : DataW.Trod enc Tryz.prog w base spare held 49 v d ps) :
    ∃ (t : Ex) (a : Option Addr) (c : Nat), v = .agg #[.int .i64 t.kind, .int .i64 t.num, .slice a t.kids.length c] ∧ X w t a := by
  obtain ⟨cs, rfl, hcs⟩ := okWide_struct Tryz.underlying49 hval
  obtain ⟨fuel, hf⟩ := hd
  obtain ⟨⟨t, a, c⟩, h1, h2⟩ := open_ex fuel _ _ hf
  refine ⟨t, a, c, ?_, h2⟩
  have : cs.toList = [.int .i64 t.kind, .int .i64 t.num, .slice a t.kids.length c] := by simpa [Value.cells] using h1
  rw [← Array.toArray_toList (xs := cs), this]

set_option maxRecDepth 100000 in
theorem open_nm {fuel : Nat} {a : Option Addr} {len cap : Nat} {x : DataW H × List MemPlace} (h : DataW.trod enc Tryz.prog w base spare held fuel 36 [.slice a len cap] = some x) : ∃ zs, Nm w a len zs := by
  rcases open_ints Tryz.underlying36 Tryz.underlying3 (by kernel_rfl) h with ⟨hcs, _⟩ | ⟨x, l, c, zs, hcs, _, hl, hm, hz, _, hcell, hwz⟩
  · simp at hcs
    obtain ⟨_, rfl, _⟩ := hcs
    exact ⟨[], ⟨rfl, fun i hi => by cases hi⟩, .inl rfl⟩
  · simp at hcs
    obtain ⟨rfl, rfl, rfl⟩ := hcs
    have hz : len ≤ zs.length := by rw [hz]; split <;> omega
    rcases Nat.eq_zero_or_pos len with h0 | h0
    · subst h0; exact ⟨[], ⟨rfl, fun i hi => by cases hi⟩, .inl rfl⟩
    obtain ⟨b, o, spot⟩ := x
    have hs : spot = none := by simpa [Addr.add] using World.cell?_spot (hcell 0 (by omega))
    subst hs
    have hget : ∀ i, i < len → (zs.take len).getD i 0 = zs.getD i 0 := fun i hi => by
      rw [List.getD_eq_getElem?_getD, List.getElem?_take_of_lt hi, ← List.getD_eq_getElem?_getD]
    refine ⟨zs.take len, ⟨by rw [List.length_take]; omega, fun i hi => ?_⟩, .inr ⟨b, o, rfl, fun i hi => ?_⟩⟩
    · have hi' : i < zs.length := by omega
      rw [hget i hi, List.getD_eq_getElem?_getD, List.getElem?_eq_getElem hi']
      exact bounds_i64 (hwz _ (List.getElem_mem _))
    · rw [hget i hi]
      have := hcell i (by omega)
      rw [Go.WideShapes.add_plain] at this
      exact this

/-- names in memory -/
def Nms (w : World) (a : Option Addr) (len : Nat) (zs : List ByteArray) : Prop := zs.length = len ∧ (zs.length = 0 ∨ ∃ b off, a = some ⟨b, off, none⟩ ∧ b < w.heap.size ∧ ∀ i, i < zs.length → w.cell? ⟨b, off + i, none⟩ = some (.string (zs.getD i ByteArray.empty)))
set_option maxRecDepth 100000 in
theorem open_nms {fuel : Nat} {a : Option Addr} {len cap : Nat} {x : DataW H × List MemPlace} (h : DataW.trod enc Tryz.prog w base spare held fuel 60 [.slice a len cap] = some x) : ∃ zs, Nms w a len zs := by
  rcases open_strs Tryz.underlying60 Tryz.underlying9 cellsStrE h with ⟨hc, _⟩ | ⟨a, len, cap, m, Sx, hc, _, hl, _, hm, _, hx⟩
  · simp at hc
    obtain ⟨_, rfl, _⟩ := hc
    exact ⟨[], rfl, .inl rfl⟩
  · simp at hc
    obtain ⟨rfl, rfl, rfl⟩ := hc
    have hlm : len ≤ m := by rw [hm]; split <;> omega
    refine ⟨(List.range len).map Sx, by simp, ?_⟩
    rcases Nat.eq_zero_or_pos len with h0 | h0
    · left; simp [h0]
    · right
      obtain ⟨b, o, spot⟩ := a
      have hs : spot = none := by simpa [Addr.add] using World.cell?_spot (hx 0 (by omega)).1
      subst hs
      have hc0 := (hx 0 (by omega)).1
      rw [Go.WideShapes.add_plain] at hc0
      refine ⟨b, o, rfl, World.block_lt_of_cell? w _ hc0, fun j hj => ?_⟩
      have hj' : j < len := by simpa using hj
      have := (hx j (by omega)).1
      rw [Go.WideShapes.add_plain] at this
      rw [this, List.getD_eq_getElem?_getD, List.getElem?_map, List.getElem?_range hj']; rfl
end
end Go.Proofs.YtgdkomkflfodaaaGreat.Expr
/- Nets that come in, as they lie in memory, and how long their rows may be. -/
namespace Go.Proofs.YtgdkomkflfodaaaGreat.Check
open Go.ChangeShapes Go.WideShapes Go.ChangeAt Go.RowKit Go.Deep Go.Proofs.YtgdkomkflfodaaaGreat.Frame Go.Proofs.YtgdkomkflfodaaaGreat.Colour Go.Proofs.YtgdkomkflfodaaaGreat.Expr
set_option linter.unusedVariables false
set_option linter.unusedSimpArgs false

theorem fiveL {α : Type} : ∀ l : List α, l.length = 5 → ∃ a b c d e, l = [a, b, c, d, e]
  | [a, b, c, d, e], _ => ⟨a, b, c, d, e, rfl⟩
theorem fourL {α : Type} : ∀ l : List α, l.length = 4 → ∃ a b c d, l = [a, b, c, d]
  | [a, b, c, d], _ => ⟨a, b, c, d, rfl⟩
theorem twoL {α : Type} : ∀ l : List α, l.length = 2 → ∃ a b, l = [a, b]
  | [a, b], _ => ⟨a, b, rfl⟩
theorem tenL {α : Type} : ∀ l : List α, l.length = 10 → ∃ a b c d e f g h i j, l = [a, b, c, d, e, f, g, h, i, j]
  | [a, b, c, d, e, f, g, h, i, j], _ => ⟨a, b, c, d, e, f, g, h, i, j, rfl⟩
theorem fourteenL {α : Type} : ∀ l : List α, l.length = 14 → ∃ a b c d e f g h i j k m n o, l = [a, b, c, d, e, f, g, h, i, j, k, m, n, o]
  | [a, b, c, d, e, f, g, h, i, j, k, m, n, o], _ => ⟨a, b, c, d, e, f, g, h, i, j, k, m, n, o, rfl⟩
theorem cInt : Tryz.prog.cellsOf 3 = 1 := by kernel_rfl
theorem cStr : Tryz.prog.cellsOf 9 = 1 := by kernel_rfl
theorem cEx : Tryz.prog.cellsOf 49 = 3 := by kernel_rfl
theorem cRow : Tryz.prog.cellsOf 80 = 2 := by kernel_rfl
theorem cMany : Tryz.prog.cellsOf 51 = 3 := by kernel_rfl
theorem cCol : Tryz.prog.cellsOf 62 = 7 := by kernel_rfl
theorem cVar : Tryz.prog.cellsOf 56 = 2 := by kernel_rfl
theorem cArc : Tryz.prog.cellsOf 65 = 4 := by kernel_rfl
theorem cPlace : Tryz.prog.cellsOf 45 = 3 := by kernel_rfl
theorem cTask : Tryz.prog.cellsOf 53 = 14 := by kernel_rfl
theorem cNet : Tryz.prog.cellsOf 26 = 5 := by kernel_rfl
theorem cBag : Tryz.prog.cellsOf 43 = 1 := by kernel_rfl
theorem cStrs : Tryz.prog.cellsOf 60 = 1 := by kernel_rfl
theorem cInts : Tryz.prog.cellsOf 36 = 1 := by kernel_rfl
theorem cVars : Tryz.prog.cellsOf 46 = 1 := by kernel_rfl
theorem cArcs : Tryz.prog.cellsOf 50 = 1 := by kernel_rfl
theorem cCols : Tryz.prog.cellsOf 22 = 1 := by kernel_rfl
theorem cPlaces : Tryz.prog.cellsOf 23 = 1 := by kernel_rfl
theorem bRow : 0 < Tryz.prog.bytesOf 80 := of_decide_eq_true (by kernel_rfl)
theorem bVar : 0 < Tryz.prog.bytesOf 56 := of_decide_eq_true (by kernel_rfl)
theorem bArc : 0 < Tryz.prog.bytesOf 65 := of_decide_eq_true (by kernel_rfl)
theorem bInt : 0 < Tryz.prog.bytesOf 3 := of_decide_eq_true (by kernel_rfl)
theorem bPlace : 0 < Tryz.prog.bytesOf 45 := of_decide_eq_true (by kernel_rfl)
theorem bTask : 0 < Tryz.prog.bytesOf 53 := of_decide_eq_true (by kernel_rfl)
theorem bStr : 0 < Tryz.prog.bytesOf 9 := of_decide_eq_true (by kernel_rfl)
theorem cTasks : Tryz.prog.cellsOf 24 = 1 := by kernel_rfl

section
variable {H : Type} {enc : TypeId × Value → H} {w : World} {base : Nat} {spare : Nat → Bool} {held : Bool}

/-- no row of the datum is beyond the reach -/
def Wt (T : TypeId) (d : DataW H) : Prop := ∀ n, n ∈ d.weights Tryz.prog T → n ≤ reachBytes
theorem mem_weightsAll {E : TypeId} : ∀ {l : List (DataW H)} {d : DataW H}, d ∈ l → ∀ n, n ∈ d.weights Tryz.prog E → n ∈ DataW.weightsAll Tryz.prog E l
  | d0 :: l, d, hd, n, hn => by
    simp only [DataW.weightsAll, List.mem_append]
    rcases List.mem_cons.1 hd with rfl | hd
    · exact .inl hn
    · exact .inr (mem_weightsAll hd n hn)
theorem wt_struct {T : TypeId} {fs : Array Field} {xs : List (DataW H × List MemPlace)} (hu : Tryz.prog.underlying T = some (.struct fs)) (hw : Wt T (.agg (xs.map (·.1)))) (i : Nat) {f : Field} {xi : DataW H × List MemPlace} (hf : fs[i]? = some f) (hx : xs[i]? = some xi) : Wt f.type xi.1 := fun n hn => hw n (by
  simp only [DataW.weights, hu]
  exact DataW.weights_mem_each (j := i) (t := f.type) (d := xi.1) (by simp [hf]) (by simp [hx]) n hn)
theorem wt_slice {T E : TypeId} {fuel : Nat} {a : Option Addr} {len cap : Nat} {x : DataW H × List MemPlace} (hu : Tryz.prog.underlying T = some (.slice E)) (hb : 0 < Tryz.prog.bytesOf E) (h : DataW.trod enc Tryz.prog w base spare held fuel T [.slice a len cap] = some x) (hw : Wt T x.1) : len ≤ reachBytes := by
  rcases open_slice hu h with ⟨hc, _⟩ | ⟨ad, len', cap', m, n, D, Pl, hc, _, hl, _, hm, hx, _⟩
  · simp at hc; omega
  · simp at hc
    obtain ⟨rfl, rfl, rfl⟩ := hc
    subst hx
    have hlm : len ≤ m := by rw [hm]; split <;> omega
    have := hw ((len + (m - len)) * Tryz.prog.bytesOf E) (by simp [DataW.weights, hu])
    have h2 : len * 1 ≤ (len + (m - len)) * Tryz.prog.bytesOf E := Nat.mul_le_mul (by omega) hb
    omega
/-- a row of parts that comes in -/
theorem open_rowm {α : Type} {k : Nat} {T E : TypeId} {cells : α → List Value} {ok : World → α → Prop} (nil : α) (hu : Tryz.prog.underlying T = some (.slice E)) (hk : Tryz.prog.cellsOf E = k) (hb : 0 < Tryz.prog.bytesOf E) (hk0 : 0 < k)
    (one : ∀ fuel cs x, DataW.trod enc Tryz.prog w base spare held fuel E cs = some x → Wt E x.1 → ∃ y, cs = cells y ∧ ok w y)
    {fuel : Nat} {v : Value} {x : DataW H × List MemPlace} (h : DataW.trod enc Tryz.prog w base spare held fuel T [v] = some x) (hw : Wt T x.1) :
    ∃ (l : List α) (a : Option Addr) (c : Nat), v = .slice a l.length c ∧ RowM k cells ok nil w a l ∧ l.length ≤ c ∧ l.length ≤ reachBytes := by
  rcases open_slice hu h with ⟨hc, _⟩ | ⟨ad, len, cap, m, n, D, Pl, hc, _, hl, _, hm, hxe, hx⟩
  · simp at hc
    exact ⟨[], none, 0, hc, .inl rfl, Nat.le_refl _, Nat.zero_le _⟩
  · simp at hc
    subst hc
    have hlen : len ≤ reachBytes := wt_slice hu hb h hw
    have hlm : len ≤ m := by rw [hm]; split <;> omega
    subst hxe
    rw [hk] at hx
    rcases Nat.eq_zero_or_pos len with h0 | h0
    · subst h0; exact ⟨[], some ad, cap, rfl, .inl rfl, Nat.zero_le _, Nat.zero_le _⟩
    obtain ⟨b, o, spot⟩ := ad
    have hs : spot = none := by
      obtain ⟨cs', h1, _⟩ := hx 0 (by omega)
      obtain ⟨_, hlen, hcell⟩ := World.cells?_some h1
      have := hcell 0 (by omega)
      rw [List.getElem?_eq_getElem (by omega)] at this
      simpa [Addr.add] using World.cell?_spot this
    subst hs
    haveI : Inhabited α := ⟨nil⟩
    obtain ⟨f, hf⟩ := choose_lt (n := len) (p := fun i (y : α) => Run w b (o + i * k) (cells y) ∧ ok w y) (fun i hi => by
      obtain ⟨cs', h1, h2⟩ := hx i (by omega)
      obtain ⟨_, hlen', hcell⟩ := World.cells?_some h1
      obtain ⟨y, rfl, hy⟩ := one _ _ _ h2 (fun n hn => hw n (by
        have hm' : D i ∈ (List.range len).map D := List.mem_map_of_mem (List.mem_range.2 hi)
        simp only [DataW.weights, hu]
        exact List.mem_cons_of_mem _ (List.mem_append_left _ (mem_weightsAll hm' n hn))))
      refine ⟨y, fun j v hv => ?_, hy⟩
      have hj : j < k := by have := (List.getElem?_eq_some_iff.1 hv).1; omega
      have := hcell j hj
      rw [Go.WideShapes.add_plain, Go.WideShapes.add_plain] at this
      exact this.trans hv)
    refine ⟨(List.range len).map f, some ⟨b, o, none⟩, cap, by simp, .inr ⟨b, o, rfl, fun i hi => ?_⟩, by simpa using hl, by simpa using hlen⟩
    have hi' : i < len := by simpa using hi
    rw [List.getD_eq_getElem?_getD, List.getElem?_map, List.getElem?_range hi']
    exact hf i hi'
theorem RowM.imp {α : Type} {k : Nat} {cells : α → List Value} {ok ok' : World → α → Prop} {nil : α} {w : World} {a : Option Addr} {l : List α} (hok : ∀ x, ok w x → ok' w x) (h : RowM k cells ok nil w a l) : RowM k cells ok' nil w a l := by
  rcases h with h | ⟨b, off, ha, h⟩
  · exact .inl h
  · exact .inr ⟨b, off, ha, fun i hi => ⟨(h i hi).1, hok _ (h i hi).2⟩⟩
theorem RowM.all {α : Type} {k : Nat} {cells : α → List Value} {ok : World → α → Prop} {nil : α} {w : World} {a : Option Addr} {l : List α} (h : RowM k cells ok nil w a l) : ∀ x, x ∈ l → ok w x := fun x hx => by
  obtain ⟨i, hi, rfl⟩ := List.getElem_of_mem hx
  obtain ⟨b, off, _, _, hk⟩ := h.at hi
  rw [List.getD_eq_getElem?_getD, List.getElem?_eq_getElem hi] at hk
  exact hk

theorem open_zi {fuel : Nat} {cs : List Value} {x : DataW H × List MemPlace} (h : DataW.trod enc Tryz.prog w base spare held fuel 3 cs = some x) : ∃ z : Int, cs = [.int .i64 z] ∧ In64 z := by
  obtain ⟨k, e, _, g⟩ := DataW.trod_int Tryz.underlying3 h
  exact ⟨k, e, bounds_i64 g⟩
theorem open_s {fuel : Nat} {cs : List Value} {x : DataW H × List MemPlace} (h : DataW.trod enc Tryz.prog w base spare held fuel 9 cs = some x) : ∃ s : ByteArray, cs = [.string s] := by
  obtain ⟨s, e, _⟩ := DataW.trod_string Tryz.underlying9 h
  exact ⟨s, e⟩
theorem open_va {fuel : Nat} {cs : List Value} {x : DataW H × List MemPlace} (h : DataW.trod enc Tryz.prog w base spare held fuel 56 cs = some x) : ∃ y : Va, cs = y.cells ∧ VaOk w y := by
  obtain ⟨xs, n, _, _, hl, hxs, hf⟩ := DataW.trod_struct Tryz.underlying56 h
  rw [cVar] at hl
  obtain ⟨v0, v1, rfl⟩ := twoL cs hl
  obtain ⟨x0, x1, rfl⟩ := twoL xs hxs
  have f0 : DataW.trod enc Tryz.prog w base spare held n 9 [v0] = some x0 := by
    have := hf 0 _ rfl
    simpa [cStr] using this
  have f1 : DataW.trod enc Tryz.prog w base spare held n 3 [v1] = some x1 := by
    have := hf 1 _ rfl
    simpa [cInt] using this
  obtain ⟨s, e0⟩ := open_s f0
  obtain ⟨z, e1, hz⟩ := open_zi f1
  simp only [List.cons.injEq, and_true] at e0 e1
  subst e0 e1
  exact ⟨⟨s, z⟩, rfl, hz⟩
theorem open_ar {fuel : Nat} {cs : List Value} {x : DataW H × List MemPlace} (h : DataW.trod enc Tryz.prog w base spare held fuel 65 cs = some x) : ∃ y : Ar, cs = y.cells ∧ ArOk w y := by
  obtain ⟨xs, n, _, _, hl, hxs, hf⟩ := DataW.trod_struct Tryz.underlying65 h
  rw [cArc] at hl
  obtain ⟨v0, v1, v2, v3, rfl⟩ := fourL cs hl
  obtain ⟨x0, x1, rfl⟩ := twoL xs hxs
  have f0 : DataW.trod enc Tryz.prog w base spare held n 3 [v0] = some x0 := by
    have := hf 0 _ rfl
    simpa [cInt] using this
  have f1 : DataW.trod enc Tryz.prog w base spare held n 49 [v1, v2, v3] = some x1 := by
    have := hf 1 _ rfl
    simpa [cEx] using this
  obtain ⟨z, e0, hz⟩ := open_zi f0
  obtain ⟨⟨t, a, c⟩, e1, hX⟩ := open_ex _ _ _ f1
  simp only [List.cons.injEq, and_true] at e0 e1
  obtain ⟨rfl, rfl, rfl⟩ := e1
  subst e0
  exact ⟨⟨z, t, a, c⟩, rfl, hz, hX⟩
theorem open_br {fuel : Nat} {cs : List Value} {x : DataW H × List MemPlace} (h : DataW.trod enc Tryz.prog w base spare held fuel 80 cs = some x) : ∃ r : Bag.Row, cs = [.int .i64 r.1, .int .i64 r.2] ∧ (In64 r.1 ∧ In64 r.2) := by
  obtain ⟨xs, n, _, _, hl, hxs, hf⟩ := DataW.trod_array Tryz.underlying80 h
  rw [cRow] at hl
  rw [cInt] at hf
  obtain ⟨v0, v1, rfl⟩ := twoL cs hl
  obtain ⟨x0, x1, rfl⟩ := twoL xs hxs
  have f0 : DataW.trod enc Tryz.prog w base spare held n 3 [v0] = some x0 := by
    have := hf 0 (by omega)
    simpa using this
  have f1 : DataW.trod enc Tryz.prog w base spare held n 3 [v1] = some x1 := by
    have := hf 1 (by omega)
    simpa using this
  obtain ⟨a, e0, ha⟩ := open_zi f0
  obtain ⟨b, e1, hb⟩ := open_zi f1
  simp only [List.cons.injEq, and_true] at e0 e1
  subst e0 e1
  exact ⟨(a, b), rfl, ha, hb⟩
theorem bags_of {a : Option Addr} {l : List Bag.Row} (h : RowM 2 (fun r : Bag.Row => [.int .i64 r.1, .int .i64 r.2]) (fun _ r => In64 r.1 ∧ In64 r.2) Bag.zr w a l) : Bag.Bags w a l.length l := by
  refine ⟨⟨rfl, fun i hi => ?_⟩, ?_⟩
  · obtain ⟨b, off, _, _, hk⟩ := h.at hi
    exact hk
  · rcases h with h | ⟨b, off, ha, h⟩
    · exact .inl h
    · exact .inr ⟨b, off, ha, fun i hi => ⟨(h i hi).1 0 _ rfl, (h i hi).1 1 _ rfl⟩⟩
/-- of a part with how long its rows are -/
def PlIn (w : World) (p : Pl) : Prop := PlOk w p ∧ p.first.length ≤ reachBytes
def TaIn (w : World) (t : Ta) : Prop := TaOk w t ∧ t.vars.length ≤ reachBytes ∧ t.ins.length ≤ reachBytes ∧ t.outs.length ≤ reachBytes ∧ t.cancel.length ≤ reachBytes
theorem open_pl {fuel : Nat} {cs : List Value} {x : DataW H × List MemPlace} (h : DataW.trod enc Tryz.prog w base spare held fuel 45 cs = some x) (hw : Wt 45 x.1) : ∃ y : Pl, cs = y.cells ∧ PlIn w y := by
  obtain ⟨xs, n, _, hxe, hl, hxs, hf⟩ := DataW.trod_struct Tryz.underlying45 h
  rw [cPlace] at hl
  obtain ⟨v0, v1, v2, rfl⟩ := three cs hl
  obtain ⟨x0, x1, x2, rfl⟩ := three xs hxs
  have f0 : DataW.trod enc Tryz.prog w base spare held n 9 [v0] = some x0 := by
    have := hf 0 _ rfl
    simpa [cStr] using this
  have f1 : DataW.trod enc Tryz.prog w base spare held n 3 [v1] = some x1 := by
    have := hf 1 _ rfl
    simpa [cInt] using this
  have f2 : DataW.trod enc Tryz.prog w base spare held n 43 [v2] = some x2 := by
    have := hf 2 _ rfl
    simpa [cBag] using this
  subst hxe
  have w2 : Wt 43 x2.1 := wt_struct Tryz.underlying45 hw 2 rfl rfl
  obtain ⟨s, e0⟩ := open_s f0
  obtain ⟨z, e1, hz⟩ := open_zi f1
  obtain ⟨rs, a, c, e2, hr, _, hle⟩ := open_rowm (ok := fun _ r => In64 r.1 ∧ In64 r.2) Bag.zr Tryz.underlying43 cRow bRow (by decide) (fun _ _ _ g _ => open_br g) f2 w2
  simp only [List.cons.injEq, and_true] at e0 e1
  subst e0 e1 e2
  exact ⟨⟨s, z, rs, a, c⟩, rfl, ⟨hz, bags_of hr⟩, hle⟩
theorem open_many {fuel : Nat} {cs : List Value} {x : DataW H × List MemPlace} (h : DataW.trod enc Tryz.prog w base spare held fuel 51 cs = some x) : ∃ a b c : Int, cs = [.int .i64 a, .int .i64 b, .int .i64 c] ∧ In64 a ∧ In64 b ∧ In64 c := by
  obtain ⟨xs, n, _, _, hl, hxs, hf⟩ := DataW.trod_array Tryz.underlying51 h
  rw [cMany] at hl
  rw [cInt] at hf
  obtain ⟨v0, v1, v2, rfl⟩ := three cs hl
  obtain ⟨x0, x1, x2, rfl⟩ := three xs hxs
  have f0 : DataW.trod enc Tryz.prog w base spare held n 3 [v0] = some x0 := by
    have := hf 0 (by omega)
    simpa using this
  have f1 : DataW.trod enc Tryz.prog w base spare held n 3 [v1] = some x1 := by
    have := hf 1 (by omega)
    simpa using this
  have f2 : DataW.trod enc Tryz.prog w base spare held n 3 [v2] = some x2 := by
    have := hf 2 (by omega)
    simpa using this
  obtain ⟨a, e0, ha⟩ := open_zi f0
  obtain ⟨b, e1, hb⟩ := open_zi f1
  obtain ⟨c, e2, hc⟩ := open_zi f2
  simp only [List.cons.injEq, and_true] at e0 e1 e2
  subst e0 e1 e2
  exact ⟨a, b, c, rfl, ha, hb, hc⟩
set_option maxRecDepth 100000 in
theorem open_ta {fuel : Nat} {cs : List Value} {x : DataW H × List MemPlace} (h : DataW.trod enc Tryz.prog w base spare held fuel 53 cs = some x) (hw : Wt 53 x.1) : ∃ y : Ta, cs = y.cells ∧ TaIn w y := by
  obtain ⟨xs, n, _, hxe, hl, hxs, hf⟩ := DataW.trod_struct Tryz.underlying53 h
  rw [cTask] at hl
  obtain ⟨v0, v1, v2, v3, v4, v5, v6, v7, v8, v9, v10, v11, v12, v13, rfl⟩ := fourteenL cs hl
  obtain ⟨x0, x1, x2, x3, x4, x5, x6, x7, x8, x9, rfl⟩ := tenL xs hxs
  have f0 : DataW.trod enc Tryz.prog w base spare held n 9 [v0] = some x0 := by
    have := hf 0 _ rfl
    simpa [cStr] using this
  have f1 : DataW.trod enc Tryz.prog w base spare held n 46 [v1] = some x1 := by
    have := hf 1 _ rfl
    simpa [cVars] using this
  have f2 : DataW.trod enc Tryz.prog w base spare held n 49 [v2, v3, v4] = some x2 := by
    have := hf 2 _ rfl
    simpa [cEx] using this
  have f3 : DataW.trod enc Tryz.prog w base spare held n 3 [v5] = some x3 := by
    have := hf 3 _ rfl
    simpa [cInt] using this
  have f4 : DataW.trod enc Tryz.prog w base spare held n 3 [v6] = some x4 := by
    have := hf 4 _ rfl
    simpa [cInt] using this
  have f5 : DataW.trod enc Tryz.prog w base spare held n 50 [v7] = some x5 := by
    have := hf 5 _ rfl
    simpa [cArcs] using this
  have f6 : DataW.trod enc Tryz.prog w base spare held n 50 [v8] = some x6 := by
    have := hf 6 _ rfl
    simpa [cArcs] using this
  have f7 : DataW.trod enc Tryz.prog w base spare held n 36 [v9] = some x7 := by
    have := hf 7 _ rfl
    simpa [cInts] using this
  have f8 : DataW.trod enc Tryz.prog w base spare held n 3 [v10] = some x8 := by
    have := hf 8 _ rfl
    simpa [cInt] using this
  have f9 : DataW.trod enc Tryz.prog w base spare held n 51 [v11, v12, v13] = some x9 := by
    have := hf 9 _ rfl
    simpa [cMany] using this
  subst hxe
  have w1 : Wt 46 x1.1 := wt_struct Tryz.underlying53 hw 1 rfl rfl
  have w5 : Wt 50 x5.1 := wt_struct Tryz.underlying53 hw 5 rfl rfl
  have w6 : Wt 50 x6.1 := wt_struct Tryz.underlying53 hw 6 rfl rfl
  have w7 : Wt 36 x7.1 := wt_struct Tryz.underlying53 hw 7 rfl rfl
  obtain ⟨s, e0⟩ := open_s f0
  obtain ⟨vs, va, vc, e1, hvr, _, hvl⟩ := open_rowm (ok := VaOk) nilVa Tryz.underlying46 cVar bVar (by decide) (fun _ _ _ g _ => open_va g) f1 w1
  obtain ⟨⟨t, ga, gc⟩, e2, hX⟩ := open_ex _ _ _ f2
  obtain ⟨z3, e3, h3⟩ := open_zi f3
  obtain ⟨z4, e4, h4⟩ := open_zi f4
  obtain ⟨is, ia, ic, e5, hir, _, hil⟩ := open_rowm (ok := ArOk) nilAr Tryz.underlying50 cArc bArc (by decide) (fun _ _ _ g _ => open_ar g) f5 w5
  obtain ⟨os, oa, oc, e6, hor, _, hol⟩ := open_rowm (ok := ArOk) nilAr Tryz.underlying50 cArc bArc (by decide) (fun _ _ _ g _ => open_ar g) f6 w6
  obtain ⟨zs, ca, cc, e7, hcr, hcc, hcl⟩ := open_rowm (ok := Is) (cells := fun z => [.int .i64 z]) 0 Tryz.underlying36 cInt bInt (by decide) (fun _ _ _ g _ => open_zi g) f7 w7
  obtain ⟨z8, e8, h8⟩ := open_zi f8
  obtain ⟨m0, m1, m2, e9, g0, g1, g2⟩ := open_many f9
  simp only [List.cons.injEq, and_true] at e0 e2 e3 e4 e8 e9
  obtain ⟨rfl, rfl, rfl⟩ := e2
  obtain ⟨rfl, rfl, rfl⟩ := e9
  subst e0 e1 e3 e4 e5 e6 e7 e8
  exact ⟨⟨s, vs, va, vc, t, ga, gc, z3, z4, is, ia, ic, os, oa, oc, zs, ca, cc, z8, m0, m1, m2⟩, rfl, ⟨⟨⟨h3, h4, h8, g0, g1, g2⟩, hcc⟩, hX, hvr, hir, hor, hcr⟩, hvl, hil, hol, hcl⟩

theorem open_coln {fuel b o : Nat} {cs : List Value} {x : DataW H × List MemPlace} (h : DataW.trod enc Tryz.prog w base spare held fuel 62 cs = some x) (hw : Wt 62 x.1) (hc : ∀ j, j < 7 → w.cell? ⟨b, o + j, none⟩ = cs[j]?) :
    ∃ c : Col, ColAt w b o c ∧ c.names.length ≤ reachBytes := by
  obtain ⟨c, hcol⟩ := open_col h hc
  refine ⟨c, hcol, ?_⟩
  obtain ⟨xs, n, _, hxe, hl, hxs, hf⟩ := DataW.trod_struct Tryz.underlying62 h
  rw [cCol] at hl
  obtain ⟨v0, v1, v2, v3, v4, v5, v6, rfl⟩ := seven cs hl
  obtain ⟨x0, x1, x2, x3, x4, x5, x6, rfl⟩ := seven xs hxs
  have f4 : DataW.trod enc Tryz.prog w base spare held n 60 [v4] = some x4 := by
    have := hf 4 _ rfl
    simpa [cStrs] using this
  subst hxe
  have w4 : Wt 60 x4.1 := wt_struct Tryz.underlying62 hw 4 rfl rfl
  have e4 : v4 = .slice c.na c.names.length c.nc := by
    have h1 := hc 4 (by omega)
    rw [hcol.1.2.2.2.2.1] at h1
    simpa using h1.symm
  subst e4
  exact wt_slice Tryz.underlying60 bStr f4 w4
theorem open_colsn {fuel : Nat} {v : Value} {x : DataW H × List MemPlace} (h : DataW.trod enc Tryz.prog w base spare held fuel 22 [v] = some x) (hw : Wt 22 x.1) : ∃ (cs : List Col) (a : Option Addr) (c : Nat), v = .slice a cs.length c ∧ Cols w a cs.length cs ∧ cs.length ≤ c ∧ ∀ y, y ∈ cs → y.names.length ≤ reachBytes := by
  rcases open_slice Tryz.underlying22 h with ⟨hc, _⟩ | ⟨ad, len, cap, m, n, D, Pl, hc, _, hl, _, hm, hxe, hx⟩
  · simp at hc
    exact ⟨[], none, 0, hc, ⟨rfl, .inl rfl⟩, Nat.le_refl _, fun y hy => by cases hy⟩
  · simp at hc
    subst hc
    have hlm : len ≤ m := by rw [hm]; split <;> omega
    subst hxe
    rcases Nat.eq_zero_or_pos len with h0 | h0
    · subst h0; exact ⟨[], some ad, cap, rfl, ⟨rfl, .inl rfl⟩, Nat.zero_le _, fun y hy => by cases hy⟩
    rw [cCol] at hx
    obtain ⟨b, o, spot⟩ := ad
    have hs : spot = none := by
      obtain ⟨cs', h1, _⟩ := hx 0 (by omega)
      obtain ⟨_, hlen, hcell⟩ := World.cells?_some h1
      have := hcell 0 (by omega)
      rw [List.getElem?_eq_getElem (by omega)] at this
      simpa [Addr.add] using World.cell?_spot this
    subst hs
    haveI : Inhabited Col := ⟨nilCol⟩
    obtain ⟨f, hf⟩ := choose_lt (n := len) (p := fun i c => ColAt w b (o + i * 7) c ∧ c.names.length ≤ reachBytes) (fun i hi => by
      obtain ⟨cs', h1, h2⟩ := hx i (by omega)
      obtain ⟨_, hlen, hcell⟩ := World.cells?_some h1
      refine open_coln (b := b) (o := o + i * 7) h2 (fun n hn => hw n (by
        have hm' : D i ∈ (List.range len).map D := List.mem_map_of_mem (List.mem_range.2 hi)
        simp only [DataW.weights, Tryz.underlying22]
        exact List.mem_cons_of_mem _ (List.mem_append_left _ (mem_weightsAll hm' n hn)))) (fun j hj => ?_)
      have := hcell j hj
      rw [Go.WideShapes.add_plain, Go.WideShapes.add_plain] at this
      exact this)
    refine ⟨(List.range len).map f, some ⟨b, o, none⟩, cap, by simp, ⟨rfl, .inr ⟨b, o, rfl, fun i hi => ?_⟩⟩, by simpa using hl, fun y hy => ?_⟩
    · have hi' : i < len := by simpa using hi
      rw [List.getD_eq_getElem?_getD, List.getElem?_map, List.getElem?_range hi']
      exact (hf i hi').1
    · obtain ⟨i, hi, rfl⟩ := List.mem_map.1 hy
      exact (hf i (List.mem_range.1 hi)).2
/-- how long a net's rows may be -/
def NeLen (n : Ne) : Prop := (∀ c, c ∈ n.cols → c.names.length ≤ reachBytes) ∧ (∀ p, p ∈ n.places → p.first.length ≤ reachBytes) ∧ ∀ t, t ∈ n.tasks → t.vars.length ≤ reachBytes ∧ t.ins.length ≤ reachBytes ∧ t.outs.length ≤ reachBytes ∧ t.cancel.length ≤ reachBytes
set_option maxRecDepth 100000 in
theorem open_ne {fuel : Nat} {cs : List Value} {x : DataW H × List MemPlace} (h : DataW.trod enc Tryz.prog w base spare held fuel 26 cs = some x) (hw : Wt 26 x.1) : ∃ n : Ne, cs = n.cells ∧ NeOk w n ∧ NeLen n := by
  obtain ⟨xs, n, _, hxe, hl, hxs, hf⟩ := DataW.trod_struct Tryz.underlying26 h
  rw [cNet] at hl
  obtain ⟨v0, v1, v2, v3, v4, rfl⟩ := fiveL cs hl
  obtain ⟨x0, x1, x2, x3, x4, rfl⟩ := fiveL xs hxs
  have f0 : DataW.trod enc Tryz.prog w base spare held n 22 [v0] = some x0 := by
    have := hf 0 _ rfl
    simpa [cCols] using this
  have f1 : DataW.trod enc Tryz.prog w base spare held n 23 [v1] = some x1 := by
    have := hf 1 _ rfl
    simpa [cPlaces] using this
  have f2 : DataW.trod enc Tryz.prog w base spare held n 24 [v2] = some x2 := by
    have := hf 2 _ rfl
    simpa [cTasks] using this
  have f3 : DataW.trod enc Tryz.prog w base spare held n 3 [v3] = some x3 := by
    have := hf 3 _ rfl
    simpa [cInt] using this
  have f4 : DataW.trod enc Tryz.prog w base spare held n 3 [v4] = some x4 := by
    have := hf 4 _ rfl
    simpa [cInt] using this
  subst hxe
  have w0 : Wt 22 x0.1 := wt_struct Tryz.underlying26 hw 0 rfl rfl
  have w1 : Wt 23 x1.1 := wt_struct Tryz.underlying26 hw 1 rfl rfl
  have w2 : Wt 24 x2.1 := wt_struct Tryz.underlying26 hw 2 rfl rfl
  obtain ⟨cs, ca, cc, e0, hC, hcc, hcn⟩ := open_colsn f0 w0
  obtain ⟨ps, pa, pc, e1, hP, _, _⟩ := open_rowm (ok := PlIn) nilPl Tryz.underlying23 cPlace bPlace (by decide) (fun _ _ _ g gw => open_pl g gw) f1 w1
  obtain ⟨ts, ta, tc, e2, hT, htc, _⟩ := open_rowm (ok := TaIn) nilTa Tryz.underlying24 cTask bTask (by decide) (fun _ _ _ g gw => open_ta g gw) f2 w2
  obtain ⟨z3, e3, h3⟩ := open_zi f3
  obtain ⟨z4, e4, h4⟩ := open_zi f4
  simp only [List.cons.injEq, and_true] at e3 e4
  subst e0 e1 e2 e3 e4
  exact ⟨⟨cs, ca, cc, ps, pa, pc, ts, ta, tc, z3, z4⟩, rfl, ⟨⟨⟨h3, h4⟩, hcc, htc⟩, hC, hP.imp fun _ g => g.1, hT.imp fun _ g => g.1⟩, hcn, fun p hp => (hP.all p hp).2, fun t ht => (hT.all t ht).2⟩
set_option maxRecDepth 100000 in
theorem open_netv {r : Reach} {b0 : Nat} {v : Value} {d : DataW H} {ps : List MemPlace} (hval : Value.okWide Tryz.prog w r b0 26 v) (hd : DataW.Trod enc Tryz.prog w base spare held 26 v d ps) (hw : Wt 26 d) :
    ∃ n : Ne, v = .agg #[.slice n.ca n.cols.length n.cc, .slice n.pa n.places.length n.pc, .slice n.ta n.tasks.length n.tc, .int .i64 n.frm, .int .i64 n.too] ∧ NeOk w n ∧ NeLen n := by
  obtain ⟨cs, rfl, hcs⟩ := okWide_struct Tryz.underlying26 hval
  obtain ⟨fuel, hf⟩ := hd
  obtain ⟨n, h1, h2⟩ := open_ne hf hw
  refine ⟨n, ?_, h2⟩
  have : cs.toList = n.cells := by simpa [Value.cells] using h1
  rw [← Array.toArray_toList (xs := cs), this]
  rfl
end
end Go.Proofs.YtgdkomkflfodaaaGreat.Check
