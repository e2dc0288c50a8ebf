/- Expressions, numbers and names that come in, as they lie in memory. -/
import Derived.Test.YtgdkomkflfodaaaGreatExMem
import Derived.ProofKit
import Derived.OpenShut
import Derived.Deep.Strs
import Derived.Deep.Slices
import Derived.Lib.LaidTab
import Derived.LaidSub
namespace Go.Proofs.YtgdkomkflfodaaaGreat.Expr
open Go.ChangeShapes Go.WideShapes Go.ChangeAt Go.RowKit Go.Deep
set_option linter.unusedVariables false

theorem cellsIntE : Tryz.prog.cellsOf 3 = 1 := by kernel_rfl
theorem cellsStrE : Tryz.prog.cellsOf 9 = 1 := by kernel_rfl
theorem cellsExs : Tryz.prog.cellsOf 47 = 1 := by kernel_rfl
theorem cellsEx : Tryz.prog.cellsOf 49 = 3 := by kernel_rfl
theorem three {α : Type} : ∀ l : List α, l.length = 3 → ∃ a b c, l = [a, b, c]
  | [a, b, c], _ => ⟨a, b, c, rfl⟩
/-- cells that are an expression's -/
def IsEx (w : World) (cs : List Value) (y : Ex × Option Addr × Nat) : Prop := cs = [.int .i64 y.1.kind, .int .i64 y.1.num, .slice y.2.1 y.1.kids.length y.2.2] ∧ X w y.1 y.2.1

section
variable {H : Type} {enc : TypeId × Value → H} {w : World} {base : Nat} {spare : Nat → Bool} {held : Bool}

set_option maxRecDepth 100000 in
theorem open_ex : ∀ (fuel : Nat) (cs : List Value) (x : DataW H × List MemPlace), DataW.trod enc Tryz.prog w base spare held fuel 49 cs = some x → ∃ y, IsEx w cs y := by
  intro fuel
  induction fuel using Nat.strongRecOn with
  | _ fuel ih =>
  intro cs x h
  obtain ⟨xs, n, hfu, _, hl, hxs, hf⟩ := DataW.trod_struct Tryz.underlying49 h
  rw [cellsEx] at hl
  obtain ⟨v0, v1, v2, rfl⟩ := three cs hl
  obtain ⟨x0, x1, x2, rfl⟩ := three xs hxs
  have f0 : DataW.trod enc Tryz.prog w base spare held n 3 [v0] = some x0 := by
    have := hf 0 _ rfl
    simpa [cellsIntE] using this
  have f1 : DataW.trod enc Tryz.prog w base spare held n 3 [v1] = some x1 := by
    have := hf 1 _ rfl
    simpa [cellsIntE] using this
  have f2 : DataW.trod enc Tryz.prog w base spare held n 47 [v2] = some x2 := by
    have := hf 2 _ rfl
    simpa [cellsExs] using this
  obtain ⟨k0, e0, _, g0⟩ := DataW.trod_int Tryz.underlying3 f0
  obtain ⟨k1, e1, _, g1⟩ := DataW.trod_int Tryz.underlying3 f1
  simp only [List.cons.injEq, and_true] at e0 e1
  subst e0 e1
  rcases DataW.trod_slice Tryz.underlying47 f2 with ⟨hc, _⟩ | ⟨ad, len, cap, elems, rest, m, hm, hc, _, _, _, _, hel, hx, _⟩
  · simp at hc
    subst hc
    exact ⟨(⟨k0, k1, []⟩, none, 0), rfl, (xg_eq _ _ _ _ _ _).2 ⟨⟨bounds_i64 g0, bounds_i64 g1⟩, .inl rfl⟩⟩
  · simp at hc
    subst hc
    rw [cellsEx] at hx
    have hkid : ∀ i, i < len → ∃ cs', w.cells? base (ad.add (i * 3)) 3 = some cs' ∧ ∃ y, IsEx w cs' y := fun i hi => by
      have h1 := hx i hi
      have h2 : i < elems.length := by omega
      rw [List.getElem?_eq_getElem h2, Option.bind_eq_some_iff] at h1
      obtain ⟨cs', h3, h4⟩ := h1
      exact ⟨cs', h3, ih m (by omega) cs' _ h4⟩
    rcases Nat.eq_zero_or_pos len with h0 | h0
    · subst h0
      exact ⟨(⟨k0, k1, []⟩, some ad, cap), rfl, (xg_eq _ _ _ _ _ _).2 ⟨⟨bounds_i64 g0, bounds_i64 g1⟩, .inl rfl⟩⟩
    obtain ⟨b, o, spot⟩ := ad
    have hs : spot = none := by
      obtain ⟨cs', h1, _⟩ := hkid 0 (by omega)
      obtain ⟨_, hlen, hcell⟩ := World.cells?_some h1
      have := hcell 0 (by omega)
      rw [List.getElem?_eq_getElem (by omega)] at this
      simpa [Addr.add] using World.cell?_spot this
    subst hs
    haveI : Inhabited (Ex × Option Addr × Nat) := ⟨(nilEx, none, 0)⟩
    obtain ⟨f, hf'⟩ := choose_lt (n := len) (p := fun i (y : Ex × Option Addr × Nat) => (w.cell? ⟨b, o + i * 3, none⟩ = some (.int .i64 y.1.kind) ∧ w.cell? ⟨b, o + i * 3 + 1, none⟩ = some (.int .i64 y.1.num) ∧ w.cell? ⟨b, o + i * 3 + 2, none⟩ = some (.slice y.2.1 y.1.kids.length y.2.2)) ∧ X w y.1 y.2.1) (fun i hi => by
      obtain ⟨cs', h1, y, hy, hyx⟩ := hkid i hi
      obtain ⟨_, hlen, hcell⟩ := World.cells?_some h1
      subst hy
      have c0 := hcell 0 (by omega)
      have c1 := hcell 1 (by omega)
      have c2 := hcell 2 (by omega)
      rw [Go.WideShapes.add_plain, Go.WideShapes.add_plain] at c0 c1 c2
      exact ⟨y, ⟨c0, c1, c2⟩, hyx⟩)
    refine ⟨(⟨k0, k1, (List.range len).map fun i => (f i).1⟩, some ⟨b, o, none⟩, cap), by simp, (xg_eq _ _ _ _ _ _).2 ⟨⟨bounds_i64 g0, bounds_i64 g1⟩, .inr ⟨b, o, rfl, trivial, fun i hi => ?_⟩⟩⟩
    have hi' : i < len := by simpa using hi
    have e : ((List.range len).map fun i => (f i).1).getD i nilEx = (f i).1 := by
      rw [List.getD_eq_getElem?_getD, List.getElem?_map, List.getElem?_range hi']; rfl
    rw [e]
    obtain ⟨⟨c0, c1, c2⟩, hX⟩ := hf' i hi'
    exact ⟨_, _, c0, c1, c2, hX⟩

set_option maxRecDepth 100000 in
theorem open_exv {r : Reach} {b0 : Nat} {v : Value} {d : DataW H} {ps : List MemPlace} (hval : Value.okWide Tryz.prog w r b0 49 v) (hd : DataW.Trod enc Tryz.prog w base spare held 49 v d ps) :
    ∃ (t : Ex) (a : Option Addr) (c : Nat), v = .agg #[.int .i64 t.kind, .int .i64 t.num, .slice a t.kids.length c] ∧ X w t a := by
  obtain ⟨cs, rfl, hcs⟩ := okWide_struct Tryz.underlying49 hval
  obtain ⟨fuel, hf⟩ := hd
  obtain ⟨⟨t, a, c⟩, h1, h2⟩ := open_ex fuel _ _ hf
  refine ⟨t, a, c, ?_, h2⟩
  have : cs.toList = [.int .i64 t.kind, .int .i64 t.num, .slice a t.kids.length c] := by simpa [Value.cells] using h1
  rw [← Array.toArray_toList (xs := cs), this]

set_option maxRecDepth 100000 in
theorem open_nm {fuel : Nat} {a : Option Addr} {len cap : Nat} {x : DataW H × List MemPlace} (h : DataW.trod enc Tryz.prog w base spare held fuel 36 [.slice a len cap] = some x) : ∃ zs, Nm w a len zs := by
  rcases open_ints Tryz.underlying36 Tryz.underlying3 (by kernel_rfl) h with ⟨hcs, _⟩ | ⟨x, l, c, zs, hcs, _, hl, hm, hz, _, hcell, hwz⟩
  · simp at hcs
    obtain ⟨_, rfl, _⟩ := hcs
    exact ⟨[], ⟨rfl, fun i hi => by cases hi⟩, .inl rfl⟩
  · simp at hcs
    obtain ⟨rfl, rfl, rfl⟩ := hcs
    have hz : len ≤ zs.length := by rw [hz]; split <;> omega
    rcases Nat.eq_zero_or_pos len with h0 | h0
    · subst h0; exact ⟨[], ⟨rfl, fun i hi => by cases hi⟩, .inl rfl⟩
    obtain ⟨b, o, spot⟩ := x
    have hs : spot = none := by simpa [Addr.add] using World.cell?_spot (hcell 0 (by omega))
    subst hs
    have hget : ∀ i, i < len → (zs.take len).getD i 0 = zs.getD i 0 := fun i hi => by
      rw [List.getD_eq_getElem?_getD, List.getElem?_take_of_lt hi, ← List.getD_eq_getElem?_getD]
    refine ⟨zs.take len, ⟨by rw [List.length_take]; omega, fun i hi => ?_⟩, .inr ⟨b, o, rfl, fun i hi => ?_⟩⟩
    · have hi' : i < zs.length := by omega
      rw [hget i hi, List.getD_eq_getElem?_getD, List.getElem?_eq_getElem hi']
      exact bounds_i64 (hwz _ (List.getElem_mem _))
    · rw [hget i hi]
      have := hcell i (by omega)
      rw [Go.WideShapes.add_plain] at this
      exact this

/-- names in memory -/
def Nms (w : World) (a : Option Addr) (len : Nat) (zs : List ByteArray) : Prop := zs.length = len ∧ (zs.length = 0 ∨ ∃ b off, a = some ⟨b, off, none⟩ ∧ b < w.heap.size ∧ ∀ i, i < zs.length → w.cell? ⟨b, off + i, none⟩ = some (.string (zs.getD i ByteArray.empty)))
set_option maxRecDepth 100000 in
theorem open_nms {fuel : Nat} {a : Option Addr} {len cap : Nat} {x : DataW H × List MemPlace} (h : DataW.trod enc Tryz.prog w base spare held fuel 60 [.slice a len cap] = some x) : ∃ zs, Nms w a len zs := by
  rcases open_strs Tryz.underlying60 Tryz.underlying9 cellsStrE h with ⟨hc, _⟩ | ⟨a, len, cap, m, Sx, hc, _, hl, _, hm, _, hx⟩
  · simp at hc
    obtain ⟨_, rfl, _⟩ := hc
    exact ⟨[], rfl, .inl rfl⟩
  · simp at hc
    obtain ⟨rfl, rfl, rfl⟩ := hc
    have hlm : len ≤ m := by rw [hm]; split <;> omega
    refine ⟨(List.range len).map Sx, by simp, ?_⟩
    rcases Nat.eq_zero_or_pos len with h0 | h0
    · left; simp [h0]
    · right
      obtain ⟨b, o, spot⟩ := a
      have hs : spot = none := by simpa [Addr.add] using World.cell?_spot (hx 0 (by omega)).1
      subst hs
      have hc0 := (hx 0 (by omega)).1
      rw [Go.WideShapes.add_plain] at hc0
      refine ⟨b, o, rfl, World.block_lt_of_cell? w _ hc0, fun j hj => ?_⟩
      have hj' : j < len := by simpa using hj
      have := (hx j (by omega)).1
      rw [Go.WideShapes.add_plain] at this
      rw [this, List.getD_eq_getElem?_getD, List.getElem?_map, List.getElem?_range hj']; rfl
end
end Go.Proofs.YtgdkomkflfodaaaGreat.Expr
