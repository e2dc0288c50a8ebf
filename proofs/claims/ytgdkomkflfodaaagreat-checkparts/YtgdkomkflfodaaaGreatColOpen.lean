/- Colours that come in, as they lie in memory. -/
import Derived.Test.YtgdkomkflfodaaaGreatColSizesP
import Derived.ProofKit
import Derived.OpenShut
import Derived.Deep.Strs
namespace Go.Proofs.YtgdkomkflfodaaaGreat.Colour
open Go.ChangeShapes Go.WideShapes Go.ChangeAt Go.RowKit Go.Deep
set_option linter.unusedVariables false

theorem cellsStr : Tryz.prog.cellsOf 9 = 1 := by kernel_rfl
theorem cellsInt : Tryz.prog.cellsOf 3 = 1 := by kernel_rfl
theorem cellsStrs : Tryz.prog.cellsOf 60 = 1 := by kernel_rfl
theorem cellsCol : Tryz.prog.cellsOf 62 = 7 := by kernel_rfl

theorem seven {α : Type} : ∀ l : List α, l.length = 7 → ∃ a b c d e f g, l = [a, b, c, d, e, f, g]
  | [a, b, c, d, e, f, g], _ => ⟨a, b, c, d, e, f, g, rfl⟩

section
variable {H : Type} {enc : TypeId × Value → H} {w : World} {base : Nat} {spare : Nat → Bool} {held : Bool}

theorem open_names {fuel : Nat} {v : Value} {x : DataW H × List MemPlace} (h : DataW.trod enc Tryz.prog w base spare held fuel 60 [v] = some x) :
    ∃ (a : Option Addr) (zs : List ByteArray) (c : Nat), v = .slice a zs.length c ∧ Strs w a zs.length zs := by
  rcases open_strs Tryz.underlying60 Tryz.underlying9 cellsStr h with ⟨hc, _⟩ | ⟨a, len, cap, m, Sx, hc, _, hl, _, hm, _, hx⟩
  · simp at hc
    exact ⟨none, [], 0, hc, rfl, .inl rfl⟩
  · simp at hc
    have hlm : len ≤ m := by rw [hm]; split <;> omega
    refine ⟨some a, (List.range len).map Sx, cap, by simpa using hc, rfl, ?_⟩
    rcases Nat.eq_zero_or_pos len with h0 | h0
    · left; simp [h0]
    · right
      obtain ⟨b, o, spot⟩ := a
      have hs : spot = none := by simpa [Addr.add] using World.cell?_spot (hx 0 (by omega)).1
      subst hs
      refine ⟨b, o, rfl, fun j hj => ?_⟩
      have hj' : j < len := by simpa using hj
      have := (hx j (by omega)).1
      rw [Go.WideShapes.add_plain] at this
      rw [this, List.getD_eq_getElem?_getD, List.getElem?_map, List.getElem?_range hj']; rfl

set_option maxRecDepth 100000 in
theorem open_col {fuel b o : Nat} {cs : List Value} {x : DataW H × List MemPlace} (h : DataW.trod enc Tryz.prog w base spare held fuel 62 cs = some x) (hc : ∀ j, j < 7 → w.cell? ⟨b, o + j, none⟩ = cs[j]?) :
    ∃ c : Col, ColAt w b o c := by
  obtain ⟨xs, n, _, _, hl, hxs, hf⟩ := DataW.trod_struct Tryz.underlying62 h
  rw [cellsCol] at hl
  obtain ⟨v0, v1, v2, v3, v4, v5, v6, rfl⟩ := seven cs hl
  obtain ⟨x0, x1, x2, x3, x4, x5, x6, rfl⟩ := seven xs hxs
  have f0 : DataW.trod enc Tryz.prog w base spare held n 9 [v0] = some x0 := by
    have := hf 0 _ rfl
    simpa [cellsStr] using this
  have f1 : DataW.trod enc Tryz.prog w base spare held n 3 [v1] = some x1 := by
    have := hf 1 _ rfl
    simpa [cellsInt] using this
  have f2 : DataW.trod enc Tryz.prog w base spare held n 3 [v2] = some x2 := by
    have := hf 2 _ rfl
    simpa [cellsInt] using this
  have f3 : DataW.trod enc Tryz.prog w base spare held n 3 [v3] = some x3 := by
    have := hf 3 _ rfl
    simpa [cellsInt] using this
  have f4 : DataW.trod enc Tryz.prog w base spare held n 60 [v4] = some x4 := by
    have := hf 4 _ rfl
    simpa [cellsStrs] using this
  have f5 : DataW.trod enc Tryz.prog w base spare held n 3 [v5] = some x5 := by
    have := hf 5 _ rfl
    simpa [cellsInt] using this
  have f6 : DataW.trod enc Tryz.prog w base spare held n 3 [v6] = some x6 := by
    have := hf 6 _ rfl
    simpa [cellsInt] using this
  obtain ⟨s0, e0, _, _⟩ := DataW.trod_string Tryz.underlying9 f0
  obtain ⟨k1, e1, _, _⟩ := DataW.trod_int Tryz.underlying3 f1
  obtain ⟨k2, e2, _, g2⟩ := DataW.trod_int Tryz.underlying3 f2
  obtain ⟨k3, e3, _, g3⟩ := DataW.trod_int Tryz.underlying3 f3
  obtain ⟨na, zs, nc, e4, hs⟩ := open_names f4
  obtain ⟨k5, e5, _, _⟩ := DataW.trod_int Tryz.underlying3 f5
  obtain ⟨k6, e6, _, _⟩ := DataW.trod_int Tryz.underlying3 f6
  simp only [List.cons.injEq, and_true] at e0 e1 e2 e3 e5 e6
  subst e0 e1 e2 e3 e4 e5 e6
  refine ⟨⟨s0, k1, k2, k3, zs, na, nc, k5, k6⟩, ⟨?_, ?_, ?_, ?_, ?_, ?_, ?_⟩, hs, ⟨bounds_i64 g2, bounds_i64 g3⟩⟩
  · exact hc 0 (by omega)
  · exact hc 1 (by omega)
  · exact hc 2 (by omega)
  · exact hc 3 (by omega)
  · exact hc 4 (by omega)
  · exact hc 5 (by omega)
  · exact hc 6 (by omega)

theorem open_cols {fuel : Nat} {a : Option Addr} {len cap : Nat} {x : DataW H × List MemPlace} (h : DataW.trod enc Tryz.prog w base spare held fuel 22 [.slice a len cap] = some x) : ∃ cs, Cols w a len cs := by
  rcases open_slice Tryz.underlying22 h with ⟨hc, _⟩ | ⟨ad, len', cap', m, n, D, Pl, hc, _, hl, _, hm, _, hx⟩
  · simp at hc
    obtain ⟨_, rfl, _⟩ := hc
    exact ⟨[], rfl, .inl rfl⟩
  · simp at hc
    obtain ⟨rfl, rfl, rfl⟩ := hc
    have hlm : len ≤ m := by rw [hm]; split <;> omega
    rcases Nat.eq_zero_or_pos len with h0 | h0
    · subst h0; exact ⟨[], rfl, .inl rfl⟩
    rw [cellsCol] at hx
    obtain ⟨b, o, spot⟩ := ad
    have hs : spot = none := by
      obtain ⟨cs', h1, _⟩ := hx 0 (by omega)
      obtain ⟨_, hlen, hcell⟩ := World.cells?_some h1
      have := hcell 0 (by omega)
      rw [List.getElem?_eq_getElem (by omega)] at this
      simpa [Addr.add] using World.cell?_spot this
    subst hs
    haveI : Inhabited Col := ⟨nilCol⟩
    obtain ⟨f, hf⟩ := choose_lt (n := len) (p := fun i c => ColAt w b (o + i * 7) c) (fun i hi => by
      obtain ⟨cs', h1, h2⟩ := hx i (by omega)
      obtain ⟨_, hlen, hcell⟩ := World.cells?_some h1
      refine open_col (b := b) (o := o + i * 7) h2 (fun j hj => ?_)
      have := hcell j hj
      rw [Go.WideShapes.add_plain, Go.WideShapes.add_plain] at this
      exact this)
    refine ⟨(List.range len).map f, by simp, .inr ⟨b, o, rfl, fun i hi => ?_⟩⟩
    rw [List.getD_eq_getElem?_getD, List.getElem?_map, List.getElem?_range hi]
    exact hf i hi
end
end Go.Proofs.YtgdkomkflfodaaaGreat.Colour
