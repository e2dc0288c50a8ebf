/- Bags and numbers that come in, as they lie in memory. -/
import Derived.Test.YtnjpblmplneojaaGreatDoorMaN
import Derived.ProofKit
import Derived.OpenShut
import Derived.Deep.Strs
namespace Go.Proofs.YtnjpblmplneojaaGreatDoor.Bag
open Go.ChangeShapes Go.WideShapes Go.ChangeAt Go.RowKit Go.Deep
set_option linter.unusedVariables false

theorem cellsInt : Tryz.prog.cellsOf 3 = 1 := by kernel_rfl
theorem cellsRow : Tryz.prog.cellsOf 56 = 2 := by kernel_rfl

theorem two {α : Type} : ∀ l : List α, l.length = 2 → ∃ a b, l = [a, b]
  | [a, b], _ => ⟨a, b, rfl⟩

section
variable {H : Type} {enc : TypeId × Value → H} {w : World} {base : Nat} {spare : Nat → Bool} {held : Bool}

theorem open_row {fuel b o : Nat} {cs : List Value} {x : DataW H × List MemPlace} (h : DataW.trod enc Tryz.prog w base spare held fuel 56 cs = some x) (hc : ∀ j, j < 2 → w.cell? ⟨b, o + j, none⟩ = cs[j]?) :
    ∃ r : Row, (w.cell? ⟨b, o, none⟩ = some (.int .i64 r.1) ∧ w.cell? ⟨b, o + 1, none⟩ = some (.int .i64 r.2)) ∧ In64 r.1 ∧ In64 r.2 := by
  obtain ⟨xs, n, _, _, hl, hxs, hf⟩ := DataW.trod_array Tryz.underlying56 h
  rw [cellsRow] at hl
  rw [cellsInt] at hf
  obtain ⟨v0, v1, rfl⟩ := two cs hl
  obtain ⟨x0, x1, rfl⟩ := two xs hxs
  have f0 : DataW.trod enc Tryz.prog w base spare held n 3 [v0] = some x0 := by
    have := hf 0 (by omega)
    simpa using this
  have f1 : DataW.trod enc Tryz.prog w base spare held n 3 [v1] = some x1 := by
    have := hf 1 (by omega)
    simpa using this
  obtain ⟨k0, e0, _, g0⟩ := DataW.trod_int Tryz.underlying3 f0
  obtain ⟨k1, e1, _, g1⟩ := DataW.trod_int Tryz.underlying3 f1
  simp only [List.cons.injEq, and_true] at e0 e1
  subst e0 e1
  exact ⟨(k0, k1), ⟨hc 0 (by omega), hc 1 (by omega)⟩, bounds_i64 g0, bounds_i64 g1⟩

theorem open_bags {fuel : Nat} {a : Option Addr} {len cap : Nat} {x : DataW H × List MemPlace} (h : DataW.trod enc Tryz.prog w base spare held fuel 36 [.slice a len cap] = some x) : ∃ rs, Bags w a len rs := by
  rcases open_slice Tryz.underlying36 h with ⟨hc, _⟩ | ⟨ad, len', cap', m, n, D, Pl, hc, _, hl, _, hm, _, hx⟩
  · simp at hc
    obtain ⟨_, rfl, _⟩ := hc
    exact ⟨[], ⟨rfl, fun i hi => by cases hi⟩, .inl rfl⟩
  · simp at hc
    obtain ⟨rfl, rfl, rfl⟩ := hc
    have hlm : len ≤ m := by rw [hm]; split <;> omega
    rcases Nat.eq_zero_or_pos len with h0 | h0
    · subst h0; exact ⟨[], ⟨rfl, fun i hi => by cases hi⟩, .inl rfl⟩
    rw [cellsRow] at hx
    obtain ⟨b, o, spot⟩ := ad
    have hs : spot = none := by
      obtain ⟨cs', h1, _⟩ := hx 0 (by omega)
      obtain ⟨_, hlen, hcell⟩ := World.cells?_some h1
      have := hcell 0 (by omega)
      rw [List.getElem?_eq_getElem (by omega)] at this
      simpa [Addr.add] using World.cell?_spot this
    subst hs
    haveI : Inhabited Row := ⟨zr⟩
    obtain ⟨f, hf⟩ := choose_lt (n := len) (p := fun i r => (w.cell? ⟨b, o + i * 2, none⟩ = some (.int .i64 (r : Row).1) ∧ w.cell? ⟨b, o + i * 2 + 1, none⟩ = some (.int .i64 r.2)) ∧ In64 r.1 ∧ In64 r.2) (fun i hi => by
      obtain ⟨cs', h1, h2⟩ := hx i (by omega)
      obtain ⟨_, hlen, hcell⟩ := World.cells?_some h1
      refine open_row (b := b) (o := o + i * 2) h2 (fun j hj => ?_)
      have := hcell j hj
      rw [Go.WideShapes.add_plain, Go.WideShapes.add_plain] at this
      exact this)
    have hget : ∀ i, i < len → ((List.range len).map f).getD i zr = f i := fun i hi => by
      rw [List.getD_eq_getElem?_getD, List.getElem?_map, List.getElem?_range hi]; rfl
    refine ⟨(List.range len).map f, ⟨by simp, fun i hi => ?_⟩, .inr ⟨b, o, rfl, fun i hi => ?_⟩⟩
    · rw [hget i (by simpa using hi)]; exact (hf i (by simpa using hi)).2
    · rw [hget i (by simpa using hi)]; exact (hf i (by simpa using hi)).1

theorem open_nums {fuel : Nat} {a : Option Addr} {len cap : Nat} {x : DataW H × List MemPlace} (h : DataW.trod enc Tryz.prog w base spare held fuel 75 [.slice a len cap] = some x) : ∃ zs, Nums w a len zs := by
  rcases open_ints Tryz.underlying75 Tryz.underlying3 (by kernel_rfl) h with ⟨hcs, _⟩ | ⟨x, l, c, zs, hcs, _, hl, hm, hz, _, hcell, hwz⟩
  · simp at hcs
    obtain ⟨_, rfl, _⟩ := hcs
    exact ⟨[], ⟨rfl, fun i hi => by cases hi⟩, .inl rfl⟩
  · simp at hcs
    obtain ⟨rfl, rfl, rfl⟩ := hcs
    have hz : len ≤ zs.length := by rw [hz]; split <;> omega
    rcases Nat.eq_zero_or_pos len with h0 | h0
    · subst h0; exact ⟨[], ⟨rfl, fun i hi => by cases hi⟩, .inl rfl⟩
    obtain ⟨b, o, spot⟩ := x
    have hs : spot = none := by simpa [Addr.add] using World.cell?_spot (hcell 0 (by omega))
    subst hs
    have hget : ∀ i, i < len → (zs.take len).getD i 0 = zs.getD i 0 := fun i hi => by
      rw [List.getD_eq_getElem?_getD, List.getElem?_take_of_lt hi, ← List.getD_eq_getElem?_getD]
    refine ⟨zs.take len, ⟨by rw [List.length_take]; omega, fun i hi => ?_⟩, .inr ⟨b, o, rfl, fun i hi => ?_⟩⟩
    · rw [List.length_take] at hi
      rw [hget i (by omega), getD_get 0 (by omega)]
      exact bounds_i64 (hwz _ (List.getElem_mem _))
    · rw [hget i hi]
      have := hcell i (by omega)
      rw [Go.WideShapes.add_plain] at this
      exact this
end
end Go.Proofs.YtnjpblmplneojaaGreatDoor.Bag
