/- Tokens and names that come in, as they lie in memory. -/
import Derived.Test.YtjcanodnlnodpaaGreatDoorMNK
import Derived.Test.YtjcanodnlnodpaaGreatDoorMExMem
import Derived.ProofKit
import Derived.OpenShut
import Derived.Deep.Strs
import Derived.Deep.Slices
import Derived.LaidSub
import Derived.SizedLaws
namespace Go.Proofs.YtjcanodnlnodpaaGreatDoor.Parse
open Go.ChangeShapes Go.WideShapes Go.ChangeAt Go.RowKit Go.Deep Go.Proofs.YtjcanodnlnodpaaGreatDoor.Frame Go.Proofs.YtjcanodnlnodpaaGreatDoor.Token
set_option linter.unusedVariables false
set_option linter.unusedSimpArgs false

theorem threeQ {α : Type} : ∀ l : List α, l.length = 3 → ∃ a b c, l = [a, b, c]
  | [a, b, c], _ => ⟨a, b, c, rfl⟩
theorem cIntQ : Tryz.prog.cellsOf 3 = 1 := by kernel_rfl
theorem cStrQ : Tryz.prog.cellsOf 9 = 1 := by kernel_rfl
theorem cKindQ : Tryz.prog.cellsOf 49 = 3 := by kernel_rfl
theorem bTokQ : 0 < Tryz.prog.bytesOf 49 := of_decide_eq_true (by kernel_rfl)
theorem bStrQ : 0 < Tryz.prog.bytesOf 9 := of_decide_eq_true (by kernel_rfl)

section
variable {H : Type} {enc : TypeId × Value → H} {w : World} {base : Nat} {spare : Nat → Bool} {held : Bool}

def WtQ (T : TypeId) (d : DataW H) : Prop := ∀ n, n ∈ d.weights Tryz.prog T → n ≤ reachBytes
theorem mem_weightsQ {E : TypeId} : ∀ {l : List (DataW H)} {d : DataW H}, d ∈ l → ∀ n, n ∈ d.weights Tryz.prog E → n ∈ DataW.weightsAll Tryz.prog E l
  | d0 :: l, d, hd, n, hn => by
    simp only [DataW.weightsAll, List.mem_append]
    rcases List.mem_cons.1 hd with rfl | hd
    · exact .inl hn
    · exact .inr (mem_weightsQ hd n hn)
theorem wtQ_struct {T : TypeId} {fs : Array Field} {xs : List (DataW H × List MemPlace)} (hu : Tryz.prog.underlying T = some (.struct fs)) (hw : WtQ T (.agg (xs.map (·.1)))) (i : Nat) {f : Field} {xi : DataW H × List MemPlace} (hf : fs[i]? = some f) (hx : xs[i]? = some xi) : WtQ f.type xi.1 := fun n hn => hw n (by
  simp only [DataW.weights, hu]
  exact DataW.weights_mem_each (j := i) (t := f.type) (d := xi.1) (by simp [hf]) (by simp [hx]) n hn)
theorem open_rowQ {α : Type} {k : Nat} {T E : TypeId} {cells : α → List Value} {ok : α → Prop} (nil : α) (hu : Tryz.prog.underlying T = some (.slice E)) (hk : Tryz.prog.cellsOf E = k) (hk0 : 0 < k)
    (one : ∀ fuel cs x, DataW.trod enc Tryz.prog w base spare held fuel E cs = some x → WtQ E x.1 → ∃ y, cs = cells y ∧ ok y)
    {fuel : Nat} {a : Option Addr} {len cap : Nat} {x : DataW H × List MemPlace} (h : DataW.trod enc Tryz.prog w base spare held fuel T [.slice a len cap] = some x) (hw : WtQ T x.1) :
    ∃ (l : List α), l.length = len ∧ len ≤ cap ∧ cap ≤ maxLen ∧ (∀ y, y ∈ l → ok y) ∧ (len = 0 ∨ ∃ b off, a = some ⟨b, off, none⟩ ∧ ∀ i, i < len → ∀ (j : Nat) (v : Value), (cells (l.getD i nil))[j]? = some v → w.cell? ⟨b, off + i * k + j, none⟩ = some v) := by
  rcases open_slice hu h with ⟨hc, _⟩ | ⟨ad, len', cap', m, n, D, Pl, hc, _, hl, hcm, hm, hxe, hx⟩
  · simp at hc
    obtain ⟨rfl, rfl, rfl⟩ := hc
    exact ⟨[], rfl, Nat.le_refl _, Nat.zero_le _, (fun y hy => by cases hy), .inl rfl⟩
  · simp at hc
    obtain ⟨rfl, rfl, rfl⟩ := hc
    have hlm : len ≤ m := by rw [hm]; split <;> omega
    subst hxe
    rw [hk] at hx
    rcases Nat.eq_zero_or_pos len with h0 | h0
    · subst h0; exact ⟨[], rfl, Nat.zero_le _, hcm, (fun y hy => by cases hy), .inl rfl⟩
    obtain ⟨b, o, spot⟩ := ad
    have hs : spot = none := by
      obtain ⟨cs', h1, _⟩ := hx 0 (by omega)
      obtain ⟨_, hlen, hcell⟩ := World.cells?_some h1
      have := hcell 0 (by omega)
      rw [List.getElem?_eq_getElem (by omega)] at this
      simpa [Addr.add] using World.cell?_spot this
    subst hs
    haveI : Inhabited α := ⟨nil⟩
    obtain ⟨f, hf⟩ := choose_lt (n := len) (p := fun i (y : α) => (∀ (j : Nat) (v : Value), (cells y)[j]? = some v → w.cell? ⟨b, o + i * k + j, none⟩ = some v) ∧ ok y) (fun i hi => by
      obtain ⟨cs', h1, h2⟩ := hx i (by omega)
      obtain ⟨_, hlen', hcell⟩ := World.cells?_some h1
      obtain ⟨y, rfl, hy⟩ := one _ _ _ h2 (fun n hn => hw n (by
        have hm' : D i ∈ (List.range len).map D := List.mem_map_of_mem (List.mem_range.2 hi)
        simp only [DataW.weights, hu]
        exact List.mem_cons_of_mem _ (List.mem_append_left _ (mem_weightsQ hm' n hn))))
      refine ⟨y, fun j v hv => ?_, hy⟩
      have hj : j < k := by have := (List.getElem?_eq_some_iff.1 hv).1; omega
      have := hcell j hj
      rw [Go.WideShapes.add_plain, Go.WideShapes.add_plain] at this
      exact this.trans hv)
    refine ⟨(List.range len).map f, by simp, hl, hcm, fun y hy => ?_, .inr ⟨b, o, rfl, fun i hi => ?_⟩⟩
    · obtain ⟨i, hi, rfl⟩ := List.mem_map.1 hy
      exact (hf i (List.mem_range.1 hi)).2
    · rw [List.getD_eq_getElem?_getD, List.getElem?_map, List.getElem?_range hi]
      exact (hf i hi).1
theorem open_tkQ {fuel : Nat} {cs : List Value} {x : DataW H × List MemPlace} (h : DataW.trod enc Tryz.prog w base spare held fuel 49 cs = some x) (hw : WtQ 49 x.1) :
    ∃ y : TI, cs = [.int .i64 y.kind, .string (str y.text), .int .i64 y.at_] ∧ y.text.length ≤ 140737488355328 := by
  obtain ⟨xs, n, _, hxe, hl, hxs, hf⟩ := DataW.trod_struct Tryz.underlying49 h
  rw [cKindQ] at hl
  obtain ⟨v0, v1, v2, rfl⟩ := threeQ cs hl
  obtain ⟨x0, x1, x2, rfl⟩ := threeQ xs hxs
  have f0 : DataW.trod enc Tryz.prog w base spare held n 3 [v0] = some x0 := by
    have := hf 0 _ rfl
    simpa [cIntQ] using this
  have f1 : DataW.trod enc Tryz.prog w base spare held n 9 [v1] = some x1 := by
    have := hf 1 _ rfl
    simpa [cIntQ, cStrQ] using this
  have f2 : DataW.trod enc Tryz.prog w base spare held n 3 [v2] = some x2 := by
    have := hf 2 _ rfl
    simpa [cIntQ, cStrQ] using this
  subst hxe
  have w1 : WtQ 9 x1.1 := wtQ_struct Tryz.underlying49 hw 1 rfl rfl
  obtain ⟨k, e0, _, _⟩ := DataW.trod_int Tryz.underlying3 f0
  obtain ⟨s, e1, e3, _⟩ := DataW.trod_string Tryz.underlying9 f1
  obtain ⟨z, e2, _, _⟩ := DataW.trod_int Tryz.underlying3 f2
  simp only [List.cons.injEq, and_true] at e0 e1 e2
  subst e0 e1 e2
  have hs := w1 s.data.toList.length (by rw [e3]; simp [DataW.weights])
  exact ⟨⟨k, s.data.toList, z⟩, by rw [str_list], Nat.le_trans hs (by decide)⟩
def TksIn (w : World) (a : Option Addr) (len cap : Nat) (l : List TI) : Prop := l.length = len ∧ len ≤ cap ∧ cap ≤ maxLen ∧ TIs w.heap.size w a l ∧ Pk l
theorem open_toks {fuel : Nat} {a : Option Addr} {len cap : Nat} {x : DataW H × List MemPlace} (h : DataW.trod enc Tryz.prog w base spare held fuel 22 [.slice a len cap] = some x) (hw : WtQ 22 x.1) : ∃ l, TksIn w a len cap l := by
  obtain ⟨l, h1, h2, h3, h4, h5⟩ := open_rowQ (cells := fun y : TI => [.int .i64 y.kind, .string (str y.text), .int .i64 y.at_]) (ok := fun y => y.text.length ≤ 140737488355328) ti0 Tryz.underlying22 cKindQ (by decide) (fun _ _ _ g1 g2 => open_tkQ g1 g2) h hw
  refine ⟨l, h1, h2, h3, ?_, h4⟩
  rcases h5 with h5 | ⟨b, off, ha, hc⟩
  · exact .inl (List.length_eq_zero_iff.1 (by omega))
  · by_cases h0 : l = []
    · exact .inl h0
    · have hpos : 0 < len := by have := List.length_pos_iff.2 h0; omega
      refine .inr ⟨b, off, ha, World.block_lt_of_cell? w _ (hc 0 hpos 0 _ rfl), fun i hi => ?_⟩
      have hi : i < len := by omega
      exact ⟨hc i hi 0 _ rfl, hc i hi 1 _ rfl, hc i hi 2 _ rfl⟩
def NmsIn (w : World) (a : Option Addr) (len cap : Nat) (names : List (List UInt8)) : Prop := names.length = len ∧ NMs w.heap.size w a names
theorem open_nmsQ {fuel : Nat} {a : Option Addr} {len cap : Nat} {x : DataW H × List MemPlace} (h : DataW.trod enc Tryz.prog w base spare held fuel 37 [.slice a len cap] = some x) (hw : WtQ 37 x.1) : ∃ l, NmsIn w a len cap l := by
  obtain ⟨l, h1, h2, h3, h4, h5⟩ := open_rowQ (cells := fun y : List UInt8 => [.string (str y)]) (ok := fun y => y.length ≤ maxLen) [] Tryz.underlying37 cStrQ (by decide) (fun _ cs x g1 g2 => by
    obtain ⟨s, e1, e3, hs⟩ := DataW.trod_string Tryz.underlying9 g1
    exact ⟨s.data.toList, by rw [e1, str_list], by rw [size_list]; exact hs⟩) h hw
  refine ⟨l, h1, ?_, h4⟩
  rcases h5 with h5 | ⟨b, off, ha, hc⟩
  · exact .inl (List.length_eq_zero_iff.1 (by omega))
  · by_cases h0 : l = []
    · exact .inl h0
    · have hpos : 0 < len := by have := List.length_pos_iff.2 h0; omega
      refine .inr ⟨b, off, ha, World.block_lt_of_cell? w _ (hc 0 hpos 0 _ rfl), fun i hi => ?_⟩
      have hi : i < len := by omega
      have := hc i hi 0 _ rfl
      simpa using this
end
end Go.Proofs.YtjcanodnlnodpaaGreatDoor.Parse
