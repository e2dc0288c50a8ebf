/- What layer 5 leans on of the variables: the signs, and the error of what is no int. -/
import Derived.Test.YtjcanodnlnodpaaGreatDoorMRun
import Derived.Lib.LaidTab
import Derived.LaidSub
import Derived.Stop.LaidErr
namespace Go.Proofs.YtjcanodnlnodpaaGreatDoor.Token
open Go.RowKit Go.ChangeShapes Go.Proofs.YtjcanodnlnodpaaGreatDoor.Colour
set_option linter.unusedVariables false
set_option linter.unusedSimpArgs false

def str (l : List UInt8) : ByteArray := ⟨l.toArray⟩
theorem str_list (s : ByteArray) : str s.data.toList = s := by unfold str; rw [Array.toArray_toList]
theorem str_data (l : List UInt8) : (str l).data.toList = l := by unfold str; simp
theorem str_size (l : List UInt8) : (str l).size = l.length := by unfold str; simp [ByteArray.size]
/-- the signs, and the error of what is no int, as the program's own text lays them -/
def Fx (w : World) : Prop := (∀ i, i < 21 → w.cell? ⟨0, i, none⟩ = some (.string (str (signsL.getD i [])))) ∧ ∃ te pe, w.cell? ⟨3, 0, none⟩ = some (.iface te pe)
theorem Fx.below {w w' : World} (h : Fx w) (hb : Below w.heap.size w w') : Fx w' := by
  obtain ⟨h1, te, pe, h2⟩ := h
  exact ⟨fun i hi => (hb.cell (p := ⟨0, i, none⟩) (World.block_lt_of_cell? w _ (h1 i hi))).trans (h1 i hi), te, pe, (hb.cell (p := ⟨3, 0, none⟩) (World.block_lt_of_cell? w _ h2)).trans h2⟩

/-- an array of strings that reads as these holds these -/
theorem cells_of_strs {H : Type} {enc : TypeId × Value → H} {P : Program} {w : World} {base : Nat} {sp : Nat → Bool} {held : Bool} {fuel : Nat} {t e : TypeId} {n : Nat} {cs : List Value} {zs : List (List UInt8)} {p : List MemPlace}
    (ht : P.underlying t = some (.array n e)) (he : P.underlying e = some .string) (hce : P.cellsOf e = 1) (hct : P.cellsOf t = n)
    (h : DataW.trod enc P w base sp held fuel t cs = some (.agg (zs.map fun l => .lit (.string l)), p)) : cs = zs.map fun l => Value.string (str l) := by
  cases fuel with
  | zero => simp [DataW.trod] at h
  | succ fuel =>
    simp only [DataW.trod, ht, hce, hct, Nat.mul_one] at h
    split at h
    · rename_i hl
      obtain ⟨xs, hm, hx⟩ := Option.map_eq_some_iff.1 h
      have hxs : xs.map (·.1) = zs.map fun l => (DataW.lit (.string l) : DataW H) := by
        have := congrArg Prod.fst hx
        simpa using this
      have hxl : xs.length = n := by simpa using Lib.mapM_length hm
      have hzl : zs.length = n := by
        have := congrArg List.length hxs
        simp at this
        omega
      apply List.ext_getElem?
      intro i
      by_cases hi : i < n
      · obtain ⟨b, hb, hf⟩ := Lib.mapM_at hm i i (by simp [hi])
        obtain ⟨s, hc, rfl, _⟩ := DataW.trod_string he hf
        have h1 : cs[i]? = some (.string s) := by
          have := congrArg (·[0]?) hc
          simpa [List.getElem?_take, List.getElem?_drop] using this
        have h2 : (xs.map (·.1))[i]? = some (DataW.lit (.string s.data.toList) : DataW H) := by simp [hb]
        rw [hxs] at h2
        simp only [List.getElem?_map, Option.map_eq_some_iff, DataW.lit.injEq, Lit.string.injEq] at h2
        obtain ⟨z', hz', rfl⟩ := h2
        simp [h1, hz', str_list]
      · rw [List.getElem?_eq_none (by omega), List.getElem?_eq_none (by simp; omega)]
    · cases h

theorem star : "*" ++ "errors.errorString" = "*errors.errorString" := by decide
theorem errRow (u : TypeId) (h : Tryz.prog.typeName? 3 u = some "*errors.errorString") : u = 264 :=
  typeName_ptr_named (nm := "errors.errorString") (by rw [star]; kernel_rfl) (by kernel_rfl) (by decide) u (by rw [star]; exact h)
/-- off a row's condition -/
theorem fx_of {w : World} (l : List (String × DataW Unit)) (n1 n2 nm : String) (tx : List UInt8)
    (hl1 : (l.filter fun x => x.2.handleName?.isNone).filter (fun x => x.1 == n1) = [(n1, .agg (signsL.map fun l => .lit (.string l)))])
    (hl2 : (l.filter fun x => x.2.handleName?.isNone).filter (fun x => x.1 == n2) = [(n2, .iface nm (.ptr (.agg [.lit (.string tx)])))])
    (hg1 : Tryz.prog.globalNamed n1 = some 0) (hg2 : Tryz.prog.globalNamed n2 = some 3)
    (hnm : ∀ u, Tryz.prog.typeName? 3 u = some nm → u = 264)
    (h : laidMetH Tryz.prog l w) : Fx w := by
  have h1 := (laidMetH_iff.1 h).1.filter fun x => x.1 == n1
  rw [hl1] at h1
  have h2 := (laidMetH_iff.1 h).1.filter fun x => x.1 == n2
  rw [hl2] at h2
  refine ⟨?_, ?_⟩
  · obtain ⟨ps, ⟨g, t, cs, fuel, p, q, hg, ht, hvar, hd, _⟩, _⟩ := h1
    obtain rfl := Option.some.inj (hg1.symm.trans hg)
    have h3 : (Tryz.prog.globals[0]?).map (·.type) = some 188 := by kernel_rfl
    obtain rfl := Option.some.inj (h3.symm.trans ht)
    have hcs := cells_of_strs Tryz.underlying188 Tryz.underlying9 (by kernel_rfl) (by kernel_rfl) hd
    intro i hi
    have := World.var?_cell hg1 hvar i
    have hc : cs[i]? = some (.string (str (signsL.getD i []))) := by
      rw [← Array.getElem?_toList, hcs, List.getElem?_map, List.getD_eq_getElem?_getD, List.getElem?_eq_getElem (show i < signsL.length from hi)]; rfl
    rw [this]
    simpa using hc
  · obtain ⟨a, s, hv, _, _, _⟩ := laid_sentinel (g := 3) h2 hg2 (by kernel_rfl) Tryz.underlying105 hnm Tryz.underlying264 Tryz.underlying266 rfl rfl Tryz.underlying9 (by kernel_rfl) (by kernel_rfl)
    have := World.var?_cell hg2 hv 0
    exact ⟨_, _, by simpa using this⟩
end Go.Proofs.YtjcanodnlnodpaaGreatDoor.Token
