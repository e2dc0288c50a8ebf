/- Contracts and plain mathematics, together: MarkOpen, MarkOpn2. -/
import Derived.Test.YtnjpblmplneojaaGreatDoorMbA
import Derived.Test.YtnjpblmplneojaaGreatDoorMaO
import Derived.SizedLaws
import Derived.Test.YtnjpblmplneojaaGreatDoorMbD
/- Markings and bytes that come in, as they lie in memory. -/
namespace Go.Proofs.YtnjpblmplneojaaGreatDoor.Mark
open Go.ChangeShapes Go.WideShapes Go.ChangeAt Go.RowKit Go.Deep Go.Proofs.YtnjpblmplneojaaGreatDoor.Frame Go.Proofs.YtnjpblmplneojaaGreatDoor.Bag
set_option linter.unusedVariables false
set_option linter.unusedSimpArgs false

theorem cBag : Tryz.prog.cellsOf 36 = 1 := by kernel_rfl
theorem bRow : 0 < Tryz.prog.bytesOf 56 := of_decide_eq_true (by kernel_rfl)
theorem oneL {α : Type} : ∀ l : List α, l.length = 1 → ∃ a, l = [a]
  | [a], _ => ⟨a, rfl⟩

section
variable {H : Type} {enc : TypeId × Value → H} {w : World} {base : Nat} {spare : Nat → Bool} {held : Bool}

/-- no row of the datum is beyond the reach -/
def Wt (T : TypeId) (d : DataW H) : Prop := ∀ n, n ∈ d.weights Tryz.prog T → n ≤ reachBytes
theorem mem_weightsM {E : TypeId} : ∀ {l : List (DataW H)} {d : DataW H}, d ∈ l → ∀ n, n ∈ d.weights Tryz.prog E → n ∈ DataW.weightsAll Tryz.prog E l
  | d0 :: l, d, hd, n, hn => by
    simp only [DataW.weightsAll, List.mem_append]
    rcases List.mem_cons.1 hd with rfl | hd
    · exact .inl hn
    · exact .inr (mem_weightsM hd n hn)
theorem wt_len {T E : TypeId} {fuel : Nat} {a : Option Addr} {len cap : Nat} {x : DataW H × List MemPlace} (hu : Tryz.prog.underlying T = some (.slice E)) (hb : 0 < Tryz.prog.bytesOf E) (h : DataW.trod enc Tryz.prog w base spare held fuel T [.slice a len cap] = some x) (hw : Wt T x.1) : len ≤ reachBytes := by
  rcases open_slice hu h with ⟨hc, _⟩ | ⟨ad, len', cap', m, n, D, Pl, hc, _, hl, _, hm, hx, _⟩
  · simp at hc; omega
  · simp at hc
    obtain ⟨rfl, rfl, rfl⟩ := hc
    subst hx
    have hlm : len ≤ m := by rw [hm]; split <;> omega
    have := hw ((len + (m - len)) * Tryz.prog.bytesOf E) (by simp [DataW.weights, hu])
    have h2 : len * 1 ≤ (len + (m - len)) * Tryz.prog.bytesOf E := Nat.mul_le_mul (by omega) hb
    omega
theorem open_bg {fuel : Nat} {cs : List Value} {x : DataW H × List MemPlace} (hl : cs.length = 1) (h : DataW.trod enc Tryz.prog w base spare held fuel 36 cs = some x) (hw : Wt 36 x.1) : ∃ g : Bg, cs = [.slice g.a g.rows.length g.c] ∧ BgOk w g := by
  obtain ⟨v, rfl⟩ := oneL cs hl
  have hv : ∃ a len cap, v = .slice a len cap := by
    rcases open_slice Tryz.underlying36 h with ⟨hc, _⟩ | ⟨ad, len, cap, m, n, D, Pl, hc, _⟩
    · simp at hc; exact ⟨_, _, _, hc⟩
    · simp at hc; exact ⟨_, _, _, hc⟩
  obtain ⟨a, len, cap, rfl⟩ := hv
  obtain ⟨rs, hb⟩ := open_bags h
  have hlen := wt_len Tryz.underlying36 bRow h hw
  have e : rs.length = len := hb.1.1
  subst e
  exact ⟨⟨rs, a, cap⟩, rfl, hb, Nat.le_trans hlen (by decide)⟩
theorem open_mk {fuel : Nat} {a : Option Addr} {len cap : Nat} {x : DataW H × List MemPlace} (h : DataW.trod enc Tryz.prog w base spare held fuel 23 [.slice a len cap] = some x) (hw : Wt 23 x.1) : ∃ gs, Mks w a len gs := by
  rcases open_slice Tryz.underlying23 h with ⟨hc, _⟩ | ⟨ad, len', cap', m, n, D, Pl, hc, _, hl, _, hm, hxe, hx⟩
  · simp at hc
    obtain ⟨_, rfl, _⟩ := hc
    exact ⟨[], rfl, .inl rfl⟩
  · simp at hc
    obtain ⟨rfl, rfl, rfl⟩ := hc
    have hlm : len ≤ m := by rw [hm]; split <;> omega
    subst hxe
    rcases Nat.eq_zero_or_pos len with h0 | h0
    · subst h0; exact ⟨[], rfl, .inl rfl⟩
    rw [cBag] at hx
    obtain ⟨b, o, spot⟩ := ad
    have hs : spot = none := by
      obtain ⟨cs', h1, _⟩ := hx 0 (by omega)
      obtain ⟨_, hlen, hcell⟩ := World.cells?_some h1
      have := hcell 0 (by omega)
      rw [List.getElem?_eq_getElem (by omega)] at this
      simpa [Addr.add] using World.cell?_spot this
    subst hs
    haveI : Inhabited Bg := ⟨nilBg⟩
    obtain ⟨f, hf⟩ := choose_lt (n := len) (p := fun i (g : Bg) => w.cell? ⟨b, o + i, none⟩ = some (.slice g.a g.rows.length g.c) ∧ BgOk w g) (fun i hi => by
      obtain ⟨cs', h1, h2⟩ := hx i (by omega)
      obtain ⟨_, hlen', hcell⟩ := World.cells?_some h1
      obtain ⟨g, rfl, hg⟩ := open_bg hlen' h2 (fun n hn => hw n (by
        have hm' : D i ∈ (List.range len).map D := List.mem_map_of_mem (List.mem_range.2 hi)
        simp only [DataW.weights, Tryz.underlying23]
        exact List.mem_cons_of_mem _ (List.mem_append_left _ (mem_weightsM hm' n hn))))
      refine ⟨g, ?_, hg⟩
      have := hcell 0 (by omega)
      rw [Go.WideShapes.add_plain, Go.WideShapes.add_plain] at this
      simpa using this)
    have hget : ∀ i, i < len → ((List.range len).map f).getD i nilBg = f i := fun i hi => by
      rw [List.getD_eq_getElem?_getD, List.getElem?_map, List.getElem?_range hi]; rfl
    refine ⟨(List.range len).map f, by simp, .inr ⟨b, o, rfl, fun i hi => ?_⟩⟩
    have hi' : i < len := by simpa using hi
    rw [hget i hi']
    exact hf i hi'
end
end Go.Proofs.YtnjpblmplneojaaGreatDoor.Mark
/- Bytes that come in, and nets of which only the ends and how many places there are is asked. -/
namespace Go.Proofs.YtnjpblmplneojaaGreatDoor.Mark
open Go.ChangeShapes Go.WideShapes Go.ChangeAt Go.RowKit Go.Deep Go.Proofs.YtnjpblmplneojaaGreatDoor.Frame Go.Proofs.YtnjpblmplneojaaGreatDoor.Bag
set_option linter.unusedVariables false
set_option linter.unusedSimpArgs false

theorem cByte : Tryz.prog.cellsOf 5 = 1 := by kernel_rfl
theorem cIntM : Tryz.prog.cellsOf 3 = 1 := by kernel_rfl
theorem cNetM : Tryz.prog.cellsOf 47 = 5 := by kernel_rfl
theorem cColsM : Tryz.prog.cellsOf 43 = 1 := by kernel_rfl
theorem cPlacesM : Tryz.prog.cellsOf 44 = 1 := by kernel_rfl
theorem cTasksM : Tryz.prog.cellsOf 45 = 1 := by kernel_rfl
theorem fiveM {α : Type} : ∀ l : List α, l.length = 5 → ∃ a b c d e, l = [a, b, c, d, e]
  | [a, b, c, d, e], _ => ⟨a, b, c, d, e, rfl⟩
theorem bounds_u8 {n : Int} (h : (Lit.int .u8 n).wf = true) : 0 ≤ n ∧ n ≤ 255 := by
  simp [Lit.wf, IntKind.min, IntKind.max, IntKind.signed, IntKind.bits] at h
  omega

section
variable {H : Type} {enc : TypeId × Value → H} {w : World} {base : Nat} {spare : Nat → Bool} {held : Bool}

theorem open_by {fuel : Nat} {cs : List Value} {x : DataW H × List MemPlace} (h : DataW.trod enc Tryz.prog w base spare held fuel 5 cs = some x) : ∃ c : UInt8, cs = [.int .u8 c.toNat] := by
  obtain ⟨k, e, _, g⟩ := DataW.trod_int Tryz.underlying5 h
  obtain ⟨h0, h1⟩ := bounds_u8 g
  refine ⟨UInt8.ofNat k.toNat, ?_⟩
  rw [e, u8_nat, Nat.mod_eq_of_lt (by omega), Int.toNat_of_nonneg h0]
theorem open_bytes {fuel : Nat} {a : Option Addr} {len cap : Nat} {x : DataW H × List MemPlace} (h : DataW.trod enc Tryz.prog w base spare held fuel 28 [.slice a len cap] = some x) : ∃ bs : List UInt8, bs.length = len ∧ Bts w a cap bs := by
  rcases open_slice Tryz.underlying28 h with ⟨hc, _⟩ | ⟨ad, len', cap', m, n, D, Pl, hc, _, hl, hcm, hm, hxe, hx⟩
  · simp at hc
    obtain ⟨rfl, rfl, rfl⟩ := hc
    exact ⟨[], rfl, .inl rfl, Nat.le_refl _, Nat.zero_le _⟩
  · simp at hc
    obtain ⟨rfl, rfl, rfl⟩ := hc
    have hmx : cap ≤ 9223372036854775807 := by
      have h1 : maxLen = 9223372036854775807 := by decide
      omega
    have hlm : len ≤ m := by rw [hm]; split <;> omega
    subst hxe
    rcases Nat.eq_zero_or_pos len with h0 | h0
    · subst h0; exact ⟨[], rfl, .inl rfl, Nat.zero_le _, hmx⟩
    rw [cByte] at hx
    obtain ⟨b, o, spot⟩ := ad
    have hs : spot = none := by
      obtain ⟨cs', h1, _⟩ := hx 0 (by omega)
      obtain ⟨_, hlen, hcell⟩ := World.cells?_some h1
      have := hcell 0 (by omega)
      rw [List.getElem?_eq_getElem (by omega)] at this
      simpa [Addr.add] using World.cell?_spot this
    subst hs
    haveI : Inhabited UInt8 := ⟨0⟩
    obtain ⟨f, hf⟩ := choose_lt (n := len) (p := fun i (c : UInt8) => w.cell? ⟨b, o + i, none⟩ = some (.int .u8 c.toNat)) (fun i hi => by
      obtain ⟨cs', h1, h2⟩ := hx i (by omega)
      obtain ⟨_, hlen', hcell⟩ := World.cells?_some h1
      obtain ⟨c, rfl⟩ := open_by h2
      refine ⟨c, ?_⟩
      have := hcell 0 (by omega)
      rw [Go.WideShapes.add_plain, Go.WideShapes.add_plain] at this
      simpa using this)
    have hget : ∀ i, i < len → ((List.range len).map f).getD i 0 = f i := fun i hi => by
      rw [List.getD_eq_getElem?_getD, List.getElem?_map, List.getElem?_range hi]; rfl
    have hb0 : b < w.heap.size := World.block_lt_of_cell? w _ (hf 0 (by omega))
    refine ⟨(List.range len).map f, by simp, .inr ⟨b, o, rfl, hb0, fun i hi => ?_⟩, by simpa using hl, hmx⟩
    have hi' : i < len := by simpa using hi
    rw [hget i hi']
    exact hf i hi'
theorem is_slice {T E : TypeId} {fuel : Nat} {v : Value} {x : DataW H × List MemPlace} (hu : Tryz.prog.underlying T = some (.slice E)) (h : DataW.trod enc Tryz.prog w base spare held fuel T [v] = some x) : ∃ a l c, v = .slice a l c := by
  rcases open_slice hu h with ⟨hc, _⟩ | ⟨ad, len, cap, m, n, D, Pl, hc, _⟩
  · simp at hc; exact ⟨_, _, _, hc⟩
  · simp at hc; exact ⟨_, _, _, hc⟩
theorem open_ne5 {fuel : Nat} {cs : List Value} {x : DataW H × List MemPlace} (h : DataW.trod enc Tryz.prog w base spare held fuel 47 cs = some x) : ∃ va lv cv vp lp cp vt lt ct fr to, cs = [.slice va lv cv, .slice vp lp cp, .slice vt lt ct, .int .i64 fr, .int .i64 to] := by
  obtain ⟨xs, n, _, hxe, hl, hxs, hf⟩ := DataW.trod_struct Tryz.underlying47 h
  rw [cNetM] at hl
  obtain ⟨v0, v1, v2, v3, v4, rfl⟩ := fiveM cs hl
  obtain ⟨x0, x1, x2, x3, x4, rfl⟩ := fiveM xs hxs
  have f0 : DataW.trod enc Tryz.prog w base spare held n 43 [v0] = some x0 := by
    have := hf 0 _ rfl
    simpa [cColsM] using this
  have f1 : DataW.trod enc Tryz.prog w base spare held n 44 [v1] = some x1 := by
    have := hf 1 _ rfl
    simpa [cPlacesM] using this
  have f2 : DataW.trod enc Tryz.prog w base spare held n 45 [v2] = some x2 := by
    have := hf 2 _ rfl
    simpa [cTasksM] using this
  have f3 : DataW.trod enc Tryz.prog w base spare held n 3 [v3] = some x3 := by
    have := hf 3 _ rfl
    simpa [cIntM] using this
  have f4 : DataW.trod enc Tryz.prog w base spare held n 3 [v4] = some x4 := by
    have := hf 4 _ rfl
    simpa [cIntM] using this
  obtain ⟨a0, l0, c0, rfl⟩ := is_slice Tryz.underlying43 f0
  obtain ⟨a1, l1, c1, rfl⟩ := is_slice Tryz.underlying44 f1
  obtain ⟨a2, l2, c2, rfl⟩ := is_slice Tryz.underlying45 f2
  obtain ⟨z3, e3, _⟩ := DataW.trod_int Tryz.underlying3 f3
  obtain ⟨z4, e4, _⟩ := DataW.trod_int Tryz.underlying3 f4
  simp only [List.cons.injEq, and_true] at e3 e4
  subst e3 e4
  exact ⟨_, _, _, _, _, _, _, _, _, _, _, rfl⟩
set_option maxRecDepth 100000 in
theorem open_netl {r : Reach} {b0 : Nat} {v : Value} {d : DataW H} {ps : List MemPlace} (hval : Value.okWide Tryz.prog w r b0 47 v) (hd : DataW.Trod enc Tryz.prog w base spare held 47 v d ps) :
    ∃ va lv cv vp lp cp vt lt ct fr to, v = .agg #[.slice va lv cv, .slice vp lp cp, .slice vt lt ct, .int .i64 fr, .int .i64 to] := by
  obtain ⟨cs, rfl, hcs⟩ := okWide_struct Tryz.underlying47 hval
  obtain ⟨fuel, hf⟩ := hd
  obtain ⟨va, lv, cv, vp, lp, cp, vt, lt, ct, fr, to, h1⟩ := open_ne5 hf
  refine ⟨va, lv, cv, vp, lp, cp, vt, lt, ct, fr, to, ?_⟩
  have : cs.toList = [.slice va lv cv, .slice vp lp cp, .slice vt lt ct, .int .i64 fr, .int .i64 to] := by simpa [Value.cells] using h1
  rw [← Array.toArray_toList (xs := cs), this]
end
end Go.Proofs.YtnjpblmplneojaaGreatDoor.Mark
