/- Copies of bags and markings: contracts of the calls of package mark, over the turned program. -/
import Derived.Test.YtnjpblmplneojaaGreatDoorMbD
import Derived.Test.YtnjpblmplneojaaGreatDoorMaS
import Derived.Test.YtnjpblmplneojaaGreatDoorMbB
namespace Go.Proofs.YtnjpblmplneojaaGreatDoor.Mark
open Go.RowKit Go.Proofs.YtnjpblmplneojaaGreatDoor.Frame Go.Proofs.YtnjpblmplneojaaGreatDoor.Bag
set_option linter.unusedVariables false
set_option linter.unusedSimpArgs false

/-- 'append(api.Bag(nil), b...)' -/
theorem copy_nil (w : World) (ty : TypeId) (a : Option Addr) (len cap : Nat) (rs : List Row) (h : Bags w a len rs) (hl : len ≤ 100000) :
    ∃ a' c w2, (Builtin.append_ #[36, 36] ty #[.slice none 0 0, .slice a len cap]).run Tryz.prog w = .ok (.slice a' len c) w2 ∧ Own w2 w.heap.size a' len c rs ∧ Below w.heap.size w w2 := by
  obtain ⟨i0, hi, hz0, hz1, hz2⟩ := info_parts Bag.infoRow
  have hml : (1000000 : Nat) ≤ maxLen := by decide
  have hown : w.ownsRow w.heap.size 56 2 (.slice none 0 0) 0 [] := World.ownsRow_nil _ _ _ _
  have key : ∀ (ad : Addr), (∀ j u, (cellsF rs)[j]? = some u → w.cell? (ad.add j) = some u) → ∃ a' c w2, (Builtin.append_ #[36, 36] ty #[.slice none 0 0, .slice (some ad) len cap]).run Tryz.prog w = .ok (.slice a' len c) w2 ∧
      Own w2 w.heap.size a' len c rs ∧ Below w.heap.size w w2 := fun ad hc => by
    obtain ⟨v', w2, hr, ho, hg, hnil⟩ := run_append_own (P := Tryz.prog) w w.heap.size 36 ty 56 i0 (.agg #[.int .i64 0, .int .i64 0]) 2 16 Tryz.underlying36 hi hz0 hz1 hz2 rfl (by decide)
      (.slice none 0 0) 0 [] hown ad len cap (cellsF rs) (by rw [cellsF_length, h.1.1]) hc (cellsF_one rs) (by omega) (by omega) (Nat.le_refl _)
    rw [Nat.zero_add, List.nil_append] at ho
    have hb : Below w.heap.size w w2 := (Below.refl _ w).grown hg (Nat.le_refl _) (fun k hk => by cases hk)
    rcases ho.2 with ⟨rfl, h0⟩ | ⟨g, c, cur, rfl, hrest⟩
    · refine ⟨none, 0, w2, ?_, ?_, hb⟩
      · rw [hr, h0]
      · refine ⟨h.1, ?_⟩
        rw [h0] at ho ⊢
        exact ho
    · exact ⟨some ⟨g, 0, none⟩, c, w2, hr, ⟨h.1, ho⟩, hb⟩
  rcases h.2 with h0 | ⟨b, off, ha, hat⟩
  · subst h0
    have hrs : rs = [] := List.eq_nil_of_length_eq_zero h.1.1
    cases a with
    | some ad => exact key ad (fun j u hu => by rw [hrs] at hu; simp [cellsF] at hu)
    | none =>
      refine ⟨none, 0, w, ?_, ⟨h.1, by rw [hrs]; exact hown⟩, Below.refl _ _⟩
      simp [Builtin.append_, run_underlying Tryz.underlying36, sizeOf, typeInfo, hi, Builtin.lenOf, Builtin.firstCells, loadCells, loadCellsFrom, storeCells]
  · subst ha
    refine key ⟨b, off, none⟩ (fun j u hu => ?_)
    have hcj := hat.cells j u hu
    rw [Go.WideShapes.add_plain]
    exact hcj
def CopyBPost (len : Nat) (rs : List Row) (w : World) (e : Ending) (w' : World) : Prop := ∃ a' c, e = .returned (.slice a' len c) ∧ Own w' w.heap.size a' len c rs ∧ Below w.heap.size w w'
theorem copyOf_any (a : Option Addr) (len cap : Nat) (rs : List Row) (w : World) (h : Bags w a len rs) (hl : len ≤ 100000) :
    Calls Tryz.prog 47 #[.slice a len cap] w (CopyBPost len rs w) := by
  obtain ⟨a', c, w2, hr, hO, hb⟩ := copy_nil w 36 a len cap rs h hl
  have CR : Hid (_ = _) := hr
  have O : Hid (Own w2 w.heap.size a' len c rs) := hO
  have B : Hid (Below w.heap.size w w2) := hb
  clear hr hO hb h
  go_enter Tryz.func47, Tryz.ntmps47
  go_wp2_with (at_builtin; refine wpList_append_run rfl _ _ 36 36 rfl rfl rfl CR.out ?_)
  go_ret
  exact ⟨a', c, rfl, O.out, B.out⟩
theorem own_low {w : World} {base g o : Nat} {a : Option Addr} {len cap : Nat} {rs : List Row} (h : Own w base a len cap rs) (hg : g < base) (v : Value) : Own (w.setCell ⟨g, o, none⟩ v) base a len cap rs := by
  refine ⟨h.1, h.2.1, ?_⟩
  rcases h.2.2 with h0 | ⟨b, c, cur, hv, h1, h2, h3⟩
  · exact .inl h0
  · refine .inr ⟨b, c, cur, hv, h1, ?_, h3⟩
    rw [RowKit.Below.heap_setCell _ _ _ _ (show b ≠ g by omega)]
    exact h2
/-- a marking of the call's own: its row, and its bags behind it -/
def MOwn (w : World) (B : Nat) (a : Option Addr) (gs : List Bg) : Prop := ∃ g, a = some ⟨g, 0, none⟩ ∧ B ≤ g ∧ w.rowIs g 36 gs.length (bgCell gs) ∧ ∀ x, x ∈ gs → Own w (g + 1) x.a x.rows.length x.c x.rows
theorem MOwn.mks {w : World} {B : Nat} {a : Option Addr} {gs : List Bg} (h : MOwn w B a gs) (hs : ∀ x, x ∈ gs → x.rows.length ≤ 140737488355328) : Mks w a gs.length gs := by
  obtain ⟨g, rfl, hB, hr, ho⟩ := h
  refine ⟨rfl, .inr ⟨g, 0, rfl, fun i hi => ⟨?_, ?_⟩⟩⟩
  · rw [Nat.zero_add, hr.cell hi]; rfl
  · have hm : gs.getD i nilBg ∈ gs := by rw [List.getD_eq_getElem?_getD, List.getElem?_eq_getElem hi]; exact List.getElem_mem _
    exact ⟨(ho _ hm).bags, hs _ hm⟩
theorem MOwn.below {w w' : World} {B : Nat} {a : Option Addr} {gs : List Bg} (h : MOwn w B a gs) (hb : Below w.heap.size w w') : MOwn w' B a gs := by
  obtain ⟨g, rfl, hB, hr, ho⟩ := h
  exact ⟨g, rfl, hB, hr.of_block (hb.block g hr.lt), fun x hx => (ho x hx).below hb⟩
theorem set_mem {gs : List Bg} {k : Nat} {y x : Bg} (h : x ∈ gs.set k y) : x ∈ gs ∨ x = y := by
  rcases List.mem_or_eq_of_mem_set h with h | h
  · exact .inl h
  · exact .inr h
theorem bgCell_set (gs : List Bg) (k : Nat) (y : Bg) (hk : k < gs.length) (j : Nat) : bgCell (gs.set k y) j = if j = k then bgV y else bgCell gs j := by
  unfold bgCell
  by_cases h : j = k
  · subst h
    rw [if_pos rfl, List.getD_eq_getElem?_getD, List.getElem?_set_self hk]; rfl
  · rw [if_neg h, List.getD_eq_getElem?_getD, List.getElem?_set_ne (fun e => h e.symm), List.getD_eq_getElem?_getD]
theorem mkOf_set (gs : List Bg) (k : Nat) (y : Bg) : mkOf (gs.set k y) = (mkOf gs).set k y.rows := by unfold mkOf; rw [List.map_set]
/-- another bag is put into it -/
theorem MOwn.put {w : World} {B g k : Nat} {gs : List Bg} (h : MOwn w B (some ⟨g, 0, none⟩) gs) {y : Bg} (hk : k < gs.length) (hy : ∃ L, g < L ∧ Own w L y.a y.rows.length y.c y.rows) : MOwn (w.setCell ⟨g, k, none⟩ (bgV y)) B (some ⟨g, 0, none⟩) (gs.set k y) := by
  obtain ⟨g', e, hB, hr, ho⟩ := h
  injection e with e; injection e with e _
  subst e
  obtain ⟨L, hL, hy⟩ := hy
  refine ⟨g, rfl, hB, ?_, fun x hx => ?_⟩
  · rw [List.length_set]
    exact (hr.set k (bgV y)).congr fun j _ => by rw [bgCell_set gs k y hk]
  · rcases set_mem hx with hx | rfl
    · exact own_low (ho x hx) (Nat.lt_succ_self g) _
    · exact own_low (hy.mono (base' := g + 1) hL) (Nat.lt_succ_self g) _
def CopyPost (gs : List Bg) (w : World) (e : Ending) (w' : World) : Prop := ∃ a c gs2, e = .returned (.slice a gs.length c) ∧ (mkOf gs2 = mkOf gs ∧ MOwn w' w.heap.size a gs2) ∧ Below w.heap.size w w'

set_option maxRecDepth 100000 in
set_option maxHeartbeats 1000000 in
theorem copy_m (a : Option Addr) (la ca : Nat) (xs : List Bg) (w : World) (ha : Mks w a la xs) (sx : Sm xs) :
    Calls Tryz.prog 21 #[.slice a la ca] w (CopyPost xs w) := by
  have HA : Hid (Mks w a la xs) := ha
  have SX : Hid (Sm xs) := sx
  have LA : Hid (xs.length = la) := ha.1
  have hla : la ≤ 1000 := by have := sx.1; rw [ha.1] at this; exact this
  clear ha sx
  have hmk := run_make_row' (P := Tryz.prog) 23 36 (.slice none 0 0) 24 Tryz.underlying23 infoBag rfl .i64 .i64 la (by omega) (by omega)
  go_enter Tryz.func21, Tryz.ntmps21
  go_wp2
  clear hmk
  have M0 : Hid ((w.alloc (.cells (madeCells #[.slice none 0 0] la) 36)).rowIs w.heap.size 36 la (bgCell [])) := World.rowIs_made w (.slice none 0 0) la 36
  have B0 : Hid (Below w.heap.size w (w.alloc (.cells (madeCells #[.slice none 0 0] la) 36))) := (Below.refl _ _).alloc (Nat.le_refl _) _
  generalize w.alloc (.cells (madeCells #[.slice none 0 0] la) 36) = w2 at *
  go_loopw [11] (fun i wr => ∃ (k : Nat) (gs : List Bg), k ≤ la ∧ i = .int .i64 k ∧ Hid (wr.rowIs w.heap.size 36 la (bgCell gs) ∧ (∀ x, x ∈ gs → Own wr (w.heap.size + 1) x.a x.rows.length x.c x.rows) ∧ gs.length = k ∧ mkOf gs = (mkOf xs).take k) ∧ Hid (Below w.heap.size w wr)) (fun i _ => la - (intOf i).toNat)
  case atStart => exact ⟨0, [], by omega, rfl, ⟨M0.out, (fun x hx => by cases hx), rfl, rfl⟩, B0.out⟩
  case round =>
    obtain ⟨k, gs, hk, rfl, hM, hB⟩ := hrel
    clear M0 B0
    by_cases hkl : k < la
    · have hkl' : (k : Int) < la := by omega
      obtain ⟨ba, oa, hae, hal, ac, aok⟩ := (HA.out.below hB.out).row (k := k) hkl
      have lx := SX.out.at (k := k) (by rw [LA.out]; exact hkl)
      have TK : Hid ((mkOf xs).take (k + 1) = (mkOf xs).take k ++ [(xs.getD k nilBg).rows]) := mk_take (by rw [LA.out]; exact hkl)
      subst hae
      generalize xs.getD k nilBg = gx at *
      have KX : Hid (Bags wr gx.a gx.rows.length gx.rows) := aok.1
      clear aok
      go_wp2_with fail
      refine (copyOf_any _ _ _ gx.rows _ KX.out (by omega)).mono ?_
      rintro e w3 ⟨a3, c3, he, hO, hb3⟩
      subst he
      have GL : Hid (w.heap.size + 1 ≤ wr.heap.size) := hM.out.1.lt
      have O3 : Hid (Own w3 (w.heap.size + 1) a3 gx.rows.length c3 gx.rows) := hO.mono GL.out
      have B3 : Hid (Below w.heap.size w w3) := hB.out.trans (hb3.mono hB.out.size)
      have M3 : Hid (w3.rowIs w.heap.size 36 la (bgCell gs) ∧ (∀ x, x ∈ gs → Own w3 (w.heap.size + 1) x.a x.rows.length x.c x.rows) ∧ gs.length = k ∧ mkOf gs = (mkOf xs).take k) := ⟨hM.out.1.of_block (hb3.block _ hM.out.1.lt), (fun x hx => (hM.out.2.1 x hx).below hb3), hM.out.2.2⟩
      clear hO hb3 hM hB ac
      have q0 := M3.out.1.cell hkl
      have z0 := M3.out.1.frozen k
      have hgl := M3.out.1.lt
      generalize bgCell gs k = y0 at q0
      go_wp2
      go_roundw
      case rel =>
        refine ⟨k + 1, gs ++ [⟨gx.rows, a3, c3⟩], by omega, by go_num, ⟨?_, ?_, ?_, ?_⟩, B3.out.setCell (Nat.le_refl _) _⟩
        · refine (M3.out.1.set k _).congr fun j _ => ?_
          rw [bgCell_snoc, M3.out.2.2.1]; rfl
        · intro x hx
          rcases List.mem_append.1 hx with hx | hx
          · exact own_low (M3.out.2.1 x hx) (Nat.lt_succ_self _) _
          · rw [List.mem_singleton.1 hx]; exact own_low O3.out (Nat.lt_succ_self _) _
        · rw [List.length_append, M3.out.2.2.1]; rfl
        · rw [TK.out]
          have := M3.out.2.2.2
          unfold mkOf at this ⊢
          rw [List.map_append, this]; rfl
      case measure => simp [intOf]; omega
    · obtain rfl : k = la := by omega
      have E : Hid (mkOf gs = mkOf xs) := by
        have := hM.out.2.2.2
        rwa [List.take_of_length_le (by rw [mkOf_len, LA.out]; omega)] at this
      go_wp2
      go_ret
      refine ⟨some ⟨w.heap.size, 0, none⟩, k, gs, by rw [LA.out]; rfl, ⟨E.out, w.heap.size, rfl, Nat.le_refl _, ?_, hM.out.2.1⟩, hB.out⟩
      rw [hM.out.2.2.1]; exact hM.out.1
end Go.Proofs.YtnjpblmplneojaaGreatDoor.Mark
