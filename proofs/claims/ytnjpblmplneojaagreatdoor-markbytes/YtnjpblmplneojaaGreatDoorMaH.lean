/- Contracts and plain mathematics, together: ColWrite, ColWrite2. -/
import Derived.Test.YtnjpblmplneojaaGreatDoorMaG
import Derived.Test.YtnjpblmplneojaaGreatDoorBuild
/- write of package colour: contracts of the calls, over the turned program. -/
namespace Go.Proofs.YtnjpblmplneojaaGreatDoor.Colour
open Go.RowKit Go.Proofs.YtnjpblmplneojaaGreatDoor.Frame Go.Deep
set_option linter.unusedVariables false
attribute [local go_sem ↓] Go.wp_at_zero Go.wp_at_succ

/-- a builder of the call's own that holds these bytes -/
def Bld (B b : Nat) (bs : List UInt8) (w : World) : Prop := Lib.IsBuilderF 98 5 B b (Lib.byteCells bs) w ∧ B ≤ w.heap.size ∧ b < w.heap.size
/-- what a writer leaves as it was -/
def Kept (B b : Nat) (w w' : World) : Prop := Below B w w' ∧ Lib.OthersKept 5 (some b) w w'
theorem Kept.trans {B b : Nat} {u v w : World} (h : Kept B b u v) (k : Kept B b v w) : Kept B b u w := ⟨h.1.trans k.1, h.2.trans k.2⟩
theorem Kept.refl (B b : Nat) (w : World) : Kept B b w w := ⟨Below.refl _ _, Lib.OthersKept.refl _ _ _⟩
theorem Kept.alloc {B b : Nat} {u w : World} (h : Kept B b u w) (hB : B ≤ w.heap.size) (o : Obj) : Kept B b u (w.alloc o) := ⟨h.1.alloc hB o, h.2.alloc o⟩
theorem Bld.alloc {B b : Nat} {bs : List UInt8} {w : World} (h : Bld B b bs w) (o : Obj) : Bld B b bs (w.alloc o) := ⟨h.1.alloc o, by have := h.2.1; simp; omega, by have := h.2.2; simp; omega⟩
theorem Bld.drew {B b : Nat} {bs : List UInt8} {w : World} (h : Bld B b bs w) : Bld B b bs w.drew := h
theorem Kept.undrew {B b : Nat} {u w : World} (h : Kept B b u.drew w) : Kept B b u w := ⟨Colour.undrew h.1, fun k o hk => h.2 k o hk⟩
theorem byteCells_append (l m : List UInt8) : Lib.byteCells (l ++ m) = Lib.byteCells l ++ Lib.byteCells m := by simp [Lib.byteCells]
theorem strCells_eq (s : ByteArray) : Lib.strCells s = Lib.byteCells s.data.toList := rfl

theorem writeByte_b (B b : Nat) (bs : List UInt8) (c : UInt8) (w : World) (h : Bld B b bs w) (hl : bs.length ≤ 1000000) :
    Calls Tryz.prog 71 #[.pointer (some ⟨b, 0, none⟩), .int .u8 c.toNat] w fun e w' => e = .returned .nilIface ∧ Bld B b (bs ++ [c]) w' ∧ Kept B b w w' := by
  refine (Build.writeByte B b _ _ w h.1 (by rw [Lib.byteCells_length]; omega) h.2.1).mono ?_
  rintro e w' ⟨he, hb, hbel, hk⟩
  exact ⟨he, ⟨.inr (by rw [byteCells_append]; exact hb), Nat.le_trans h.2.1 hbel.size, Nat.lt_of_lt_of_le h.2.2 hbel.size⟩, hbel, hk⟩
theorem writeString_b (B b : Nat) (bs : List UInt8) (s : ByteArray) (w : World) (h : Bld B b bs w) (hl : bs.length + s.size ≤ 1000000) :
    Calls Tryz.prog 70 #[.pointer (some ⟨b, 0, none⟩), .string s] w fun e w' => e = .returned (.tuple #[.int .i64 s.size, .nilIface]) ∧ Bld B b (bs ++ s.data.toList) w' ∧ Kept B b w w' := by
  refine (Build.writeString B b _ s w h.1 (by rw [Lib.byteCells_length]; omega) h.2.1).mono ?_
  rintro e w' ⟨he, hb, hbel, hk⟩
  exact ⟨he, ⟨.inr (by rw [byteCells_append]; exact hb), Nat.le_trans h.2.1 hbel.size, Nat.lt_of_lt_of_le h.2.2 hbel.size⟩, hbel, hk⟩

/-- a colour's box is kept by writers -/
theorem Kept.box {B b C : Nat} {w w' : World} {cs : Array Value} {fz : Nat × Nat} (h : Kept B b w w') (hC : w.heap[C]? = some (.cells cs 78 fz)) (hne : C ≠ b) : w'.heap[C]? = some (.cells cs 78 fz) :=
  h.2 C _ hC (fun e => hne (Option.some.inj e)) (fun c f e => by injection e with e1 e2; exact absurd e2 (by decide))

/-- the member m of the colour k is written so -/
def WriteIs (a : Option Addr) (len cap : Nat) (cs : List Col) (ns : List Int) (k : Nat) (m : Int) (text : List UInt8) : Prop :=
  ∀ (g B b : Nat) (bs : List UInt8) (w0 w : World), Cols w0 a len cs → NumsAt w0 g len ns → Below w0.heap.size w0 w → w0.heap.size ≤ B → Bld B b bs w → bs.length + text.length ≤ 100000 →
    Calls Tryz.prog 85 #[.pointer (some ⟨b, 0, none⟩), .slice a len cap, .slice (some ⟨g, 0, none⟩) len len, .int .i64 k, .int .i64 m] w fun e w' => e = .returned (.tuple #[]) ∧ Bld B b (bs ++ text) w' ∧ Kept B b w w'

set_option maxRecDepth 100000 in
set_option maxHeartbeats 2000000 in
theorem write_int (a : Option Addr) (len cap : Nat) (cs : List Col) (ns : List Int) (k : Nat) (m : Int) (x : Nat) (hk : k < len) (h1k : (cs.getD k nilCol).kind = 1) (hx : x < 100) (hm : (cs.getD k nilCol).lo + m = x) :
    WriteIs a len cap cs ns k m (Lib.decDigits x) := by
  intro g B b bs w0 w hC hN hbel hB hBld hlen
  obtain ⟨bb, off, rfl, hbl, hcol⟩ := (hC.below hbel).at hk
  generalize hcg : cs.getD k nilCol = c at *
  obtain ⟨⟨c0, c1, c2, c3, c4, c5, c6⟩, _, _⟩ := hcol
  rw [h1k] at c1
  have HB : Hid (Bld B b bs w) := hBld
  have hk' : (k : Int) < len := by omega
  have hlen' : bs.length + (⟨(Lib.decDigits x).toArray⟩ : ByteArray).size ≤ 1000000 := by
    show bs.length + ((Lib.decDigits x).toArray).size ≤ 1000000
    rw [List.size_toArray]; omega
  have HL : Hid (bs.length + (⟨(Lib.decDigits x).toArray⟩ : ByteArray).size ≤ 1000000) := hlen'
  have hxx : wrap64 (c.lo + m) = (x : Int) := by rw [hm]; unfold wrap64; omega
  clear hC hN hcg h1k hBld hlen hlen' hm
  go_enter Tryz.func85, Tryz.ntmps85
  go_wp2_with (first
    | (go_at_call 73; refine (Tryz.strconv_Itoa_small x hx _).mono ?_; rintro e w' ⟨he, hw⟩; subst he; have hw := hw.symm; subst hw)
    | (go_at_call 70; refine (writeString_b B b bs _ _ (HB.out.alloc _) HL.out).mono ?_; rintro e w1 ⟨he, hb1, hk1⟩; subst he))
  go_end0
  exact ⟨rfl, hb1, ((Kept.refl _ _ _).alloc HB.out.2.1 _).trans hk1⟩

set_option maxRecDepth 100000 in
set_option maxHeartbeats 2000000 in
theorem write_enum (a : Option Addr) (len cap : Nat) (cs : List Col) (ns : List Int) (k m : Nat) (s : ByteArray) (hk : k < len) (h1k : (cs.getD k nilCol).kind = 2) (hm : m < (cs.getD k nilCol).names.length) (hs : (cs.getD k nilCol).names.getD m ByteArray.empty = s) :
    WriteIs a len cap cs ns k m s.data.toList := by
  intro g B b bs w0 w hC hN hbel hB hBld hlen
  obtain ⟨bb, off, rfl, hbl, hcol⟩ := (hC.below hbel).at hk
  generalize hcg : cs.getD k nilCol = c at *
  obtain ⟨⟨c0, c1, c2, c3, c4, c5, c6⟩, hstr, _⟩ := hcol
  rw [h1k] at c1
  obtain ⟨b2, o2, hna, hcn⟩ : ∃ b2 o2, c.na = some ⟨b2, o2, none⟩ ∧ w.cell? ⟨b2, o2 + m, none⟩ = some (.string s) := by
    rcases hstr.2 with h0 | ⟨b2, o2, h1, h2⟩
    · omega
    · exact ⟨b2, o2, h1, by rw [← hs]; exact h2 m hm⟩
  rw [hna] at c4
  have hb2l : b2 < w.heap.size := World.block_lt_of_cell? w _ hcn
  have hcn2 : ∀ o, (w.alloc o).cell? ⟨b2, o2 + m, none⟩ = some (.string s) := fun o => (World.cell?_alloc_past o b2 (o2 + m) hb2l).trans hcn
  have HB : Hid (Bld B b bs w) := hBld
  have hk' : (k : Int) < len := by omega
  have hm' : (m : Int) < c.names.length := by omega
  have HL : Hid (bs.length + s.size ≤ 1000000) := by
    have : s.data.toList.length = s.size := by simp
    show _ ≤ _
    omega
  clear hC hN hcg h1k hBld hlen hs hstr hna
  go_enter Tryz.func85, Tryz.ntmps85
  go_wp2_with (go_at_call 70; refine (writeString_b B b bs _ _ (HB.out.alloc _) HL.out).mono ?_; rintro e w1 ⟨he, hb1, hk1⟩; subst he)
  go_end0
  exact ⟨rfl, hb1, ((Kept.refl _ _ _).alloc HB.out.2.1 _).trans hk1⟩
end Go.Proofs.YtnjpblmplneojaaGreatDoor.Colour
/- write of a pair's text, and Text: contracts of the calls, over the turned program. -/
namespace Go.Proofs.YtnjpblmplneojaaGreatDoor.Colour
open Go.RowKit Go.Proofs.YtnjpblmplneojaaGreatDoor.Frame Go.Deep
set_option linter.unusedVariables false
attribute [local go_sem ↓] Go.wp_at_zero Go.wp_at_succ

theorem box_cells {w : World} {C : Nat} {cs : Array Value} {T : TypeId} {fz : Nat × Nat} (h : w.heap[C]? = some (.cells cs T fz)) (j : Nat) : w.cell? ⟨C, j, none⟩ = cs[j]? := Lib.cell_of_heap h j

theorem fresh_bld (w : World) : Bld w.heap.size w.heap.size [] (w.alloc (.cells #[.pointer none, .slice none 0 0] 98)) :=
  ⟨Lib.IsBuilderF.of (Lib.fresh_isBuilder _ _ w), by simp, by simp⟩

set_option maxRecDepth 100000 in
set_option maxHeartbeats 4000000 in
theorem write_pair (a : Option Addr) (len cap : Nat) (cs : List Col) (ns : List Int) (k : Nat) (m : Int) (p q : Nat) (t1 t2 : List UInt8) (hk : k < len) (hq : q < len) (h32 : len ≤ 32) (h3k : (cs.getD k nilCol).kind = 3) (hpk : (cs.getD k nilCol).first = p) (hqk : (cs.getD k nilCol).thn = q)
    (m0 : 0 ≤ m) (m1 : m ≤ 1024) (z1 : 1 ≤ ns.getD q 0) (z2 : ns.getD q 0 ≤ 1024) (r1 : WriteIs a len cap cs ns p (m / ns.getD q 0) t1) (r2 : WriteIs a len cap cs ns q (m % ns.getD q 0) t2) :
    WriteIs a len cap cs ns k m (40 :: (t1 ++ 44 :: (t2 ++ [41]))) := by
  intro g B b bs w0 w hC hN hbel hB hBld hlen
  obtain ⟨bb, off, rfl, hbl, hcol⟩ := (hC.below hbel).at hk
  generalize hcg : cs.getD k nilCol = c at *
  obtain ⟨⟨c0, c1, c2, c3, c4, c5, c6⟩, _, _⟩ := hcol
  rw [h3k] at c1
  rw [hpk] at c5
  rw [hqk] at c6
  simp only [List.length_cons, List.length_append, List.length_nil] at hlen
  have HC : Hid (Cols w0 (some ⟨bb, off, none⟩) len cs) := hC
  have HN : Hid (NumsAt w0 g len ns) := hN
  have HBel : Hid (Below w0.heap.size w0 w) := hbel
  have HB : Hid (Bld B b bs w) := hBld
  have HnQ : Hid (∀ w', Below w0.heap.size w0 w' → w'.cell? ⟨g, q, none⟩ = some (.int .i64 (ns.getD q 0))) := fun w' hb' => (hN.below hb') q hq
  have R1 : Hid (WriteIs (some ⟨bb, off, none⟩) len cap cs ns p (m / ns.getD q 0) t1) := r1
  have R2 : Hid (WriteIs (some ⟨bb, off, none⟩) len cap cs ns q (m % ns.getD q 0) t2) := r2
  have hk' : (k : Int) < len := by omega
  have hq' : (q : Int) < len := by omega
  have hq0 : (0 : Int) ≤ (q : Int) := by omega
  have hbb : ¬ w.heap.size = b := by have := hBld.2.2; omega
  have hBw : B ≤ w.heap.size := hBld.2.1
  clear hC hN hcg h3k hpk hqk hBld r1 r2 hbel
  generalize ns.getD q 0 = z at *
  have hz0 : ¬ z = 0 := by omega
  have hdiv : IntKind.i64.wrap (m.tdiv z) = m / z := by
    rw [Int.tdiv_eq_ediv_of_nonneg m0, IntKind.wrap_i64]
    have h1 : 0 ≤ m / z := Int.ediv_nonneg m0 (by omega)
    have h2 : m / z ≤ m := Int.ediv_le_self _ m0
    omega
  have hmod : m.tmod z = m % z := Int.tmod_eq_emod_of_nonneg m0
  go_enter Tryz.func85, Tryz.ntmps85
  go_wp2_with fail
  generalize hW : w.alloc (Obj.cells #[Value.string c.name, Value.int IntKind.i64 3, Value.int IntKind.i64 c.lo, Value.int IntKind.i64 c.hi, Value.slice c.na c.names.length c.nc, Value.int IntKind.i64 p, Value.int IntKind.i64 q] 78) = W0
  have X0 : Hid (W0.heap[w.heap.size]? = some (.cells #[Value.string c.name, Value.int IntKind.i64 3, Value.int IntKind.i64 c.lo, Value.int IntKind.i64 c.hi, Value.slice c.na c.names.length c.nc, Value.int IntKind.i64 p, Value.int IntKind.i64 q] 78 (0, 0))) := by
    rw [← hW]; exact heap_alloc_new w _
  have B0 : Hid (Bld B b bs W0) := by rw [← hW]; exact HB.out.alloc _
  have K0 : Hid (Kept B b w W0) := by rw [← hW]; exact (Kept.refl _ _ _).alloc hBw _
  clear hW c0 c1 c2 c3 c4 c5 c6
  refine (writeByte_b B b bs 40 W0 B0.out (by omega)).mono ?_
  rintro e w1 ⟨he, hb1, hk1⟩
  subst he
  have B1 : Hid (Bld B b (bs ++ [40]) w1) := hb1
  have X1 := hk1.box X0.out hbb
  have K1 : Hid (Kept B b w w1) := K0.out.trans hk1
  have L1 : Hid (Below w0.heap.size w0 w1) := HBel.out.trans (K1.out.1.mono hB)
  have y1 := box_cells X1 5
  have y2 := box_cells X1 6
  have y3 := HnQ.out w1 L1.out
  have X1 : Hid (w1.heap[w.heap.size]? = _) := X1
  clear hb1 hk1 X0 B0 K0
  go_wp2_with fail
  go_region_held3 (fun w' => w'.cell? ⟨w.heap.size, 5, none⟩ = some (.int .i64 p) ∧ w'.cell? ⟨w.heap.size, 6, none⟩ = some (.int .i64 q) ∧ w'.cell? ⟨g, q, none⟩ = some (.int .i64 z)) (go_keep)
    (first | (go_at_call 85; refine (R1.out g B b (bs ++ [40]) w0 _ HC.out HN.out (by exact L1.out.drew) hB (by exact B1.out) (by simp; omega)).mono ?_; rintro e w2 ⟨he, hb2, hk2⟩; subst he; have X2 := (Kept.undrew hk2).box X1.out hbb; have y5 := box_cells X2 5; have y6 := box_cells X2 6; have y7 := HnQ.out w2 (L1.out.trans ((Kept.undrew hk2).1.mono hB))))
  have B2 : Hid (Bld B b (bs ++ [40] ++ t1) w2) := hb2
  have K2 : Hid (Kept B b w w2) := K1.out.trans hk2.undrew
  have L2 : Hid (Below w0.heap.size w0 w2) := HBel.out.trans (K2.out.1.mono hB)
  have X2 : Hid (w2.heap[w.heap.size]? = _) := X2
  clear hb2 hk2 X1 B1 K1 L1 y1 y2 y3 y5 y6 y7
  go_wp2_with fail
  refine (writeByte_b B b _ 44 w2 B2.out (by simp; omega)).mono ?_
  rintro e w3 ⟨he, hb3, hk3⟩
  subst he
  have B3 : Hid (Bld B b (bs ++ [40] ++ t1 ++ [44]) w3) := hb3
  have X3 := hk3.box X2.out hbb
  have K3 : Hid (Kept B b w w3) := K2.out.trans hk3
  have L3 : Hid (Below w0.heap.size w0 w3) := HBel.out.trans (K3.out.1.mono hB)
  have y1 := box_cells X3 5
  have y2 := box_cells X3 6
  have y3 := HnQ.out w3 L3.out
  have X3 : Hid (w3.heap[w.heap.size]? = _) := X3
  clear hb3 hk3 X2 B2 K2 L2
  go_wp2_with fail
  go_region_held3 (fun w' => w'.cell? ⟨w.heap.size, 5, none⟩ = some (.int .i64 p) ∧ w'.cell? ⟨w.heap.size, 6, none⟩ = some (.int .i64 q) ∧ w'.cell? ⟨g, q, none⟩ = some (.int .i64 z)) (go_keep)
    (first | (go_at_call 85; refine (R2.out g B b (bs ++ [40] ++ t1 ++ [44]) w0 _ HC.out HN.out (by exact L3.out.drew) hB (by exact B3.out) (by simp; omega)).mono ?_; rintro e w4 ⟨he, hb4, hk4⟩; subst he; have X4 := (Kept.undrew hk4).box X3.out hbb; have y5 := box_cells X4 5; have y6 := box_cells X4 6; have y7 := HnQ.out w4 (L3.out.trans ((Kept.undrew hk4).1.mono hB))))
  have B4 : Hid (Bld B b (bs ++ [40] ++ t1 ++ [44] ++ t2) w4) := hb4
  have K4 : Hid (Kept B b w w4) := K3.out.trans hk4.undrew
  clear hb4 hk4 X3 X4 B3 K3 L3 y1 y2 y3 y5 y6 y7
  go_wp2_with fail
  refine (writeByte_b B b _ 41 w4 B4.out (by simp; omega)).mono ?_
  rintro e w5 ⟨he, hb5, hk5⟩
  subst he
  go_wp2
  go_end0
  exact ⟨rfl, by simpa using hb5, K4.out.trans hk5⟩

set_option maxHeartbeats 1000000 in
theorem text_top (a : Option Addr) (len cap : Nat) (cs : List Col) (ns : List Int) (k : Nat) (m : Int) (text : List UInt8) (w : World) (hC : Cols w a len cs) (hs : sizesF cs = some ns) (hk : k < len) (hm : withinB m (ns.getD k 0) = true) (r : WriteIs a len cap cs ns k m text) (hl : text.length ≤ 100000) :
    Calls Tryz.prog 72 #[.slice a len cap, .int .i64 k, .int .i64 m] w fun e w' => e = .returned (.string ⟨text.toArray⟩) ∧ Below w.heap.size w w' := by
  have HC : Hid (Cols w a len cs) := hC
  have H : Hid (sizesF cs = some ns) := hs
  have R : Hid (WriteIs a len cap cs ns k m text) := r
  have K : Hid (withinB k len = true) := withinB_nat hk
  obtain ⟨z, hz⟩ : ∃ z, z = ns.getD k 0 := ⟨_, rfl⟩
  have M : Hid (withinB m z = true) := by rw [hz]; exact hm
  have HZ : Hid (z = ns.getD k 0) := hz
  have hk' : (k : Int) < len := by omega
  clear hC hs r hz hm
  go_enter Tryz.func72, Tryz.ntmps72
  go_wp2_with (first
    | (go_at_call 76; refine (sizes_yes _ _ _ cs ns _ HC.out H.out).mono ?_; rintro e w1 ⟨g, he, hg, hb⟩; subst he; have HG : Hid (_ ∧ NumsAt w1 g len ns) := hg; have hcg := hg.2 k hk; rw [← HZ.out] at hcg; clear hg)
    | (go_at_call 77; refine (within_any _ _ _).mono ?_; rintro e w' ⟨he, hw⟩; subst he; have hw := hw.symm; subst hw; first | rw [K.out] | rw [M.out])
    | (go_at_call 85; refine (R.out g w1.heap.size w1.heap.size [] w1 _ (HC.out.below hb) HG.out.2 (by exact (Below.refl _ _).alloc (Nat.le_refl _) _) (Nat.le_refl _) (by exact fresh_bld w1) (by simpa using hl)).mono ?_; rintro e w2 ⟨he, hb2, hk2⟩; subst he)
    | (go_at_call 74; refine (Build.string _ _ _ _ hb2.1 hb2.2.1).mono ?_; rintro e w3 ⟨he, hb3⟩; subst he))
  go_ret
  exact ⟨rfl, then_ hb (((Below.refl _ _).alloc (Nat.le_refl _) _).trans (hk2.1.trans hb3))⟩
end Go.Proofs.YtnjpblmplneojaaGreatDoor.Colour
