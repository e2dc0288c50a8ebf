/- write of a pair's text, and Text: contracts of the calls, over the turned program. -/
import Derived.Test.YtlcbpkdggppkaaaDoorColWrite
namespace Go.Proofs.YtlcbpkdggppkaaaDoor.Colour
open Go.RowKit Go.Proofs.YtlcbpkdggppkaaaDoor.Frame Go.Deep
set_option linter.unusedVariables false
attribute [local go_sem ↓] Go.wp_at_zero Go.wp_at_succ

theorem box_cells {w : World} {C : Nat} {cs : Array Value} {T : TypeId} {fz : Nat × Nat} (h : w.heap[C]? = some (.cells cs T fz)) (j : Nat) : w.cell? ⟨C, j, none⟩ = cs[j]? := Lib.cell_of_heap h j

theorem fresh_bld (w : World) : Bld w.heap.size w.heap.size [] (w.alloc (.cells #[.pointer none, .slice none 0 0] 48)) :=
  ⟨Lib.IsBuilderF.of (Lib.fresh_isBuilder _ _ w), by simp, by simp⟩

set_option maxRecDepth 100000 in
set_option maxHeartbeats 4000000 in
theorem write_pair (a : Option Addr) (len cap : Nat) (cs : List Col) (ns : List Int) (k : Nat) (m : Int) (p q : Nat) (t1 t2 : List UInt8) (hk : k < len) (hq : q < len) (h32 : len ≤ 32) (h3k : (cs.getD k nilCol).kind = 3) (hpk : (cs.getD k nilCol).first = p) (hqk : (cs.getD k nilCol).thn = q)
    (m0 : 0 ≤ m) (m1 : m ≤ 1024) (z1 : 1 ≤ ns.getD q 0) (z2 : ns.getD q 0 ≤ 1024) (r1 : WriteIs a len cap cs ns p (m / ns.getD q 0) t1) (r2 : WriteIs a len cap cs ns q (m % ns.getD q 0) t2) :
    WriteIs a len cap cs ns k m (40 :: (t1 ++ 44 :: (t2 ++ [41]))) := by
  intro g B b bs w0 w hC hN hbel hB hBld hlen
  obtain ⟨bb, off, rfl, hbl, hcol⟩ := (hC.below hbel).at hk
  generalize hcg : cs.getD k nilCol = c at *
  obtain ⟨⟨c0, c1, c2, c3, c4, c5, c6⟩, _, _⟩ := hcol
  rw [h3k] at c1
  rw [hpk] at c5
  rw [hqk] at c6
  simp only [List.length_cons, List.length_append, List.length_nil] at hlen
  have HC : Hid (Cols w0 (some ⟨bb, off, none⟩) len cs) := hC
  have HN : Hid (NumsAt w0 g len ns) := hN
  have HBel : Hid (Below w0.heap.size w0 w) := hbel
  have HB : Hid (Bld B b bs w) := hBld
  have HnQ : Hid (∀ w', Below w0.heap.size w0 w' → w'.cell? ⟨g, q, none⟩ = some (.int .i64 (ns.getD q 0))) := fun w' hb' => (hN.below hb') q hq
  have R1 : Hid (WriteIs (some ⟨bb, off, none⟩) len cap cs ns p (m / ns.getD q 0) t1) := r1
  have R2 : Hid (WriteIs (some ⟨bb, off, none⟩) len cap cs ns q (m % ns.getD q 0) t2) := r2
  have hk' : (k : Int) < len := by omega
  have hq' : (q : Int) < len := by omega
  have hq0 : (0 : Int) ≤ (q : Int) := by omega
  have hbb : ¬ w.heap.size = b := by have := hBld.2.2; omega
  have hBw : B ≤ w.heap.size := hBld.2.1
  clear hC hN hcg h3k hpk hqk hBld r1 r2 hbel
  generalize ns.getD q 0 = z at *
  have hz0 : ¬ z = 0 := by omega
  have hdiv : IntKind.i64.wrap (m.tdiv z) = m / z := by
    rw [Int.tdiv_eq_ediv_of_nonneg m0, IntKind.wrap_i64]
    have h1 : 0 ≤ m / z := Int.ediv_nonneg m0 (by omega)
    have h2 : m / z ≤ m := Int.ediv_le_self _ m0
    omega
  have hmod : m.tmod z = m % z := Int.tmod_eq_emod_of_nonneg m0
  go_enter Tryd.func19, Tryd.ntmps19
  go_wp2_with fail
  generalize hW : w.alloc (Obj.cells #[Value.string c.name, Value.int IntKind.i64 3, Value.int IntKind.i64 c.lo, Value.int IntKind.i64 c.hi, Value.slice c.na c.names.length c.nc, Value.int IntKind.i64 p, Value.int IntKind.i64 q] 27) = W0
  have X0 : Hid (W0.heap[w.heap.size]? = some (.cells #[Value.string c.name, Value.int IntKind.i64 3, Value.int IntKind.i64 c.lo, Value.int IntKind.i64 c.hi, Value.slice c.na c.names.length c.nc, Value.int IntKind.i64 p, Value.int IntKind.i64 q] 27 (0, 0))) := by
    rw [← hW]; exact heap_alloc_new w _
  have B0 : Hid (Bld B b bs W0) := by rw [← hW]; exact HB.out.alloc _
  have K0 : Hid (Kept B b w W0) := by rw [← hW]; exact (Kept.refl _ _ _).alloc hBw _
  clear hW c0 c1 c2 c3 c4 c5 c6
  refine (writeByte_b B b bs 40 W0 B0.out (by omega)).mono ?_
  rintro e w1 ⟨he, hb1, hk1⟩
  subst he
  have B1 : Hid (Bld B b (bs ++ [40]) w1) := hb1
  have X1 := hk1.box X0.out hbb
  have K1 : Hid (Kept B b w w1) := K0.out.trans hk1
  have L1 : Hid (Below w0.heap.size w0 w1) := HBel.out.trans (K1.out.1.mono hB)
  have y1 := box_cells X1 5
  have y2 := box_cells X1 6
  have y3 := HnQ.out w1 L1.out
  have X1 : Hid (w1.heap[w.heap.size]? = _) := X1
  clear hb1 hk1 X0 B0 K0
  go_wp2_with fail
  go_region_held3 (fun w' => w'.cell? ⟨w.heap.size, 5, none⟩ = some (.int .i64 p) ∧ w'.cell? ⟨w.heap.size, 6, none⟩ = some (.int .i64 q) ∧ w'.cell? ⟨g, q, none⟩ = some (.int .i64 z)) (go_keep)
    (first | (go_at_call 19; refine (R1.out g B b (bs ++ [40]) w0 _ HC.out HN.out (by exact L1.out.drew) hB (by exact B1.out) (by simp; omega)).mono ?_; rintro e w2 ⟨he, hb2, hk2⟩; subst he; have X2 := (Kept.undrew hk2).box X1.out hbb; have y5 := box_cells X2 5; have y6 := box_cells X2 6; have y7 := HnQ.out w2 (L1.out.trans ((Kept.undrew hk2).1.mono hB))))
  have B2 : Hid (Bld B b (bs ++ [40] ++ t1) w2) := hb2
  have K2 : Hid (Kept B b w w2) := K1.out.trans hk2.undrew
  have L2 : Hid (Below w0.heap.size w0 w2) := HBel.out.trans (K2.out.1.mono hB)
  have X2 : Hid (w2.heap[w.heap.size]? = _) := X2
  clear hb2 hk2 X1 B1 K1 L1 y1 y2 y3 y5 y6 y7
  go_wp2_with fail
  refine (writeByte_b B b _ 44 w2 B2.out (by simp; omega)).mono ?_
  rintro e w3 ⟨he, hb3, hk3⟩
  subst he
  have B3 : Hid (Bld B b (bs ++ [40] ++ t1 ++ [44]) w3) := hb3
  have X3 := hk3.box X2.out hbb
  have K3 : Hid (Kept B b w w3) := K2.out.trans hk3
  have L3 : Hid (Below w0.heap.size w0 w3) := HBel.out.trans (K3.out.1.mono hB)
  have y1 := box_cells X3 5
  have y2 := box_cells X3 6
  have y3 := HnQ.out w3 L3.out
  have X3 : Hid (w3.heap[w.heap.size]? = _) := X3
  clear hb3 hk3 X2 B2 K2 L2
  go_wp2_with fail
  go_region_held3 (fun w' => w'.cell? ⟨w.heap.size, 5, none⟩ = some (.int .i64 p) ∧ w'.cell? ⟨w.heap.size, 6, none⟩ = some (.int .i64 q) ∧ w'.cell? ⟨g, q, none⟩ = some (.int .i64 z)) (go_keep)
    (first | (go_at_call 19; refine (R2.out g B b (bs ++ [40] ++ t1 ++ [44]) w0 _ HC.out HN.out (by exact L3.out.drew) hB (by exact B3.out) (by simp; omega)).mono ?_; rintro e w4 ⟨he, hb4, hk4⟩; subst he; have X4 := (Kept.undrew hk4).box X3.out hbb; have y5 := box_cells X4 5; have y6 := box_cells X4 6; have y7 := HnQ.out w4 (L3.out.trans ((Kept.undrew hk4).1.mono hB))))
  have B4 : Hid (Bld B b (bs ++ [40] ++ t1 ++ [44] ++ t2) w4) := hb4
  have K4 : Hid (Kept B b w w4) := K3.out.trans hk4.undrew
  clear hb4 hk4 X3 X4 B3 K3 L3 y1 y2 y3 y5 y6 y7
  go_wp2_with fail
  refine (writeByte_b B b _ 41 w4 B4.out (by simp; omega)).mono ?_
  rintro e w5 ⟨he, hb5, hk5⟩
  subst he
  go_wp2
  go_end0
  exact ⟨rfl, by simpa using hb5, K4.out.trans hk5⟩

set_option maxHeartbeats 1000000 in
theorem text_top (a : Option Addr) (len cap : Nat) (cs : List Col) (ns : List Int) (k : Nat) (m : Int) (text : List UInt8) (w : World) (hC : Cols w a len cs) (hs : sizesF cs = some ns) (hk : k < len) (hm : withinB m (ns.getD k 0) = true) (r : WriteIs a len cap cs ns k m text) (hl : text.length ≤ 100000) :
    Calls Tryd.prog 12 #[.slice a len cap, .int .i64 k, .int .i64 m] w fun e w' => e = .returned (.string ⟨text.toArray⟩) ∧ Below w.heap.size w w' := by
  have HC : Hid (Cols w a len cs) := hC
  have H : Hid (sizesF cs = some ns) := hs
  have R : Hid (WriteIs a len cap cs ns k m text) := r
  have K : Hid (withinB k len = true) := withinB_nat hk
  obtain ⟨z, hz⟩ : ∃ z, z = ns.getD k 0 := ⟨_, rfl⟩
  have M : Hid (withinB m z = true) := by rw [hz]; exact hm
  have HZ : Hid (z = ns.getD k 0) := hz
  have hk' : (k : Int) < len := by omega
  clear hC hs r hz hm
  go_enter Tryd.func12, Tryd.ntmps12
  go_wp2_with (first
    | (go_at_call 14; refine (sizes_yes _ _ _ cs ns _ HC.out H.out).mono ?_; rintro e w1 ⟨g, he, hg, hb⟩; subst he; have HG : Hid (_ ∧ NumsAt w1 g len ns) := hg; have hcg := hg.2 k hk; rw [← HZ.out] at hcg; clear hg)
    | (go_at_call 15; refine (within_any _ _ _).mono ?_; rintro e w' ⟨he, hw⟩; subst he; have hw := hw.symm; subst hw; first | rw [K.out] | rw [M.out])
    | (go_at_call 19; refine (R.out g w1.heap.size w1.heap.size [] w1 _ (HC.out.below hb) HG.out.2 (by exact (Below.refl _ _).alloc (Nat.le_refl _) _) (Nat.le_refl _) (by exact fresh_bld w1) (by simpa using hl)).mono ?_; rintro e w2 ⟨he, hb2, hk2⟩; subst he)
    | (go_at_call 20; refine (Build.string _ _ _ _ hb2.1 hb2.2.1).mono ?_; rintro e w3 ⟨he, hb3⟩; subst he))
  go_ret
  exact ⟨rfl, then_ hb (((Below.refl _ _).alloc (Nat.le_refl _) _).trans (hk2.1.trans hb3))⟩
end Go.Proofs.YtlcbpkdggppkaaaDoor.Colour
