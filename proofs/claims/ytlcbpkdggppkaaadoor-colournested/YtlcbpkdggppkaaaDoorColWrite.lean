/- write of package colour: contracts of the calls, over the turned program. -/
import Derived.Test.YtlcbpkdggppkaaaDoorColRead2
import Derived.Test.YtlcbpkdggppkaaaDoorBuild
namespace Go.Proofs.YtlcbpkdggppkaaaDoor.Colour
open Go.RowKit Go.Proofs.YtlcbpkdggppkaaaDoor.Frame Go.Deep
set_option linter.unusedVariables false
attribute [local go_sem ↓] Go.wp_at_zero Go.wp_at_succ

/-- a builder of the call's own that holds these bytes -/
def Bld (B b : Nat) (bs : List UInt8) (w : World) : Prop := Lib.IsBuilderF 48 5 B b (Lib.byteCells bs) w ∧ B ≤ w.heap.size ∧ b < w.heap.size
/-- what a writer leaves as it was -/
def Kept (B b : Nat) (w w' : World) : Prop := Below B w w' ∧ Lib.OthersKept 5 (some b) w w'
theorem Kept.trans {B b : Nat} {u v w : World} (h : Kept B b u v) (k : Kept B b v w) : Kept B b u w := ⟨h.1.trans k.1, h.2.trans k.2⟩
theorem Kept.refl (B b : Nat) (w : World) : Kept B b w w := ⟨Below.refl _ _, Lib.OthersKept.refl _ _ _⟩
theorem Kept.alloc {B b : Nat} {u w : World} (h : Kept B b u w) (hB : B ≤ w.heap.size) (o : Obj) : Kept B b u (w.alloc o) := ⟨h.1.alloc hB o, h.2.alloc o⟩
theorem Bld.alloc {B b : Nat} {bs : List UInt8} {w : World} (h : Bld B b bs w) (o : Obj) : Bld B b bs (w.alloc o) := ⟨h.1.alloc o, by have := h.2.1; simp; omega, by have := h.2.2; simp; omega⟩
theorem Bld.drew {B b : Nat} {bs : List UInt8} {w : World} (h : Bld B b bs w) : Bld B b bs w.drew := h
theorem Kept.undrew {B b : Nat} {u w : World} (h : Kept B b u.drew w) : Kept B b u w := ⟨Colour.undrew h.1, fun k o hk => h.2 k o hk⟩
theorem byteCells_append (l m : List UInt8) : Lib.byteCells (l ++ m) = Lib.byteCells l ++ Lib.byteCells m := by simp [Lib.byteCells]
theorem strCells_eq (s : ByteArray) : Lib.strCells s = Lib.byteCells s.data.toList := rfl

theorem writeByte_b (B b : Nat) (bs : List UInt8) (c : UInt8) (w : World) (h : Bld B b bs w) (hl : bs.length ≤ 1000000) :
    Calls Tryd.prog 30 #[.pointer (some ⟨b, 0, none⟩), .int .u8 c.toNat] w fun e w' => e = .returned .nilIface ∧ Bld B b (bs ++ [c]) w' ∧ Kept B b w w' := by
  refine (Build.writeByte B b _ _ w h.1 (by rw [Lib.byteCells_length]; omega) h.2.1).mono ?_
  rintro e w' ⟨he, hb, hbel, hk⟩
  exact ⟨he, ⟨.inr (by rw [byteCells_append]; exact hb), Nat.le_trans h.2.1 hbel.size, Nat.lt_of_lt_of_le h.2.2 hbel.size⟩, hbel, hk⟩
theorem writeString_b (B b : Nat) (bs : List UInt8) (s : ByteArray) (w : World) (h : Bld B b bs w) (hl : bs.length + s.size ≤ 1000000) :
    Calls Tryd.prog 28 #[.pointer (some ⟨b, 0, none⟩), .string s] w fun e w' => e = .returned (.tuple #[.int .i64 s.size, .nilIface]) ∧ Bld B b (bs ++ s.data.toList) w' ∧ Kept B b w w' := by
  refine (Build.writeString B b _ s w h.1 (by rw [Lib.byteCells_length]; omega) h.2.1).mono ?_
  rintro e w' ⟨he, hb, hbel, hk⟩
  exact ⟨he, ⟨.inr (by rw [byteCells_append]; exact hb), Nat.le_trans h.2.1 hbel.size, Nat.lt_of_lt_of_le h.2.2 hbel.size⟩, hbel, hk⟩

/-- a colour's box is kept by writers -/
theorem Kept.box {B b C : Nat} {w w' : World} {cs : Array Value} {fz : Nat × Nat} (h : Kept B b w w') (hC : w.heap[C]? = some (.cells cs 27 fz)) (hne : C ≠ b) : w'.heap[C]? = some (.cells cs 27 fz) :=
  h.2 C _ hC (fun e => hne (Option.some.inj e)) (fun c f e => by injection e with e1 e2; exact absurd e2 (by decide))

/-- the member m of the colour k is written so -/
def WriteIs (a : Option Addr) (len cap : Nat) (cs : List Col) (ns : List Int) (k : Nat) (m : Int) (text : List UInt8) : Prop :=
  ∀ (g B b : Nat) (bs : List UInt8) (w0 w : World), Cols w0 a len cs → NumsAt w0 g len ns → Below w0.heap.size w0 w → w0.heap.size ≤ B → Bld B b bs w → bs.length + text.length ≤ 100000 →
    Calls Tryd.prog 19 #[.pointer (some ⟨b, 0, none⟩), .slice a len cap, .slice (some ⟨g, 0, none⟩) len len, .int .i64 k, .int .i64 m] w fun e w' => e = .returned (.tuple #[]) ∧ Bld B b (bs ++ text) w' ∧ Kept B b w w'

set_option maxRecDepth 100000 in
set_option maxHeartbeats 2000000 in
theorem write_int (a : Option Addr) (len cap : Nat) (cs : List Col) (ns : List Int) (k : Nat) (m : Int) (x : Nat) (hk : k < len) (h1k : (cs.getD k nilCol).kind = 1) (hx : x < 100) (hm : (cs.getD k nilCol).lo + m = x) :
    WriteIs a len cap cs ns k m (Lib.decDigits x) := by
  intro g B b bs w0 w hC hN hbel hB hBld hlen
  obtain ⟨bb, off, rfl, hbl, hcol⟩ := (hC.below hbel).at hk
  generalize hcg : cs.getD k nilCol = c at *
  obtain ⟨⟨c0, c1, c2, c3, c4, c5, c6⟩, _, _⟩ := hcol
  rw [h1k] at c1
  have HB : Hid (Bld B b bs w) := hBld
  have hk' : (k : Int) < len := by omega
  have hlen' : bs.length + (⟨(Lib.decDigits x).toArray⟩ : ByteArray).size ≤ 1000000 := by
    show bs.length + ((Lib.decDigits x).toArray).size ≤ 1000000
    rw [List.size_toArray]; omega
  have HL : Hid (bs.length + (⟨(Lib.decDigits x).toArray⟩ : ByteArray).size ≤ 1000000) := hlen'
  have hxx : wrap64 (c.lo + m) = (x : Int) := by rw [hm]; unfold wrap64; omega
  clear hC hN hcg h1k hBld hlen hlen' hm
  go_enter Tryd.func19, Tryd.ntmps19
  go_wp2_with (first
    | (go_at_call 29; refine (Tryd.strconv_Itoa_small x hx _).mono ?_; rintro e w' ⟨he, hw⟩; subst he; have hw := hw.symm; subst hw)
    | (go_at_call 28; refine (writeString_b B b bs _ _ (HB.out.alloc _) HL.out).mono ?_; rintro e w1 ⟨he, hb1, hk1⟩; subst he))
  go_end0
  exact ⟨rfl, hb1, ((Kept.refl _ _ _).alloc HB.out.2.1 _).trans hk1⟩

set_option maxRecDepth 100000 in
set_option maxHeartbeats 2000000 in
theorem write_enum (a : Option Addr) (len cap : Nat) (cs : List Col) (ns : List Int) (k m : Nat) (s : ByteArray) (hk : k < len) (h1k : (cs.getD k nilCol).kind = 2) (hm : m < (cs.getD k nilCol).names.length) (hs : (cs.getD k nilCol).names.getD m ByteArray.empty = s) :
    WriteIs a len cap cs ns k m s.data.toList := by
  intro g B b bs w0 w hC hN hbel hB hBld hlen
  obtain ⟨bb, off, rfl, hbl, hcol⟩ := (hC.below hbel).at hk
  generalize hcg : cs.getD k nilCol = c at *
  obtain ⟨⟨c0, c1, c2, c3, c4, c5, c6⟩, hstr, _⟩ := hcol
  rw [h1k] at c1
  obtain ⟨b2, o2, hna, hcn⟩ : ∃ b2 o2, c.na = some ⟨b2, o2, none⟩ ∧ w.cell? ⟨b2, o2 + m, none⟩ = some (.string s) := by
    rcases hstr.2 with h0 | ⟨b2, o2, h1, h2⟩
    · omega
    · exact ⟨b2, o2, h1, by rw [← hs]; exact h2 m hm⟩
  rw [hna] at c4
  have hb2l : b2 < w.heap.size := World.block_lt_of_cell? w _ hcn
  have hcn2 : ∀ o, (w.alloc o).cell? ⟨b2, o2 + m, none⟩ = some (.string s) := fun o => (World.cell?_alloc_past o b2 (o2 + m) hb2l).trans hcn
  have HB : Hid (Bld B b bs w) := hBld
  have hk' : (k : Int) < len := by omega
  have hm' : (m : Int) < c.names.length := by omega
  have HL : Hid (bs.length + s.size ≤ 1000000) := by
    have : s.data.toList.length = s.size := by simp
    show _ ≤ _
    omega
  clear hC hN hcg h1k hBld hlen hs hstr hna
  go_enter Tryd.func19, Tryd.ntmps19
  go_wp2_with (go_at_call 28; refine (writeString_b B b bs _ _ (HB.out.alloc _) HL.out).mono ?_; rintro e w1 ⟨he, hb1, hk1⟩; subst he)
  go_end0
  exact ⟨rfl, hb1, ((Kept.refl _ _ _).alloc HB.out.2.1 _).trans hk1⟩
end Go.Proofs.YtlcbpkdggppkaaaDoor.Colour
