/- memberOf, readInt, read, readPair and Read of package colour, of texts that are read: contracts of the calls, over the turned program. -/
import Derived.Test.YtlcbpkdggppkaaaDoorColCut2
import Derived.Lib.AtoiErrMem
namespace Go.Proofs.YtlcbpkdggppkaaaDoor.Colour
open Go.RowKit Go.Proofs.YtlcbpkdggppkaaaDoor.Frame Go.Deep
set_option linter.unusedVariables false
attribute [local go_sem ↓] Go.wp_at_zero Go.wp_at_succ
theorem ret2b {a b : Int} {p : Bool} (h : a = b) : Ending.returned (.tuple #[.int .i64 a, .bool p]) = .returned (.tuple #[.int .i64 b, .bool p]) := by rw [h]

set_option maxHeartbeats 1000000 in
theorem memberOf_in (c : Col) (size n : Int) (w : World) (h1 : baseF c ≤ n) (h2 : n ≤ baseF c + (size - 1)) (s1 : 1 ≤ size) (s2 : size ≤ 1024) (b1 : -9223372036854775808 ≤ baseF c) (b2 : baseF c + (size - 1) ≤ 9223372036854775807) :
    Calls Tryd.prog 35 #[.agg #[.string c.name, .int .i64 c.kind, .int .i64 c.lo, .int .i64 c.hi, .slice c.na c.names.length c.nc, .int .i64 c.first, .int .i64 c.thn], .int .i64 size, .int .i64 n] w fun e w' => e = .returned (.tuple #[.int .i64 (n - baseF c), .bool true]) ∧ Below w.heap.size w w' := by
  have C : Hid (∀ w, Calls Tryd.prog 18 #[.agg #[.string c.name, .int .i64 c.kind, .int .i64 c.lo, .int .i64 c.hi, .slice c.na c.names.length c.nc, .int .i64 c.first, .int .i64 c.thn]] w fun e w' => e = .returned (.int .i64 (baseF c)) ∧ Below w.heap.size w w') := base_any c
  go_enter Tryd.func35, Tryd.ntmps35
  go_wp2_with (go_at_call 18; refine (C.out _).mono ?_; rintro e w' ⟨he, hb⟩; subst he)
  go_ret2
  exact ⟨rfl, then_ ((Below.refl _ _).alloc (Nat.le_refl _) _) hb⟩

theorem atoi_ok (s : ByteArray) (n : Int) (hl : s.size ≤ 18) (h : Lib.atoi s.data.toList = some n) (w : World) :
    Calls Tryd.prog 34 #[.string s] w fun e w' => e = .returned (.tuple #[.int .i64 n, .nilIface]) ∧ Below w.heap.size w w' := by
  refine (Tryd.strconv_Atoi s n hl h w).mono ?_
  rintro e w' ⟨he, t, rfl⟩
  exact ⟨he, Lib.bytesWorld_below _ _ _⟩

set_option maxHeartbeats 1000000 in
theorem readInt_in (c : Col) (size : Int) (s : ByteArray) (x : Nat) (w : World) (hl : s.size ≤ 18) (ha : Lib.atoi s.data.toList = some (x : Int)) (hx : x < 100) (hd : (⟨(Lib.decDigits x).toArray⟩ : ByteArray) = s) (h1 : baseF c ≤ x) (h2 : x ≤ baseF c + (size - 1)) (s1 : 1 ≤ size) (s2 : size ≤ 1024) (b1 : -9223372036854775808 ≤ baseF c) :
    Calls Tryd.prog 25 #[.agg #[.string c.name, .int .i64 c.kind, .int .i64 c.lo, .int .i64 c.hi, .slice c.na c.names.length c.nc, .int .i64 c.first, .int .i64 c.thn], .int .i64 size, .string s] w fun e w' => e = .returned (.tuple #[.int .i64 (x - baseF c), .bool true]) ∧ Below w.heap.size w w' := by
  have HA : Hid (Lib.atoi s.data.toList = some (x : Int)) := ha
  have HD : Hid ((⟨(Lib.decDigits x).toArray⟩ : ByteArray) = s) := hd
  have M : Hid (∀ w, Calls Tryd.prog 35 #[.agg #[.string c.name, .int .i64 c.kind, .int .i64 c.lo, .int .i64 c.hi, .slice c.na c.names.length c.nc, .int .i64 c.first, .int .i64 c.thn], .int .i64 size, .int .i64 x] w fun e w' => e = .returned (.tuple #[.int .i64 (x - baseF c), .bool true]) ∧ Below w.heap.size w w') :=
    fun w => memberOf_in c size x w h1 h2 s1 s2 b1 (by omega)
  clear ha hd h1 h2 s1 s2 b1
  go_enter Tryd.func25, Tryd.ntmps25
  go_wp2_with (first
    | (go_at_call 34; refine (atoi_ok _ _ hl HA.out _).mono ?_; rintro e w1 ⟨he, hb⟩; subst he; have hc := kept hb)
    | (go_at_call 29; refine (Tryd.strconv_Itoa_small x hx _).mono ?_; rintro e w' ⟨he, hw⟩; subst he; have hw := hw.symm; subst hw; rw [HD.out])
    | (go_at_call 35; refine (M.out _).mono ?_; rintro e w2 ⟨he, hb2⟩; subst he))
  go_ret2
  exact ⟨rfl, then_ (then_ ((Below.refl _ _).alloc (Nat.le_refl _) _) hb) hb2⟩

/-- the numbers of a row -/
def NumsAt (w : World) (g len : Nat) (ns : List Int) : Prop := ∀ j, j < len → w.cell? ⟨g, j, none⟩ = some (.int .i64 (ns.getD j 0))
theorem NumsAt.below {w w' : World} {g len : Nat} {ns : List Int} (h : NumsAt w g len ns) (hb : Below w.heap.size w w') : NumsAt w' g len ns := fun j hj =>
  (hb.cell (p := ⟨g, j, none⟩) (World.block_lt_of_cell? w _ (h j hj))).trans (h j hj)

/-- the text s is the member m of the colour k -/
def ReadIs (a : Option Addr) (len cap : Nat) (cs : List Col) (ns : List Int) (k : Nat) (s : ByteArray) (m : Int) : Prop :=
  ∀ (g : Nat) (w : World), Cols w a len cs → NumsAt w g len ns → Calls Tryd.prog 17 #[.slice a len cap, .slice (some ⟨g, 0, none⟩) len len, .int .i64 k, .string s] w fun e w' => e = .returned (.tuple #[.int .i64 m, .bool true]) ∧ Below w.heap.size w w'

set_option maxRecDepth 100000 in
set_option maxHeartbeats 2000000 in
theorem read_int (a : Option Addr) (len cap : Nat) (cs : List Col) (ns : List Int) (k : Nat) (s : ByteArray) (x : Nat) (hk : k < len) (h32 : len ≤ 32) (h1k : (cs.getD k nilCol).kind = 1) (hl : s.size ≤ 18) (ha : Lib.atoi s.data.toList = some (x : Int)) (hx : x < 100) (hd : (⟨(Lib.decDigits x).toArray⟩ : ByteArray) = s)
    (h1 : (cs.getD k nilCol).lo ≤ x) (h2 : x ≤ (cs.getD k nilCol).lo + (ns.getD k 0 - 1)) (s1 : 1 ≤ ns.getD k 0) (s2 : ns.getD k 0 ≤ 1024) :
    ReadIs a len cap cs ns k s (x - (cs.getD k nilCol).lo) := by
  intro g w hC hN
  obtain ⟨b, off, rfl, hbl, hcol⟩ := hC.at hk
  have hng := hN k hk
  generalize hcg : cs.getD k nilCol = c at *
  have hbase : baseF c = c.lo := by unfold baseF; rw [if_pos h1k]
  have R : Hid (∀ w, Calls Tryd.prog 25 #[.agg #[.string c.name, .int .i64 1, .int .i64 c.lo, .int .i64 c.hi, .slice c.na c.names.length c.nc, .int .i64 c.first, .int .i64 c.thn], .int .i64 (ns.getD k 0), .string s] w fun e w' => e = .returned (.tuple #[.int .i64 (x - c.lo), .bool true]) ∧ Below w.heap.size w w') := fun w => by
    have := readInt_in c (ns.getD k 0) s x w hl ha hx hd (by rw [hbase]; exact h1) (by rw [hbase]; exact h2) s1 s2 (by rw [hbase]; exact hcol.2.2.1.1)
    rw [hbase, h1k] at this
    exact this
  obtain ⟨⟨c0, c1, c2, c3, c4, c5, c6⟩, _, _⟩ := hcol
  rw [h1k] at c1
  have hgl : g < w.heap.size := World.block_lt_of_cell? w _ hng
  have hne1 : ¬ g = w.heap.size := by omega
  have hne2 : ¬ w.heap.size = g := by omega
  have hng2 : ∀ o, (w.alloc o).cell? ⟨g, k, none⟩ = some (.int .i64 (ns.getD k 0)) := fun o => (World.cell?_alloc_past o g k hgl).trans hng
  generalize ns.getD k 0 = z at *
  have hk' : (k : Int) < len := by omega
  have hk0 : (0 : Int) ≤ (k : Int) := by omega
  clear hC hN hcg hbase h1k ha hd h1 h2 s1 s2 hng
  go_enter Tryd.func17, Tryd.ntmps17
  go_wp2
  generalize hW : w.alloc (Obj.cells #[Value.string c.name, Value.int IntKind.i64 1, Value.int IntKind.i64 c.lo, Value.int IntKind.i64 c.hi, Value.slice c.na c.names.length c.nc, Value.int IntKind.i64 c.first, Value.int IntKind.i64 c.thn] 27) = W1
  have hcell : ∀ j, W1.cell? ⟨w.heap.size, j, none⟩ = #[Value.string c.name, Value.int IntKind.i64 1, Value.int IntKind.i64 c.lo, Value.int IntKind.i64 c.hi, Value.slice c.na c.names.length c.nc, Value.int IntKind.i64 c.first, Value.int IntKind.i64 c.thn][j]? := fun j => by
    rw [← hW]
    exact World.cell?_alloc_at _ _ _ _ rfl
  have d0 := hcell 0; have d1 := hcell 1; have d2 := hcell 2; have d3 := hcell 3; have d4 := hcell 4; have d5 := hcell 5; have d6 := hcell 6
  have dg : W1.cell? ⟨g, k, none⟩ = some (.int .i64 z) := by rw [← hW]; exact hng2 _
  have HW : Hid (Below w.heap.size w W1) := by rw [← hW]; exact (Below.refl _ _).alloc (Nat.le_refl _) _
  have hG1 : w.heap.size < W1.heap.size := by rw [← hW]; simp
  have hG2 : g < W1.heap.size := by omega
  clear hcell hW hng2 c0 c1 c2 c3 c4 c5 c6
  go_region_held3 (fun w' => w'.cell? ⟨g, k, none⟩ = some (.int .i64 z) ∧ w'.cell? ⟨w.heap.size, 0, none⟩ = some (Value.string c.name) ∧ w'.cell? ⟨w.heap.size, 1, none⟩ = some (.int .i64 1) ∧ w'.cell? ⟨w.heap.size, 2, none⟩ = some (.int .i64 c.lo) ∧ w'.cell? ⟨w.heap.size, 3, none⟩ = some (.int .i64 c.hi) ∧ w'.cell? ⟨w.heap.size, 4, none⟩ = some (.slice c.na c.names.length c.nc) ∧ w'.cell? ⟨w.heap.size, 5, none⟩ = some (.int .i64 c.first) ∧ w'.cell? ⟨w.heap.size, 6, none⟩ = some (.int .i64 c.thn)) (go_keep)
    (first | (go_at_call 25; refine (R.out _).mono ?_; rintro e w2 ⟨he, hb2⟩; subst he; have g1 := after_call hb2 hG1; have g2 := after_call hb2 hG2))
  go_wp2
  go_ret2
  exact ⟨rfl, then_ HW.out (undrew hb2)⟩
end Go.Proofs.YtlcbpkdggppkaaaDoor.Colour
