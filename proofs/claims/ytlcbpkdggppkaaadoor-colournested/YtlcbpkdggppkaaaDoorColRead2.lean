/- read of an enum's and of a pair's text, and Read: contracts of the calls, over the turned program. -/
import Derived.Test.YtlcbpkdggppkaaaDoorColRead
namespace Go.Proofs.YtlcbpkdggppkaaaDoor.Colour
open Go.RowKit Go.Proofs.YtlcbpkdggppkaaaDoor.Frame Go.Deep
set_option linter.unusedVariables false

set_option maxRecDepth 100000 in
set_option maxHeartbeats 2000000 in
theorem read_enum (a : Option Addr) (len cap : Nat) (cs : List Col) (ns : List Int) (k : Nat) (s : ByteArray) (x : Nat) (hk : k < len) (h1k : (cs.getD k nilCol).kind = 2) (hl : 0 < (cs.getD k nilCol).names.length) (hl2 : (cs.getD k nilCol).names.length ≤ 1024) (hi : Lib.idxOfS (cs.getD k nilCol).names s = x) :
    ReadIs a len cap cs ns k s x := by
  intro g w hC hN
  obtain ⟨b, off, rfl, hbl, hcol⟩ := hC.at hk
  generalize hcg : cs.getD k nilCol = c at *
  obtain ⟨⟨c0, c1, c2, c3, c4, c5, c6⟩, hs, _⟩ := hcol
  rw [h1k] at c1
  obtain ⟨b2, o2, hna, hcn⟩ : ∃ b2 o2, c.na = some ⟨b2, o2, none⟩ ∧ ∀ j, j < c.names.length → w.cell? ⟨b2, o2 + j, none⟩ = some (.string (c.names.getD j ByteArray.empty)) := by
    rcases hs.2 with h0 | h
    · omega
    · exact h
  rw [hna] at c4
  have I : ∀ o, Hid (Calls Tryd.prog 26 #[.slice (some ⟨b2, o2, none⟩) c.names.length c.nc, .string s] (w.alloc o) fun e w' => e = .returned (.int .i64 x) ∧ w' = w.alloc o) := fun o => by
    have := Tryd.slices_Index_string b2 o2 c.names.length c.nc c.names s (w.alloc o) (Nat.le_refl _) (by omega) (fun j hj => (World.cell?_alloc_past o b2 (o2 + j) (World.block_lt_of_cell? w _ (hcn j hj))).trans (hcn j hj))
    rw [List.take_length, hi] at this
    exact this
  have hk' : (k : Int) < len := by omega
  clear hC hN hcg h1k hi hs hcn hna
  go_enter Tryd.func17, Tryd.ntmps17
  go_wp2_with (go_at_call 26; refine (I _).out.mono ?_; rintro e w' ⟨he, hw⟩; subst he; have hw := hw.symm; subst hw)
  go_ret2
  exact ⟨rfl, (Below.refl _ _).alloc (Nat.le_refl _) _⟩

set_option maxRecDepth 100000 in
set_option maxHeartbeats 2000000 in
theorem readPair_yes (a : Option Addr) (len cap : Nat) (cs : List Col) (ns : List Int) (s s1 s2 : ByteArray) (j p q g : Nat) (m1 m2 : Int) (nm : ByteArray) (kind lo hi : Int) (na : Option Addr) (nl nc : Nat) (w : World) (h32 : len ≤ 32) (hq : q < len)
    (hs : s.size ≤ 1000000) (ha : ∀ i (h : i < s.size), (s[i]).toNat < 128) (hp1 : Lib.hasPrefix s.data.toList [40] = true) (hq1 : Lib.hasSuffix s.data.toList [41] = true) (hj : cutL s.data.toList 0 0 = j) (h1 : 1 ≤ j) (h2 : j + 2 ≤ s.size) (e1 : s.extract 1 j = s1) (e2 : s.extract (j + 1) (s.size - 1) = s2)
    (r1 : ReadIs a len cap cs ns p s1 m1) (r2 : ReadIs a len cap cs ns q s2 m2) (z1 : 1 ≤ ns.getD q 0) (z2 : ns.getD q 0 ≤ 1024) (y1 : 0 ≤ m1) (y2 : m1 ≤ 1024) (y3 : 0 ≤ m2) (y4 : m2 ≤ 1024) (hC : Cols w a len cs) (hN : NumsAt w g len ns) :
    Calls Tryd.prog 27 #[.slice a len cap, .slice (some ⟨g, 0, none⟩) len len, .agg #[.string nm, .int .i64 kind, .int .i64 lo, .int .i64 hi, .slice na nl nc, .int .i64 p, .int .i64 q], .string s] w fun e w' => e = .returned (.tuple #[.int .i64 (m1 * ns.getD q 0 + m2), .bool true]) ∧ Below w.heap.size w w' := by
  have HCut : Hid (∀ w, Calls Tryd.prog 36 #[.string s] w fun e w' => e = .returned (.tuple #[.string s1, .string s2, .bool true]) ∧ Below w.heap.size w w') := fun w => by
    rw [← e1, ← e2]; exact cut_yes s j w hs ha hp1 hq1 hj h1 h2
  have R1 : Hid (ReadIs a len cap cs ns p s1 m1) := r1
  have R2 : Hid (ReadIs a len cap cs ns q s2 m2) := r2
  have HC : Hid (Cols w a len cs) := hC
  have HN : Hid (NumsAt w g len ns) := hN
  have hq' : (q : Int) < len := by omega
  have hgl : g < w.heap.size := World.block_lt_of_cell? w _ (hN q hq)
  have hp : 0 ≤ m1 * ns.getD q 0 := Int.mul_nonneg y1 (by omega)
  have hp' : m1 * ns.getD q 0 ≤ 1048576 := by
    have := Int.mul_le_mul y2 z2 (by omega) (by omega)
    simpa using this
  have HZ : Hid (∃ z, z = ns.getD q 0) := ⟨_, rfl⟩
  clear ha hp1 hq1 hj e1 e2 r1 r2 hC hN
  generalize hz : ns.getD q 0 = z at *
  have HZ : Hid (ns.getD q 0 = z) := hz
  clear hz
  go_enter Tryd.func27, Tryd.ntmps27
  go_wp2_with fail
  refine (HCut.out _).mono ?_
  rintro e w1 ⟨he, hb1⟩
  subst he
  have B1 := then_ ((Below.refl _ _).alloc (Nat.le_refl _) _) hb1
  have hc1 := kept hb1
  go_wp2_with fail
  refine (R1.out g w1 (HC.out.below B1) (HN.out.below B1)).mono ?_
  rintro e w2 ⟨he, hb2⟩
  subst he
  have B2 := then_ B1 hb2
  have l1 := hb1.size
  simp at l1
  have hc2 : ∀ jj, w2.cell? ⟨w.heap.size, jj, none⟩ = w1.cell? ⟨w.heap.size, jj, none⟩ := fun jj => hb2.cell (p := ⟨w.heap.size, jj, none⟩) (by show w.heap.size < _; omega)
  go_wp2_with fail
  refine (R2.out g w2 (HC.out.below B2) (HN.out.below B2)).mono ?_
  rintro e w3 ⟨he, hb3⟩
  subst he
  have B3 := then_ B2 hb3
  have l2 := hb2.size
  have hc3 : ∀ jj, w3.cell? ⟨w.heap.size, jj, none⟩ = w2.cell? ⟨w.heap.size, jj, none⟩ := fun jj => hb3.cell (p := ⟨w.heap.size, jj, none⟩) (by show w.heap.size < _; omega)
  have hn3 : w3.cell? ⟨g, q, none⟩ = some (.int .i64 z) := by rw [← HZ.out]; exact (HN.out.below B3) q hq
  go_wp2
  go_ret2
  exact ⟨rfl, B3⟩

set_option maxRecDepth 100000 in
set_option maxHeartbeats 2000000 in
theorem read_pair (a : Option Addr) (len cap : Nat) (cs : List Col) (ns : List Int) (k : Nat) (s s1 s2 : ByteArray) (j p q : Nat) (m1 m2 : Int) (hk : k < len) (h32 : len ≤ 32) (hq : q < len) (h3k : (cs.getD k nilCol).kind = 3) (hpk : (cs.getD k nilCol).first = p) (hqk : (cs.getD k nilCol).thn = q)
    (hs : s.size ≤ 1000000) (ha : ∀ i (h : i < s.size), (s[i]).toNat < 128) (hp1 : Lib.hasPrefix s.data.toList [40] = true) (hq1 : Lib.hasSuffix s.data.toList [41] = true) (hj : cutL s.data.toList 0 0 = j) (h1 : 1 ≤ j) (h2 : j + 2 ≤ s.size) (e1 : s.extract 1 j = s1) (e2 : s.extract (j + 1) (s.size - 1) = s2)
    (r1 : ReadIs a len cap cs ns p s1 m1) (r2 : ReadIs a len cap cs ns q s2 m2) (z1 : 1 ≤ ns.getD q 0) (z2 : ns.getD q 0 ≤ 1024) (y1 : 0 ≤ m1) (y2 : m1 ≤ 1024) (y3 : 0 ≤ m2) (y4 : m2 ≤ 1024) :
    ReadIs a len cap cs ns k s (m1 * ns.getD q 0 + m2) := by
  intro g w hC hN
  obtain ⟨b, off, rfl, hbl, hcol⟩ := hC.at hk
  generalize hcg : cs.getD k nilCol = c at *
  obtain ⟨⟨c0, c1, c2, c3, c4, c5, c6⟩, _, _⟩ := hcol
  rw [h3k] at c1
  rw [hpk] at c5
  rw [hqk] at c6
  have R : ∀ o, Hid (Calls Tryd.prog 27 #[.slice (some ⟨b, off, none⟩) len cap, .slice (some ⟨g, 0, none⟩) len len, .agg #[.string c.name, .int .i64 3, .int .i64 c.lo, .int .i64 c.hi, .slice c.na c.names.length c.nc, .int .i64 p, .int .i64 q], .string s] (w.alloc o) fun e w' => e = .returned (.tuple #[.int .i64 (m1 * ns.getD q 0 + m2), .bool true]) ∧ Below (w.alloc o).heap.size (w.alloc o) w') := fun o =>
    readPair_yes _ len cap cs ns s s1 s2 j p q g m1 m2 _ _ _ _ _ _ _ _ h32 hq hs ha hp1 hq1 hj h1 h2 e1 e2 r1 r2 z1 z2 y1 y2 y3 y4 (hC.below ((Below.refl _ _).alloc (Nat.le_refl _) _)) (hN.below ((Below.refl _ _).alloc (Nat.le_refl _) _))
  have hk' : (k : Int) < len := by omega
  clear hC hN hcg h3k hpk hqk ha hp1 hq1 hj e1 e2 r1 r2 z1 z2
  generalize m1 * ns.getD q 0 + m2 = z at *
  go_enter Tryd.func17, Tryd.ntmps17
  go_wp2_with (go_at_call 27; refine (R _).out.mono ?_; rintro e w' ⟨he, hb⟩; subst he)
  go_ret2
  exact ⟨rfl, then_ ((Below.refl _ _).alloc (Nat.le_refl _) _) hb⟩

set_option maxHeartbeats 1000000 in
theorem read_top (a : Option Addr) (len cap : Nat) (cs : List Col) (ns : List Int) (k : Nat) (s : ByteArray) (m : Int) (w : World) (hC : Cols w a len cs) (hs : sizesF cs = some ns) (hk : k < len) (r : ReadIs a len cap cs ns k s m) :
    Calls Tryd.prog 10 #[.slice a len cap, .int .i64 k, .string s] w fun e w' => e = .returned (.tuple #[.int .i64 m, .bool true]) ∧ Below w.heap.size w w' := by
  have HC : Hid (Cols w a len cs) := hC
  have H : Hid (sizesF cs = some ns) := hs
  have R : Hid (ReadIs a len cap cs ns k s m) := r
  have K : Hid (withinB k len = true) := withinB_nat hk
  clear hC hs r
  go_enter Tryd.func10, Tryd.ntmps10
  go_wp2_with (first
    | (go_at_call 14; refine (sizes_yes _ _ _ cs ns _ HC.out H.out).mono ?_; rintro e w1 ⟨g, he, hg, hb⟩; subst he; have HG : Hid (_ ∧ NumsAt w1 g len ns) := hg; clear hg)
    | (go_at_call 15; refine (within_any _ _ _).mono ?_; rintro e w' ⟨he, hw⟩; subst he; have hw := hw.symm; subst hw; rw [K.out])
    | (go_at_call 17; refine (R.out g w1 (HC.out.below hb) HG.out.2).mono ?_; rintro e w2 ⟨he, hb2⟩; subst he))
  go_ret2
  exact ⟨rfl, then_ hb hb2⟩
end Go.Proofs.YtlcbpkdggppkaaaDoor.Colour
