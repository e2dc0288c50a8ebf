/- pairSizes, Parts, base and Number of package colour: contracts of the calls, over the turned program. -/
import Derived.Test.YtlcbpkdggppkaaaDoorColSize
namespace Go.Proofs.YtlcbpkdggppkaaaDoor.Colour
open Go.RowKit Go.Proofs.YtlcbpkdggppkaaaDoor.Frame Go.Deep
set_option linter.unusedVariables false

/-- where the colour k lies -/
theorem Cols.at {w : World} {a : Option Addr} {len : Nat} {cs : List Col} (h : Cols w a len cs) {k : Nat} (hk : k < len) : ∃ b off, a = some ⟨b, off, none⟩ ∧ b < w.heap.size ∧ ColAt w b (off + k * 7) (cs.getD k nilCol) := by
  rcases h.2 with h0 | ⟨b, off, ha, hc⟩
  · omega
  · exact ⟨b, off, ha, World.block_lt_of_cell? w _ (hc k hk).1.1, hc k hk⟩

set_option maxHeartbeats 1000000 in
theorem pairSizes_yes (a : Option Addr) (len cap : Nat) (cs : List Col) (ns : List Int) (k : Nat) (w : World) (h : Cols w a len cs) (hn : sizesF cs = some ns) (hk : k < len) (h3 : (cs.getD k nilCol).kind = 3) :
    Calls Tryd.prog 16 #[.slice a len cap, .int .i64 k] w fun e w' => ∃ g, e = .returned (.tuple #[.slice (some ⟨g, 0, none⟩) len len, .bool true]) ∧ (w.heap.size ≤ g ∧ ∀ j, j < len → w'.cell? ⟨g, j, none⟩ = some (.int .i64 (ns.getD j 0))) ∧ Below w.heap.size w w' := by
  have HC : Hid (Cols w a len cs) := h
  have H : Hid (sizesF cs = some ns) := hn
  obtain ⟨hl32, _, _⟩ := sizesF_out hn
  have hl32' : len ≤ 32 := by rw [← h.1]; exact hl32
  obtain ⟨b, off, rfl, hbl, hcol⟩ := h.at hk
  have hck : w.cell? ⟨b, off + k * 7 + 1, none⟩ = some (.int .i64 3) := by rw [hcol.1.2.1, h3]
  have K : Hid (withinB k len = true) := withinB_nat hk
  have hk' : (k : Int) < len := by omega
  clear h hn hcol hl32
  go_enter Tryd.func16, Tryd.ntmps16
  go_wp2_with (first
    | (go_at_call 14; refine (sizes_yes _ _ _ cs ns _ HC.out H.out).mono ?_; rintro e w' ⟨g, he, hg, hb⟩; subst he; have HG : Hid (_ ∧ _) := hg; clear hg; have hck' := (hb.cell (p := ⟨b, off + k * 7 + 1, none⟩) hbl).trans hck)
    | (go_at_call 15; refine (within_any _ _ _).mono ?_; rintro e w' ⟨he, hw⟩; subst he; have hw := hw.symm; subst hw; rw [K.out]))
  go_ret2
  exact ⟨g, rfl, HG.out, hb⟩

set_option maxHeartbeats 1000000 in
theorem parts_out (a : Option Addr) (len cap : Nat) (cs : List Col) (ns : List Int) (k : Nat) (m : Int) (w : World) (h : Cols w a len cs) (hn : sizesF cs = some ns) (hk : k < len) (h3 : (cs.getD k nilCol).kind = 3) (hm : withinB m (ns.getD k 0) = false) :
    Calls Tryd.prog 8 #[.slice a len cap, .int .i64 k, .int .i64 m] w fun e w' => e = .returned (.tuple #[.int .i64 0, .int .i64 0, .bool false]) ∧ Below w.heap.size w w' := by
  have HC : Hid (Cols w a len cs) := h
  have H : Hid (sizesF cs = some ns) := hn
  have H3 : Hid ((cs.getD k nilCol).kind = 3) := h3
  have hk' : (k : Int) < len := by omega
  obtain ⟨x, hx⟩ : ∃ x, x = ns.getD k 0 := ⟨_, rfl⟩
  have M : Hid (withinB m x = false) := by rw [hx]; exact hm
  have HX : Hid (x = ns.getD k 0) := hx
  clear h hn h3 hm hx
  go_enter Tryd.func8, Tryd.ntmps8
  go_wp2_with (first
    | (go_at_call 16; refine (pairSizes_yes _ _ _ cs ns _ _ HC.out H.out hk H3.out).mono ?_; rintro e w' ⟨g, he, hg, hb⟩; subst he; have hcp := hg.2 k hk; clear hg; rw [← HX.out] at hcp)
    | (go_at_call 15; refine (within_any _ _ _).mono ?_; rintro e w' ⟨he, hw⟩; subst he; have hw := hw.symm; subst hw; rw [M.out]))
  go_ret3
  exact ⟨rfl, hb⟩

theorem ret3 {a a' b b' : Int} {p : Bool} (h : a = a') (h' : b = b') : Ending.returned (.tuple #[.int .i64 a, .int .i64 b, .bool p]) = .returned (.tuple #[.int .i64 a', .int .i64 b', .bool p]) := by rw [h, h']

set_option maxHeartbeats 1000000 in
theorem parts_in (a : Option Addr) (len cap : Nat) (cs : List Col) (ns : List Int) (k q : Nat) (m : Int) (w : World) (h : Cols w a len cs) (hn : sizesF cs = some ns) (hk : k < len) (h3 : (cs.getD k nilCol).kind = 3) (hq : (cs.getD k nilCol).thn = q) (hqk : q < k)
    (hm : withinB m (ns.getD k 0) = true) :
    Calls Tryd.prog 8 #[.slice a len cap, .int .i64 k, .int .i64 m] w fun e w' => e = .returned (.tuple #[.int .i64 (m / ns.getD q 0), .int .i64 (m % ns.getD q 0), .bool true]) ∧ Below w.heap.size w w' := by
  have HC : Hid (Cols w a len cs) := h
  have H : Hid (sizesF cs = some ns) := hn
  have H3 : Hid ((cs.getD k nilCol).kind = 3) := h3
  obtain ⟨hl32, _, hall⟩ := sizesF_out hn
  have hall := (hall q (by rw [h.1]; omega)).2
  obtain ⟨b, off, rfl, hbl, hcol⟩ := h.at hk
  have hck : w.cell? ⟨b, off + k * 7 + 6, none⟩ = some (.int .i64 q) := by rw [hcol.1.2.2.2.2.2.2, hq]
  have hk' : (k : Int) < len := by omega
  have hql : q < len := by omega
  have hq' : (q : Int) < len := by omega
  have hl32' : len ≤ 32 := by rw [← h.1]; exact hl32
  have hm' := of_decide_eq_true (show decide _ = true from hm)
  have hx2 : ns.getD k 0 ≤ 1024 := by
    obtain ⟨_, _, ha⟩ := sizesF_out hn
    exact (ha k (by rw [h.1]; omega)).2.2
  obtain ⟨x, hx⟩ : ∃ x, x = ns.getD k 0 := ⟨_, rfl⟩
  obtain ⟨t, ht⟩ : ∃ t, t = ns.getD q 0 := ⟨_, rfl⟩
  rw [← ht] at hall ⊢
  rw [← hx] at hm hm' hx2
  obtain ⟨t1, t2⟩ := hall
  obtain ⟨m1, m2⟩ := hm'
  have m3 : m ≤ 1024 := by omega
  have M : Hid (withinB m x = true) := hm
  have HX : Hid (x = ns.getD k 0) := hx
  have HT : Hid (t = ns.getD q 0) := ht
  clear h hn h3 hm hcol hq hx ht hl32 hx2 m2
  go_enter Tryd.func8, Tryd.ntmps8
  go_wp2_with (first
    | (go_at_call 16; refine (pairSizes_yes _ _ _ cs ns _ _ HC.out H.out hk H3.out).mono ?_; rintro e w' ⟨g, he, hg, hb⟩; subst he; have hcp := hg.2 k hk; have hcq := hg.2 q hql; clear hg; rw [← HX.out] at hcp; rw [← HT.out] at hcq; have hck' := (hb.cell (p := ⟨b, off + k * 7 + 6, none⟩) hbl).trans hck)
    | (go_at_call 15; refine (within_any _ _ _).mono ?_; rintro e w' ⟨he, hw⟩; subst he; have hw := hw.symm; subst hw; rw [M.out]))
  go_quiet (fail)
  go_wp2
  go_ret3
  exact ⟨rfl, below_drewN hb _⟩

set_option maxHeartbeats 1000000 in
theorem base_int (nm : ByteArray) (lo hi first thn : Int) (na : Option Addr) (nl nc : Nat) (w : World) :
    Calls Tryd.prog 18 #[.agg #[.string nm, .int .i64 1, .int .i64 lo, .int .i64 hi, .slice na nl nc, .int .i64 first, .int .i64 thn]] w fun e w' => e = .returned (.int .i64 lo) ∧ Below w.heap.size w w' := by
  go_enter Tryd.func18, Tryd.ntmps18
  go_wp2
  go_ret
  exact ⟨rfl, (Below.refl _ _).alloc (Nat.le_refl _) _⟩
set_option maxHeartbeats 1000000 in
theorem base_other (nm : ByteArray) (kind lo hi first thn : Int) (na : Option Addr) (nl nc : Nat) (w : World) (h : ¬ kind = 1) :
    Calls Tryd.prog 18 #[.agg #[.string nm, .int .i64 kind, .int .i64 lo, .int .i64 hi, .slice na nl nc, .int .i64 first, .int .i64 thn]] w fun e w' => e = .returned (.int .i64 0) ∧ Below w.heap.size w w' := by
  go_enter Tryd.func18, Tryd.ntmps18
  go_wp2
  go_ret
  exact ⟨rfl, (Below.refl _ _).alloc (Nat.le_refl _) _⟩
/-- what the member 0 counts as -/
def baseF (c : Col) : Int := if c.kind = 1 then c.lo else 0
theorem base_any (c : Col) (w : World) :
    Calls Tryd.prog 18 #[.agg #[.string c.name, .int .i64 c.kind, .int .i64 c.lo, .int .i64 c.hi, .slice c.na c.names.length c.nc, .int .i64 c.first, .int .i64 c.thn]] w fun e w' => e = .returned (.int .i64 (baseF c)) ∧ Below w.heap.size w w' := by
  obtain ⟨nm, kind, lo, hi, names, na, nc, first, thn⟩ := c
  by_cases h : kind = 1
  · subst h
    rw [show baseF ⟨nm, 1, lo, hi, names, na, nc, first, thn⟩ = lo from by unfold baseF; rw [if_pos rfl]]
    exact base_int nm lo hi first thn na _ nc w
  · rw [show baseF ⟨nm, kind, lo, hi, names, na, nc, first, thn⟩ = 0 from by unfold baseF; rw [if_neg h]]
    exact base_other nm kind lo hi first thn na _ nc w h
end Go.Proofs.YtlcbpkdggppkaaaDoor.Colour
