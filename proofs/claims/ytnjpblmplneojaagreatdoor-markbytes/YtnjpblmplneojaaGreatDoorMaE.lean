/- sizeOf of package colour: a contract of the call, over the turned program. -/
import Derived.Test.YtnjpblmplneojaaGreatDoorMaD
namespace Go.Proofs.YtnjpblmplneojaaGreatDoor.Colour
open Go.RowKit Go.Proofs.YtnjpblmplneojaaGreatDoor.Frame
set_option linter.unusedVariables false

/-- behind a call that leaves what was there: its cells -/
theorem kept {W w1 : World} (hb : Below W.heap.size W w1) (b o : Nat) (h : b < W.heap.size) : w1.cell? ⟨b, o, none⟩ = W.cell? ⟨b, o, none⟩ := hb.cell (p := ⟨b, o, none⟩) h

/-- a colour: what it tells, and where its names lie -/
structure Col where
  name : ByteArray
  kind : Int
  lo : Int
  hi : Int
  names : List ByteArray
  na : Option Addr
  nc : Nat
  first : Int
  thn : Int

/-- how great a colour is, where those ahead are so great -/
def sizeOfF (c : Col) (ns : List Int) : Int :=
  if c.kind = 1 then intSizeF c.lo c.hi
  else if c.kind = 2 then (if 1024 < c.names.length then 0 else if allB c.names then c.names.length else 0)
  else if c.kind = 3 then (if withinB c.first ns.length && withinB c.thn ns.length then ns.getD c.first.toNat 0 * ns.getD c.thn.toNat 0 else 0)
  else 0

def Ints64 (c : Col) : Prop := (-9223372036854775808 ≤ c.lo ∧ c.lo ≤ 9223372036854775807) ∧ (-9223372036854775808 ≤ c.hi ∧ c.hi ≤ 9223372036854775807)
def colV (c : Col) : Value := .agg #[.string c.name, .int .i64 c.kind, .int .i64 c.lo, .int .i64 c.hi, .slice c.na c.names.length c.nc, .int .i64 c.first, .int .i64 c.thn]

set_option maxHeartbeats 1000000 in
theorem sizeOf_int (nm : ByteArray) (lo hi first thn : Int) (na : Option Addr) (nl nc : Nat) (v : Value) (w : World) (a1 : -9223372036854775808 ≤ lo) (a2 : lo ≤ 9223372036854775807) (b1 : -9223372036854775808 ≤ hi) (b2 : hi ≤ 9223372036854775807) :
    Calls Tryz.prog 88 #[.agg #[.string nm, .int .i64 1, .int .i64 lo, .int .i64 hi, .slice na nl nc, .int .i64 first, .int .i64 thn], v] w fun e w' => e = .returned (.int .i64 (intSizeF lo hi)) ∧ Below w.heap.size w w' := by
  go_enter Tryz.func88, Tryz.ntmps88
  go_wp2_with (go_at_call 96; refine (intSize_any _ _ _ a1 a2 b1 b2).mono ?_; rintro e w' ⟨he, hw⟩; subst he; have hw := hw.symm; subst hw)
  go_ret
  exact ⟨rfl, (Below.refl _ _).alloc (Nat.le_refl _) _⟩

set_option maxHeartbeats 1000000 in
theorem sizeOf_long (nm : ByteArray) (lo hi first thn : Int) (na : Option Addr) (nl nc : Nat) (v : Value) (w : World) (h : 1024 < nl) :
    Calls Tryz.prog 88 #[.agg #[.string nm, .int .i64 2, .int .i64 lo, .int .i64 hi, .slice na nl nc, .int .i64 first, .int .i64 thn], v] w fun e w' => e = .returned (.int .i64 0) ∧ Below w.heap.size w w' := by
  have h' : (1024 : Int) < nl := by omega
  go_enter Tryz.func88, Tryz.ntmps88
  go_wp2_with fail
  go_ret
  exact ⟨rfl, (Below.refl _ _).alloc (Nat.le_refl _) _⟩

set_option maxHeartbeats 1000000 in
theorem sizeOf_enum (nm : ByteArray) (lo hi first thn : Int) (na : Option Addr) (nl nc : Nat) (zs : List ByteArray) (v : Value) (w : World) (h : nl ≤ 1024) (hs : Strs w na nl zs) :
    Calls Tryz.prog 88 #[.agg #[.string nm, .int .i64 2, .int .i64 lo, .int .i64 hi, .slice na nl nc, .int .i64 first, .int .i64 thn], v] w fun e w' => e = .returned (.int .i64 (if allB zs then (nl : Int) else 0)) ∧ Below w.heap.size w w' := by
  have h' : ¬ (1024 : Int) < nl := by omega
  have HS : ∀ o, Hid (Strs (w.alloc o) na nl zs) := fun o => hs.below ((Below.refl _ w).alloc (Nat.le_refl _) o)
  clear hs
  cases hb : allB zs with
  | true =>
    have H : Hid (allB zs = true) := hb
    clear hb
    go_enter Tryz.func88, Tryz.ntmps88
    go_wp2_with (go_at_call 89; refine (allNames_any _ _ _ zs _ (HS _).out h).mono ?_; rintro e w' ⟨he, hb⟩; subst he; rw [H.out]; have hc := kept hb)
    go_ret
    exact ⟨rfl, then_ ((Below.refl _ _).alloc (Nat.le_refl _) _) hb⟩
  | false =>
    have H : Hid (allB zs = false) := hb
    clear hb
    go_enter Tryz.func88, Tryz.ntmps88
    go_wp2_with (go_at_call 89; refine (allNames_any _ _ _ zs _ (HS _).out h).mono ?_; rintro e w' ⟨he, hb⟩; subst he; rw [H.out])
    go_ret
    exact ⟨rfl, then_ ((Below.refl _ _).alloc (Nat.le_refl _) _) hb⟩

set_option maxHeartbeats 1000000 in
theorem sizeOf_other (nm : ByteArray) (kind lo hi first thn : Int) (na : Option Addr) (nl nc : Nat) (v : Value) (w : World) (h1 : ¬ kind = 1) (h2 : ¬ kind = 2) (h3 : ¬ kind = 3) :
    Calls Tryz.prog 88 #[.agg #[.string nm, .int .i64 kind, .int .i64 lo, .int .i64 hi, .slice na nl nc, .int .i64 first, .int .i64 thn], v] w fun e w' => e = .returned (.int .i64 0) ∧ Below w.heap.size w w' := by
  go_enter Tryz.func88, Tryz.ntmps88
  go_wp2
  go_ret
  exact ⟨rfl, (Below.refl _ _).alloc (Nat.le_refl _) _⟩

set_option maxHeartbeats 1000000 in
theorem sizeOf_out (nm : ByteArray) (lo hi first thn : Int) (na : Option Addr) (nl nc k cap : Nat) (a : Option Addr) (w : World) (h : (withinB first k && withinB thn k) = false) :
    Calls Tryz.prog 88 #[.agg #[.string nm, .int .i64 3, .int .i64 lo, .int .i64 hi, .slice na nl nc, .int .i64 first, .int .i64 thn], .slice a k cap] w fun e w' => e = .returned (.int .i64 0) ∧ Below w.heap.size w w' := by
  cases h1 : withinB first k with
  | false =>
    have H1 : Hid (withinB first k = false) := h1
    clear h1 h
    go_enter Tryz.func88, Tryz.ntmps88
    go_wp2_with (go_at_call 77; refine (within_any _ _ _).mono ?_; rintro e w' ⟨he, hw⟩; subst he; have hw := hw.symm; subst hw; rw [H1.out])
    go_ret
    exact ⟨rfl, (Below.refl _ _).alloc (Nat.le_refl _) _⟩
  | true =>
    have H1 : Hid (withinB first k = true) := h1
    have H2 : Hid (withinB thn k = false) := by rw [h1] at h; exact h
    clear h1 h
    go_enter Tryz.func88, Tryz.ntmps88
    go_wp2_with (go_at_call 77; refine (within_any _ _ _).mono ?_; rintro e w' ⟨he, hw⟩; subst he; have hw := hw.symm; subst hw; first | rw [H1.out] | rw [H2.out])
    go_ret
    exact ⟨rfl, (Below.refl _ _).alloc (Nat.le_refl _) _⟩

theorem withinB_nat {p k : Nat} (h : p < k) : withinB p k = true := by unfold withinB; simp; omega

set_option maxHeartbeats 1000000 in
theorem sizeOf_pair (nm : ByteArray) (lo hi : Int) (p q : Nat) (na : Option Addr) (nl nc k cap g : Nat) (x y : Int) (w : World) (hp : p < k) (hq : q < k) (hk : k ≤ cap) (hcap : cap ≤ 1024)
    (x1 : 1 ≤ x) (x2 : x ≤ 1024) (y1 : 1 ≤ y) (y2 : y ≤ 1024) (hx : w.cell? ⟨g, p, none⟩ = some (.int .i64 x)) (hy : w.cell? ⟨g, q, none⟩ = some (.int .i64 y)) :
    Calls Tryz.prog 88 #[.agg #[.string nm, .int .i64 3, .int .i64 lo, .int .i64 hi, .slice na nl nc, .int .i64 p, .int .i64 q], .slice (some ⟨g, 0, none⟩) k cap] w fun e w' => e = .returned (.int .i64 (x * y)) ∧ Below w.heap.size w w' := by
  have H1 : Hid (withinB p k = true) := withinB_nat hp
  have H2 : Hid (withinB q k = true) := withinB_nat hq
  have hg : g < w.heap.size := World.block_lt_of_cell? w _ hx
  have cx : ∀ o, (w.alloc o).cell? ⟨g, p, none⟩ = some (.int .i64 x) := fun o => (((Below.refl _ w).alloc (Nat.le_refl _) o).cell (p := ⟨g, p, none⟩) hg).trans hx
  have cy : ∀ o, (w.alloc o).cell? ⟨g, q, none⟩ = some (.int .i64 y) := fun o => (((Below.refl _ w).alloc (Nat.le_refl _) o).cell (p := ⟨g, q, none⟩) hg).trans hy
  have hp' : (p : Int) < k := by omega
  have hq' : (q : Int) < k := by omega
  have hxy : x * y ≤ 1048576 := by
    have := Int.mul_le_mul x2 y2 (by omega) (by omega)
    simpa using this
  have hxy0 : 0 ≤ x * y := Int.mul_nonneg (by omega) (by omega)
  clear hx hy
  go_enter Tryz.func88, Tryz.ntmps88
  go_wp2_with (go_at_call 77; refine (within_any _ _ _).mono ?_; rintro e w' ⟨he, hw⟩; subst he; have hw := hw.symm; subst hw; first | rw [H1.out] | rw [H2.out])
  go_quiet (fail)
  go_wp2
  go_ret
  refine ⟨reti ?_, below_drewN ((Below.refl _ _).alloc (Nat.le_refl _) _) _⟩
  rfl

/-- sizeOf tells sizeOfF -/
theorem sizeOf_any (c : Col) (ns : List Int) (g k cap : Nat) (w : World) (hlen : ns.length = k) (hk : k ≤ cap) (hcap : cap ≤ 1024) (hns : ∀ j, j < k → 1 ≤ ns.getD j 0 ∧ ns.getD j 0 ≤ 1024)
    (hcell : ∀ j, j < k → w.cell? ⟨g, j, none⟩ = some (.int .i64 (ns.getD j 0))) (hc : Ints64 c) (hs : Strs w c.na c.names.length c.names) :
    Calls Tryz.prog 88 #[.agg #[.string c.name, .int .i64 c.kind, .int .i64 c.lo, .int .i64 c.hi, .slice c.na c.names.length c.nc, .int .i64 c.first, .int .i64 c.thn], .slice (some ⟨g, 0, none⟩) k cap] w fun e w' => e = .returned (.int .i64 (sizeOfF c ns)) ∧ Below w.heap.size w w' := by
  obtain ⟨nm, kind, lo, hi, names, na, nc, first, thn⟩ := c
  obtain ⟨⟨a1, a2⟩, b1, b2⟩ := hc
  simp only at a1 a2 b1 b2 hs ⊢
  by_cases h1 : kind = 1
  · subst h1
    rw [show sizeOfF ⟨nm, 1, lo, hi, names, na, nc, first, thn⟩ ns = intSizeF lo hi from by unfold sizeOfF; rw [if_pos rfl]]
    exact sizeOf_int nm lo hi first thn na _ nc _ w a1 a2 b1 b2
  by_cases h2 : kind = 2
  · subst h2
    by_cases hl : 1024 < names.length
    · rw [show sizeOfF ⟨nm, 2, lo, hi, names, na, nc, first, thn⟩ ns = 0 from by unfold sizeOfF; simp [hl]]
      exact sizeOf_long nm lo hi first thn na _ nc _ w hl
    · rw [show sizeOfF ⟨nm, 2, lo, hi, names, na, nc, first, thn⟩ ns = if allB names then (names.length : Int) else 0 from by unfold sizeOfF; simp [hl]]
      exact sizeOf_enum nm lo hi first thn na _ nc names _ w (by omega) hs
  by_cases h3 : kind = 3
  · subst h3
    cases hw : withinB first k && withinB thn k with
    | false =>
      rw [show sizeOfF ⟨nm, 3, lo, hi, names, na, nc, first, thn⟩ ns = 0 from by unfold sizeOfF; simp only [hlen, hw]; simp]
      exact sizeOf_out nm lo hi first thn na _ nc k cap _ w hw
    | true =>
      rw [show sizeOfF ⟨nm, 3, lo, hi, names, na, nc, first, thn⟩ ns = ns.getD first.toNat 0 * ns.getD thn.toNat 0 from by unfold sizeOfF; simp only [hlen, hw]; simp]
      rw [Bool.and_eq_true] at hw
      obtain ⟨w1, w2⟩ := hw
      unfold withinB at w1 w2
      have w1 := of_decide_eq_true w1
      have w2 := of_decide_eq_true w2
      obtain ⟨p, rfl⟩ := Int.eq_ofNat_of_zero_le w1.1
      obtain ⟨q, rfl⟩ := Int.eq_ofNat_of_zero_le w2.1
      rw [Int.toNat_natCast, Int.toNat_natCast]
      have hp : p < k := by omega
      have hq : q < k := by omega
      exact sizeOf_pair nm lo hi p q na _ nc k cap g _ _ w hp hq hk hcap (hns p hp).1 (hns p hp).2 (hns q hq).1 (hns q hq).2 (hcell p hp) (hcell q hq)
  · rw [show sizeOfF ⟨nm, kind, lo, hi, names, na, nc, first, thn⟩ ns = 0 from by unfold sizeOfF; simp [h1, h2, h3]]
    exact sizeOf_other nm kind lo hi first thn na _ nc _ w h1 h2 h3
end Go.Proofs.YtnjpblmplneojaaGreatDoor.Colour
