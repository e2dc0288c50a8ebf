/- reckon and Eval of package expr: contracts of the calls, over the turned program. -/
import Derived.Test.YtnhhajbfohjlbaaGreatDoorExJoin
namespace Go.Proofs.YtnhhajbfohjlbaaGreatDoor.Expr
open Go.RowKit Go.Proofs.YtnhhajbfohjlbaaGreatDoor.Frame Go.Proofs.YtnhhajbfohjlbaaGreatDoor.Calc
set_option linter.unusedVariables false
set_option linter.unusedSimpArgs false

theorem undrew {B : Nat} {W w2 : World} (h : Below B W.drew w2) : Below B W w2 := ⟨h.os, h.tape, h.output, h.size, h.block⟩
theorem kept_drew {w wx : World} {o : Obj} (h : Below w.heap.size (w.alloc o) wx) : Below w.heap.size w wx := ((Below.refl _ _).alloc (Nat.le_refl _) _).trans h

set_option maxHeartbeats 2000000 in
theorem reck_number (n : Int) (v : Value) (a : Option Addr) (len c : Nat) (p : Int × Int) (w : World)
    (hM : ∀ wx, Below w.heap.size w wx → Calls Tryz.prog 64 #[v, .agg #[.int .i64 1, .int .i64 n, .slice a len c]] wx fun e w' => e = .returned (.tuple #[.int .i64 p.1, .int .i64 p.2]) ∧ Below wx.heap.size wx w') :
    Calls Tryz.prog 34 #[v, .agg #[.int .i64 1, .int .i64 n, .slice a len c]] w fun e w' => e = .returned (.tuple #[.int .i64 p.1, .int .i64 p.2]) ∧ Below w.heap.size w w' := by
  have HM : Hid (∀ wx, Below w.heap.size w wx → Calls Tryz.prog 64 #[v, .agg #[.int .i64 1, .int .i64 n, .slice a len c]] wx fun e w' => e = .returned (.tuple #[.int .i64 p.1, .int .i64 p.2]) ∧ Below w.heap.size w w' ∧ (w'.cell? ⟨w.heap.size, 0, none⟩ = wx.cell? ⟨w.heap.size, 0, none⟩ ∧ w'.cell? ⟨w.heap.size, 1, none⟩ = wx.cell? ⟨w.heap.size, 1, none⟩ ∧ w'.cell? ⟨w.heap.size, 2, none⟩ = wx.cell? ⟨w.heap.size, 2, none⟩ ∨ wx.heap.size ≤ w.heap.size)) := fun wx hb => (hM wx hb).mono fun e w' h => ⟨h.1, then_ hb h.2, by
    by_cases hs : w.heap.size < wx.heap.size
    · exact .inl ⟨h.2.cell (p := ⟨w.heap.size, 0, none⟩) hs, h.2.cell (p := ⟨w.heap.size, 1, none⟩) hs, h.2.cell (p := ⟨w.heap.size, 2, none⟩) hs⟩
    · exact .inr (by omega)⟩
  have W : Hid (wayN 1 = 64) := rfl
  clear hM
  obtain ⟨p1, p2⟩ := p
  go_enter Tryz.func34, Tryz.ntmps34
  go_wp2_with fail
  go_region_held3 (fun w' => w'.cell? ⟨w.heap.size, 0, none⟩ = some (.int .i64 1) ∧ w'.cell? ⟨w.heap.size, 1, none⟩ = some (.int .i64 n) ∧ w'.cell? ⟨w.heap.size, 2, none⟩ = some (.slice a len c)) (go_keep)
    (first | (go_at_call 42; refine (way_any _ _ _).mono ?_; rintro e w1 ⟨he, hw⟩; subst he; have hw := hw.symm; subst hw; rw [W.out]) | (go_at_call 64; refine (HM.out _ ((Below.refl _ _).alloc (Nat.le_refl _) _).drew).mono ?_; rintro e w1 ⟨he, hb, hcc⟩; subst he; have hb : Hid (Below w.heap.size w w1) := hb; replace hcc := hcc.resolve_right (by simp); obtain ⟨g0, g1, g2⟩ := hcc))
  all_goals
    go_wp2_with fail
    go_ret2
    exact ⟨rfl, hb.out⟩

set_option maxHeartbeats 2000000 in
theorem reck_variable (n : Int) (v : Value) (a : Option Addr) (len c : Nat) (p : Int × Int) (w : World)
    (hM : ∀ wx, Below w.heap.size w wx → Calls Tryz.prog 65 #[v, .agg #[.int .i64 2, .int .i64 n, .slice a len c]] wx fun e w' => e = .returned (.tuple #[.int .i64 p.1, .int .i64 p.2]) ∧ Below wx.heap.size wx w') :
    Calls Tryz.prog 34 #[v, .agg #[.int .i64 2, .int .i64 n, .slice a len c]] w fun e w' => e = .returned (.tuple #[.int .i64 p.1, .int .i64 p.2]) ∧ Below w.heap.size w w' := by
  have HM : Hid (∀ wx, Below w.heap.size w wx → Calls Tryz.prog 65 #[v, .agg #[.int .i64 2, .int .i64 n, .slice a len c]] wx fun e w' => e = .returned (.tuple #[.int .i64 p.1, .int .i64 p.2]) ∧ Below w.heap.size w w' ∧ (w'.cell? ⟨w.heap.size, 0, none⟩ = wx.cell? ⟨w.heap.size, 0, none⟩ ∧ w'.cell? ⟨w.heap.size, 1, none⟩ = wx.cell? ⟨w.heap.size, 1, none⟩ ∧ w'.cell? ⟨w.heap.size, 2, none⟩ = wx.cell? ⟨w.heap.size, 2, none⟩ ∨ wx.heap.size ≤ w.heap.size)) := fun wx hb => (hM wx hb).mono fun e w' h => ⟨h.1, then_ hb h.2, by
    by_cases hs : w.heap.size < wx.heap.size
    · exact .inl ⟨h.2.cell (p := ⟨w.heap.size, 0, none⟩) hs, h.2.cell (p := ⟨w.heap.size, 1, none⟩) hs, h.2.cell (p := ⟨w.heap.size, 2, none⟩) hs⟩
    · exact .inr (by omega)⟩
  have W : Hid (wayN 2 = 65) := rfl
  clear hM
  obtain ⟨p1, p2⟩ := p
  go_enter Tryz.func34, Tryz.ntmps34
  go_wp2_with fail
  go_region_held3 (fun w' => w'.cell? ⟨w.heap.size, 0, none⟩ = some (.int .i64 2) ∧ w'.cell? ⟨w.heap.size, 1, none⟩ = some (.int .i64 n) ∧ w'.cell? ⟨w.heap.size, 2, none⟩ = some (.slice a len c)) (go_keep)
    (first | (go_at_call 42; refine (way_any _ _ _).mono ?_; rintro e w1 ⟨he, hw⟩; subst he; have hw := hw.symm; subst hw; rw [W.out]) | (go_at_call 65; refine (HM.out _ ((Below.refl _ _).alloc (Nat.le_refl _) _).drew).mono ?_; rintro e w1 ⟨he, hb, hcc⟩; subst he; have hb : Hid (Below w.heap.size w w1) := hb; replace hcc := hcc.resolve_right (by simp); obtain ⟨g0, g1, g2⟩ := hcc))
  all_goals
    go_wp2_with fail
    go_ret2
    exact ⟨rfl, hb.out⟩

set_option maxHeartbeats 2000000 in
theorem reck_negated (n : Int) (v : Value) (a : Option Addr) (len c : Nat) (p : Int × Int) (w : World)
    (hM : ∀ wx, Below w.heap.size w wx → Calls Tryz.prog 66 #[v, .agg #[.int .i64 3, .int .i64 n, .slice a len c]] wx fun e w' => e = .returned (.tuple #[.int .i64 p.1, .int .i64 p.2]) ∧ Below wx.heap.size wx w') :
    Calls Tryz.prog 34 #[v, .agg #[.int .i64 3, .int .i64 n, .slice a len c]] w fun e w' => e = .returned (.tuple #[.int .i64 p.1, .int .i64 p.2]) ∧ Below w.heap.size w w' := by
  have HM : Hid (∀ wx, Below w.heap.size w wx → Calls Tryz.prog 66 #[v, .agg #[.int .i64 3, .int .i64 n, .slice a len c]] wx fun e w' => e = .returned (.tuple #[.int .i64 p.1, .int .i64 p.2]) ∧ Below w.heap.size w w' ∧ (w'.cell? ⟨w.heap.size, 0, none⟩ = wx.cell? ⟨w.heap.size, 0, none⟩ ∧ w'.cell? ⟨w.heap.size, 1, none⟩ = wx.cell? ⟨w.heap.size, 1, none⟩ ∧ w'.cell? ⟨w.heap.size, 2, none⟩ = wx.cell? ⟨w.heap.size, 2, none⟩ ∨ wx.heap.size ≤ w.heap.size)) := fun wx hb => (hM wx hb).mono fun e w' h => ⟨h.1, then_ hb h.2, by
    by_cases hs : w.heap.size < wx.heap.size
    · exact .inl ⟨h.2.cell (p := ⟨w.heap.size, 0, none⟩) hs, h.2.cell (p := ⟨w.heap.size, 1, none⟩) hs, h.2.cell (p := ⟨w.heap.size, 2, none⟩) hs⟩
    · exact .inr (by omega)⟩
  have W : Hid (wayN 3 = 66) := rfl
  clear hM
  obtain ⟨p1, p2⟩ := p
  go_enter Tryz.func34, Tryz.ntmps34
  go_wp2_with fail
  go_region_held3 (fun w' => w'.cell? ⟨w.heap.size, 0, none⟩ = some (.int .i64 3) ∧ w'.cell? ⟨w.heap.size, 1, none⟩ = some (.int .i64 n) ∧ w'.cell? ⟨w.heap.size, 2, none⟩ = some (.slice a len c)) (go_keep)
    (first | (go_at_call 42; refine (way_any _ _ _).mono ?_; rintro e w1 ⟨he, hw⟩; subst he; have hw := hw.symm; subst hw; rw [W.out]) | (go_at_call 66; refine (HM.out _ ((Below.refl _ _).alloc (Nat.le_refl _) _).drew).mono ?_; rintro e w1 ⟨he, hb, hcc⟩; subst he; have hb : Hid (Below w.heap.size w w1) := hb; replace hcc := hcc.resolve_right (by simp); obtain ⟨g0, g1, g2⟩ := hcc))
  all_goals
    go_wp2_with fail
    go_ret2
    exact ⟨rfl, hb.out⟩

set_option maxHeartbeats 2000000 in
theorem reck_turned (n : Int) (v : Value) (a : Option Addr) (len c : Nat) (p : Int × Int) (w : World)
    (hM : ∀ wx, Below w.heap.size w wx → Calls Tryz.prog 67 #[v, .agg #[.int .i64 4, .int .i64 n, .slice a len c]] wx fun e w' => e = .returned (.tuple #[.int .i64 p.1, .int .i64 p.2]) ∧ Below wx.heap.size wx w') :
    Calls Tryz.prog 34 #[v, .agg #[.int .i64 4, .int .i64 n, .slice a len c]] w fun e w' => e = .returned (.tuple #[.int .i64 p.1, .int .i64 p.2]) ∧ Below w.heap.size w w' := by
  have HM : Hid (∀ wx, Below w.heap.size w wx → Calls Tryz.prog 67 #[v, .agg #[.int .i64 4, .int .i64 n, .slice a len c]] wx fun e w' => e = .returned (.tuple #[.int .i64 p.1, .int .i64 p.2]) ∧ Below w.heap.size w w' ∧ (w'.cell? ⟨w.heap.size, 0, none⟩ = wx.cell? ⟨w.heap.size, 0, none⟩ ∧ w'.cell? ⟨w.heap.size, 1, none⟩ = wx.cell? ⟨w.heap.size, 1, none⟩ ∧ w'.cell? ⟨w.heap.size, 2, none⟩ = wx.cell? ⟨w.heap.size, 2, none⟩ ∨ wx.heap.size ≤ w.heap.size)) := fun wx hb => (hM wx hb).mono fun e w' h => ⟨h.1, then_ hb h.2, by
    by_cases hs : w.heap.size < wx.heap.size
    · exact .inl ⟨h.2.cell (p := ⟨w.heap.size, 0, none⟩) hs, h.2.cell (p := ⟨w.heap.size, 1, none⟩) hs, h.2.cell (p := ⟨w.heap.size, 2, none⟩) hs⟩
    · exact .inr (by omega)⟩
  have W : Hid (wayN 4 = 67) := rfl
  clear hM
  obtain ⟨p1, p2⟩ := p
  go_enter Tryz.func34, Tryz.ntmps34
  go_wp2_with fail
  go_region_held3 (fun w' => w'.cell? ⟨w.heap.size, 0, none⟩ = some (.int .i64 4) ∧ w'.cell? ⟨w.heap.size, 1, none⟩ = some (.int .i64 n) ∧ w'.cell? ⟨w.heap.size, 2, none⟩ = some (.slice a len c)) (go_keep)
    (first | (go_at_call 42; refine (way_any _ _ _).mono ?_; rintro e w1 ⟨he, hw⟩; subst he; have hw := hw.symm; subst hw; rw [W.out]) | (go_at_call 67; refine (HM.out _ ((Below.refl _ _).alloc (Nat.le_refl _) _).drew).mono ?_; rintro e w1 ⟨he, hb, hcc⟩; subst he; have hb : Hid (Below w.heap.size w w1) := hb; replace hcc := hcc.resolve_right (by simp); obtain ⟨g0, g1, g2⟩ := hcc))
  all_goals
    go_wp2_with fail
    go_ret2
    exact ⟨rfl, hb.out⟩

set_option maxHeartbeats 2000000 in
theorem reck_joined (n : Int) (v : Value) (a : Option Addr) (len c : Nat) (p : Int × Int) (w : World)
    (hM : ∀ wx, Below w.heap.size w wx → Calls Tryz.prog 68 #[v, .agg #[.int .i64 5, .int .i64 n, .slice a len c]] wx fun e w' => e = .returned (.tuple #[.int .i64 p.1, .int .i64 p.2]) ∧ Below wx.heap.size wx w') :
    Calls Tryz.prog 34 #[v, .agg #[.int .i64 5, .int .i64 n, .slice a len c]] w fun e w' => e = .returned (.tuple #[.int .i64 p.1, .int .i64 p.2]) ∧ Below w.heap.size w w' := by
  have HM : Hid (∀ wx, Below w.heap.size w wx → Calls Tryz.prog 68 #[v, .agg #[.int .i64 5, .int .i64 n, .slice a len c]] wx fun e w' => e = .returned (.tuple #[.int .i64 p.1, .int .i64 p.2]) ∧ Below w.heap.size w w' ∧ (w'.cell? ⟨w.heap.size, 0, none⟩ = wx.cell? ⟨w.heap.size, 0, none⟩ ∧ w'.cell? ⟨w.heap.size, 1, none⟩ = wx.cell? ⟨w.heap.size, 1, none⟩ ∧ w'.cell? ⟨w.heap.size, 2, none⟩ = wx.cell? ⟨w.heap.size, 2, none⟩ ∨ wx.heap.size ≤ w.heap.size)) := fun wx hb => (hM wx hb).mono fun e w' h => ⟨h.1, then_ hb h.2, by
    by_cases hs : w.heap.size < wx.heap.size
    · exact .inl ⟨h.2.cell (p := ⟨w.heap.size, 0, none⟩) hs, h.2.cell (p := ⟨w.heap.size, 1, none⟩) hs, h.2.cell (p := ⟨w.heap.size, 2, none⟩) hs⟩
    · exact .inr (by omega)⟩
  have W : Hid (wayN 5 = 68) := rfl
  clear hM
  obtain ⟨p1, p2⟩ := p
  go_enter Tryz.func34, Tryz.ntmps34
  go_wp2_with fail
  go_region_held3 (fun w' => w'.cell? ⟨w.heap.size, 0, none⟩ = some (.int .i64 5) ∧ w'.cell? ⟨w.heap.size, 1, none⟩ = some (.int .i64 n) ∧ w'.cell? ⟨w.heap.size, 2, none⟩ = some (.slice a len c)) (go_keep)
    (first | (go_at_call 42; refine (way_any _ _ _).mono ?_; rintro e w1 ⟨he, hw⟩; subst he; have hw := hw.symm; subst hw; rw [W.out]) | (go_at_call 68; refine (HM.out _ ((Below.refl _ _).alloc (Nat.le_refl _) _).drew).mono ?_; rintro e w1 ⟨he, hb, hcc⟩; subst he; have hb : Hid (Below w.heap.size w w1) := hb; replace hcc := hcc.resolve_right (by simp); obtain ⟨g0, g1, g2⟩ := hcc))
  all_goals
    go_wp2_with fail
    go_ret2
    exact ⟨rfl, hb.out⟩

set_option maxHeartbeats 2000000 in
theorem reck_chosen (n : Int) (v : Value) (a : Option Addr) (len c : Nat) (p : Int × Int) (w : World)
    (hM : ∀ wx, Below w.heap.size w wx → Calls Tryz.prog 69 #[v, .agg #[.int .i64 6, .int .i64 n, .slice a len c]] wx fun e w' => e = .returned (.tuple #[.int .i64 p.1, .int .i64 p.2]) ∧ Below wx.heap.size wx w') :
    Calls Tryz.prog 34 #[v, .agg #[.int .i64 6, .int .i64 n, .slice a len c]] w fun e w' => e = .returned (.tuple #[.int .i64 p.1, .int .i64 p.2]) ∧ Below w.heap.size w w' := by
  have HM : Hid (∀ wx, Below w.heap.size w wx → Calls Tryz.prog 69 #[v, .agg #[.int .i64 6, .int .i64 n, .slice a len c]] wx fun e w' => e = .returned (.tuple #[.int .i64 p.1, .int .i64 p.2]) ∧ Below w.heap.size w w' ∧ (w'.cell? ⟨w.heap.size, 0, none⟩ = wx.cell? ⟨w.heap.size, 0, none⟩ ∧ w'.cell? ⟨w.heap.size, 1, none⟩ = wx.cell? ⟨w.heap.size, 1, none⟩ ∧ w'.cell? ⟨w.heap.size, 2, none⟩ = wx.cell? ⟨w.heap.size, 2, none⟩ ∨ wx.heap.size ≤ w.heap.size)) := fun wx hb => (hM wx hb).mono fun e w' h => ⟨h.1, then_ hb h.2, by
    by_cases hs : w.heap.size < wx.heap.size
    · exact .inl ⟨h.2.cell (p := ⟨w.heap.size, 0, none⟩) hs, h.2.cell (p := ⟨w.heap.size, 1, none⟩) hs, h.2.cell (p := ⟨w.heap.size, 2, none⟩) hs⟩
    · exact .inr (by omega)⟩
  have W : Hid (wayN 6 = 69) := rfl
  clear hM
  obtain ⟨p1, p2⟩ := p
  go_enter Tryz.func34, Tryz.ntmps34
  go_wp2_with fail
  go_region_held3 (fun w' => w'.cell? ⟨w.heap.size, 0, none⟩ = some (.int .i64 6) ∧ w'.cell? ⟨w.heap.size, 1, none⟩ = some (.int .i64 n) ∧ w'.cell? ⟨w.heap.size, 2, none⟩ = some (.slice a len c)) (go_keep)
    (first | (go_at_call 42; refine (way_any _ _ _).mono ?_; rintro e w1 ⟨he, hw⟩; subst he; have hw := hw.symm; subst hw; rw [W.out]) | (go_at_call 69; refine (HM.out _ ((Below.refl _ _).alloc (Nat.le_refl _) _).drew).mono ?_; rintro e w1 ⟨he, hb, hcc⟩; subst he; have hb : Hid (Below w.heap.size w w1) := hb; replace hcc := hcc.resolve_right (by simp); obtain ⟨g0, g1, g2⟩ := hcc))
  all_goals
    go_wp2_with fail
    go_ret2
    exact ⟨rfl, hb.out⟩

theorem parts_kinds {vars k n : Int} {ks : List Ex} (h : partsB vars ⟨k, n, ks⟩ = true) :
    (k = 1 ∧ ks = []) ∨ (k = 2 ∧ ks = [] ∧ 0 ≤ n ∧ n < vars) ∨ (k = 3 ∧ ∃ x, ks = [x]) ∨ (k = 4 ∧ ∃ x, ks = [x]) ∨ (k = 5 ∧ ∃ x y, ks = [x, y]) ∨ (k = 6 ∧ ∃ x y z, ks = [x, y, z]) := by
  have h1 := parts_node h
  have l0 : ks.length = 0 → ks = [] := List.eq_nil_of_length_eq_zero
  have l1 : ks.length = 1 → ∃ x, ks = [x] := fun h => List.length_eq_one_iff.1 h
  have l2 : ks.length = 2 → ∃ x y, ks = [x, y] := fun h => by
    match ks, h with
    | [x, y], _ => exact ⟨x, y, rfl⟩
  have l3 : ks.length = 3 → ∃ x y z, ks = [x, y, z] := fun h => by
    match ks, h with
    | [x, y, z], _ => exact ⟨x, y, z, rfl⟩
  unfold nodeB at h1
  split at h1
  · simp at h1; exact .inl ⟨‹_›, by simpa using h1⟩
  split at h1
  · simp at h1; exact .inr (.inl ⟨‹_›, by simpa using h1.1, h1.2.1, h1.2.2⟩)
  split at h1
  · simp at h1; exact .inr (.inr (.inl ⟨‹_›, l1 (by simpa using h1)⟩))
  split at h1
  · simp at h1; exact .inr (.inr (.inr (.inl ⟨‹_›, l1 (by simpa using h1)⟩)))
  split at h1
  · simp at h1; exact .inr (.inr (.inr (.inr (.inl ⟨‹_›, l2 h1.1⟩))))
  split at h1
  · simp at h1; exact .inr (.inr (.inr (.inr (.inr ⟨‹_›, l3 (by simpa using h1)⟩))))
  · cases h1

/-- reckon, of any right expression -/
theorem reck_all (zs : List Int) : ∀ t, Reck zs t := by
  refine Ex.ind fun k n ks ih w a ea c elen ec hX hz hp => ?_
  have hkids : ∀ x, x ∈ ks → Reck zs x ∧ partsB elen x = true := fun x hx => ⟨ih x hx, parts_kid hp hx⟩
  show Calls Tryz.prog 34 #[.slice ea elen ec, .agg #[.int .i64 k, .int .i64 n, .slice a ks.length c]] w _
  rw [val_eq]
  rcases parts_kinds hp with ⟨rfl, rfl⟩ | ⟨rfl, rfl, h0, h1⟩ | ⟨rfl, x, rfl⟩ | ⟨rfl, x, rfl⟩ | ⟨rfl, x, y, rfl⟩ | ⟨rfl, x, y, z, rfl⟩
  · exact reck_number n _ a _ c (n, 0) w fun wx hb => number_any 1 n a ea 0 c elen ec wx
  · exact reck_variable n _ a _ c (zs.getD n.toNat 0, 0) w fun wx hb => variable_any _ _ _ _ _ _ _ _ zs _ (hz.below hb) h0 h1
  · exact reck_negated n _ a _ c _ w fun wx hb => negated_any zs _ _ x _ _ _ _ _ _ (hX.below hb) (hz.below hb) (hkids x (by simp)).1 (hkids x (by simp)).2
  · exact reck_turned n _ a _ c _ w fun wx hb => turned_any zs _ _ x _ _ _ _ _ _ (hX.below hb) (hz.below hb) (hkids x (by simp)).1 (hkids x (by simp)).2
  · exact reck_joined n _ a _ c _ w fun wx hb => joined_any zs _ _ x y _ _ _ _ _ _ (hX.below hb) (hz.below hb) (hkids x (by simp)).1 (hkids y (by simp)).1 (hkids x (by simp)).2 (hkids y (by simp)).2
  · exact reck_chosen n _ a _ c _ w fun wx hb => chosen_any zs _ _ x y z _ _ _ _ _ _ (hX.below hb) (hz.below hb) (hkids x (by simp)).1 (hkids y (by simp)).1 (hkids z (by simp)).1 (hkids x (by simp)).2 (hkids y (by simp)).2 (hkids z (by simp)).2

theorem rightB_parts {vars : Int} {t : Ex} (h : rightB vars t = true) : partsB vars t = true := by
  unfold rightB at h; rw [Bool.and_eq_true] at h; exact h.2

set_option maxHeartbeats 1000000 in
theorem eval_any (zs : List Int) (t : Ex) (w : World) (a ea : Option Addr) (c elen ec : Nat) (hX : X w t a) (hz : Nm w ea elen zs) :
    Calls Tryz.prog 19 #[.agg #[.int .i64 t.kind, .int .i64 t.num, .slice a t.kids.length c], .slice ea elen ec] w fun e w' => e = .returned (.tuple #[.int .i64 (evalF zs t).1, .int .i64 (evalF zs t).2]) ∧ Below w.heap.size w w' := by
  have RT : Hid (∀ wx, Below w.heap.size w wx → Calls Tryz.prog 6 #[.agg #[.int .i64 t.kind, .int .i64 t.num, .slice a t.kids.length c], .int .i64 elen] wx fun e w' => e = .returned (.bool (rightB elen t)) ∧ Below wx.heap.size wx w') := fun wx hb => right_any t wx a c elen (hX.below hb)
  cases hr : rightB elen t with
  | false =>
    have R : Hid (rightB elen t = false) := hr
    have E : Hid (evalF zs t = (0, 1)) := by simp only [Hid, evalF, hz.1.1, hr]; rfl
    clear hr hX hz
    go_enter Tryz.func19, Tryz.ntmps19
    go_wp2_with (go_at_call 6; refine (RT.out _ ((Below.refl _ _).alloc (Nat.le_refl _) _)).mono ?_; rintro e w1 ⟨he, hb⟩; subst he; rw [R.out])
    go_ret2
    exact ⟨ret2 E.out, step2 hb⟩
  | true =>
    have R : Hid (rightB elen t = true) := hr
    have E : Hid (evalF zs t = valF zs t) := by simp only [Hid, evalF, hz.1.1, hr]; rfl
    have RC : Hid (∀ wx, Below w.heap.size w wx → Calls Tryz.prog 34 #[.slice ea elen ec, .agg #[.int .i64 t.kind, .int .i64 t.num, .slice a t.kids.length c]] wx fun e w' => e = .returned (.tuple #[.int .i64 (valF zs t).1, .int .i64 (valF zs t).2]) ∧ Below wx.heap.size wx w') := fun wx hb => reck_all zs t wx a ea c elen ec (hX.below hb) (hz.below hb) (rightB_parts hr)
    clear hr hX hz
    go_enter Tryz.func19, Tryz.ntmps19
    go_wp2_with fail
    refine (RT.out _ ((Below.refl _ _).alloc (Nat.le_refl _) _)).mono ?_
    rintro e w1 ⟨he, hb⟩
    subst he
    rw [R.out]
    have K : Hid (Below w.heap.size w w1) := step2 hb
    obtain ⟨hc, hf⟩ := bcell hb
    clear hb
    go_wp2_with fail
    refine (RC.out _ K.out).mono ?_
    rintro e w2 ⟨he, hb2⟩
    subst he
    go_wp2_with fail
    go_ret2
    exact ⟨ret2 E.out, then_ K.out hb2⟩
end Go.Proofs.YtnhhajbfohjlbaaGreatDoor.Expr
