/- The document's own Depth, Size, parts, Right, eval, Eval: contracts of the calls, over the turned program. -/
import Derived.Test.YtnhhajbfohjlbaaGreatDoorExReck
import Derived.Test.YtnhhajbfohjlbaaGreatDoorExDepth
import Derived.Test.YtnhhajbfohjlbaaGreatDoorExFew
import Derived.Test.YtnhhajbfohjlbaaGreatDoorCalcRDo
namespace Go.Proofs.YtnhhajbfohjlbaaGreatDoor.Expr
open Go.RowKit Go.Proofs.YtnhhajbfohjlbaaGreatDoor.Frame Go.Proofs.YtnhhajbfohjlbaaGreatDoor.Calc
set_option linter.unusedVariables false
set_option linter.unusedSimpArgs false

set_option maxHeartbeats 1000000 in
theorem rdepth_any : ∀ (t : Ex) (w : World) (a : Option Addr) (c : Nat), X w t a → sizeF t ≤ 1000000 →
    Calls Tryz.prog 9 #[.agg #[.int .i64 t.kind, .int .i64 t.num, .slice a t.kids.length c]] w fun e w' => e = .returned (.int .i64 (depthF t)) ∧ Below w.heap.size w w' := by
  refine Ex.ind fun k n ks ih w a c h hs => ?_
  have HX : Hid (X w ⟨k, n, ks⟩ a) := h
  have HI : Hid (∀ (x : Ex), x ∈ ks → ∀ (w : World) (a : Option Addr) (c : Nat), X w x a → sizeF x ≤ 1000000 → Calls Tryz.prog 9 #[.agg #[.int .i64 x.kind, .int .i64 x.num, .slice a x.kids.length c]] w fun e w' => e = .returned (.int .i64 (depthF x)) ∧ Below w.heap.size w w') := ih
  have hlen : ks.length ≤ 1000000 := by have := len_size k n ks; omega
  have HS : Hid (sizeF ⟨k, n, ks⟩ ≤ 1000000) := hs
  have hd : mx (ks.map depthF) ≤ 1000000 := by have h1 := depth_le_size ⟨k, n, ks⟩; rw [depth_eq] at h1; omega
  have HD : Hid (depthF ⟨k, n, ks⟩ = 1 + mx (ks.map depthF)) := depth_eq k n ks
  clear ih h hs
  show Calls Tryz.prog 9 #[.agg #[.int .i64 k, .int .i64 n, .slice a ks.length c]] w _
  obtain ⟨len, hl⟩ : ∃ len, len = ks.length := ⟨_, rfl⟩
  rw [← hl] at hlen ⊢
  have HL : Hid (len = ks.length) := hl
  clear hl
  go_enter Tryz.func9, Tryz.ntmps9
  go_wp2_with fail
  go_loopw [3, 4] (fun d i wr => ∃ j m : Nat, j ≤ len ∧ i = .int .i64 j ∧ d = .int .i64 m ∧ m ≤ 1000000 ∧ Hid (m = mx ((ks.map depthF).take j)) ∧ wr.cell? ⟨w.heap.size, 2, none⟩ = some (.slice a len c) ∧ Below w.heap.size w wr) (fun _ i _ => len - (intOf i).toNat)
  case atStart => exact ⟨0, 0, by omega, rfl, rfl, by omega, by simp [Hid, mx], by simp, (Below.refl _ _).alloc (Nat.le_refl _) _⟩
  case round =>
    obtain ⟨j, m, hj, rfl, rfl, hm, hmm, hc, hnx⟩ := hrel
    by_cases hlt : j < len
    · have hlt' : (j : Int) < len := by omega
      obtain ⟨b, off, x, ai, ci, ha, hbl, hxm, hxe, c0, c1, c2, hxx⟩ := (HX.out.below hnx).kid (i := j) (by rw [← HL.out]; exact hlt)
      subst ha
      have SX : Hid (sizeF x ≤ 1000000) := by have h1 := size_kid (k := k) (n := n) hxm; have h2 := HS.out; unfold Hid; omega
      have E1 : Hid (mx ((ks.map depthF).take (j + 1)) = max m (depthF x)) := by rw [hmm.out]; exact mx_step (by rw [← HL.out]; exact hlt) hxe
      have hdx : depthF x ≤ 1000000 := Nat.le_trans (depth_le_size x) SX.out
      have hws : w.heap.size < wr.heap.size := World.block_lt_of_cell? wr _ hc
      have CL : Hid (Calls Tryz.prog 9 #[.agg #[.int .i64 x.kind, .int .i64 x.num, .slice ai x.kids.length ci]] wr fun e w' => e = .returned (.int .i64 (depthF x)) ∧ w'.cell? ⟨w.heap.size, 2, none⟩ = some (.slice (some ⟨b, off, none⟩) len c) ∧ Hid (Below w.heap.size w w')) :=
        (HI.out x hxm wr ai ci hxx SX.out).mono fun e w' h => ⟨h.1, (h.2.cell (p := ⟨w.heap.size, 2, none⟩) hws).trans hc, fstep hnx h.2⟩
      clear hxx hxm hxe hmm
      go_wp2_with (go_at_call 9; refine CL.out.mono ?_; rintro e w1 ⟨he, hc1, hb1⟩; subst he)
      go_roundw
      case rel => exact ⟨j + 1, max m (depthF x), by omega, by go_num, by congr 1; split <;> omega, by omega, E1.out.symm, hc1, hb1.out⟩
      case measure => simp [intOf]; omega
    · have E : Hid (m = mx (ks.map depthF)) := by rw [hmm.out]; exact mx_all (by rw [← HL.out]; omega)
      clear hmm
      go_wp2_with fail
      go_ret
      exact ⟨reti (by rw [HD.out, ← E.out]; go_num), hnx⟩

set_option maxHeartbeats 1000000 in
theorem rsize_any : ∀ (t : Ex) (w : World) (a : Option Addr) (c : Nat), X w t a → sizeF t ≤ 1000000 →
    Calls Tryz.prog 11 #[.agg #[.int .i64 t.kind, .int .i64 t.num, .slice a t.kids.length c]] w fun e w' => e = .returned (.int .i64 (sizeF t)) ∧ Below w.heap.size w w' := by
  refine Ex.ind fun k n ks ih w a c h hs => ?_
  have HX : Hid (X w ⟨k, n, ks⟩ a) := h
  have HI : Hid (∀ (x : Ex), x ∈ ks → ∀ (w : World) (a : Option Addr) (c : Nat), X w x a → sizeF x ≤ 1000000 → Calls Tryz.prog 11 #[.agg #[.int .i64 x.kind, .int .i64 x.num, .slice a x.kids.length c]] w fun e w' => e = .returned (.int .i64 (sizeF x)) ∧ Below w.heap.size w w') := ih
  have hlen : ks.length ≤ 1000000 := by have := len_size k n ks; omega
  have HS : Hid (sizeF ⟨k, n, ks⟩ ≤ 1000000) := hs
  have hd : sm (ks.map sizeF) ≤ 1000000 := by have h1 := hs; rw [size_eq] at h1; omega
  have HD : Hid (sizeF ⟨k, n, ks⟩ = 1 + sm (ks.map sizeF)) := size_eq k n ks
  clear ih h hs
  show Calls Tryz.prog 11 #[.agg #[.int .i64 k, .int .i64 n, .slice a ks.length c]] w _
  obtain ⟨len, hl⟩ : ∃ len, len = ks.length := ⟨_, rfl⟩
  rw [← hl] at hlen ⊢
  have HL : Hid (len = ks.length) := hl
  clear hl
  go_enter Tryz.func11, Tryz.ntmps11
  go_wp2_with fail
  go_loopw [3, 4] (fun d i wr => ∃ j m : Nat, j ≤ len ∧ i = .int .i64 j ∧ d = .int .i64 (1 + m) ∧ m ≤ 1000000 ∧ Hid (m = sm ((ks.map sizeF).take j)) ∧ wr.cell? ⟨w.heap.size, 2, none⟩ = some (.slice a len c) ∧ Below w.heap.size w wr) (fun _ i _ => len - (intOf i).toNat)
  case atStart => exact ⟨0, 0, by omega, rfl, rfl, by omega, by simp [Hid, sm], by simp, (Below.refl _ _).alloc (Nat.le_refl _) _⟩
  case round =>
    obtain ⟨j, m, hj, rfl, rfl, hm, hmm, hc, hnx⟩ := hrel
    by_cases hlt : j < len
    · have hlt' : (j : Int) < len := by omega
      obtain ⟨b, off, x, ai, ci, ha, hbl, hxm, hxe, c0, c1, c2, hxx⟩ := (HX.out.below hnx).kid (i := j) (by rw [← HL.out]; exact hlt)
      subst ha
      have SX : Hid (sizeF x ≤ 1000000) := by have h1 := size_kid (k := k) (n := n) hxm; have h2 := HS.out; unfold Hid; omega
      have E1 : Hid (sm ((ks.map sizeF).take (j + 1)) = m + sizeF x) := by rw [hmm.out]; exact sm_step (by rw [← HL.out]; exact hlt) hxe
      have E2 : sm ((ks.map sizeF).take (j + 1)) ≤ sm (ks.map sizeF) := sm_take_le _ _
      rw [E1.out] at E2
      have hdx : sizeF x ≤ 1000000 := SX.out
      have hws : w.heap.size < wr.heap.size := World.block_lt_of_cell? wr _ hc
      have CL : Hid (Calls Tryz.prog 11 #[.agg #[.int .i64 x.kind, .int .i64 x.num, .slice ai x.kids.length ci]] wr fun e w' => e = .returned (.int .i64 (sizeF x)) ∧ w'.cell? ⟨w.heap.size, 2, none⟩ = some (.slice (some ⟨b, off, none⟩) len c) ∧ Hid (Below w.heap.size w w')) :=
        (HI.out x hxm wr ai ci hxx SX.out).mono fun e w' h => ⟨h.1, (h.2.cell (p := ⟨w.heap.size, 2, none⟩) hws).trans hc, fstep hnx h.2⟩
      clear hxx hxm hxe hmm
      go_wp2_with (go_at_call 11; refine CL.out.mono ?_; rintro e w1 ⟨he, hc1, hb1⟩; subst he)
      go_roundw
      case rel => exact ⟨j + 1, m + sizeF x, by omega, by go_num, by go_num, by omega, E1.out.symm, hc1, hb1.out⟩
      case measure => simp [intOf]; omega
    · have E : Hid (m = sm (ks.map sizeF)) := by rw [hmm.out]; exact sm_all (by rw [← HL.out]; omega)
      clear hmm
      go_wp2_with fail
      go_ret
      exact ⟨reti (by rw [HD.out, ← E.out]; go_num), hnx⟩
end Go.Proofs.YtnhhajbfohjlbaaGreatDoor.Expr
