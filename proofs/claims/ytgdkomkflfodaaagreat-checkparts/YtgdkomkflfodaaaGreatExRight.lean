/- Right of package expr: a contract of the call, over the turned program. -/
import Derived.Test.YtgdkomkflfodaaaGreatExMem
import Derived.Test.YtgdkomkflfodaaaGreatCalcDo
import Derived.Deep.QuietTactic
import Derived.BigQuiet
namespace Go.Proofs.YtgdkomkflfodaaaGreat.Expr
open Go.RowKit Go.Proofs.YtgdkomkflfodaaaGreat.Frame Go.Proofs.YtgdkomkflfodaaaGreat.Calc
set_option linter.unusedVariables false

/-- all blocks but one are as they were -/
def Room (rb : Nat) (w w' : World) : Prop := w'.os = w.os ∧ w'.tape = w.tape ∧ w'.output = w.output ∧ w.heap.size ≤ w'.heap.size ∧ ∀ b, b < w.heap.size → b ≠ rb → w'.heap[b]? = w.heap[b]?
theorem Room.refl (rb : Nat) (w : World) : Room rb w w := ⟨rfl, rfl, rfl, Nat.le_refl _, fun _ _ _ => rfl⟩
theorem Room.trans {rb : Nat} {a b c : World} (h : Room rb a b) (k : Room rb b c) : Room rb a c :=
  ⟨k.1.trans h.1, k.2.1.trans h.2.1, k.2.2.1.trans h.2.2.1, Nat.le_trans h.2.2.2.1 k.2.2.2.1, fun i hi hn => (k.2.2.2.2 i (Nat.lt_of_lt_of_le hi h.2.2.2.1) hn).trans (h.2.2.2.2 i hi hn)⟩
theorem Room.of {rb : Nat} {w w' : World} (h : Below w.heap.size w w') : Room rb w w' := ⟨h.os, h.tape, h.output, h.size, fun b hb _ => h.block b hb⟩
theorem Room.alloc {rb : Nat} {a w : World} (h : Room rb a w) (o : Obj) : Room rb a (w.alloc o) := h.trans (Room.of ((Below.refl _ _).alloc (Nat.le_refl _) _))
theorem Room.setCell {rb : Nat} {a w : World} (h : Room rb a w) (k : Nat) (v : Value) : Room rb a (w.setCell ⟨rb, k, none⟩ v) :=
  h.trans ⟨rfl, rfl, rfl, by simp [World.setCell], fun b hb hn => Below.heap_setCell _ _ _ _ hn⟩
theorem Room.below {rb B : Nat} {w w' : World} (h : Room rb w w') (hB : B ≤ rb) (hs : B ≤ w.heap.size) : Below B w w' :=
  ⟨h.1, h.2.1, h.2.2.1, h.2.2.2.1, fun b hb => h.2.2.2.2 b (by omega) (by omega)⟩
theorem Room.cell {rb : Nat} {w w' : World} (h : Room rb w w') {b o : Nat} (hb : b < w.heap.size) (hn : b ≠ rb) : w'.cell? ⟨b, o, none⟩ = w.cell? ⟨b, o, none⟩ := World.cell?_of_block (w := w) (h.2.2.2.2 b hb hn)

theorem dn {B : Nat} {a w : World} (h : Below B a w) (n : Nat) : Below B a (w.drewN n) := ⟨h.os, h.tape, h.output, h.size, h.block⟩
theorem node1 {vars n : Int} {len : Nat} : nodeB vars 1 n len = ((len : Int) == 0) := by
  have : ((len : Int) == 0) = decide (len = 0) := by rw [Bool.eq_iff_iff]; simp
  rw [this]; rfl
theorem node3 {vars n : Int} {len : Nat} : nodeB vars 3 n len = ((len : Int) == 1) := by
  have : ((len : Int) == 1) = decide (len = 1) := by rw [Bool.eq_iff_iff]; simp; omega
  rw [this]; rfl
theorem node4 {vars n : Int} {len : Nat} : nodeB vars 4 n len = ((len : Int) == 1) := by
  have : ((len : Int) == 1) = decide (len = 1) := by rw [Bool.eq_iff_iff]; simp; omega
  rw [this]; rfl
theorem node6 {vars n : Int} {len : Nat} : nodeB vars 6 n len = ((len : Int) == 3) := by
  have : ((len : Int) == 3) = decide (len = 3) := by rw [Bool.eq_iff_iff]; simp; omega
  rw [this]; rfl
theorem node5t {vars n : Int} {len : Nat} (h : len = 2) : nodeB vars 5 n len = knownB n := by subst h; rfl
theorem node5f {vars n : Int} {len : Nat} (h : ¬ len = 2) : nodeB vars 5 n len = false := by simp [nodeB, h]
theorem node2a {vars n : Int} {len : Nat} (h : ¬ len = 0) : nodeB vars 2 n len = false := by simp [nodeB, h]
theorem node2b {vars n : Int} {len : Nat} (h : n < 0) : nodeB vars 2 n len = false := by simp [nodeB]; omega
theorem node2c {vars n : Int} {len : Nat} (h : len = 0) (h2 : 0 ≤ n) : nodeB vars 2 n len = decide (n < vars) := by simp [nodeB, h, h2]
theorem node_no {vars k n : Int} {len : Nat} (h1 : ¬ k = 1) (h2 : ¬ k = 2) (h3 : ¬ k = 3) (h4 : ¬ k = 4) (h5 : ¬ k = 5) (h6 : ¬ k = 6) : nodeB vars k n len = false := by
  simp [nodeB, h1, h2, h3, h4, h5, h6]

set_option maxHeartbeats 1000000 in
theorem fits_any (vars k n : Int) (a : Option Addr) (len c rb : Nat) (w : World) (hv : w.cell? ⟨rb, 0, none⟩ = some (.int .i64 vars)) (hr : rb < w.heap.size) :
    Calls Tryz.prog 112 #[.pointer (some ⟨rb, 0, none⟩), .agg #[.int .i64 k, .int .i64 n, .slice a len c]] w fun e w' => e = .returned (.bool (nodeB vars k n len)) ∧ Below w.heap.size w w' := by
  by_cases h1 : k = 1
  · subst h1
    go_enter Tryz.func112, Tryz.ntmps112
    go_wp2
    go_ret
    exact ⟨retb node1.symm, (Below.refl _ _).alloc (Nat.le_refl _) _⟩
  by_cases h2 : k = 2
  · subst h2
    by_cases hl : len = 0
    · subst hl
      by_cases hn : n < 0
      · have N : Hid (nodeB vars 2 n 0 = false) := node2b hn
        have hd : decide (0 ≤ n) = false := by simp; omega
        go_enter Tryz.func112, Tryz.ntmps112
        go_wp2_with fail
        go_quiet (fail)
        go_wp2_with fail
        go_ret
        exact ⟨by rw [N.out]; rfl, dn ((Below.refl _ _).alloc (Nat.le_refl _) _) _⟩
      · have hn' : 0 ≤ n := by omega
        have N : Hid (nodeB vars 2 n 0 = decide (n < vars)) := node2c rfl hn'
        go_enter Tryz.func112, Tryz.ntmps112
        go_wp2_with fail
        go_quiet (fail)
        go_wp2_with fail
        go_ret
        exact ⟨by rw [N.out]; rfl, dn ((Below.refl _ _).alloc (Nat.le_refl _) _) _⟩
    · have N : Hid (nodeB vars 2 n len = false) := node2a hl
      have hd : ((len : Int) == 0) = false := by simp; omega
      go_enter Tryz.func112, Tryz.ntmps112
      go_wp2_with fail
      go_quiet (fail)
      go_wp2_with fail
      go_ret
      exact ⟨by rw [N.out]; rfl, dn ((Below.refl _ _).alloc (Nat.le_refl _) _) _⟩
  by_cases h3 : k = 3
  · subst h3
    go_enter Tryz.func112, Tryz.ntmps112
    go_wp2
    go_ret
    exact ⟨retb node3.symm, (Below.refl _ _).alloc (Nat.le_refl _) _⟩
  by_cases h4 : k = 4
  · subst h4
    go_enter Tryz.func112, Tryz.ntmps112
    go_wp2
    go_ret
    exact ⟨retb node4.symm, (Below.refl _ _).alloc (Nat.le_refl _) _⟩
  by_cases h5 : k = 5
  · subst h5
    by_cases hl : len = 2
    · subst hl
      go_enter Tryz.func112, Tryz.ntmps112
      go_wp2_with (go_at_call 133; refine (known_any _ _).mono ?_; rintro e w' ⟨rfl, rfl⟩)
      go_ret
      exact ⟨retb (node5t rfl).symm, (Below.refl _ _).alloc (Nat.le_refl _) _⟩
    · have hd : ((len : Int) == 2) = false := by simp; omega
      go_enter Tryz.func112, Tryz.ntmps112
      go_wp2_with (go_at_call 133; refine (known_any _ _).mono ?_; rintro e w' ⟨rfl, rfl⟩)
      go_ret
      exact ⟨retb (node5f hl).symm, (Below.refl _ _).alloc (Nat.le_refl _) _⟩
  by_cases h6 : k = 6
  · subst h6
    go_enter Tryz.func112, Tryz.ntmps112
    go_wp2
    go_ret
    exact ⟨retb node6.symm, (Below.refl _ _).alloc (Nat.le_refl _) _⟩
  · go_enter Tryz.func112, Tryz.ntmps112
    go_wp2
    go_ret
    exact ⟨retb (node_no h1 h2 h3 h4 h5 h6).symm, (Below.refl _ _).alloc (Nat.le_refl _) _⟩

/-- what takes tells, and leaves -/
def TakesPost (rb : Nat) (vars p deep : Int) (t : Ex) (w : World) (e : Ending) (w' : World) : Prop :=
  ∃ (b : Bool) (p' : Int), e = .returned (.bool b) ∧ w'.cell? ⟨rb, 0, none⟩ = some (.int .i64 vars) ∧ w'.cell? ⟨rb, 1, none⟩ = some (.int .i64 p') ∧ w'.frozen? ⟨rb, 1, none⟩ = false ∧ Room rb w w' ∧
    (b = true → p' = p - sizeF t ∧ 0 ≤ p') ∧ (b = true ↔ (sizeF t ≤ p ∧ deep + depthF t ≤ 41 ∧ partsB vars t = true))

theorem node_len {vars k n : Int} {len : Nat} (h : nodeB vars k n len = true) : len ≤ 3 := by
  unfold nodeB at h
  repeat' split at h
  all_goals simp at h
  all_goals omega
theorem getD_map_size {ks : List Ex} {j : Nat} (h : j < ks.length) : (ks.map sizeF).getD j 0 = sizeF (ks.getD j nilEx) := by
  rw [List.getD_eq_getElem?_getD, List.getElem?_map, List.getD_eq_getElem?_getD, List.getElem?_eq_getElem h]; rfl
theorem takes_bad {vars p deep k n : Int} {ks : List Ex} {j : Nat} {x : Ex} {q : Int} (hj : j < ks.length) (hx : x = ks.getD j nilEx) (hq : q = p - 1 - sm ((ks.map sizeF).take j))
    (hno : ¬ ((sizeF x : Int) ≤ q ∧ deep + 1 + depthF x ≤ 41 ∧ partsB vars x = true)) : ¬ ((sizeF ⟨k, n, ks⟩ : Int) ≤ p ∧ deep + depthF ⟨k, n, ks⟩ ≤ 41 ∧ partsB vars ⟨k, n, ks⟩ = true) := by
  rintro ⟨h1, h2, h3⟩
  have hm : x ∈ ks := by rw [hx]; exact getD_mem hj
  refine hno ⟨?_, ?_, parts_kid h3 hm⟩
  · rw [size_eq] at h1
    have e1 := sm_take_le (ks.map sizeF) (j + 1)
    rw [take_snoc 0 (by simpa using hj), sm_snoc, getD_map_size hj, ← hx] at e1
    omega
  · have := depth_kid (k := k) (n := n) hm
    omega
theorem takes_good {vars p deep k n : Int} {ks : List Ex} {q : Int} (hn : nodeB vars k n ks.length = true) (hd : deep ≤ 40) (hq : q = p - 1 - sm (ks.map sizeF)) (h0 : 0 ≤ q)
    (hall : ∀ i, i < ks.length → deep + 1 + depthF (ks.getD i nilEx) ≤ 41 ∧ partsB vars (ks.getD i nilEx) = true) : (sizeF ⟨k, n, ks⟩ : Int) ≤ p ∧ deep + depthF ⟨k, n, ks⟩ ≤ 41 ∧ partsB vars ⟨k, n, ks⟩ = true := by
  have hmem : ∀ x ∈ ks, ∃ i, i < ks.length ∧ x = ks.getD i nilEx := fun x hx => by
    obtain ⟨i, hi, rfl⟩ := List.getElem_of_mem hx
    exact ⟨i, hi, by rw [List.getD_eq_getElem?_getD, List.getElem?_eq_getElem hi]; rfl⟩
  refine ⟨by rw [size_eq]; omega, ?_, ?_⟩
  · rw [depth_eq]
    have : mx (ks.map depthF) ≤ (40 - deep).toNat := mx_le fun y hy => by
      obtain ⟨x, hx, rfl⟩ := List.mem_map.1 hy
      obtain ⟨i, hi, rfl⟩ := hmem x hx
      have := (hall i hi).1
      omega
    omega
  · rw [parts_eq, hn, Bool.true_and, List.all_eq_true]
    intro x hx
    obtain ⟨i, hi, rfl⟩ := hmem x hx
    exact (hall i hi).2

end Go.Proofs.YtgdkomkflfodaaaGreat.Expr
