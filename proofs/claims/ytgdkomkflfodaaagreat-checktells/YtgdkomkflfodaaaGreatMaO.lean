/- Contracts and plain mathematics, together: ExRight, ExTakes. -/
import Derived.Test.YtgdkomkflfodaaaGreatMaI
import Derived.Test.YtgdkomkflfodaaaGreatMaH
import Derived.Deep.QuietTactic
import Derived.BigQuiet
/- Right of package expr: a contract of the call, over the turned program. -/
namespace Go.Proofs.YtgdkomkflfodaaaGreat.Expr
open Go.RowKit Go.Proofs.YtgdkomkflfodaaaGreat.Frame Go.Proofs.YtgdkomkflfodaaaGreat.Calc
set_option linter.unusedVariables false

/-- all blocks but one are as they were -/
def Room (rb : Nat) (w w' : World) : Prop := w'.os = w.os ∧ w'.tape = w.tape ∧ w'.output = w.output ∧ w.heap.size ≤ w'.heap.size ∧ ∀ b, b < w.heap.size → b ≠ rb → w'.heap[b]? = w.heap[b]?
theorem Room.refl (rb : Nat) (w : World) : Room rb w w := ⟨rfl, rfl, rfl, Nat.le_refl _, fun _ _ _ => rfl⟩
theorem Room.trans {rb : Nat} {a b c : World} (h : Room rb a b) (k : Room rb b c) : Room rb a c :=
  ⟨k.1.trans h.1, k.2.1.trans h.2.1, k.2.2.1.trans h.2.2.1, Nat.le_trans h.2.2.2.1 k.2.2.2.1, fun i hi hn => (k.2.2.2.2 i (Nat.lt_of_lt_of_le hi h.2.2.2.1) hn).trans (h.2.2.2.2 i hi hn)⟩
theorem Room.of {rb : Nat} {w w' : World} (h : Below w.heap.size w w') : Room rb w w' := ⟨h.os, h.tape, h.output, h.size, fun b hb _ => h.block b hb⟩
theorem Room.alloc {rb : Nat} {a w : World} (h : Room rb a w) (o : Obj) : Room rb a (w.alloc o) := h.trans (Room.of ((Below.refl _ _).alloc (Nat.le_refl _) _))
theorem Room.setCell {rb : Nat} {a w : World} (h : Room rb a w) (k : Nat) (v : Value) : Room rb a (w.setCell ⟨rb, k, none⟩ v) :=
  h.trans ⟨rfl, rfl, rfl, by simp [World.setCell], fun b hb hn => Below.heap_setCell _ _ _ _ hn⟩
theorem Room.below {rb B : Nat} {w w' : World} (h : Room rb w w') (hB : B ≤ rb) (hs : B ≤ w.heap.size) : Below B w w' :=
  ⟨h.1, h.2.1, h.2.2.1, h.2.2.2.1, fun b hb => h.2.2.2.2 b (by omega) (by omega)⟩
theorem Room.cell {rb : Nat} {w w' : World} (h : Room rb w w') {b o : Nat} (hb : b < w.heap.size) (hn : b ≠ rb) : w'.cell? ⟨b, o, none⟩ = w.cell? ⟨b, o, none⟩ := World.cell?_of_block (w := w) (h.2.2.2.2 b hb hn)

theorem dn {B : Nat} {a w : World} (h : Below B a w) (n : Nat) : Below B a (w.drewN n) := ⟨h.os, h.tape, h.output, h.size, h.block⟩
theorem node1 {vars n : Int} {len : Nat} : nodeB vars 1 n len = ((len : Int) == 0) := by
  have : ((len : Int) == 0) = decide (len = 0) := by rw [Bool.eq_iff_iff]; simp
  rw [this]; rfl
theorem node3 {vars n : Int} {len : Nat} : nodeB vars 3 n len = ((len : Int) == 1) := by
  have : ((len : Int) == 1) = decide (len = 1) := by rw [Bool.eq_iff_iff]; simp; omega
  rw [this]; rfl
theorem node4 {vars n : Int} {len : Nat} : nodeB vars 4 n len = ((len : Int) == 1) := by
  have : ((len : Int) == 1) = decide (len = 1) := by rw [Bool.eq_iff_iff]; simp; omega
  rw [this]; rfl
theorem node6 {vars n : Int} {len : Nat} : nodeB vars 6 n len = ((len : Int) == 3) := by
  have : ((len : Int) == 3) = decide (len = 3) := by rw [Bool.eq_iff_iff]; simp; omega
  rw [this]; rfl
theorem node5t {vars n : Int} {len : Nat} (h : len = 2) : nodeB vars 5 n len = knownB n := by subst h; rfl
theorem node5f {vars n : Int} {len : Nat} (h : ¬ len = 2) : nodeB vars 5 n len = false := by simp [nodeB, h]
theorem node2a {vars n : Int} {len : Nat} (h : ¬ len = 0) : nodeB vars 2 n len = false := by simp [nodeB, h]
theorem node2b {vars n : Int} {len : Nat} (h : n < 0) : nodeB vars 2 n len = false := by simp [nodeB]; omega
theorem node2c {vars n : Int} {len : Nat} (h : len = 0) (h2 : 0 ≤ n) : nodeB vars 2 n len = decide (n < vars) := by simp [nodeB, h, h2]
theorem node_no {vars k n : Int} {len : Nat} (h1 : ¬ k = 1) (h2 : ¬ k = 2) (h3 : ¬ k = 3) (h4 : ¬ k = 4) (h5 : ¬ k = 5) (h6 : ¬ k = 6) : nodeB vars k n len = false := by
  simp [nodeB, h1, h2, h3, h4, h5, h6]

set_option maxHeartbeats 1000000 in
theorem fits_any (vars k n : Int) (a : Option Addr) (len c rb : Nat) (w : World) (hv : w.cell? ⟨rb, 0, none⟩ = some (.int .i64 vars)) (hr : rb < w.heap.size) :
    Calls Tryz.prog 112 #[.pointer (some ⟨rb, 0, none⟩), .agg #[.int .i64 k, .int .i64 n, .slice a len c]] w fun e w' => e = .returned (.bool (nodeB vars k n len)) ∧ Below w.heap.size w w' := by
  by_cases h1 : k = 1
  · subst h1
    go_enter Tryz.func112, Tryz.ntmps112
    go_wp2
    go_ret
    exact ⟨retb node1.symm, (Below.refl _ _).alloc (Nat.le_refl _) _⟩
  by_cases h2 : k = 2
  · subst h2
    by_cases hl : len = 0
    · subst hl
      by_cases hn : n < 0
      · have N : Hid (nodeB vars 2 n 0 = false) := node2b hn
        have hd : decide (0 ≤ n) = false := by simp; omega
        go_enter Tryz.func112, Tryz.ntmps112
        go_wp2_with fail
        go_quiet (fail)
        go_wp2_with fail
        go_ret
        exact ⟨by rw [N.out]; rfl, dn ((Below.refl _ _).alloc (Nat.le_refl _) _) _⟩
      · have hn' : 0 ≤ n := by omega
        have N : Hid (nodeB vars 2 n 0 = decide (n < vars)) := node2c rfl hn'
        go_enter Tryz.func112, Tryz.ntmps112
        go_wp2_with fail
        go_quiet (fail)
        go_wp2_with fail
        go_ret
        exact ⟨by rw [N.out]; rfl, dn ((Below.refl _ _).alloc (Nat.le_refl _) _) _⟩
    · have N : Hid (nodeB vars 2 n len = false) := node2a hl
      have hd : ((len : Int) == 0) = false := by simp; omega
      go_enter Tryz.func112, Tryz.ntmps112
      go_wp2_with fail
      go_quiet (fail)
      go_wp2_with fail
      go_ret
      exact ⟨by rw [N.out]; rfl, dn ((Below.refl _ _).alloc (Nat.le_refl _) _) _⟩
  by_cases h3 : k = 3
  · subst h3
    go_enter Tryz.func112, Tryz.ntmps112
    go_wp2
    go_ret
    exact ⟨retb node3.symm, (Below.refl _ _).alloc (Nat.le_refl _) _⟩
  by_cases h4 : k = 4
  · subst h4
    go_enter Tryz.func112, Tryz.ntmps112
    go_wp2
    go_ret
    exact ⟨retb node4.symm, (Below.refl _ _).alloc (Nat.le_refl _) _⟩
  by_cases h5 : k = 5
  · subst h5
    by_cases hl : len = 2
    · subst hl
      go_enter Tryz.func112, Tryz.ntmps112
      go_wp2_with (go_at_call 133; refine (known_any _ _).mono ?_; rintro e w' ⟨rfl, rfl⟩)
      go_ret
      exact ⟨retb (node5t rfl).symm, (Below.refl _ _).alloc (Nat.le_refl _) _⟩
    · have hd : ((len : Int) == 2) = false := by simp; omega
      go_enter Tryz.func112, Tryz.ntmps112
      go_wp2_with (go_at_call 133; refine (known_any _ _).mono ?_; rintro e w' ⟨rfl, rfl⟩)
      go_ret
      exact ⟨retb (node5f hl).symm, (Below.refl _ _).alloc (Nat.le_refl _) _⟩
  by_cases h6 : k = 6
  · subst h6
    go_enter Tryz.func112, Tryz.ntmps112
    go_wp2
    go_ret
    exact ⟨retb node6.symm, (Below.refl _ _).alloc (Nat.le_refl _) _⟩
  · go_enter Tryz.func112, Tryz.ntmps112
    go_wp2
    go_ret
    exact ⟨retb (node_no h1 h2 h3 h4 h5 h6).symm, (Below.refl _ _).alloc (Nat.le_refl _) _⟩

/-- what takes tells, and leaves -/
def TakesPost (rb : Nat) (vars p deep : Int) (t : Ex) (w : World) (e : Ending) (w' : World) : Prop :=
  ∃ (b : Bool) (p' : Int), e = .returned (.bool b) ∧ w'.cell? ⟨rb, 0, none⟩ = some (.int .i64 vars) ∧ w'.cell? ⟨rb, 1, none⟩ = some (.int .i64 p') ∧ w'.frozen? ⟨rb, 1, none⟩ = false ∧ Room rb w w' ∧
    (b = true → p' = p - sizeF t ∧ 0 ≤ p') ∧ (b = true ↔ (sizeF t ≤ p ∧ deep + depthF t ≤ 41 ∧ partsB vars t = true))

theorem node_len {vars k n : Int} {len : Nat} (h : nodeB vars k n len = true) : len ≤ 3 := by
  unfold nodeB at h
  repeat' split at h
  all_goals simp at h
  all_goals omega
theorem getD_map_size {ks : List Ex} {j : Nat} (h : j < ks.length) : (ks.map sizeF).getD j 0 = sizeF (ks.getD j nilEx) := by
  rw [List.getD_eq_getElem?_getD, List.getElem?_map, List.getD_eq_getElem?_getD, List.getElem?_eq_getElem h]; rfl
theorem takes_bad {vars p deep k n : Int} {ks : List Ex} {j : Nat} {x : Ex} {q : Int} (hj : j < ks.length) (hx : x = ks.getD j nilEx) (hq : q = p - 1 - sm ((ks.map sizeF).take j))
    (hno : ¬ ((sizeF x : Int) ≤ q ∧ deep + 1 + depthF x ≤ 41 ∧ partsB vars x = true)) : ¬ ((sizeF ⟨k, n, ks⟩ : Int) ≤ p ∧ deep + depthF ⟨k, n, ks⟩ ≤ 41 ∧ partsB vars ⟨k, n, ks⟩ = true) := by
  rintro ⟨h1, h2, h3⟩
  have hm : x ∈ ks := by rw [hx]; exact getD_mem hj
  refine hno ⟨?_, ?_, parts_kid h3 hm⟩
  · rw [size_eq] at h1
    have e1 := sm_take_le (ks.map sizeF) (j + 1)
    rw [take_snoc 0 (by simpa using hj), sm_snoc, getD_map_size hj, ← hx] at e1
    omega
  · have := depth_kid (k := k) (n := n) hm
    omega
theorem takes_good {vars p deep k n : Int} {ks : List Ex} {q : Int} (hn : nodeB vars k n ks.length = true) (hd : deep ≤ 40) (hq : q = p - 1 - sm (ks.map sizeF)) (h0 : 0 ≤ q)
    (hall : ∀ i, i < ks.length → deep + 1 + depthF (ks.getD i nilEx) ≤ 41 ∧ partsB vars (ks.getD i nilEx) = true) : (sizeF ⟨k, n, ks⟩ : Int) ≤ p ∧ deep + depthF ⟨k, n, ks⟩ ≤ 41 ∧ partsB vars ⟨k, n, ks⟩ = true := by
  have hmem : ∀ x ∈ ks, ∃ i, i < ks.length ∧ x = ks.getD i nilEx := fun x hx => by
    obtain ⟨i, hi, rfl⟩ := List.getElem_of_mem hx
    exact ⟨i, hi, by rw [List.getD_eq_getElem?_getD, List.getElem?_eq_getElem hi]; rfl⟩
  refine ⟨by rw [size_eq]; omega, ?_, ?_⟩
  · rw [depth_eq]
    have : mx (ks.map depthF) ≤ (40 - deep).toNat := mx_le fun y hy => by
      obtain ⟨x, hx, rfl⟩ := List.mem_map.1 hy
      obtain ⟨i, hi, rfl⟩ := hmem x hx
      have := (hall i hi).1
      omega
    omega
  · rw [parts_eq, hn, Bool.true_and, List.all_eq_true]
    intro x hx
    obtain ⟨i, hi, rfl⟩ := hmem x hx
    exact (hall i hi).2

end Go.Proofs.YtgdkomkflfodaaaGreat.Expr
/- takes of package expr: a contract of the call, over the turned program. -/
namespace Go.Proofs.YtgdkomkflfodaaaGreat.Expr
open Go.RowKit Go.Proofs.YtgdkomkflfodaaaGreat.Frame Go.Proofs.YtgdkomkflfodaaaGreat.Calc
set_option linter.unusedVariables false

/-- behind the counting of a part -/
theorem after_dec {w : World} {rb : Nat} {vars p : Int} (hrb : rb < w.heap.size) (hv : w.cell? ⟨rb, 0, none⟩ = some (.int .i64 vars)) (hp : w.cell? ⟨rb, 1, none⟩ = some (.int .i64 p)) (hf : w.frozen? ⟨rb, 1, none⟩ = false) (v : Value) (cs : Array Value) (ty : TypeId) :
    ((w.setCell ⟨rb, 1, none⟩ v).alloc (.cells cs ty)).cell? ⟨rb, 0, none⟩ = some (.int .i64 vars) ∧ ((w.setCell ⟨rb, 1, none⟩ v).alloc (.cells cs ty)).cell? ⟨rb, 1, none⟩ = some v ∧ ((w.setCell ⟨rb, 1, none⟩ v).alloc (.cells cs ty)).frozen? ⟨rb, 1, none⟩ = false ∧
    Room rb w ((w.setCell ⟨rb, 1, none⟩ v).alloc (.cells cs ty)) ∧ ((w.setCell ⟨rb, 1, none⟩ v).alloc (.cells cs ty)).heap.size = w.heap.size + 1 ∧ ∀ j, ((w.setCell ⟨rb, 1, none⟩ v).alloc (.cells cs ty)).cell? ⟨w.heap.size, j, none⟩ = cs[j]? := by
  have hs : (w.setCell ⟨rb, 1, none⟩ v).heap.size = w.heap.size := by simp [World.setCell]
  refine ⟨?_, ?_, ?_, ((Room.refl _ _).setCell 1 v).alloc _, by simp [World.setCell], fun j => World.cell?_alloc_at _ _ _ _ hs.symm⟩
  · rw [World.cell?_alloc_lt _ _ _ (by rw [hs]; exact hrb), World.cell?_setCell_other _ _ _ _ (by simp)]; exact hv
  · rw [World.cell?_alloc_lt _ _ _ (by rw [hs]; exact hrb)]; exact World.cell?_setCell_same _ _ _ hp
  · rw [frozen?_alloc_cells, World.frozen?_setCell]; exact hf

set_option maxHeartbeats 2000000 in
theorem takes_any : ∀ (t : Ex) (w : World) (a : Option Addr) (c rb : Nat) (vars p deep : Int), XG (fun b _ => b < rb) w t a → rb < w.heap.size → w.cell? ⟨rb, 0, none⟩ = some (.int .i64 vars) → w.cell? ⟨rb, 1, none⟩ = some (.int .i64 p) → w.frozen? ⟨rb, 1, none⟩ = false → 0 ≤ p → p ≤ 400 → 1 ≤ deep → deep ≤ 41 →
    Calls Tryz.prog 63 #[.pointer (some ⟨rb, 0, none⟩), .agg #[.int .i64 t.kind, .int .i64 t.num, .slice a t.kids.length c], .int .i64 deep] w (TakesPost rb vars p deep t w) := by
  refine Ex.ind fun k n ks ih w a c rb vars p deep hX hrb hv hp hf p0 p4 d0 d1 => ?_
  have HX : Hid (XG (fun b _ => b < rb) w ⟨k, n, ks⟩ a) := hX
  have HI : Hid (∀ (x : Ex), x ∈ ks → ∀ (w : World) (a : Option Addr) (c rb : Nat) (vars p deep : Int), XG (fun b _ => b < rb) w x a → rb < w.heap.size → w.cell? ⟨rb, 0, none⟩ = some (.int .i64 vars) → w.cell? ⟨rb, 1, none⟩ = some (.int .i64 p) → w.frozen? ⟨rb, 1, none⟩ = false → 0 ≤ p → p ≤ 400 → 1 ≤ deep → deep ≤ 41 →
    Calls Tryz.prog 63 #[.pointer (some ⟨rb, 0, none⟩), .agg #[.int .i64 x.kind, .int .i64 x.num, .slice a x.kids.length c], .int .i64 deep] w (TakesPost rb vars p deep x w)) := ih
  clear ih hX
  show Calls Tryz.prog 63 #[.pointer (some ⟨rb, 0, none⟩), .agg #[.int .i64 k, .int .i64 n, .slice a ks.length c], .int .i64 deep] w _
  obtain ⟨len, hl⟩ : ∃ len, len = ks.length := ⟨_, rfl⟩
  rw [← hl]
  have HL : Hid (len = ks.length) := hl
  clear hl
  have hne : ¬ w.heap.size = rb := by omega
  have hne' : ¬ rb = w.heap.size := by omega
  obtain ⟨D0, D1, D2, D3, D4, D5⟩ := after_dec hrb hv hp hf (.int .i64 (p - 1)) #[Value.int IntKind.i64 k, Value.int IntKind.i64 n, Value.slice a len c] 49
  have hsz := size_pos ⟨k, n, ks⟩
  by_cases hp0 : p = 0
  · subst hp0
    have NO : Hid (¬ ((sizeF ⟨k, n, ks⟩ : Int) ≤ 0 ∧ deep + depthF ⟨k, n, ks⟩ ≤ 41 ∧ partsB vars ⟨k, n, ks⟩ = true)) := fun h => by omega
    rw [show (0 : Int) - 1 = -1 from rfl] at D0 D1 D2 D3
    have DD : Hid (_ ∧ _ ∧ _ ∧ _) := ⟨D0, D1, D2, D3⟩
    clear D0 D1 D2 D3 D4 D5 hsz
    go_enter Tryz.func63, Tryz.ntmps63
    go_wp2_with fail
    go_ret
    obtain ⟨D0, D1, D2, D3⟩ := DD.out
    exact ⟨false, -1, rfl, D0, D1, D2, D3, fun h => by (cases h), ⟨fun h => by (cases h), fun h => absurd h NO.out⟩⟩
  by_cases hd : deep = 41
  · subst hd
    have NO : Hid (¬ ((sizeF ⟨k, n, ks⟩ : Int) ≤ p ∧ (41 : Int) + depthF ⟨k, n, ks⟩ ≤ 41 ∧ partsB vars ⟨k, n, ks⟩ = true)) := fun h => by have := depth_pos ⟨k, n, ks⟩; omega
    have DD : Hid (_ ∧ _ ∧ _ ∧ _) := ⟨D0, D1, D2, D3⟩
    clear D0 D1 D2 D3 D4 D5 hsz
    have hp1 : ¬ p - 1 < 0 := by omega
    go_enter Tryz.func63, Tryz.ntmps63
    go_wp2_with fail
    go_ret
    obtain ⟨D0, D1, D2, D3⟩ := DD.out
    exact ⟨false, p - 1, rfl, D0, D1, D2, D3, fun h => by (cases h), ⟨fun h => by (cases h), fun h => absurd h NO.out⟩⟩
  have hp1 : ¬ p - 1 < 0 := by omega
  have hd1 : ¬ 40 < deep := by omega
  have FT : Hid (∀ wx, wx = ((w.setCell ⟨rb, 1, none⟩ (.int .i64 (p - 1))).alloc (.cells #[Value.int IntKind.i64 k, Value.int IntKind.i64 n, Value.slice a len c] 49)) → Calls Tryz.prog 112 #[.pointer (some ⟨rb, 0, none⟩), .agg #[.int .i64 k, .int .i64 n, .slice a len c]] wx fun e w' => e = .returned (.bool (nodeB vars k n len)) ∧ (w'.cell? ⟨rb, 0, none⟩ = some (.int .i64 vars) ∧ w'.cell? ⟨rb, 1, none⟩ = some (.int .i64 (p - 1)) ∧ w'.frozen? ⟨rb, 1, none⟩ = false ∧ w'.cell? ⟨w.heap.size, 2, none⟩ = some (.slice a len c)) ∧ w.heap.size < w'.heap.size ∧ Hid (Room rb w w')) := by
    intro wx hx
    subst hx
    refine (fits_any vars k n a len c rb _ D0 (by rw [D4]; omega)).mono ?_
    rintro e w' ⟨he, hb⟩
    have hr' : rb < ((w.setCell ⟨rb, 1, none⟩ (.int .i64 (p - 1))).alloc (.cells #[Value.int IntKind.i64 k, Value.int IntKind.i64 n, Value.slice a len c] 49)).heap.size := by rw [D4]; omega
    exact ⟨he, ⟨(hb.cell (p := ⟨rb, 0, none⟩) hr').trans D0, (hb.cell (p := ⟨rb, 1, none⟩) hr').trans D1, (hb.frozen (p := ⟨rb, 1, none⟩) hr').trans D2, (hb.cell (p := ⟨w.heap.size, 2, none⟩) (by rw [D4]; exact Nat.lt_succ_self _)).trans (D5 2)⟩, by have := hb.size; omega, D3.trans (Room.of hb)⟩
  clear D0 D1 D2 D3 D4 D5
  cases hn : nodeB vars k n len with
  | false =>
    have N : Hid (nodeB vars k n len = false) := hn
    have NO : Hid (¬ ((sizeF ⟨k, n, ks⟩ : Int) ≤ p ∧ deep + depthF ⟨k, n, ks⟩ ≤ 41 ∧ partsB vars ⟨k, n, ks⟩ = true)) := fun h => by
      have := parts_node h.2.2
      rw [← HL.out, hn] at this
      cases this
    clear hn hsz
    go_enter Tryz.func63, Tryz.ntmps63
    go_wp2_with (go_at_call 112; refine (FT.out _ rfl).mono ?_; rintro e w1 ⟨he, ⟨g0, g1, g2, g3⟩, gz, gr⟩; subst he; rw [N.out])
    go_ret
    exact ⟨false, p - 1, rfl, g0, g1, g2, gr.out, fun h => by (cases h), ⟨fun h => by (cases h), fun h => absurd h NO.out⟩⟩
  | true =>
    have N : Hid (nodeB vars k n len = true) := hn
    have hlen : len ≤ 3 := node_len hn
    clear hn hsz
    go_enter Tryz.func63, Tryz.ntmps63
    go_wp2_with (go_at_call 112; refine (FT.out _ rfl).mono ?_; rintro e w1 ⟨he, ⟨g0, g1, g2, g3⟩, gz, gr⟩; subst he; rw [N.out])
    have GS : Hid (_ ∧ _ ∧ _) := ⟨g0, g1, g2⟩
    clear g0 g1 g2 g3 hv hp hf FT
    go_loopw [34] (fun i wr => ∃ (j : Nat) (q : Int), j ≤ len ∧ i = .int .i64 j ∧ wr.cell? ⟨rb, 0, none⟩ = some (.int .i64 vars) ∧ wr.cell? ⟨rb, 1, none⟩ = some (.int .i64 q) ∧ wr.frozen? ⟨rb, 1, none⟩ = false ∧ 0 ≤ q ∧ q ≤ 400 ∧ Hid (q = p - 1 - sm ((ks.map sizeF).take j)) ∧ Hid (Room rb w wr) ∧ Hid (∀ i, i < j → deep + 1 + depthF (ks.getD i nilEx) ≤ 41 ∧ partsB vars (ks.getD i nilEx) = true)) (fun i _ => len - (intOf i).toNat)
    case atStart => exact ⟨0, p - 1, by omega, rfl, GS.out.1, GS.out.2.1, GS.out.2.2, by omega, by omega, by simp [Hid, sm], gr, fun i hi => by omega⟩
    case round =>
      obtain ⟨j, q, hj, rfl, g0, g1, g2, q0, q4, hq, hR, hall⟩ := hrel
      by_cases hlt : j < len
      · have hlt' : (j : Int) < len := by omega
        have XB : XG (fun b _ => b < rb) wr ⟨k, n, ks⟩ a := HX.out.belowB (fun _ _ h => h) (hR.out.below (Nat.le_refl _) (by omega))
        obtain ⟨b, off, x, ai, ci, ha, hbl, hbr, hxm, hxe, c0, c1, c2, hxx⟩ := kid_lt XB (i := j) (by rw [← HL.out]; exact hlt)
        subst ha
        have hrw : rb < wr.heap.size := by have := hR.out.2.2.2.1; omega
        have CL : Hid (∀ wx, wx = wr.alloc (Obj.cells #[Value.int IntKind.i64 x.kind, Value.int IntKind.i64 x.num, Value.slice ai x.kids.length ci] 49) → Calls Tryz.prog 63 #[.pointer (some ⟨rb, 0, none⟩), .agg #[.int .i64 x.kind, .int .i64 x.num, .slice ai x.kids.length ci], .int .i64 (deep + 1)] wx (TakesPost rb vars q (deep + 1) x wx)) := by
          intro wx hwx
          have hbx : Below wr.heap.size wr wx := by rw [hwx]; exact (Below.refl _ _).alloc (Nat.le_refl _) _
          have hsx : wr.heap.size ≤ wx.heap.size := hbx.size
          exact HI.out x hxm wx ai ci rb vars q (deep + 1) (hxx.below hbx) (by omega) ((hbx.cell (p := ⟨rb, 0, none⟩) hrw).trans g0) ((hbx.cell (p := ⟨rb, 1, none⟩) hrw).trans g1) ((hbx.frozen (p := ⟨rb, 1, none⟩) hrw).trans g2) q0 q4 (by omega) (by omega)
        have XE : Hid (x = ks.getD j nilEx) := hxe
        clear XB hxx hxm hxe HX HI g0 g1 g2
        go_wp2_with fail
        refine (CL.out _ rfl).mono ?_
        rintro e w2 ⟨bb, q', he, g0, g1, g2, hR2, hT, hI⟩
        subst he
        have RR : Hid (Room rb w w2) := hR.out.trans (((Room.refl rb wr).alloc _).trans hR2)
        cases bb with
        | false =>
          have NO : Hid (¬ ((sizeF ⟨k, n, ks⟩ : Int) ≤ p ∧ deep + depthF ⟨k, n, ks⟩ ≤ 41 ∧ partsB vars ⟨k, n, ks⟩ = true)) := takes_bad (j := j) (by rw [← HL.out]; exact hlt) XE.out hq.out (fun h => by have := hI.2 h; cases this)
          clear hT hI hR2 CL hq hall
          go_wp2_with fail
          go_ret
          exact ⟨false, q', rfl, g0, g1, g2, RR.out, fun h => by (cases h), ⟨fun h => by (cases h), fun h => absurd h NO.out⟩⟩
        | true =>
          obtain ⟨t1, t2⟩ := hT rfl
          obtain ⟨i1, i2, i3⟩ := hI.1 rfl
          have Q1 : Hid (q' = p - 1 - sm ((ks.map sizeF).take (j + 1))) := by
            have hjk : j < ks.length := by rw [← HL.out]; exact hlt
            rw [Hid, take_snoc 0 (by simpa using hjk), sm_snoc, getD_map_size hjk, ← XE.out, t1, hq.out]; omega
          have A1 : Hid (∀ i, i < j + 1 → deep + 1 + depthF (ks.getD i nilEx) ≤ 41 ∧ partsB vars (ks.getD i nilEx) = true) := fun i hi => by
            by_cases e : i = j
            · subst e; rw [← XE.out]; exact ⟨i2, i3⟩
            · exact hall.out i (by omega)
          have hq' : q' ≤ 400 := by omega
          clear hT hI hR2 CL hq hall t1 i1 i2 i3
          go_wp2_with fail
          go_roundw
          case rel => exact ⟨j + 1, q', by omega, by go_num, g0, g1, g2, t2, hq', Q1, RR, A1⟩
          case measure => simp [intOf]; omega
      · have hjl : j = len := by omega
        have Q1 : Hid (q = p - 1 - sm (ks.map sizeF)) := by rw [Hid, hq.out, List.take_of_length_le (by rw [List.length_map, ← HL.out]; omega)]
        have YES := takes_good (k := k) (n := n) (ks := ks) (by rw [← HL.out]; exact N.out) (by omega) Q1.out q0 (fun i hi => hall.out i (by rw [hjl, HL.out]; exact hi))
        have QQ : Hid (q = p - sizeF ⟨k, n, ks⟩) := by rw [Hid, Q1.out, size_eq]; omega
        have YS : Hid (_ ∧ _ ∧ _) := YES
        clear YES hq hall Q1
        go_wp2_with fail
        go_ret
        exact ⟨true, q, rfl, g0, g1, g2, hR.out, fun _ => ⟨QQ.out, q0⟩, ⟨fun _ => YS.out, fun _ => rfl⟩⟩

theorem right_val {vars : Int} {t : Ex} {b : Bool} (h : b = true ↔ ((sizeF t : Int) ≤ 400 ∧ (1 : Int) + depthF t ≤ 41 ∧ partsB vars t = true)) : b = rightB vars t := by
  rw [Bool.eq_iff_iff, h]
  unfold rightB
  rw [Bool.and_eq_true, decide_eq_true_iff]
  constructor
  · rintro ⟨h1, h2, h3⟩; exact ⟨⟨by omega, by omega⟩, h3⟩
  · rintro ⟨⟨h1, h2⟩, h3⟩; exact ⟨by omega, by omega, h3⟩

set_option maxHeartbeats 1000000 in
theorem right_any (t : Ex) (w : World) (a : Option Addr) (c : Nat) (vars : Int) (h : X w t a) :
    Calls Tryz.prog 20 #[.agg #[.int .i64 t.kind, .int .i64 t.num, .slice a t.kids.length c], .int .i64 vars] w fun e w' => e = .returned (.bool (rightB vars t)) ∧ Below w.heap.size w w' := by
  have CL : Hid (∀ wx, wx = (w.alloc (Obj.cells #[Value.int IntKind.i64 t.kind, Value.int IntKind.i64 t.num, Value.slice a t.kids.length c] 49)).alloc (Obj.cells #[Value.int IntKind.i64 vars, Value.int IntKind.i64 400] 98) → Calls Tryz.prog 63 #[.pointer (some ⟨w.heap.size + 1, 0, none⟩), .agg #[.int .i64 t.kind, .int .i64 t.num, .slice a t.kids.length c], .int .i64 1] wx fun e w' => e = .returned (.bool (rightB vars t)) ∧ Below w.heap.size w w') := by
    intro wx hx
    have hb : Below w.heap.size w wx := by rw [hx]; exact ((Below.refl _ _).alloc (Nat.le_refl _) _).alloc (by simp) _
    have hs : wx.heap.size = w.heap.size + 2 := by rw [hx]; simp
    have hc : ∀ j, wx.cell? ⟨w.heap.size + 1, j, none⟩ = #[Value.int IntKind.i64 vars, Value.int IntKind.i64 400][j]? := fun j => by rw [hx]; exact World.cell?_alloc_at _ _ _ _ (by simp)
    have hf : wx.frozen? ⟨w.heap.size + 1, 1, none⟩ = false := by rw [hx]; exact World.frozen?_alloc_at _ _ _ _ (by simp)
    refine (takes_any t wx a c (w.heap.size + 1) vars 400 1 ((h.lt.below hb).mono fun b _ hb => by omega) (by omega) (hc 0) (hc 1) hf (by omega) (by omega) (by omega) (by omega)).mono ?_
    rintro e w' ⟨b, p', he, -, -, -, hR, -, hI⟩
    rw [right_val hI] at he
    exact ⟨he, hb.trans (hR.below (by omega) (by omega))⟩
  clear h
  go_enter Tryz.func20, Tryz.ntmps20
  go_wp2_with (go_at_call 63; refine (CL.out _ rfl).mono ?_; rintro e w1 ⟨he, hb⟩; subst he)
  go_ret
  exact ⟨rfl, hb⟩
end Go.Proofs.YtgdkomkflfodaaaGreat.Expr
