/- The document's own Right of expressions (out of layer 4's texts), and of bags: contracts of the calls, over the turned program. -/
import Derived.Test.YtgdkomkflfodaaaGreatExDepth
import Derived.Test.YtgdkomkflfodaaaGreatMbH
import Derived.Test.YtgdkomkflfodaaaGreatMaH
import Derived.Test.YtgdkomkflfodaaaGreatMaO
import Derived.Deep.CutBlock
namespace Go.Proofs.YtgdkomkflfodaaaGreat.Expr
open Go.RowKit Go.Proofs.YtgdkomkflfodaaaGreat.Frame Go.Proofs.YtgdkomkflfodaaaGreat.Calc
set_option linter.unusedVariables false
set_option linter.unusedSimpArgs false

theorem al1 (w : World) (o : Obj) : Below w.heap.size w (w.alloc o) := (Below.refl _ _).alloc (Nat.le_refl _) _
def Cell3 (w : World) (b : Nat) (u0 u1 u2 : Value) : Prop := w.cell? ⟨b, 0, none⟩ = some u0 ∧ w.cell? ⟨b, 1, none⟩ = some u1 ∧ w.cell? ⟨b, 2, none⟩ = some u2
theorem Cell3.below {w w' : World} {b : Nat} {u0 u1 u2 : Value} (h : Cell3 w b u0 u1 u2) (hb : Below w.heap.size w w') : Cell3 w' b u0 u1 u2 :=
  have hl : b < w.heap.size := World.block_lt_of_cell? w _ h.1
  ⟨(hb.cell (p := ⟨b, 0, none⟩) hl).trans h.1, (hb.cell (p := ⟨b, 1, none⟩) hl).trans h.2.1, (hb.cell (p := ⟨b, 2, none⟩) hl).trans h.2.2⟩
theorem sZ (w : World) (o : Obj) : (w.alloc o).heap.size = w.heap.size + 1 := by simp
theorem cell3_new (w : World) (u0 u1 u2 : Value) (t : TypeId) : Cell3 (w.alloc (.cells #[u0, u1, u2] t)) w.heap.size u0 u1 u2 := ⟨World.cell?_alloc_at _ _ _ _ rfl, World.cell?_alloc_at _ _ _ _ rfl, World.cell?_alloc_at _ _ _ _ rfl⟩
abbrev exV (t : Ex) (a : Option Addr) (c : Nat) : Value := .agg #[.int .i64 t.kind, .int .i64 t.num, .slice a t.kids.length c]
/-- two boxes that hold expressions -/
def Bs (W0 : World) (p q : Nat) (t y : Ex) (a b : Option Addr) (c d : Nat) (wx : World) : Prop :=
  Below W0.heap.size W0 wx ∧ (Cell3 wx p (.int .i64 t.kind) (.int .i64 t.num) (.slice a t.kids.length c) ∧ p < wx.heap.size) ∧ Cell3 wx q (.int .i64 y.kind) (.int .i64 y.num) (.slice b y.kids.length d) ∧ q < wx.heap.size
def QB (p q : Nat) (t y : Ex) (a b : Option Addr) (c d : Nat) (w' : World) : Prop :=
  ((w'.cell? ⟨p, 0, none⟩ = some (.int .i64 t.kind) ∧ w'.cell? ⟨p, 1, none⟩ = some (.int .i64 t.num) ∧ w'.cell? ⟨p, 2, none⟩ = some (.slice a t.kids.length c)) ∧ p < w'.heap.size) ∧ (w'.cell? ⟨q, 0, none⟩ = some (.int .i64 y.kind) ∧ w'.cell? ⟨q, 1, none⟩ = some (.int .i64 y.num) ∧ w'.cell? ⟨q, 2, none⟩ = some (.slice b y.kids.length d)) ∧ q < w'.heap.size
section
variable {W0 : World} {p q : Nat} {t y : Ex} {a b : Option Addr} {c d : Nat} {wx w' : World}
theorem Bs.on (h : Bs W0 p q t y a b c d wx) (hb : Below wx.heap.size wx w') : Bs W0 p q t y a b c d w' :=
  ⟨h.1.trans (hb.mono h.1.size), ⟨h.2.1.1.below hb, Nat.lt_of_lt_of_le h.2.1.2 hb.size⟩, h.2.2.1.below hb, Nat.lt_of_lt_of_le h.2.2.2 hb.size⟩
theorem Bs.al (h : Bs W0 p q t y a b c d wx) (o : Obj) : Bs W0 p q t y a b c d (wx.alloc o) := h.on ((Below.refl _ _).alloc (Nat.le_refl _) _)
theorem Bs.dr (h : Bs W0 p q t y a b c d wx) : Bs W0 p q t y a b c d wx.drew := h.on ((Below.refl _ _).drew)
theorem Bs.cells (h : Bs W0 p q t y a b c d wx) : QB p q t y a b c d wx := h.2
/-- a world that is the same below W0's end -/
theorem Bs.to (h : Bs W0 p q t y a b c d W0) (hb : Below W0.heap.size W0 w') : Bs W0 p q t y a b c d w' := h.on hb
/-- a call -/
theorem Bs.call {f : Nat} {args : Array Value} {Q : Ending → World → Prop} (h : Bs W0 p q t y a b c d wx) (hc : Below W0.heap.size W0 wx → Calls Tryz.prog f args wx fun e w' => Q e w' ∧ Below wx.heap.size wx w') :
    Calls Tryz.prog f args wx fun e w' => Q e w' ∧ Hid (Bs W0 p q t y a b c d w') ∧ QB p q t y a b c d w' :=
  (hc h.1).mono fun e w' h' => ⟨h'.1, h.on h'.2, (h.on h'.2).cells⟩
end
/-- both boxes laid -/
theorem bs_two (w : World) (t y : Ex) (a b : Option Addr) (c d : Nat) :
    Bs ((w.alloc (.cells #[.int .i64 t.kind, .int .i64 t.num, .slice a t.kids.length c] 49)).alloc (.cells #[.int .i64 y.kind, .int .i64 y.num, .slice b y.kids.length d] 49)) w.heap.size (w.heap.size + 1) t y a b c d
      ((w.alloc (.cells #[.int .i64 t.kind, .int .i64 t.num, .slice a t.kids.length c] 49)).alloc (.cells #[.int .i64 y.kind, .int .i64 y.num, .slice b y.kids.length d] 49)) := by
  have h1 := (cell3_new w (.int .i64 t.kind) (.int .i64 t.num) (.slice a t.kids.length c) 49).below ((Below.refl _ _).alloc (Nat.le_refl _) (.cells #[.int .i64 y.kind, .int .i64 y.num, .slice b y.kids.length d] 49))
  have h2 := cell3_new (w.alloc (.cells #[.int .i64 t.kind, .int .i64 t.num, .slice a t.kids.length c] 49)) (.int .i64 y.kind) (.int .i64 y.num) (.slice b y.kids.length d) 49
  rw [sZ] at h2
  exact ⟨Below.refl _ _, ⟨h1, World.block_lt_of_cell? _ _ h1.1⟩, h2, World.block_lt_of_cell? _ _ h2.1⟩
theorem bs_one (w : World) (t : Ex) (a : Option Addr) (c : Nat) :
    Bs (w.alloc (.cells #[.int .i64 t.kind, .int .i64 t.num, .slice a t.kids.length c] 49)) w.heap.size w.heap.size t t a a c c (w.alloc (.cells #[.int .i64 t.kind, .int .i64 t.num, .slice a t.kids.length c] 49)) := by
  have h1 := cell3_new w (.int .i64 t.kind) (.int .i64 t.num) (.slice a t.kids.length c) 49
  exact ⟨Below.refl _ _, ⟨h1, World.block_lt_of_cell? _ _ h1.1⟩, h1, World.block_lt_of_cell? _ _ h1.1⟩
theorem two_al (w : World) (o p : Obj) : Below w.heap.size w ((w.alloc o).alloc p) := ((Below.refl _ _).alloc (Nat.le_refl _) _).alloc (by simp) _

theorem bs_end {w W0 : World} {p q : Nat} {t y : Ex} {a b : Option Addr} {c d : Nat} {wx : World} (h0 : Below w.heap.size w W0) (h : Bs W0 p q t y a b c d wx) : Below w.heap.size w wx := h0.trans (h.1.mono h0.size)
set_option maxHeartbeats 1000000 in
theorem rdepth_any : ∀ (t : Ex) (w : World) (a : Option Addr) (c : Nat), X w t a → sizeF t ≤ 1000000 →
    Calls Tryz.prog 107 #[.agg #[.int .i64 t.kind, .int .i64 t.num, .slice a t.kids.length c]] w fun e w' => e = .returned (.int .i64 (depthF t)) ∧ Below w.heap.size w w' := by
  refine Ex.ind fun k n ks ih w a c h hs => ?_
  have HX : Hid (X w ⟨k, n, ks⟩ a) := h
  have HI : Hid (∀ (x : Ex), x ∈ ks → ∀ (w : World) (a : Option Addr) (c : Nat), X w x a → sizeF x ≤ 1000000 → Calls Tryz.prog 107 #[.agg #[.int .i64 x.kind, .int .i64 x.num, .slice a x.kids.length c]] w fun e w' => e = .returned (.int .i64 (depthF x)) ∧ Below w.heap.size w w') := ih
  have hlen : ks.length ≤ 1000000 := by have := len_size k n ks; omega
  have HS : Hid (sizeF ⟨k, n, ks⟩ ≤ 1000000) := hs
  have hd : mx (ks.map depthF) ≤ 1000000 := by have h1 := depth_le_size ⟨k, n, ks⟩; rw [depth_eq] at h1; omega
  have HD : Hid (depthF ⟨k, n, ks⟩ = 1 + mx (ks.map depthF)) := depth_eq k n ks
  clear ih h hs
  show Calls Tryz.prog 107 #[.agg #[.int .i64 k, .int .i64 n, .slice a ks.length c]] w _
  obtain ⟨len, hl⟩ : ∃ len, len = ks.length := ⟨_, rfl⟩
  rw [← hl] at hlen ⊢
  have HL : Hid (len = ks.length) := hl
  clear hl
  go_enter Tryz.func107, Tryz.ntmps107
  go_wp2_with fail
  go_loopw [3, 4] (fun d i wr => ∃ j m : Nat, j ≤ len ∧ i = .int .i64 j ∧ d = .int .i64 m ∧ m ≤ 1000000 ∧ Hid (m = mx ((ks.map depthF).take j)) ∧ wr.cell? ⟨w.heap.size, 2, none⟩ = some (.slice a len c) ∧ Below w.heap.size w wr) (fun _ i _ => len - (intOf i).toNat)
  case atStart => exact ⟨0, 0, by omega, rfl, rfl, by omega, by simp [Hid, mx], by simp, (Below.refl _ _).alloc (Nat.le_refl _) _⟩
  case round =>
    obtain ⟨j, m, hj, rfl, rfl, hm, hmm, hc, hnx⟩ := hrel
    by_cases hlt : j < len
    · have hlt' : (j : Int) < len := by omega
      obtain ⟨b, off, x, ai, ci, ha, hbl, hxm, hxe, c0, c1, c2, hxx⟩ := (HX.out.below hnx).kid (i := j) (by rw [← HL.out]; exact hlt)
      subst ha
      have SX : Hid (sizeF x ≤ 1000000) := by have h1 := size_kid (k := k) (n := n) hxm; have h2 := HS.out; unfold Hid; omega
      have E1 : Hid (mx ((ks.map depthF).take (j + 1)) = max m (depthF x)) := by rw [hmm.out]; exact mx_step (by rw [← HL.out]; exact hlt) hxe
      have hdx : depthF x ≤ 1000000 := Nat.le_trans (depth_le_size x) SX.out
      have hws : w.heap.size < wr.heap.size := World.block_lt_of_cell? wr _ hc
      have CL : Hid (Calls Tryz.prog 107 #[.agg #[.int .i64 x.kind, .int .i64 x.num, .slice ai x.kids.length ci]] wr fun e w' => e = .returned (.int .i64 (depthF x)) ∧ w'.cell? ⟨w.heap.size, 2, none⟩ = some (.slice (some ⟨b, off, none⟩) len c) ∧ Hid (Below w.heap.size w w')) :=
        (HI.out x hxm wr ai ci hxx SX.out).mono fun e w' h => ⟨h.1, (h.2.cell (p := ⟨w.heap.size, 2, none⟩) hws).trans hc, fstep hnx h.2⟩
      clear hxx hxm hxe hmm
      go_wp2_with (go_at_call 107; refine CL.out.mono ?_; rintro e w1 ⟨he, hc1, hb1⟩; subst he)
      go_roundw
      case rel => exact ⟨j + 1, max m (depthF x), by omega, by go_num, by congr 1; split <;> omega, by omega, E1.out.symm, hc1, hb1.out⟩
      case measure => simp [intOf]; omega
    · have E : Hid (m = mx (ks.map depthF)) := by rw [hmm.out]; exact mx_all (by rw [← HL.out]; omega)
      clear hmm
      go_wp2_with fail
      go_ret
      exact ⟨reti (by rw [HD.out, ← E.out]; go_num), hnx⟩

set_option maxHeartbeats 1000000 in
theorem rsize_any : ∀ (t : Ex) (w : World) (a : Option Addr) (c : Nat), X w t a → sizeF t ≤ 1000000 →
    Calls Tryz.prog 108 #[.agg #[.int .i64 t.kind, .int .i64 t.num, .slice a t.kids.length c]] w fun e w' => e = .returned (.int .i64 (sizeF t)) ∧ Below w.heap.size w w' := by
  refine Ex.ind fun k n ks ih w a c h hs => ?_
  have HX : Hid (X w ⟨k, n, ks⟩ a) := h
  have HI : Hid (∀ (x : Ex), x ∈ ks → ∀ (w : World) (a : Option Addr) (c : Nat), X w x a → sizeF x ≤ 1000000 → Calls Tryz.prog 108 #[.agg #[.int .i64 x.kind, .int .i64 x.num, .slice a x.kids.length c]] w fun e w' => e = .returned (.int .i64 (sizeF x)) ∧ Below w.heap.size w w') := ih
  have hlen : ks.length ≤ 1000000 := by have := len_size k n ks; omega
  have HS : Hid (sizeF ⟨k, n, ks⟩ ≤ 1000000) := hs
  have hd : sm (ks.map sizeF) ≤ 1000000 := by have h1 := hs; rw [size_eq] at h1; omega
  have HD : Hid (sizeF ⟨k, n, ks⟩ = 1 + sm (ks.map sizeF)) := size_eq k n ks
  clear ih h hs
  show Calls Tryz.prog 108 #[.agg #[.int .i64 k, .int .i64 n, .slice a ks.length c]] w _
  obtain ⟨len, hl⟩ : ∃ len, len = ks.length := ⟨_, rfl⟩
  rw [← hl] at hlen ⊢
  have HL : Hid (len = ks.length) := hl
  clear hl
  go_enter Tryz.func108, Tryz.ntmps108
  go_wp2_with fail
  go_loopw [3, 4] (fun d i wr => ∃ j m : Nat, j ≤ len ∧ i = .int .i64 j ∧ d = .int .i64 (1 + m) ∧ m ≤ 1000000 ∧ Hid (m = sm ((ks.map sizeF).take j)) ∧ wr.cell? ⟨w.heap.size, 2, none⟩ = some (.slice a len c) ∧ Below w.heap.size w wr) (fun _ i _ => len - (intOf i).toNat)
  case atStart => exact ⟨0, 0, by omega, rfl, rfl, by omega, by simp [Hid, sm], by simp, (Below.refl _ _).alloc (Nat.le_refl _) _⟩
  case round =>
    obtain ⟨j, m, hj, rfl, rfl, hm, hmm, hc, hnx⟩ := hrel
    by_cases hlt : j < len
    · have hlt' : (j : Int) < len := by omega
      obtain ⟨b, off, x, ai, ci, ha, hbl, hxm, hxe, c0, c1, c2, hxx⟩ := (HX.out.below hnx).kid (i := j) (by rw [← HL.out]; exact hlt)
      subst ha
      have SX : Hid (sizeF x ≤ 1000000) := by have h1 := size_kid (k := k) (n := n) hxm; have h2 := HS.out; unfold Hid; omega
      have E1 : Hid (sm ((ks.map sizeF).take (j + 1)) = m + sizeF x) := by rw [hmm.out]; exact sm_step (by rw [← HL.out]; exact hlt) hxe
      have E2 : sm ((ks.map sizeF).take (j + 1)) ≤ sm (ks.map sizeF) := sm_take_le _ _
      rw [E1.out] at E2
      have hdx : sizeF x ≤ 1000000 := SX.out
      have hws : w.heap.size < wr.heap.size := World.block_lt_of_cell? wr _ hc
      have CL : Hid (Calls Tryz.prog 108 #[.agg #[.int .i64 x.kind, .int .i64 x.num, .slice ai x.kids.length ci]] wr fun e w' => e = .returned (.int .i64 (sizeF x)) ∧ w'.cell? ⟨w.heap.size, 2, none⟩ = some (.slice (some ⟨b, off, none⟩) len c) ∧ Hid (Below w.heap.size w w')) :=
        (HI.out x hxm wr ai ci hxx SX.out).mono fun e w' h => ⟨h.1, (h.2.cell (p := ⟨w.heap.size, 2, none⟩) hws).trans hc, fstep hnx h.2⟩
      clear hxx hxm hxe hmm
      go_wp2_with (go_at_call 108; refine CL.out.mono ?_; rintro e w1 ⟨he, hc1, hb1⟩; subst he)
      go_roundw
      case rel => exact ⟨j + 1, m + sizeF x, by omega, by go_num, by go_num, by omega, E1.out.symm, hc1, hb1.out⟩
      case measure => simp [intOf]; omega
    · have E : Hid (m = sm (ks.map sizeF)) := by rw [hmm.out]; exact sm_all (by rw [← HL.out]; omega)
      clear hmm
      go_wp2_with fail
      go_ret
      exact ⟨reti (by rw [HD.out, ← E.out]; go_num), hnx⟩
def upB (vars k n : Int) (ks : List Ex) (j : Nat) : Bool := nodeB vars k n ks.length && (ks.take j).all (partsB vars)
theorem up_step {vars k n : Int} {ks : List Ex} {j : Nat} {x : Ex} (h : j < ks.length) (hx : x = ks.getD j nilEx) (hu : upB vars k n ks j = true) : upB vars k n ks (j + 1) = partsB vars x := by
  unfold upB at hu ⊢
  rw [Bool.and_eq_true] at hu
  rw [take_snoc nilEx h, List.all_append, hu.1, hu.2, hx]; simp
theorem up_false {vars k n : Int} {ks : List Ex} {j : Nat} (hu : upB vars k n ks j = false) : partsB vars ⟨k, n, ks⟩ = false := by
  cases hp : partsB vars ⟨k, n, ks⟩ with
  | false => rfl
  | true =>
    rw [parts_eq, Bool.and_eq_true, List.all_eq_true] at hp
    have : upB vars k n ks j = true := by
      unfold upB
      rw [Bool.and_eq_true, List.all_eq_true]
      exact ⟨hp.1, fun x hx => hp.2 x (List.mem_of_mem_take hx)⟩
    rw [hu] at this; cases this
theorem up_all {vars k n : Int} {ks : List Ex} {j : Nat} (h : ks.length ≤ j) : upB vars k n ks j = partsB vars ⟨k, n, ks⟩ := by
  unfold upB; rw [List.take_of_length_le h, parts_eq]
theorem valb {a b : Bool} (h : a = b) : Value.bool a = .bool b := by rw [h]

set_option maxRecDepth 100000 in
set_option maxHeartbeats 2000000 in
theorem rparts_any (vars : Int) : ∀ (t : Ex) (w : World) (a : Option Addr) (c : Nat), X w t a → sizeF t ≤ 1000000 →
    Calls Tryz.prog 109 #[.agg #[.int .i64 t.kind, .int .i64 t.num, .slice a t.kids.length c], .int .i64 vars] w fun e w' => e = .returned (.bool (partsB vars t)) ∧ Below w.heap.size w w' := by
  refine Ex.ind fun k n ks ih w a c h hs => ?_
  have HX : Hid (X w ⟨k, n, ks⟩ a) := h
  have HI : Hid (∀ (x : Ex), x ∈ ks → ∀ (w : World) (a : Option Addr) (c : Nat), X w x a → sizeF x ≤ 1000000 → Calls Tryz.prog 109 #[.agg #[.int .i64 x.kind, .int .i64 x.num, .slice a x.kids.length c], .int .i64 vars] w fun e w' => e = .returned (.bool (partsB vars x)) ∧ Below w.heap.size w w') := ih
  have hlen : ks.length ≤ 1000000 := by have := len_size k n ks; omega
  have HS : Hid (sizeF ⟨k, n, ks⟩ ≤ 1000000) := hs
  clear ih h hs
  show Calls Tryz.prog 109 #[.agg #[.int .i64 k, .int .i64 n, .slice a ks.length c], .int .i64 vars] w _
  obtain ⟨len, hl⟩ : ∃ len, len = ks.length := ⟨_, rfl⟩
  rw [← hl] at hlen ⊢
  have HL : Hid (len = ks.length) := hl
  clear hl
  go_enter Tryz.func109, Tryz.ntmps109
  go_upto_block 0 with (fail)
  go_cut [6] from 8 (fun s wc => s = .bool (nodeB vars k n len) ∧ wc = w.alloc (.cells #[.int .i64 k, .int .i64 n, .slice a len c] 49))
  case first =>
    by_cases h1 : k = 1
    · subst h1
      go_wp2_with fail
      go_meet
      exact ⟨valb node1.symm, rfl⟩
    by_cases h2 : k = 2
    · subst h2
      by_cases hl : len = 0
      · subst hl
        by_cases hn : n < 0
        · have N : Hid (nodeB vars 2 n 0 = false) := node2b hn
          have hd : ¬ 0 ≤ n := by omega
          go_wp2_with fail
          go_meet
          exact ⟨valb N.out.symm, rfl⟩
        · have hn' : 0 ≤ n := by omega
          have N : Hid (nodeB vars 2 n 0 = decide (n < vars)) := node2c rfl hn'
          go_wp2_with fail
          go_meet
          exact ⟨valb N.out.symm, rfl⟩
      · have N : Hid (nodeB vars 2 n len = false) := node2a hl
        have hd : ¬ (len : Int) = 0 := by omega
        go_wp2_with fail
        go_meet
        exact ⟨valb N.out.symm, rfl⟩
    by_cases h3 : k = 3
    · subst h3
      go_wp2_with fail
      go_meet
      exact ⟨valb node3.symm, rfl⟩
    by_cases h4 : k = 4
    · subst h4
      go_wp2_with fail
      go_meet
      exact ⟨valb node4.symm, rfl⟩
    by_cases h5 : k = 5
    · subst h5
      by_cases hl : len = 2
      · subst hl
        go_wp2_with (go_at_call 129; refine (rknown_any _ _).mono ?_; rintro e w' ⟨he, hw⟩; subst he; subst hw)
        go_meet
        exact ⟨valb (node5t rfl).symm, rfl⟩
      · have hd : ¬ (len : Int) = 2 := by omega
        go_wp2_with fail
        go_meet
        exact ⟨valb (node5f hl).symm, rfl⟩
    by_cases h6 : k = 6
    · subst h6
      go_wp2_with fail
      go_meet
      exact ⟨valb node6.symm, rfl⟩
    · go_wp2_with fail
      go_meet
      exact ⟨valb (node_no h1 h2 h3 h4 h5 h6).symm, rfl⟩
  case rest =>
  obtain ⟨rfl, rfl⟩ := hcut
  have U0 : Hid (nodeB vars k n len = upB vars k n ks 0) := by unfold Hid upB; rw [HL.out]; simp
  generalize nodeB vars k n len = nb at *
  go_wp2_with fail
  go_loopw [6, 7] (fun s i wr => ∃ (j : Nat) (b : Bool), j ≤ len ∧ i = .int .i64 j ∧ s = .bool b ∧ Hid (b = upB vars k n ks j) ∧ wr.cell? ⟨w.heap.size, 2, none⟩ = some (.slice a len c) ∧ Below w.heap.size w wr) (fun _ i _ => len - (intOf i).toNat)
  case atStart => exact ⟨0, nb, by omega, rfl, rfl, U0, by simp, (Below.refl _ _).alloc (Nat.le_refl _) _⟩
  case round =>
    obtain ⟨j, b, hj, rfl, rfl, hbb, hc, hnx⟩ := hrel
    by_cases hlt : j < len
    · have hlt' : (j : Int) < len := by omega
      cases b with
      | false =>
        have E : Hid (partsB vars ⟨k, n, ks⟩ = false) := up_false hbb.out.symm
        clear hbb
        go_wp2_with fail
        go_ret
        exact ⟨by rw [E.out]; rfl, hnx⟩
      | true =>
        obtain ⟨b, off, x, ai, ci, ha, hbl, hxm, hxe, c0, c1, c2, hxx⟩ := (HX.out.below hnx).kid (i := j) (by rw [← HL.out]; exact hlt)
        subst ha
        have SX : sizeF x ≤ 1000000 := by have h1 := size_kid (k := k) (n := n) hxm; have h2 := HS.out; omega
        have E1 : Hid (partsB vars x = upB vars k n ks (j + 1)) := (up_step (by rw [← HL.out]; exact hlt) hxe hbb.out.symm).symm
        have hws : w.heap.size < wr.heap.size := World.block_lt_of_cell? wr _ hc
        have CL : Hid (Calls Tryz.prog 109 #[.agg #[.int .i64 x.kind, .int .i64 x.num, .slice ai x.kids.length ci], .int .i64 vars] wr fun e w' => e = .returned (.bool (partsB vars x)) ∧ w'.cell? ⟨w.heap.size, 2, none⟩ = some (.slice (some ⟨b, off, none⟩) len c) ∧ Hid (Below w.heap.size w w')) :=
          (HI.out x hxm wr ai ci hxx SX).mono fun e w' h => ⟨h.1, (h.2.cell (p := ⟨w.heap.size, 2, none⟩) hws).trans hc, fstep hnx h.2⟩
        clear hxx hxm hxe hbb SX
        generalize partsB vars x = pb at *
        go_wp2_with (go_at_call 109; refine CL.out.mono ?_; rintro e w1 ⟨he, hc1, hb1⟩; subst he)
        go_roundw
        case rel => exact ⟨j + 1, pb, by omega, by go_num, rfl, E1, hc1, hb1.out⟩
        case measure => simp [intOf]; omega
    · have E : Hid (b = partsB vars ⟨k, n, ks⟩) := by rw [hbb.out]; exact up_all (by rw [← HL.out]; omega)
      have hlt' : ¬ (j : Int) < len := by omega
      clear hbb
      go_wp2_with fail
      go_ret
      exact ⟨retb E.out, hnx⟩

set_option maxRecDepth 100000 in
set_option maxHeartbeats 2000000 in
theorem rright_any (t : Ex) (w : World) (a : Option Addr) (c : Nat) (vars : Int) (hx : X w t a) (hs : sizeF t ≤ 1000000) :
    Calls Tryz.prog 52 #[.agg #[.int .i64 t.kind, .int .i64 t.num, .slice a t.kids.length c], .int .i64 vars] w fun e w' => e = .returned (.bool (rightB vars t)) ∧ Below w.heap.size w w' := by
  have KB : Hid (Bs _ w.heap.size w.heap.size t t a a c c _) := bs_one w t a c
  have B0 : Hid (Below w.heap.size w (w.alloc (.cells #[.int .i64 t.kind, .int .i64 t.num, .slice a t.kids.length c] 49))) := al1 _ _
  have HX : Hid (X (w.alloc (.cells #[.int .i64 t.kind, .int .i64 t.num, .slice a t.kids.length c] 49)) t a) := hx.below B0.out
  have ST : Hid (sizeF t ≤ 1000000) := hs
  clear hx hs
  by_cases h1 : (depthF t : Int) ≤ 40
  · by_cases h2 : (sizeF t : Int) ≤ 400
    · have E : Hid (rightB vars t = partsB vars t) := by
        have : depthF t ≤ 40 ∧ sizeF t ≤ 400 := ⟨by omega, by omega⟩
        unfold Hid rightB; simp [this]
      rw [E.out]
      go_enter Tryz.func52, Tryz.ntmps52
      go_wp2_with fail
      refine (Bs.call KB.out (fun hb => rdepth_any t _ a c (HX.out.below hb) ST.out)).mono ?_
      clear KB
      rintro e w1 ⟨he, KB, ⟨⟨b0, b1, b2⟩, bl⟩, -, -⟩
      subst he
      go_wp2_with fail
      refine (Bs.call KB.out (fun hb => rsize_any t _ a c (HX.out.below hb) ST.out)).mono ?_
      clear KB b0 b1 b2 bl
      rintro e w2 ⟨he, KB, ⟨⟨b0, b1, b2⟩, bl⟩, -, -⟩
      subst he
      go_wp2_with fail
      refine (Bs.call KB.out (fun hb => rparts_any vars t _ a c (HX.out.below hb) ST.out)).mono ?_
      clear KB b0 b1 b2 bl
      rintro e w3 ⟨he, KB, -⟩
      subst he
      go_wp2_with fail
      go_ret
      exact ⟨rfl, bs_end B0.out KB.out⟩
    · have E : Hid (rightB vars t = false) := by unfold Hid rightB; simp; omega
      rw [E.out]
      go_enter Tryz.func52, Tryz.ntmps52
      go_wp2_with fail
      refine (Bs.call KB.out (fun hb => rdepth_any t _ a c (HX.out.below hb) ST.out)).mono ?_
      clear KB
      rintro e w1 ⟨he, KB, ⟨⟨b0, b1, b2⟩, bl⟩, -, -⟩
      subst he
      go_wp2_with fail
      refine (Bs.call KB.out (fun hb => rsize_any t _ a c (HX.out.below hb) ST.out)).mono ?_
      clear KB b0 b1 b2 bl
      rintro e w2 ⟨he, KB, -⟩
      subst he
      go_wp2_with fail
      go_ret
      exact ⟨rfl, bs_end B0.out KB.out⟩
  · have E : Hid (rightB vars t = false) := by unfold Hid rightB; simp; omega
    rw [E.out]
    go_enter Tryz.func52, Tryz.ntmps52
    go_wp2_with fail
    refine (Bs.call KB.out (fun hb => rdepth_any t _ a c (HX.out.below hb) ST.out)).mono ?_
    clear KB
    rintro e w1 ⟨he, KB, -⟩
    subst he
    go_wp2_with fail
    go_ret
    exact ⟨rfl, bs_end B0.out KB.out⟩
end Go.Proofs.YtgdkomkflfodaaaGreat.Expr
