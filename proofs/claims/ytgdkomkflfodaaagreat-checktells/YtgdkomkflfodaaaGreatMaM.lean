/- A net that is asked about: within, isPlace, isColour, and what is wrong with the net beside its rows: contracts of the calls, over the turned program. -/
import Derived.Test.YtgdkomkflfodaaaGreatMaL
namespace Go.Proofs.YtgdkomkflfodaaaGreat.Check
open Go.RowKit Go.Proofs.YtgdkomkflfodaaaGreat.Frame Go.Proofs.YtgdkomkflfodaaaGreat.Colour Go.Proofs.YtgdkomkflfodaaaGreat.Expr
set_option linter.unusedVariables false
set_option linter.unusedSimpArgs false

def inB (i : Int) (n : Nat) : Bool := decide (0 ≤ i ∧ i < n)
theorem inB_yes {i : Int} {n : Nat} (h : inB i n = true) : ∃ k : Nat, i = k ∧ k < n := by
  have h := of_decide_eq_true h
  obtain ⟨k, hk⟩ := Int.eq_ofNat_of_zero_le h.1
  exact ⟨k, hk, by omega⟩
theorem inB_no {i : Int} {n : Nat} (h : inB i n = false) : ¬ (0 ≤ i ∧ i < n) := of_decide_eq_false h
theorem inB_nat {k n : Nat} (h : k < n) : inB (k : Int) n = true := decide_eq_true ⟨by omega, by omega⟩
set_option maxHeartbeats 400000 in
theorem within_any (i : Int) (n : Nat) (w : World) : Calls Tryz.prog 41 #[.int .i64 i, .int .i64 (n : Int)] w fun e w' => e = .returned (.bool (inB i n)) ∧ w' = w := by
  go_enter Tryz.func41, Tryz.ntmps41
  go_wp2
  all_goals go_ret
  all_goals exact ⟨Colour.retb (by unfold inB; simp; omega), rfl⟩

/-- a subject's cells -/
def subC (n : Ne) (g : Nat) : Array Value := #[.slice n.ca n.cols.length n.cc, .slice n.pa n.places.length n.pc, .slice n.ta n.tasks.length n.tc, .int .i64 n.frm, .int .i64 n.too, .slice (some ⟨g, 0, none⟩) n.cols.length n.cols.length]
/-- how great the colours are, in memory -/
def Sz (w : World) (g : Nat) (n : Ne) : Prop := ∀ j, j < n.cols.length → w.cell? ⟨g, j, none⟩ = some (.int .i64 (sizeF n.cols j))
theorem Sz.below {w w' : World} {g : Nat} {n : Ne} (h : Sz w g n) (hb : Below w.heap.size w w') : Sz w' g n := fun j hj => box_below (h j hj) hb
/-- how many parts there are at most -/
def Sm (n : Ne) : Prop := (n.cols.length ≤ 1000000 ∧ n.places.length ≤ 1000000 ∧ n.tasks.length ≤ 1000000) ∧ (∀ p, p ∈ n.places → p.first.length ≤ 1000000) ∧ (∀ t, t ∈ n.tasks → t.vars.length ≤ 1000000 ∧ t.ins.length ≤ 1000000 ∧ t.outs.length ≤ 1000000 ∧ t.cancel.length ≤ 1000000) ∧ ∀ c, c ∈ n.cols → c.names.length ≤ 1000000
/-- a subject, as it is handed on -/
def Su (w : World) (n : Ne) (g : Nat) : Prop := NeOk w n ∧ Sz w g n ∧ Sm n
theorem Su.below {w w' : World} {n : Ne} {g : Nat} (h : Su w n g) (hb : Below w.heap.size w w') : Su w' n g := ⟨h.1.below hb, h.2.1.below hb, h.2.2⟩
/-- a subject in a box -/
def SBox (w : World) (q : Nat) (n : Ne) (g : Nat) : Prop := w.cell? ⟨q, 0, none⟩ = some (.slice n.ca n.cols.length n.cc) ∧ w.cell? ⟨q, 1, none⟩ = some (.slice n.pa n.places.length n.pc) ∧ w.cell? ⟨q, 2, none⟩ = some (.slice n.ta n.tasks.length n.tc) ∧ w.cell? ⟨q, 3, none⟩ = some (.int .i64 n.frm) ∧ w.cell? ⟨q, 4, none⟩ = some (.int .i64 n.too) ∧ w.cell? ⟨q, 5, none⟩ = some (.slice (some ⟨g, 0, none⟩) n.cols.length n.cols.length)
theorem SBox.below {w w' : World} {q g : Nat} {n : Ne} (h : SBox w q n g) (hb : Below w.heap.size w w') : SBox w' q n g :=
  ⟨box_below h.1 hb, box_below h.2.1 hb, box_below h.2.2.1 hb, box_below h.2.2.2.1 hb, box_below h.2.2.2.2.1 hb, box_below h.2.2.2.2.2 hb⟩
theorem SBox.new (w : World) (n : Ne) (g : Nat) (T : TypeId) : SBox (w.alloc (.cells (subC n g) T)) w.heap.size n g := by
  refine ⟨?_, ?_, ?_, ?_, ?_, ?_⟩ <;> exact (World.cell?_alloc_at _ _ _ _ rfl)

theorem isPlace_any (n : Ne) (g : Nat) (k : Int) (w : World) : Calls Tryz.prog 76 #[.agg (subC n g), .int .i64 k] w fun e w' => e = .returned (.bool (inB k n.places.length)) ∧ Below w.heap.size w w' := by
  unfold subC
  go_enter Tryz.func76, Tryz.ntmps76
  go_wp2_with (go_at_call 41; refine (within_any _ _ _).mono ?_; rintro e w' ⟨he, hw⟩; subst he; have hw := hw.symm; subst hw)
  go_ret
  exact ⟨rfl, (Below.refl _ _).alloc (Nat.le_refl _) _⟩
theorem isColour_any (n : Ne) (g : Nat) (k : Int) (w : World) : Calls Tryz.prog 82 #[.agg (subC n g), .int .i64 k] w fun e w' => e = .returned (.bool (inB k n.cols.length)) ∧ Below w.heap.size w w' := by
  unfold subC
  go_enter Tryz.func82, Tryz.ntmps82
  go_wp2_with (go_at_call 41; refine (within_any _ _ _).mono ?_; rintro e w' ⟨he, hw⟩; subst he; have hw := hw.symm; subst hw)
  go_ret
  exact ⟨rfl, (Below.refl _ _).alloc (Nat.le_refl _) _⟩

/- the net beside its rows -/
def longB (n : Ne) : Bool := decide (64 < n.places.length) || decide (64 < n.tasks.length)
def endsB (n : Ne) : Bool := !inB n.frm n.places.length || !inB n.too n.places.length
theorem whole1_any (q g : Nat) (n : Ne) (w : World) (h : SBox w q n g) (hm : Sm n) : Calls Tryz.prog 74 #[.pointer (some ⟨q, 0, none⟩)] w fun e w' => e = .returned (.bool (longB n)) ∧ Below w.heap.size w w' := by
  obtain ⟨c0, c1, c2, c3, c4, c5⟩ := h
  by_cases h1 : 64 < n.places.length
  · have h1' : (64 : Int) < n.places.length := by omega
    have R : Hid (longB n = true) := by unfold longB; rw [decide_eq_true h1]; rfl
    go_enter Tryz.func74, Tryz.ntmps74
    go_wp2_with fail
    go_ret
    exact ⟨by rw [R.out]; rfl, Below.refl _ _⟩
  · have h1' : ¬ (64 : Int) < n.places.length := by omega
    by_cases h2 : 64 < n.tasks.length
    · have h2' : (64 : Int) < n.tasks.length := by omega
      have R : Hid (longB n = true) := by unfold longB; rw [decide_eq_true h2, Bool.or_true]; exact rfl
      go_enter Tryz.func74, Tryz.ntmps74
      go_wp2_with fail
      go_ret
      exact ⟨by rw [R.out]; rfl, Below.refl _ _⟩
    · have h2' : ¬ (64 : Int) < n.tasks.length := by omega
      have R : Hid (longB n = false) := by unfold longB; rw [decide_eq_false h1, decide_eq_false h2]; rfl
      go_enter Tryz.func74, Tryz.ntmps74
      go_wp2_with fail
      go_ret
      exact ⟨by rw [R.out]; rfl, Below.refl _ _⟩
theorem whole2_any (q g : Nat) (n : Ne) (w : World) (h : SBox w q n g) : Calls Tryz.prog 75 #[.pointer (some ⟨q, 0, none⟩)] w fun e w' => e = .returned (.bool (endsB n)) ∧ Below w.heap.size w w' := by
  have H0 : Hid (SBox w q n g) := h
  obtain ⟨c0, c1, c2, c3, c4, c5⟩ := h
  have I1 : Hid (∀ W, Calls Tryz.prog 76 #[.agg (subC n g), .int .i64 n.frm] W fun e w' => e = .returned (.bool (inB n.frm n.places.length)) ∧ Below W.heap.size W w') := fun W => isPlace_any n g n.frm W
  have I2 : Hid (∀ W, Calls Tryz.prog 76 #[.agg (subC n g), .int .i64 n.too] W fun e w' => e = .returned (.bool (inB n.too n.places.length)) ∧ Below W.heap.size W w') := fun W => isPlace_any n g n.too W
  unfold subC at I1 I2
  cases h1 : inB n.frm n.places.length with
  | false =>
    have R : Hid (endsB n = true) := by unfold endsB; rw [h1]; rfl
    rw [h1] at I1
    go_enter Tryz.func75, Tryz.ntmps75
    go_wp2_with (go_at_call 76; refine (I1.out _).mono ?_; rintro e w' ⟨he, hb⟩; subst he)
    go_ret
    exact ⟨by rw [R.out]; rfl, hb⟩
  | true =>
    have R : Hid (endsB n = !inB n.too n.places.length) := by unfold endsB; rw [h1]; rfl
    rw [h1] at I1
    clear h1
    go_enter Tryz.func75, Tryz.ntmps75
    go_wp2_with fail
    refine (I1.out _).mono ?_
    rintro e w1 ⟨he, hb⟩
    subst he
    clear c0 c1 c2 c3 c4 c5
    obtain ⟨c0, c1, c2, c3, c4, c5⟩ := H0.out.below hb
    have B1 : Hid (Below w.heap.size w w1) := hb
    clear hb
    go_wp2_with fail
    refine (I2.out _).mono ?_
    rintro e w2 ⟨he, hb⟩
    subst he
    have B2 : Hid (Below w.heap.size w w2) := then_ B1.out hb
    clear hb
    go_wp2_with fail
    go_ret
    exact ⟨by rw [R.out]; rfl, B2.out⟩
theorem whole3_any (q g : Nat) (n : Ne) (w : World) (h : SBox w q n g) : Calls Tryz.prog 77 #[.pointer (some ⟨q, 0, none⟩)] w fun e w' => e = .returned (.bool (n.frm == n.too)) ∧ Below w.heap.size w w' := by
  obtain ⟨c0, c1, c2, c3, c4, c5⟩ := h
  go_enter Tryz.func77, Tryz.ntmps77
  go_wp2_with fail
  go_ret
  exact ⟨rfl, Below.refl _ _⟩

def wholeF (n : Ne) : Int := firstNZ [errB (longB n) 2, errB (endsB n) 3, errB (n.frm == n.too) 1]
theorem goes_whole1 : Goes 74 := fun args W => by kernel_rfl
theorem goes_whole2 : Goes 75 := fun args W => by kernel_rfl
theorem goes_whole3 : Goes 77 := fun args W => by kernel_rfl
theorem whole_any (n : Ne) (g : Nat) (w : World) (h : Su w n g) : Calls Tryz.prog 29 #[.agg (subC n g)] w fun e w' => e = .returned (.int .i64 (wholeF n)) ∧ Below w.heap.size w w' := by
  have hm : Hid (Sm n) := h.2.2
  clear h
  obtain ⟨wz, hwz⟩ : ∃ wz, wz = w.alloc (.cells (subC n g) 67) := ⟨_, rfl⟩
  have HZ : Hid (Below w.heap.size w wz ∧ SBox wz w.heap.size n g) := by rw [hwz]; exact ⟨(Below.refl _ _).alloc (Nat.le_refl _) _, SBox.new w n g _⟩
  have HB1 : Hid (AskB wz (.func (.func 74) #[] #[.pointer (some ⟨w.heap.size, 0, none⟩)]) (longB n)) := ⟨_, _, rfl, goes_whole1, fun W hW => whole1_any _ g n W (HZ.out.2.below hW) hm.out⟩
  have HB2 : Hid (AskB wz (.func (.func 75) #[] #[.pointer (some ⟨w.heap.size, 0, none⟩)]) (endsB n)) := ⟨_, _, rfl, goes_whole2, fun W hW => whole2_any _ g n W (HZ.out.2.below hW)⟩
  have HB3 : Hid (AskB wz (.func (.func 77) #[] #[.pointer (some ⟨w.heap.size, 0, none⟩)]) (n.frm == n.too)) := ⟨_, _, rfl, goes_whole3, fun W hW => whole3_any _ g n W (HZ.out.2.below hW)⟩
  unfold subC at hwz ⊢
  go_enter Tryz.func29, Tryz.ntmps29
  go_wp2_with fail
  rw [← hwz]
  refine (tells_any _ _ _ _ HB1.out).mono ?_
  rintro en w1 ⟨K1, c1, he, hu1, hb1⟩
  subst he
  have U1 : Hid (Ask w1 (.func (.func K1) #[] c1) _ ∧ Below wz.heap.size wz w1) := ⟨hu1, hb1⟩
  clear hu1 hb1 HB1
  go_wp2_with fail
  refine (tells_any _ _ _ _ (HB2.out.below U1.out.2)).mono ?_
  rintro en w2 ⟨K2, c2, he, hu2, hb2⟩
  subst he
  have U2 : Hid (Ask w2 (.func (.func K1) #[] c1) _ ∧ Ask w2 (.func (.func K2) #[] c2) _ ∧ Below wz.heap.size wz w2) := ⟨U1.out.1.below hb2, hu2, then_ U1.out.2 hb2⟩
  clear hu2 hb2 HB2 U1
  go_wp2_with fail
  refine (tells_any _ _ _ _ (HB3.out.below U2.out.2.2)).mono ?_
  rintro en w3 ⟨K3, c3, he, hu3, hb3⟩
  subst he
  have U3 : Hid (Ask w3 (.func (.func K1) #[] c1) _ ∧ Ask w3 (.func (.func K2) #[] c2) _ ∧ Ask w3 (.func (.func K3) #[] c3) _ ∧ Below w.heap.size w w3) := ⟨U2.out.1.below hb3, U2.out.2.1.below hb3, hu3, then_ HZ.out.1 (then_ U2.out.2.2 hb3)⟩
  clear hu3 hb3 HB3 U2
  go_wp2_with fail
  refine (first_new #[.func (.func K1) #[] c1, .func (.func K2) #[] c2, .func (.func K3) #[] c3] _ 3 [errB (longB n) 2, errB (endsB n) 3, errB (n.frm == n.too) 1] w3 rfl rfl (by decide) (fun k hk h0 => ?_)).mono ?_
  rotate_left 1
  · rintro en w4 ⟨he, hb4⟩
    subst he
    have HB4 : Hid (Below w.heap.size w w4) := then_ U3.out.2.2.2 hb4
    clear hb4 U3
    go_wp2_with fail
    go_ret
    exact ⟨rfl, HB4.out⟩
  · match k, hk with
    | 0, _ => exact U3.out.1
    | 1, _ => exact U3.out.2.1
    | 2, _ => exact U3.out.2.2.1
end Go.Proofs.YtgdkomkflfodaaaGreat.Check
