/- What is asked of a net, part by part: contracts of the closures, over the turned program. -/
import Derived.Test.YtgdkomkflfodaaaGreatMaU
import Derived.Test.YtgdkomkflfodaaaGreatMaV
import Derived.Test.YtgdkomkflfodaaaGreatMaQ
namespace Go.Proofs.YtgdkomkflfodaaaGreat.Check
open Go.RowKit Go.Proofs.YtgdkomkflfodaaaGreat.Frame Go.Proofs.YtgdkomkflfodaaaGreat.Colour Go.Proofs.YtgdkomkflfodaaaGreat.Expr
set_option linter.unusedVariables false
set_option linter.unusedSimpArgs false

theorem net1_any (q g k : Nat) (n : Ne) (w : World) (h : SBox w q n g) (hs : Su w n g) : Calls Tryz.prog 28 #[.int .i64 (k : Int), .pointer (some ⟨q, 0, none⟩)] w fun e w' => e = .returned (.int .i64 (wholeF n)) ∧ Below w.heap.size w w' := by
  obtain ⟨c0, c1, c2, c3, c4, c5⟩ := h
  have I1 : Hid (Calls Tryz.prog 29 #[.agg (subC n g)] w fun e w' => e = .returned (.int .i64 (wholeF n)) ∧ Below w.heap.size w w') := whole_any n g w hs
  unfold subC at I1
  clear hs
  go_enter Tryz.func28, Tryz.ntmps28
  go_wp2_with fail
  refine I1.out.mono ?_
  rintro e w1 ⟨he, hb⟩
  subst he
  have B1 : Hid (Below w.heap.size w w1) := hb
  clear hb
  go_wp2_with fail
  go_ret
  exact ⟨rfl, B1.out⟩
theorem net21_any (p q : Nat) (k x : Int) (w : World) (hp : w.cell? ⟨p, 0, none⟩ = some (.int .i64 k)) (hq : w.cell? ⟨q, 0, none⟩ = some (.int .i64 x)) : Calls Tryz.prog 33 #[.pointer (some ⟨p, 0, none⟩), .pointer (some ⟨q, 0, none⟩)] w fun e w' => e = .returned (.bool (k == x)) ∧ Below w.heap.size w w' := by
  go_enter Tryz.func33, Tryz.ntmps33
  go_wp2_with fail
  go_ret
  exact ⟨rfl, Below.refl _ _⟩
theorem goes_net21 : Goes 33 := fun args W => by kernel_rfl
def colF (x : Nat) (k : Nat) : Int := errB (decide (k = x)) 8
theorem net2_any (q k x : Nat) (w : World) (hq : w.cell? ⟨q, 0, none⟩ = some (.int .i64 (x : Int))) : Calls Tryz.prog 30 #[.int .i64 (k : Int), .pointer (some ⟨q, 0, none⟩)] w fun e w' => e = .returned (.int .i64 (colF x k)) ∧ Below w.heap.size w w' := by
  obtain ⟨wz, hwz⟩ : ∃ wz, wz = w.alloc (.cells #[.int .i64 (k : Int)] 3) := ⟨_, rfl⟩
  have hz : Below w.heap.size w wz := by rw [hwz]; exact (Below.refl _ _).alloc (Nat.le_refl _) _
  have hk : wz.cell? ⟨w.heap.size, 0, none⟩ = some (.int .i64 (k : Int)) := by rw [hwz]; exact World.cell?_alloc_at _ _ _ _ rfl
  have HB0 : Hid (AskB wz (.func (.func 33) #[] #[.pointer (some ⟨w.heap.size, 0, none⟩), .pointer (some ⟨q, 0, none⟩)]) ((k : Int) == (x : Int))) := ⟨_, _, rfl, goes_net21, fun W hW => net21_any _ _ _ _ W (box_below hk hW) (box_below (box_below hq hz) hW)⟩
  have HZ : Hid (Below w.heap.size w wz) := hz
  have HE : Hid (firstNZ [errB ((k : Int) == (x : Int)) 8] = colF x k) := by
    have e : ((k : Int) == (x : Int)) = decide (k = x) := by rw [Bool.eq_iff_iff]; simp; omega
    unfold colF
    rw [e]
    cases decide (k = x) <;> rfl
  clear hz hk hq
  go_enter Tryz.func30, Tryz.ntmps30
  go_wp2_with fail
  rw [← hwz]
  refine (tells_any _ _ _ _ HB0.out).mono ?_
  rintro en v0 ⟨K0, c0, he, hu, hb⟩
  subst he
  have U0 : Hid (Ask v0 (.func (.func K0) #[] c0) _ ∧ Below wz.heap.size wz v0) := ⟨hu, hb⟩
  clear hu hb
  go_wp2_with fail
  refine (first_new #[.func (.func K0) #[] c0] _ 1 [errB ((k : Int) == (x : Int)) 8] v0 rfl rfl (by decide) (fun k hk h0 => ?_)).mono ?_
  rotate_left 1
  · rintro en wl ⟨he, hb⟩
    subst he
    have HB : Hid (Below w.heap.size w wl) := then_ HZ.out (then_ U0.out.2 hb)
    clear hb U0
    go_wp2_with fail
    go_ret
    exact ⟨by rw [← HE.out]; rfl, HB.out⟩
  · match k, hk with
    | 0, _ => exact U0.out.1

theorem net3_any (q g k : Nat) (n : Ne) (w : World) (h : SBox w q n g) (hs : Su w n g) (hk : k < n.places.length) : Calls Tryz.prog 34 #[.int .i64 (k : Int), .pointer (some ⟨q, 0, none⟩)] w fun e w' => e = .returned (.int .i64 (placeF n k)) ∧ Below w.heap.size w w' := by
  obtain ⟨c0, c1, c2, c3, c4, c5⟩ := h
  have I1 : Hid (Calls Tryz.prog 35 #[.agg (subC n g), .int .i64 (k : Int)] w fun e w' => e = .returned (.int .i64 (placeF n k)) ∧ Below w.heap.size w w') := place_any n g k w hs hk
  unfold subC at I1
  clear hs
  go_enter Tryz.func34, Tryz.ntmps34
  go_wp2_with fail
  refine I1.out.mono ?_
  rintro e w1 ⟨he, hb⟩
  subst he
  have B1 : Hid (Below w.heap.size w w1) := hb
  clear hb
  go_wp2_with fail
  go_ret
  exact ⟨rfl, B1.out⟩
theorem net4_any (q g k : Nat) (n : Ne) (w : World) (h : SBox w q n g) (hs : Su w n g) (hk : k < n.tasks.length) : Calls Tryz.prog 36 #[.int .i64 (k : Int), .pointer (some ⟨q, 0, none⟩)] w fun e w' => e = .returned (.int .i64 (taskF n k)) ∧ Below w.heap.size w w' := by
  obtain ⟨c0, c1, c2, c3, c4, c5⟩ := h
  have I1 : Hid (Calls Tryz.prog 37 #[.agg (subC n g), .int .i64 (k : Int)] w fun e w' => e = .returned (.int .i64 (taskF n k)) ∧ Below w.heap.size w w') := task_any n g k w hs hk
  unfold subC at I1
  clear hs
  go_enter Tryz.func36, Tryz.ntmps36
  go_wp2_with fail
  refine I1.out.mono ?_
  rintro e w1 ⟨he, hb⟩
  subst he
  have B1 : Hid (Below w.heap.size w w1) := hb
  clear hb
  go_wp2_with fail
  go_ret
  exact ⟨rfl, B1.out⟩
theorem goes_net1 : Goes 28 := fun args W => by kernel_rfl
theorem goes_net2 : Goes 30 := fun args W => by kernel_rfl
theorem goes_net3 : Goes 34 := fun args W => by kernel_rfl
theorem goes_net4 : Goes 36 := fun args W => by kernel_rfl

/- the parts of a net -/
def partN (n : Ne) : Nat → Nat
  | 0 => 1
  | 1 => n.cols.length
  | 2 => n.places.length
  | _ => n.tasks.length
def partF (n : Ne) : Nat → Nat → Int
  | 0 => fun _ => wholeF n
  | 1 => colF (wrongF n.cols)
  | 2 => placeF n
  | _ => taskF n
/-- the first part that is wrong, and what is wrong with it -/
def NetIs (n : Ne) (kd at_ er : Int) : Prop := (kd = 0 ∧ at_ = 0 ∧ er = 0 ∧ ∀ i, i < 4 → ∀ k, k < partN n i → partF n i k = 0) ∨
  ∃ i k : Nat, i < 4 ∧ k < partN n i ∧ kd = i + 1 ∧ at_ = k ∧ er = partF n i k ∧ er ≠ 0 ∧ (∀ j, j < k → partF n i j = 0) ∧ ∀ i', i' < i → ∀ j, j < partN n i' → partF n i' j = 0
theorem NetIs.uniq {n : Ne} {a b c d e f : Int} (h : NetIs n a b c) (g : NetIs n d e f) : a = d ∧ b = e ∧ c = f := by
  rcases h with ⟨h1, h2, h3, h4⟩ | ⟨i, k, hi, hk, h1, h2, h3, h4, h5, h6⟩ <;> rcases g with ⟨g1, g2, g3, g4⟩ | ⟨i', k', gi, gk, g1, g2, g3, g4, g5, g6⟩
  · exact ⟨by omega, by omega, by omega⟩
  · exact absurd (g3.trans (h4 i' gi k' gk)) g4
  · exact absurd (h3.trans (g4 i hi k hk)) h4
  · have e1 : i = i' := by
      rcases Nat.lt_trichotomy i i' with x | x | x
      · exact absurd (h3.trans (g6 i x k hk)) h4
      · exact x
      · exact absurd (g3.trans (h6 i' x k' gk)) g4
    subst e1
    have e2 : k = k' := by
      rcases Nat.lt_trichotomy k k' with x | x | x
      · exact absurd (h3.trans (g5 k x)) h4
      · exact x
      · exact absurd (g3.trans (h5 k' x)) g4
    subst e2
    exact ⟨by omega, by omega, by rw [h3, g3]⟩
end Go.Proofs.YtgdkomkflfodaaaGreat.Check
