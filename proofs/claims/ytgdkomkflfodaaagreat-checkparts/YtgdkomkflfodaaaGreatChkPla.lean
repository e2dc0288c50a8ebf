/- What is wrong with a place: contracts of the calls, over the turned program. -/
import Derived.Test.YtgdkomkflfodaaaGreatChkSub
namespace Go.Proofs.YtgdkomkflfodaaaGreat.Check
open Go.RowKit Go.Proofs.YtgdkomkflfodaaaGreat.Frame Go.Proofs.YtgdkomkflfodaaaGreat.Colour Go.Proofs.YtgdkomkflfodaaaGreat.Expr
set_option linter.unusedVariables false
set_option linter.unusedSimpArgs false

theorem Su.place {w : World} {n : Ne} {g k : Nat} (h : Su w n g) (hk : k < n.places.length) : ∃ b off, n.pa = some ⟨b, off, none⟩ ∧ (w.cell? ⟨b, off + k * 3, none⟩ = some (.string (n.places.getD k nilPl).name) ∧ w.cell? ⟨b, off + k * 3 + 1, none⟩ = some (.int .i64 (n.places.getD k nilPl).colour) ∧ w.cell? ⟨b, off + k * 3 + 2, none⟩ = some (.slice (n.places.getD k nilPl).fa (n.places.getD k nilPl).first.length (n.places.getD k nilPl).fc)) ∧ PlOk w (n.places.getD k nilPl) := by
  obtain ⟨b, off, ha, hr, ho⟩ := h.1.2.2.1.at hk
  exact ⟨b, off, ha, ⟨hr 0 _ rfl, hr 1 _ rfl, hr 2 _ rfl⟩, ho⟩
theorem place_mem {n : Ne} {k : Nat} (hk : k < n.places.length) : n.places.getD k nilPl ∈ n.places := by
  rw [List.getD_eq_getElem?_getD, List.getElem?_eq_getElem hk]; exact List.getElem_mem hk

theorem place1_any (q g j : Nat) (n : Ne) (w : World) (h : SBox w q n g) (hs : Su w n g) (hj : j < n.places.length) :
    Calls Tryz.prog 80 #[.int .i64 (j : Int), .pointer (some ⟨q, 0, none⟩)] w fun e w' => e = .returned (.string (n.places.getD j nilPl).name) ∧ w' = w := by
  obtain ⟨c0, c1, c2, c3, c4, c5⟩ := h
  obtain ⟨b, off, ha, ⟨d0, d1, d2⟩, ho⟩ := hs.place hj
  have hj' : (j : Int) < n.places.length := by omega
  rw [ha] at c1
  obtain ⟨nm, hnm⟩ : ∃ x, x = (n.places.getD j nilPl).name := ⟨_, rfl⟩
  rw [← hnm] at d0 ⊢
  clear c0 c2 c3 c4 c5 d1 d2 ho hs ha hnm
  go_enter Tryz.func80, Tryz.ntmps80
  go_wp2_with fail
  go_ret
  exact ⟨rfl, rfl⟩

/-- a place in a box -/
def PBox (w : World) (q : Nat) (p : Pl) : Prop := w.cell? ⟨q, 0, none⟩ = some (.string p.name) ∧ w.cell? ⟨q, 1, none⟩ = some (.int .i64 p.colour) ∧ w.cell? ⟨q, 2, none⟩ = some (.slice p.fa p.first.length p.fc)
theorem PBox.below {w w' : World} {q : Nat} {p : Pl} (h : PBox w q p) (hb : Below w.heap.size w w') : PBox w' q p := ⟨box_below h.1 hb, box_below h.2.1 hb, box_below h.2.2 hb⟩

theorem place2_any (q t g : Nat) (n : Ne) (p : Pl) (w : World) (h : SBox w q n g) (ht : PBox w t p) : Calls Tryz.prog 81 #[.pointer (some ⟨q, 0, none⟩), .pointer (some ⟨t, 0, none⟩)] w fun e w' => e = .returned (.bool (!inB p.colour n.cols.length)) ∧ Below w.heap.size w w' := by
  obtain ⟨c0, c1, c2, c3, c4, c5⟩ := h
  obtain ⟨p0, p1, p2⟩ := ht
  have I1 : Hid (∀ W, Calls Tryz.prog 82 #[.agg (subC n g), .int .i64 p.colour] W fun e w' => e = .returned (.bool (inB p.colour n.cols.length)) ∧ Below W.heap.size W w') := fun W => isColour_any n g p.colour W
  unfold subC at I1
  go_enter Tryz.func81, Tryz.ntmps81
  go_wp2_with fail
  refine (I1.out _).mono ?_
  rintro e w1 ⟨he, hb⟩
  subst he
  have B1 : Hid (Below w.heap.size w w1) := hb
  clear hb
  go_wp2_with fail
  go_ret
  exact ⟨rfl, B1.out⟩

theorem place3_any (t : Nat) (p : Pl) (w : World) (ht : PBox w t p) (hp : PlOk w p) (hm : p.first.length ≤ 1000000) : Calls Tryz.prog 83 #[.pointer (some ⟨t, 0, none⟩)] w fun e w' => e = .returned (.bool (!Bag.rightB p.first)) ∧ Below w.heap.size w w' := by
  obtain ⟨p0, p1, p2⟩ := ht
  have I1 : Hid (Calls Tryz.prog 84 #[.slice p.fa p.first.length p.fc] w fun e w' => e = .returned (.bool (Bag.rightB p.first)) ∧ Below w.heap.size w w') := Bag.right_any _ _ _ _ _ hp.2 hm
  go_enter Tryz.func83, Tryz.ntmps83
  go_wp2_with fail
  refine I1.out.mono ?_
  rintro e w1 ⟨he, hb⟩
  subst he
  have B1 : Hid (Below w.heap.size w w1) := hb
  clear hb
  go_wp2_with fail
  go_ret
  exact ⟨rfl, B1.out⟩

/-- is the last member none of the colour? -/
def lastB (n : Ne) (p : Pl) : Bool := decide (0 < p.first.length) && decide (sizeF n.cols p.colour ≤ (p.first.getD (p.first.length - 1) Bag.zr).1)
set_option maxHeartbeats 1000000 in
theorem place4_any (q t g : Nat) (n : Ne) (p : Pl) (w : World) (h : SBox w q n g) (hs : Su w n g) (ht : PBox w t p) (hp : PlOk w p) (hm : p.first.length ≤ 1000000) (hc : inB p.colour n.cols.length = true) :
    Calls Tryz.prog 85 #[.pointer (some ⟨t, 0, none⟩), .pointer (some ⟨q, 0, none⟩)] w fun e w' => e = .returned (.bool (lastB n p)) ∧ Below w.heap.size w w' := by
  obtain ⟨c0, c1, c2, c3, c4, c5⟩ := h
  obtain ⟨p0, p1, p2⟩ := ht
  obtain ⟨c, hc, hcl⟩ := inB_yes hc
  have s1 := hs.2.1 c hcl
  have hcl' : (c : Int) < n.cols.length := by omega
  by_cases h0 : 0 < p.first.length
  · obtain ⟨b, off, ha, hat⟩ : ∃ b off, p.fa = some ⟨b, off, none⟩ ∧ Bag.At w b off p.first := by
      rcases hp.2.2 with g | g
      · omega
      · exact g
    obtain ⟨l, hl⟩ : ∃ l, p.first.length = l + 1 := ⟨p.first.length - 1, by omega⟩
    obtain ⟨r0, r1⟩ := hat l (by omega)
    obtain ⟨m, hmm⟩ : ∃ m, m = (p.first.getD l Bag.zr).1 := ⟨_, rfl⟩
    obtain ⟨sz, hsz⟩ : ∃ sz, sz = sizeF n.cols c := ⟨_, rfl⟩
    have R : Hid (lastB n p = decide (sz ≤ m)) := by
      unfold lastB
      rw [decide_eq_true h0, Bool.true_and, hc, hl, Nat.add_sub_cancel, ← hsz, ← hmm]
      exact rfl
    rw [← hmm] at r0
    rw [← hsz] at s1
    rw [hl, ha] at p2
    rw [hc] at p1
    have hl1 : Hid (l + 1 ≤ 1000000) := by show l + 1 ≤ 1000000; omega
    have e1 : IntKind.i64.wrap (l : Int) = (l : Int) := wrap_id (by omega) (by have := hl1.out; omega)
    have g0 : decide (((l + 1 : Nat) : Int) > 0) = true := decide_eq_true (by omega)
    have g1 : (l : Int) < ((l + 1 : Nat) : Int) := by omega
    clear c0 c1 c2 c3 c4 p0 hat hp hs ha hl h0 hc r1 hmm hsz
    go_enter Tryz.func85, Tryz.ntmps85
    go_wp2_with fail
    go_quiet (fail)
    go_wp2_with fail
    go_ret
    exact ⟨by rw [R.out]; rfl, below_drewN (Below.refl _ _) _⟩
  · have R : Hid (lastB n p = false) := by unfold lastB; rw [decide_eq_false h0]; exact rfl
    have hl : p.first.length = 0 := by omega
    rw [hl] at p2
    clear c0 c1 c2 c3 c4 hp hs
    go_enter Tryz.func85, Tryz.ntmps85
    go_wp2_with fail
    go_quiet (fail)
    go_wp2_with fail
    go_ret
    exact ⟨by rw [R.out]; rfl, below_drewN (Below.refl _ _) _⟩
end Go.Proofs.YtgdkomkflfodaaaGreat.Check
