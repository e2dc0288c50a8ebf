/- Contracts and plain mathematics, together: ChkPla, ChkPlb. -/
import Derived.Test.YtgdkomkflfodaaaGreatMaM
/- What is wrong with a place: contracts of the calls, over the turned program. -/
namespace Go.Proofs.YtgdkomkflfodaaaGreat.Check
open Go.RowKit Go.Proofs.YtgdkomkflfodaaaGreat.Frame Go.Proofs.YtgdkomkflfodaaaGreat.Colour Go.Proofs.YtgdkomkflfodaaaGreat.Expr
set_option linter.unusedVariables false
set_option linter.unusedSimpArgs false

theorem Su.place {w : World} {n : Ne} {g k : Nat} (h : Su w n g) (hk : k < n.places.length) : ∃ b off, n.pa = some ⟨b, off, none⟩ ∧ (w.cell? ⟨b, off + k * 3, none⟩ = some (.string (n.places.getD k nilPl).name) ∧ w.cell? ⟨b, off + k * 3 + 1, none⟩ = some (.int .i64 (n.places.getD k nilPl).colour) ∧ w.cell? ⟨b, off + k * 3 + 2, none⟩ = some (.slice (n.places.getD k nilPl).fa (n.places.getD k nilPl).first.length (n.places.getD k nilPl).fc)) ∧ PlOk w (n.places.getD k nilPl) := by
  obtain ⟨b, off, ha, hr, ho⟩ := h.1.2.2.1.at hk
  exact ⟨b, off, ha, ⟨hr 0 _ rfl, hr 1 _ rfl, hr 2 _ rfl⟩, ho⟩
theorem place_mem {n : Ne} {k : Nat} (hk : k < n.places.length) : n.places.getD k nilPl ∈ n.places := by
  rw [List.getD_eq_getElem?_getD, List.getElem?_eq_getElem hk]; exact List.getElem_mem hk

theorem place1_any (q g j : Nat) (n : Ne) (w : World) (h : SBox w q n g) (hs : Su w n g) (hj : j < n.places.length) :
    Calls Tryz.prog 80 #[.int .i64 (j : Int), .pointer (some ⟨q, 0, none⟩)] w fun e w' => e = .returned (.string (n.places.getD j nilPl).name) ∧ w' = w := by
  obtain ⟨c0, c1, c2, c3, c4, c5⟩ := h
  obtain ⟨b, off, ha, ⟨d0, d1, d2⟩, ho⟩ := hs.place hj
  have hj' : (j : Int) < n.places.length := by omega
  rw [ha] at c1
  obtain ⟨nm, hnm⟩ : ∃ x, x = (n.places.getD j nilPl).name := ⟨_, rfl⟩
  rw [← hnm] at d0 ⊢
  clear c0 c2 c3 c4 c5 d1 d2 ho hs ha hnm
  go_enter Tryz.func80, Tryz.ntmps80
  go_wp2_with fail
  go_ret
  exact ⟨rfl, rfl⟩

/-- a place in a box -/
def PBox (w : World) (q : Nat) (p : Pl) : Prop := w.cell? ⟨q, 0, none⟩ = some (.string p.name) ∧ w.cell? ⟨q, 1, none⟩ = some (.int .i64 p.colour) ∧ w.cell? ⟨q, 2, none⟩ = some (.slice p.fa p.first.length p.fc)
theorem PBox.below {w w' : World} {q : Nat} {p : Pl} (h : PBox w q p) (hb : Below w.heap.size w w') : PBox w' q p := ⟨box_below h.1 hb, box_below h.2.1 hb, box_below h.2.2 hb⟩

theorem place2_any (q t g : Nat) (n : Ne) (p : Pl) (w : World) (h : SBox w q n g) (ht : PBox w t p) : Calls Tryz.prog 81 #[.pointer (some ⟨q, 0, none⟩), .pointer (some ⟨t, 0, none⟩)] w fun e w' => e = .returned (.bool (!inB p.colour n.cols.length)) ∧ Below w.heap.size w w' := by
  obtain ⟨c0, c1, c2, c3, c4, c5⟩ := h
  obtain ⟨p0, p1, p2⟩ := ht
  have I1 : Hid (∀ W, Calls Tryz.prog 82 #[.agg (subC n g), .int .i64 p.colour] W fun e w' => e = .returned (.bool (inB p.colour n.cols.length)) ∧ Below W.heap.size W w') := fun W => isColour_any n g p.colour W
  unfold subC at I1
  go_enter Tryz.func81, Tryz.ntmps81
  go_wp2_with fail
  refine (I1.out _).mono ?_
  rintro e w1 ⟨he, hb⟩
  subst he
  have B1 : Hid (Below w.heap.size w w1) := hb
  clear hb
  go_wp2_with fail
  go_ret
  exact ⟨rfl, B1.out⟩

theorem place3_any (t : Nat) (p : Pl) (w : World) (ht : PBox w t p) (hp : PlOk w p) (hm : p.first.length ≤ 1000000) : Calls Tryz.prog 83 #[.pointer (some ⟨t, 0, none⟩)] w fun e w' => e = .returned (.bool (!Bag.rightB p.first)) ∧ Below w.heap.size w w' := by
  obtain ⟨p0, p1, p2⟩ := ht
  have I1 : Hid (Calls Tryz.prog 84 #[.slice p.fa p.first.length p.fc] w fun e w' => e = .returned (.bool (Bag.rightB p.first)) ∧ Below w.heap.size w w') := Bag.right_any _ _ _ _ _ hp.2 hm
  go_enter Tryz.func83, Tryz.ntmps83
  go_wp2_with fail
  refine I1.out.mono ?_
  rintro e w1 ⟨he, hb⟩
  subst he
  have B1 : Hid (Below w.heap.size w w1) := hb
  clear hb
  go_wp2_with fail
  go_ret
  exact ⟨rfl, B1.out⟩

/-- is the last member none of the colour? -/
def lastB (n : Ne) (p : Pl) : Bool := decide (0 < p.first.length) && decide (sizeF n.cols p.colour ≤ (p.first.getD (p.first.length - 1) Bag.zr).1)
set_option maxHeartbeats 1000000 in
theorem place4_any (q t g : Nat) (n : Ne) (p : Pl) (w : World) (h : SBox w q n g) (hs : Su w n g) (ht : PBox w t p) (hp : PlOk w p) (hm : p.first.length ≤ 1000000) (hc : inB p.colour n.cols.length = true) :
    Calls Tryz.prog 85 #[.pointer (some ⟨t, 0, none⟩), .pointer (some ⟨q, 0, none⟩)] w fun e w' => e = .returned (.bool (lastB n p)) ∧ Below w.heap.size w w' := by
  obtain ⟨c0, c1, c2, c3, c4, c5⟩ := h
  obtain ⟨p0, p1, p2⟩ := ht
  obtain ⟨c, hc, hcl⟩ := inB_yes hc
  have s1 := hs.2.1 c hcl
  have hcl' : (c : Int) < n.cols.length := by omega
  by_cases h0 : 0 < p.first.length
  · obtain ⟨b, off, ha, hat⟩ : ∃ b off, p.fa = some ⟨b, off, none⟩ ∧ Bag.At w b off p.first := by
      rcases hp.2.2 with g | g
      · omega
      · exact g
    obtain ⟨l, hl⟩ : ∃ l, p.first.length = l + 1 := ⟨p.first.length - 1, by omega⟩
    obtain ⟨r0, r1⟩ := hat l (by omega)
    obtain ⟨m, hmm⟩ : ∃ m, m = (p.first.getD l Bag.zr).1 := ⟨_, rfl⟩
    obtain ⟨sz, hsz⟩ : ∃ sz, sz = sizeF n.cols c := ⟨_, rfl⟩
    have R : Hid (lastB n p = decide (sz ≤ m)) := by
      unfold lastB
      rw [decide_eq_true h0, Bool.true_and, hc, hl, Nat.add_sub_cancel, ← hsz, ← hmm]
      exact rfl
    rw [← hmm] at r0
    rw [← hsz] at s1
    rw [hl, ha] at p2
    rw [hc] at p1
    have hl1 : Hid (l + 1 ≤ 1000000) := by show l + 1 ≤ 1000000; omega
    have e1 : IntKind.i64.wrap (l : Int) = (l : Int) := wrap_id (by omega) (by have := hl1.out; omega)
    have g0 : decide (((l + 1 : Nat) : Int) > 0) = true := decide_eq_true (by omega)
    have g1 : (l : Int) < ((l + 1 : Nat) : Int) := by omega
    clear c0 c1 c2 c3 c4 p0 hat hp hs ha hl h0 hc r1 hmm hsz
    go_enter Tryz.func85, Tryz.ntmps85
    go_wp2_with fail
    go_quiet (fail)
    go_wp2_with fail
    go_ret
    exact ⟨by rw [R.out]; rfl, below_drewN (Below.refl _ _) _⟩
  · have R : Hid (lastB n p = false) := by unfold lastB; rw [decide_eq_false h0]; exact rfl
    have hl : p.first.length = 0 := by omega
    rw [hl] at p2
    clear c0 c1 c2 c3 c4 hp hs
    go_enter Tryz.func85, Tryz.ntmps85
    go_wp2_with fail
    go_quiet (fail)
    go_wp2_with fail
    go_ret
    exact ⟨by rw [R.out]; rfl, below_drewN (Below.refl _ _) _⟩
end Go.Proofs.YtgdkomkflfodaaaGreat.Check
/- What is wrong with a place that there is: a contract of the call, over the turned program. -/
namespace Go.Proofs.YtgdkomkflfodaaaGreat.Check
open Go.RowKit Go.Proofs.YtgdkomkflfodaaaGreat.Frame Go.Proofs.YtgdkomkflfodaaaGreat.Colour Go.Proofs.YtgdkomkflfodaaaGreat.Expr
set_option linter.unusedVariables false
set_option linter.unusedSimpArgs false

def placeNm (n : Ne) (i : Nat) : ByteArray := (n.places.getD i nilPl).name
def placeL (n : Ne) (k : Nat) (p : Pl) : List Int := [namedF k (placeNm n), errB (!inB p.colour n.cols.length) 3, errB (!Bag.rightB p.first) 1, errB (lastB n p) 8]
def placeF (n : Ne) (k : Nat) : Int := firstNZ (placeL n k (n.places.getD k nilPl))
theorem goes_place1 : Goes 80 := fun args W => by kernel_rfl
theorem goes_place2 : Goes 81 := fun args W => by kernel_rfl
theorem goes_place3 : Goes 83 := fun args W => by kernel_rfl
theorem goes_place4 : Goes 85 := fun args W => by kernel_rfl
theorem errB_zero {b : Bool} {e : Int} (he : e ≠ 0) (h : errB b e = 0) : b = false := by
  cases b with
  | false => rfl
  | true => exact absurd h he
set_option maxHeartbeats 1000000 in
theorem place_any (n : Ne) (g k : Nat) (w : World) (h : Su w n g) (hk : k < n.places.length) : Calls Tryz.prog 35 #[.agg (subC n g), .int .i64 (k : Int)] w fun e w' => e = .returned (.int .i64 (placeF n k)) ∧ Below w.heap.size w w' := by
  obtain ⟨b, off, ha, ⟨d0, d1, d2⟩, ho⟩ := h.place hk
  have hk' : (k : Int) < n.places.length := by omega
  have hbl : b < w.heap.size := World.block_lt_of_cell? w _ d0
  have hmp : Hid ((n.places.getD k nilPl).first.length ≤ 1000000 ∧ k ≤ 1000000) := ⟨h.2.2.2.1 _ (place_mem hk), by have := h.2.2.1.2.1; omega⟩
  have HK : Hid (k < n.places.length) := hk
  obtain ⟨p, hp⟩ : ∃ p, p = n.places.getD k nilPl := ⟨_, rfl⟩
  rw [← hp] at d0 d1 d2 ho hmp
  have HP : Hid (p = n.places.getD k nilPl) := hp
  clear hp hk
  obtain ⟨wz, hwz⟩ : ∃ wz, wz = (w.alloc (.cells (subC n g) 67)).alloc (.cells #[.string p.name, .int .i64 p.colour, .slice p.fa p.first.length p.fc] 45) := ⟨_, rfl⟩
  have hb1 : Below w.heap.size w (w.alloc (.cells (subC n g) 67)) := (Below.refl _ _).alloc (Nat.le_refl _) _
  have hb2 : Below (w.alloc (.cells (subC n g) 67)).heap.size (w.alloc (.cells (subC n g) 67)) wz := by rw [hwz]; exact (Below.refl _ _).alloc (Nat.le_refl _) _
  have hz : Below w.heap.size w wz := then_ hb1 hb2
  have hsb : SBox wz w.heap.size n g := (SBox.new w n g _).below hb2
  have hpb : PBox wz (w.heap.size + 1) p := by
    rw [hwz]
    refine ⟨?_, ?_, ?_⟩ <;> exact (World.cell?_alloc_at _ _ _ _ (by simp))
  have HB0 : Hid (NameC wz (.func (.func 80) #[] #[.pointer (some ⟨w.heap.size, 0, none⟩)]) k (placeNm n)) := ⟨_, _, rfl, goes_place1, fun W hW j hj => place1_any _ g j n W (hsb.below hW) (h.below (then_ hz hW)) (by have := HK.out; omega)⟩
  have HB1 : Hid (AskB wz (.func (.func 81) #[] #[.pointer (some ⟨w.heap.size, 0, none⟩), .pointer (some ⟨w.heap.size + 1, 0, none⟩)]) (!inB p.colour n.cols.length)) := ⟨_, _, rfl, goes_place2, fun W hW => place2_any _ _ g n p W (hsb.below hW) (hpb.below hW)⟩
  have HB2 : Hid (AskB wz (.func (.func 83) #[] #[.pointer (some ⟨w.heap.size + 1, 0, none⟩)]) (!Bag.rightB p.first)) := ⟨_, _, rfl, goes_place3, fun W hW => place3_any _ p W (hpb.below hW) (ho.below (then_ hz hW)) hmp.out.1⟩
  have HB3 : Hid (inB p.colour n.cols.length = true → AskB wz (.func (.func 85) #[] #[.pointer (some ⟨w.heap.size + 1, 0, none⟩), .pointer (some ⟨w.heap.size, 0, none⟩)]) (lastB n p)) := fun hc => ⟨_, _, rfl, goes_place4, fun W hW => place4_any _ _ g n p W (hsb.below hW) (h.below (then_ hz hW)) (hpb.below hW) (ho.below (then_ hz hW)) hmp.out.1 hc⟩
  have HZ : Hid (Below w.heap.size w wz) := hz
  clear hb1 hb2 hz hsb hpb ho h
  unfold subC at hwz ⊢
  rw [ha] at hwz ⊢
  go_enter Tryz.func35, Tryz.ntmps35
  go_wp2_with fail
  rw [← hwz]
  refine (named_any k _ (placeNm n) wz hmp.out.2 HB0.out).mono ?_
  rintro en v0 ⟨K0, c0, he, hu, hb⟩
  subst he
  have U0 : Hid (Ask v0 (.func (.func K0) #[] c0) _ ∧ Below wz.heap.size wz v0) := ⟨hu, hb⟩
  clear hu hb
  go_wp2_with fail
  refine (tells_any _ _ _ _ (HB1.out.below U0.out.2)).mono ?_
  rintro en v1 ⟨K1, c1, he, hu, hb⟩
  subst he
  have U1 : Hid (Ask v1 (.func (.func K0) #[] c0) _ ∧ Ask v1 (.func (.func K1) #[] c1) _ ∧ Below wz.heap.size wz v1) := ⟨U0.out.1.below hb, hu, then_ U0.out.2 hb⟩
  clear hu hb U0
  go_wp2_with fail
  refine (tells_any _ _ _ _ (HB2.out.below U1.out.2.2)).mono ?_
  rintro en v2 ⟨K2, c2, he, hu, hb⟩
  subst he
  have U2 : Hid (Ask v2 (.func (.func K0) #[] c0) _ ∧ Ask v2 (.func (.func K1) #[] c1) _ ∧ Ask v2 (.func (.func K2) #[] c2) _ ∧ Below wz.heap.size wz v2) := ⟨U1.out.1.below hb, U1.out.2.1.below hb, hu, then_ U1.out.2.2 hb⟩
  clear hu hb U1
  go_wp2_with fail
  refine (tells_if (inB p.colour n.cols.length = true) _ _ _ _ _ fun hc => (HB3.out hc).below U2.out.2.2.2).mono ?_
  rintro en v3 ⟨K3, c3, he, hu, hb⟩
  subst he
  have U3 : Hid (Ask v3 (.func (.func K0) #[] c0) _ ∧ Ask v3 (.func (.func K1) #[] c1) _ ∧ Ask v3 (.func (.func K2) #[] c2) _ ∧ (inB p.colour n.cols.length = true → Ask v3 (.func (.func K3) #[] c3) _) ∧ Below wz.heap.size wz v3) := ⟨U2.out.1.below hb, U2.out.2.1.below hb, U2.out.2.2.1.below hb, hu, then_ U2.out.2.2.2 hb⟩
  clear hu hb U2
  go_wp2_with fail
  refine (first_new #[.func (.func K0) #[] c0, .func (.func K1) #[] c1, .func (.func K2) #[] c2, .func (.func K3) #[] c3] _ 4 (placeL n k p) v3 rfl rfl (by decide) (fun k hk h0 => ?_)).mono ?_
  rotate_left 1
  · rintro en wl ⟨he, hb⟩
    subst he
    have HB : Hid (Below w.heap.size w wl) := then_ HZ.out (then_ U3.out.2.2.2.2 hb)
    clear hb U3
    go_wp2_with fail
    go_ret
    exact ⟨by unfold placeF; rw [← HP.out]; rfl, HB.out⟩
  · match k, hk with
    | 0, _ => exact U3.out.1
    | 1, _ => exact U3.out.2.1
    | 2, _ => exact U3.out.2.2.1
    | 3, _ => exact U3.out.2.2.2.1 (by have := errB_zero (by decide) (h0 1 (by decide)); simpa using this)
end Go.Proofs.YtgdkomkflfodaaaGreat.Check
