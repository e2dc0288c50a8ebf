/- What is wrong with a variable, an arc, a place that is emptied: contracts of the calls, over the turned program. -/
import Derived.Test.YtgdkomkflfodaaaGreatChkPlb
import Derived.Test.YtgdkomkflfodaaaGreatExTakes
import Derived.StillTailTactics
namespace Go.Proofs.YtgdkomkflfodaaaGreat.Check
open Go.RowKit Go.Proofs.YtgdkomkflfodaaaGreat.Frame Go.Proofs.YtgdkomkflfodaaaGreat.Colour Go.Proofs.YtgdkomkflfodaaaGreat.Expr
set_option linter.unusedVariables false
set_option linter.unusedSimpArgs false

theorem follows : Tryz.prog.follows .mixedOrders = true := by kernel_rfl
/-- variables in memory -/
def Vas (w : World) (a : Option Addr) (l : List Va) : Prop := RowM 2 Va.cells VaOk nilVa w a l
theorem Vas.below {w w' : World} {a : Option Addr} {l : List Va} (h : Vas w a l) (hb : Below w.heap.size w w') : Vas w' a l := RowM.below (ok := VaOk) (fun _ g => VaOk.below g) h hb
theorem Vas.cell {w : World} {a : Option Addr} {l : List Va} (h : Vas w a l) {k : Nat} (hk : k < l.length) : ∃ b off, a = some ⟨b, off, none⟩ ∧ w.cell? ⟨b, off + k * 2, none⟩ = some (.string (l.getD k nilVa).name) ∧ w.cell? ⟨b, off + k * 2 + 1, none⟩ = some (.int .i64 (l.getD k nilVa).colour) := by
  obtain ⟨b, off, ha, hr, ho⟩ := RowM.at h hk
  exact ⟨b, off, ha, hr 0 _ rfl, hr 1 _ rfl⟩
def varNm (l : List Va) (i : Nat) : ByteArray := (l.getD i nilVa).name
def varL (n : Ne) (l : List Va) (i : Nat) : List Int := [namedF i (varNm l), errB (!inB (l.getD i nilVa).colour n.cols.length) 3]
def varF (n : Ne) (l : List Va) (i : Nat) : Int := firstNZ (varL n l i)

theorem variable1_any (q j cp : Nat) (a : Option Addr) (l : List Va) (w : World) (h : w.cell? ⟨q, 0, none⟩ = some (.slice a l.length cp)) (hs : Vas w a l) (hj : j < l.length) :
    Calls Tryz.prog 119 #[.int .i64 (j : Int), .pointer (some ⟨q, 0, none⟩)] w fun e w' => e = .returned (.string (varNm l j)) ∧ w' = w := by
  obtain ⟨b, off, ha, d0, d1⟩ := hs.cell hj
  have hj' : (j : Int) < l.length := by omega
  rw [ha] at h
  unfold varNm
  obtain ⟨nm, hnm⟩ : ∃ x, x = (l.getD j nilVa).name := ⟨_, rfl⟩
  rw [← hnm] at d0 ⊢
  clear d1 hs ha hnm
  go_enter Tryz.func119, Tryz.ntmps119
  go_wp2_with fail
  go_ret
  exact ⟨rfl, rfl⟩

set_option maxRecDepth 10000 in
theorem variable2_any (q p r g j cp : Nat) (n : Ne) (a : Option Addr) (l : List Va) (w : World) (hq : SBox w q n g) (hp : w.cell? ⟨p, 0, none⟩ = some (.slice a l.length cp)) (hr : w.cell? ⟨r, 0, none⟩ = some (.int .i64 (j : Int))) (hs : Vas w a l) (hj : j < l.length) :
    Calls Tryz.prog 120 #[.pointer (some ⟨q, 0, none⟩), .pointer (some ⟨p, 0, none⟩), .pointer (some ⟨r, 0, none⟩)] w fun e w' => e = .returned (.bool (!inB (l.getD j nilVa).colour n.cols.length)) ∧ Below w.heap.size w w' := by
  obtain ⟨c0, c1, c2, c3, c4, c5⟩ := hq
  obtain ⟨b, off, ha, d0, d1⟩ := hs.cell hj
  have hj' : (j : Int) < l.length := by omega
  rw [ha] at hp
  obtain ⟨c, hc⟩ : ∃ x, x = (l.getD j nilVa).colour := ⟨_, rfl⟩
  rw [← hc] at d1 ⊢
  have I1 : Hid (∀ W, Calls Tryz.prog 82 #[.agg (subC n g), .int .i64 c] W fun e w' => e = .returned (.bool (inB c n.cols.length)) ∧ Below W.heap.size W w') := fun W => isColour_any n g c W
  unfold subC at I1
  have HD : Hid (Below w.heap.size w w.drew) := (Below.refl _ _).drew
  clear d0 hs ha hc
  go_enter Tryz.func120, Tryz.ntmps120
  go_wp2_with fail
  go_still_tail 6, follows
  go_wp2_with fail
  refine (I1.out _).mono ?_
  rintro e w1 ⟨he, hb⟩
  subst he
  have B1 : Hid (Below w.heap.size w w1) := then_ HD.out hb
  clear hb
  go_wp2_with fail
  go_ret
  exact ⟨rfl, B1.out⟩

theorem goes_variable1 : Goes 119 := fun args W => by kernel_rfl
theorem goes_variable2 : Goes 120 := fun args W => by kernel_rfl
/-- three boxes that are made one behind the other -/
theorem three_boxes {w wz : World} {n : Ne} {g : Nat} {v : Array Value} {x : Value} {T1 T2 T3 : TypeId} (hz : wz = ((w.alloc (.cells (subC n g) T1)).alloc (.cells v T2)).alloc (.cells #[x] T3)) :
    Below w.heap.size w wz ∧ SBox wz w.heap.size n g ∧ (∀ i u, v[i]? = some u → wz.cell? ⟨w.heap.size + 1, i, none⟩ = some u) ∧ wz.cell? ⟨w.heap.size + 2, 0, none⟩ = some x := by
  have hb1 : Below w.heap.size w (w.alloc (.cells (subC n g) T1)) := (Below.refl _ _).alloc (Nat.le_refl _) _
  have hb2 : Below (w.alloc (.cells (subC n g) T1)).heap.size (w.alloc (.cells (subC n g) T1)) ((w.alloc (.cells (subC n g) T1)).alloc (.cells v T2)) := (Below.refl _ _).alloc (Nat.le_refl _) _
  have hb3 : Below ((w.alloc (.cells (subC n g) T1)).alloc (.cells v T2)).heap.size ((w.alloc (.cells (subC n g) T1)).alloc (.cells v T2)) wz := by rw [hz]; exact (Below.refl _ _).alloc (Nat.le_refl _) _
  refine ⟨then_ hb1 (then_ hb2 hb3), (SBox.new w n g T1).below (then_ hb2 hb3), fun i u hu => box_below ?_ hb3, ?_⟩
  · rw [World.cell?_alloc_at _ _ _ _ (by simp)]; exact hu
  · rw [hz, World.cell?_alloc_at _ _ _ _ (by simp)]; rfl

set_option maxHeartbeats 1000000 in
theorem variable_any (n : Ne) (g j cp : Nat) (a : Option Addr) (l : List Va) (w : World) (hs : Vas w a l) (hm : l.length ≤ 1000000) (hj : j < l.length) :
    Calls Tryz.prog 90 #[.agg (subC n g), .slice a l.length cp, .int .i64 (j : Int)] w fun e w' => e = .returned (.int .i64 (varF n l j)) ∧ Below w.heap.size w w' := by
  obtain ⟨wz, hwz⟩ : ∃ wz, wz = ((w.alloc (.cells (subC n g) 67)).alloc (.cells #[.slice a l.length cp] 46)).alloc (.cells #[.int .i64 (j : Int)] 3) := ⟨_, rfl⟩
  obtain ⟨hz, hsb, hv, hx⟩ := three_boxes hwz
  have hv0 := hv 0 _ rfl
  have HM : Hid (j ≤ 1000000) := by show j ≤ 1000000; omega
  have HB0 : Hid (NameC wz (.func (.func 119) #[] #[.pointer (some ⟨w.heap.size + 1, 0, none⟩)]) j (varNm l)) := ⟨_, _, rfl, goes_variable1, fun W hW i hi => variable1_any _ i cp a l W (box_below hv0 hW) (hs.below (then_ hz hW)) (by omega)⟩
  have HB1 : Hid (AskB wz (.func (.func 120) #[] #[.pointer (some ⟨w.heap.size, 0, none⟩), .pointer (some ⟨w.heap.size + 1, 0, none⟩), .pointer (some ⟨w.heap.size + 2, 0, none⟩)]) (!inB (l.getD j nilVa).colour n.cols.length)) :=
    ⟨_, _, rfl, goes_variable2, fun W hW => variable2_any _ _ _ g j cp n a l W (hsb.below hW) (box_below hv0 hW) (box_below hx hW) (hs.below (then_ hz hW)) hj⟩
  have HZ : Hid (Below w.heap.size w wz) := hz
  clear hz hsb hv hx hv0 hs hj hm
  unfold subC at hwz ⊢
  go_enter Tryz.func90, Tryz.ntmps90
  go_wp2_with fail
  rw [← hwz]
  refine (named_any j _ (varNm l) wz HM.out HB0.out).mono ?_
  rintro en v0 ⟨K0, c0, he, hu, hb⟩
  subst he
  have U0 : Hid (Ask v0 (.func (.func K0) #[] c0) _ ∧ Below wz.heap.size wz v0) := ⟨hu, hb⟩
  clear hu hb
  go_wp2_with fail
  refine (tells_any _ _ _ _ (HB1.out.below U0.out.2)).mono ?_
  rintro en v1 ⟨K1, c1, he, hu, hb⟩
  subst he
  have U1 : Hid (Ask v1 (.func (.func K0) #[] c0) _ ∧ Ask v1 (.func (.func K1) #[] c1) _ ∧ Below wz.heap.size wz v1) := ⟨U0.out.1.below hb, hu, then_ U0.out.2 hb⟩
  clear hu hb U0
  go_wp2_with fail
  refine (first_new #[.func (.func K0) #[] c0, .func (.func K1) #[] c1] _ 2 (varL n l j) v1 rfl rfl (by decide) (fun k hk h0 => ?_)).mono ?_
  rotate_left 1
  · rintro en wl ⟨he, hb⟩
    subst he
    have HB : Hid (Below w.heap.size w wl) := then_ HZ.out (then_ U1.out.2.2 hb)
    clear hb U1
    go_wp2_with fail
    go_ret
    exact ⟨rfl, HB.out⟩
  · match k, hk with
    | 0, _ => exact U1.out.1
    | 1, _ => exact U1.out.2.1

/- an arc -/
def arcL (n : Ne) (x : Ar) (vars : Nat) : List Int := [errB (!inB x.place n.places.length) 3, errB (!Expr.rightB vars x.ex) 1]
def arcF (n : Ne) (x : Ar) (vars : Nat) : Int := firstNZ (arcL n x vars)
theorem arc1_any (q p g : Nat) (n : Ne) (x : Ar) (w : World) (hq : SBox w q n g) (hp : w.cell? ⟨p, 0, none⟩ = some (.int .i64 x.place)) :
    Calls Tryz.prog 121 #[.pointer (some ⟨q, 0, none⟩), .pointer (some ⟨p, 0, none⟩)] w fun e w' => e = .returned (.bool (!inB x.place n.places.length)) ∧ Below w.heap.size w w' := by
  obtain ⟨c0, c1, c2, c3, c4, c5⟩ := hq
  have I1 : Hid (∀ W, Calls Tryz.prog 76 #[.agg (subC n g), .int .i64 x.place] W fun e w' => e = .returned (.bool (inB x.place n.places.length)) ∧ Below W.heap.size W w') := fun W => isPlace_any n g x.place W
  unfold subC at I1
  go_enter Tryz.func121, Tryz.ntmps121
  go_wp2_with fail
  refine (I1.out _).mono ?_
  rintro e w1 ⟨he, hb⟩
  subst he
  have B1 : Hid (Below w.heap.size w w1) := hb
  clear hb
  go_wp2_with fail
  go_ret
  exact ⟨rfl, B1.out⟩
theorem arc2_any (p r vars : Nat) (x : Ar) (w : World) (h1 : w.cell? ⟨p, 1, none⟩ = some (.int .i64 x.ex.kind)) (h2 : w.cell? ⟨p, 2, none⟩ = some (.int .i64 x.ex.num)) (h3 : w.cell? ⟨p, 3, none⟩ = some (.slice x.ka x.ex.kids.length x.kc)) (hr : w.cell? ⟨r, 0, none⟩ = some (.int .i64 (vars : Int))) (hx : X w x.ex x.ka) :
    Calls Tryz.prog 122 #[.pointer (some ⟨p, 0, none⟩), .pointer (some ⟨r, 0, none⟩)] w fun e w' => e = .returned (.bool (!Expr.rightB vars x.ex)) ∧ Below w.heap.size w w' := by
  have I1 : Hid (Calls Tryz.prog 20 #[.agg #[.int .i64 x.ex.kind, .int .i64 x.ex.num, .slice x.ka x.ex.kids.length x.kc], .int .i64 (vars : Int)] w fun e w' => e = .returned (.bool (Expr.rightB vars x.ex)) ∧ Below w.heap.size w w') := Expr.right_any _ _ _ _ _ hx
  go_enter Tryz.func122, Tryz.ntmps122
  go_wp2_with fail
  refine I1.out.mono ?_
  rintro e w1 ⟨he, hb⟩
  subst he
  have B1 : Hid (Below w.heap.size w w1) := hb
  clear hb
  go_wp2_with fail
  go_ret
  exact ⟨rfl, B1.out⟩
theorem goes_arc1 : Goes 121 := fun args W => by kernel_rfl
theorem goes_arc2 : Goes 122 := fun args W => by kernel_rfl
set_option maxHeartbeats 1000000 in
theorem arc_any (n : Ne) (g vars : Nat) (x : Ar) (w : World) (hx : ArOk w x) :
    Calls Tryz.prog 95 #[.agg (subC n g), .agg #[.int .i64 x.place, .int .i64 x.ex.kind, .int .i64 x.ex.num, .slice x.ka x.ex.kids.length x.kc], .int .i64 (vars : Int)] w fun e w' => e = .returned (.int .i64 (arcF n x vars)) ∧ Below w.heap.size w w' := by
  obtain ⟨wz, hwz⟩ : ∃ wz, wz = ((w.alloc (.cells (subC n g) 67)).alloc (.cells #[.int .i64 x.place, .int .i64 x.ex.kind, .int .i64 x.ex.num, .slice x.ka x.ex.kids.length x.kc] 65)).alloc (.cells #[.int .i64 (vars : Int)] 3) := ⟨_, rfl⟩
  obtain ⟨hz, hsb, hv, hxx⟩ := three_boxes hwz
  have hv0 := hv 0 _ rfl
  have hv1 := hv 1 _ rfl
  have hv2 := hv 2 _ rfl
  have hv3 := hv 3 _ rfl
  have HB0 : Hid (AskB wz (.func (.func 121) #[] #[.pointer (some ⟨w.heap.size, 0, none⟩), .pointer (some ⟨w.heap.size + 1, 0, none⟩)]) (!inB x.place n.places.length)) := ⟨_, _, rfl, goes_arc1, fun W hW => arc1_any _ _ g n x W (hsb.below hW) (box_below hv0 hW)⟩
  have HB1 : Hid (AskB wz (.func (.func 122) #[] #[.pointer (some ⟨w.heap.size + 1, 0, none⟩), .pointer (some ⟨w.heap.size + 2, 0, none⟩)]) (!Expr.rightB vars x.ex)) :=
    ⟨_, _, rfl, goes_arc2, fun W hW => arc2_any _ _ vars x W (box_below hv1 hW) (box_below hv2 hW) (box_below hv3 hW) (box_below hxx hW) (hx.below (then_ hz hW)).2⟩
  have HZ : Hid (Below w.heap.size w wz) := hz
  clear hz hsb hv hxx hv0 hv1 hv2 hv3 hx
  unfold subC at hwz ⊢
  go_enter Tryz.func95, Tryz.ntmps95
  go_wp2_with fail
  rw [← hwz]
  refine (tells_any _ _ _ _ HB0.out).mono ?_
  rintro en v0 ⟨K0, c0, he, hu, hb⟩
  subst he
  have U0 : Hid (Ask v0 (.func (.func K0) #[] c0) _ ∧ Below wz.heap.size wz v0) := ⟨hu, hb⟩
  clear hu hb
  go_wp2_with fail
  refine (tells_any _ _ _ _ (HB1.out.below U0.out.2)).mono ?_
  rintro en v1 ⟨K1, c1, he, hu, hb⟩
  subst he
  have U1 : Hid (Ask v1 (.func (.func K0) #[] c0) _ ∧ Ask v1 (.func (.func K1) #[] c1) _ ∧ Below wz.heap.size wz v1) := ⟨U0.out.1.below hb, hu, then_ U0.out.2 hb⟩
  clear hu hb U0
  go_wp2_with fail
  refine (first_new #[.func (.func K0) #[] c0, .func (.func K1) #[] c1] _ 2 (arcL n x vars) v1 rfl rfl (by decide) (fun k hk h0 => ?_)).mono ?_
  rotate_left 1
  · rintro en wl ⟨he, hb⟩
    subst he
    have HB : Hid (Below w.heap.size w wl) := then_ HZ.out (then_ U1.out.2.2 hb)
    clear hb U1
    go_wp2_with fail
    go_ret
    exact ⟨rfl, HB.out⟩
  · match k, hk with
    | 0, _ => exact U1.out.1
    | 1, _ => exact U1.out.2.1
end Go.Proofs.YtgdkomkflfodaaaGreat.Check
