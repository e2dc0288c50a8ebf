/- Contracts and plain mathematics, together: ChkVar, ChkCan. -/
import Derived.Test.YtgdkomkflfodaaaGreatMaN
import Derived.Test.YtgdkomkflfodaaaGreatMaO
import Derived.StillTailTactics
/- What is wrong with a variable, an arc, a place that is emptied: contracts of the calls, over the turned program. -/
namespace Go.Proofs.YtgdkomkflfodaaaGreat.Check
open Go.RowKit Go.Proofs.YtgdkomkflfodaaaGreat.Frame Go.Proofs.YtgdkomkflfodaaaGreat.Colour Go.Proofs.YtgdkomkflfodaaaGreat.Expr
set_option linter.unusedVariables false
set_option linter.unusedSimpArgs false

theorem follows : Tryz.prog.follows .mixedOrders = true := by kernel_rfl
/-- variables in memory -/
def Vas (w : World) (a : Option Addr) (l : List Va) : Prop := RowM 2 Va.cells VaOk nilVa w a l
theorem Vas.below {w w' : World} {a : Option Addr} {l : List Va} (h : Vas w a l) (hb : Below w.heap.size w w') : Vas w' a l := RowM.below (ok := VaOk) (fun _ g => VaOk.below g) h hb
theorem Vas.cell {w : World} {a : Option Addr} {l : List Va} (h : Vas w a l) {k : Nat} (hk : k < l.length) : ∃ b off, a = some ⟨b, off, none⟩ ∧ w.cell? ⟨b, off + k * 2, none⟩ = some (.string (l.getD k nilVa).name) ∧ w.cell? ⟨b, off + k * 2 + 1, none⟩ = some (.int .i64 (l.getD k nilVa).colour) := by
  obtain ⟨b, off, ha, hr, ho⟩ := RowM.at h hk
  exact ⟨b, off, ha, hr 0 _ rfl, hr 1 _ rfl⟩
def varNm (l : List Va) (i : Nat) : ByteArray := (l.getD i nilVa).name
def varL (n : Ne) (l : List Va) (i : Nat) : List Int := [namedF i (varNm l), errB (!inB (l.getD i nilVa).colour n.cols.length) 3]
def varF (n : Ne) (l : List Va) (i : Nat) : Int := firstNZ (varL n l i)

theorem variable1_any (q j cp : Nat) (a : Option Addr) (l : List Va) (w : World) (h : w.cell? ⟨q, 0, none⟩ = some (.slice a l.length cp)) (hs : Vas w a l) (hj : j < l.length) :
    Calls Tryz.prog 119 #[.int .i64 (j : Int), .pointer (some ⟨q, 0, none⟩)] w fun e w' => e = .returned (.string (varNm l j)) ∧ w' = w := by
  obtain ⟨b, off, ha, d0, d1⟩ := hs.cell hj
  have hj' : (j : Int) < l.length := by omega
  rw [ha] at h
  unfold varNm
  obtain ⟨nm, hnm⟩ : ∃ x, x = (l.getD j nilVa).name := ⟨_, rfl⟩
  rw [← hnm] at d0 ⊢
  clear d1 hs ha hnm
  go_enter Tryz.func119, Tryz.ntmps119
  go_wp2_with fail
  go_ret
  exact ⟨rfl, rfl⟩

set_option maxRecDepth 10000 in
theorem variable2_any (q p r g j cp : Nat) (n : Ne) (a : Option Addr) (l : List Va) (w : World) (hq : SBox w q n g) (hp : w.cell? ⟨p, 0, none⟩ = some (.slice a l.length cp)) (hr : w.cell? ⟨r, 0, none⟩ = some (.int .i64 (j : Int))) (hs : Vas w a l) (hj : j < l.length) :
    Calls Tryz.prog 120 #[.pointer (some ⟨q, 0, none⟩), .pointer (some ⟨p, 0, none⟩), .pointer (some ⟨r, 0, none⟩)] w fun e w' => e = .returned (.bool (!inB (l.getD j nilVa).colour n.cols.length)) ∧ Below w.heap.size w w' := by
  obtain ⟨c0, c1, c2, c3, c4, c5⟩ := hq
  obtain ⟨b, off, ha, d0, d1⟩ := hs.cell hj
  have hj' : (j : Int) < l.length := by omega
  rw [ha] at hp
  obtain ⟨c, hc⟩ : ∃ x, x = (l.getD j nilVa).colour := ⟨_, rfl⟩
  rw [← hc] at d1 ⊢
  have I1 : Hid (∀ W, Calls Tryz.prog 82 #[.agg (subC n g), .int .i64 c] W fun e w' => e = .returned (.bool (inB c n.cols.length)) ∧ Below W.heap.size W w') := fun W => isColour_any n g c W
  unfold subC at I1
  have HD : Hid (Below w.heap.size w w.drew) := (Below.refl _ _).drew
  clear d0 hs ha hc
  go_enter Tryz.func120, Tryz.ntmps120
  go_wp2_with fail
  go_still_tail 6, follows
  go_wp2_with fail
  refine (I1.out _).mono ?_
  rintro e w1 ⟨he, hb⟩
  subst he
  have B1 : Hid (Below w.heap.size w w1) := then_ HD.out hb
  clear hb
  go_wp2_with fail
  go_ret
  exact ⟨rfl, B1.out⟩

theorem goes_variable1 : Goes 119 := fun args W => by kernel_rfl
theorem goes_variable2 : Goes 120 := fun args W => by kernel_rfl
/-- three boxes that are made one behind the other -/
theorem three_boxes {w wz : World} {n : Ne} {g : Nat} {v : Array Value} {x : Value} {T1 T2 T3 : TypeId} (hz : wz = ((w.alloc (.cells (subC n g) T1)).alloc (.cells v T2)).alloc (.cells #[x] T3)) :
    Below w.heap.size w wz ∧ SBox wz w.heap.size n g ∧ (∀ i u, v[i]? = some u → wz.cell? ⟨w.heap.size + 1, i, none⟩ = some u) ∧ wz.cell? ⟨w.heap.size + 2, 0, none⟩ = some x := by
  have hb1 : Below w.heap.size w (w.alloc (.cells (subC n g) T1)) := (Below.refl _ _).alloc (Nat.le_refl _) _
  have hb2 : Below (w.alloc (.cells (subC n g) T1)).heap.size (w.alloc (.cells (subC n g) T1)) ((w.alloc (.cells (subC n g) T1)).alloc (.cells v T2)) := (Below.refl _ _).alloc (Nat.le_refl _) _
  have hb3 : Below ((w.alloc (.cells (subC n g) T1)).alloc (.cells v T2)).heap.size ((w.alloc (.cells (subC n g) T1)).alloc (.cells v T2)) wz := by rw [hz]; exact (Below.refl _ _).alloc (Nat.le_refl _) _
  refine ⟨then_ hb1 (then_ hb2 hb3), (SBox.new w n g T1).below (then_ hb2 hb3), fun i u hu => box_below ?_ hb3, ?_⟩
  · rw [World.cell?_alloc_at _ _ _ _ (by simp)]; exact hu
  · rw [hz, World.cell?_alloc_at _ _ _ _ (by simp)]; rfl

set_option maxHeartbeats 1000000 in
theorem variable_any (n : Ne) (g j cp : Nat) (a : Option Addr) (l : List Va) (w : World) (hs : Vas w a l) (hm : l.length ≤ 1000000) (hj : j < l.length) :
    Calls Tryz.prog 90 #[.agg (subC n g), .slice a l.length cp, .int .i64 (j : Int)] w fun e w' => e = .returned (.int .i64 (varF n l j)) ∧ Below w.heap.size w w' := by
  obtain ⟨wz, hwz⟩ : ∃ wz, wz = ((w.alloc (.cells (subC n g) 67)).alloc (.cells #[.slice a l.length cp] 46)).alloc (.cells #[.int .i64 (j : Int)] 3) := ⟨_, rfl⟩
  obtain ⟨hz, hsb, hv, hx⟩ := three_boxes hwz
  have hv0 := hv 0 _ rfl
  have HM : Hid (j ≤ 1000000) := by show j ≤ 1000000; omega
  have HB0 : Hid (NameC wz (.func (.func 119) #[] #[.pointer (some ⟨w.heap.size + 1, 0, none⟩)]) j (varNm l)) := ⟨_, _, rfl, goes_variable1, fun W hW i hi => variable1_any _ i cp a l W (box_below hv0 hW) (hs.below (then_ hz hW)) (by omega)⟩
  have HB1 : Hid (AskB wz (.func (.func 120) #[] #[.pointer (some ⟨w.heap.size, 0, none⟩), .pointer (some ⟨w.heap.size + 1, 0, none⟩), .pointer (some ⟨w.heap.size + 2, 0, none⟩)]) (!inB (l.getD j nilVa).colour n.cols.length)) :=
    ⟨_, _, rfl, goes_variable2, fun W hW => variable2_any _ _ _ g j cp n a l W (hsb.below hW) (box_below hv0 hW) (box_below hx hW) (hs.below (then_ hz hW)) hj⟩
  have HZ : Hid (Below w.heap.size w wz) := hz
  clear hz hsb hv hx hv0 hs hj hm
  unfold subC at hwz ⊢
  go_enter Tryz.func90, Tryz.ntmps90
  go_wp2_with fail
  rw [← hwz]
  refine (named_any j _ (varNm l) wz HM.out HB0.out).mono ?_
  rintro en v0 ⟨K0, c0, he, hu, hb⟩
  subst he
  have U0 : Hid (Ask v0 (.func (.func K0) #[] c0) _ ∧ Below wz.heap.size wz v0) := ⟨hu, hb⟩
  clear hu hb
  go_wp2_with fail
  refine (tells_any _ _ _ _ (HB1.out.below U0.out.2)).mono ?_
  rintro en v1 ⟨K1, c1, he, hu, hb⟩
  subst he
  have U1 : Hid (Ask v1 (.func (.func K0) #[] c0) _ ∧ Ask v1 (.func (.func K1) #[] c1) _ ∧ Below wz.heap.size wz v1) := ⟨U0.out.1.below hb, hu, then_ U0.out.2 hb⟩
  clear hu hb U0
  go_wp2_with fail
  refine (first_new #[.func (.func K0) #[] c0, .func (.func K1) #[] c1] _ 2 (varL n l j) v1 rfl rfl (by decide) (fun k hk h0 => ?_)).mono ?_
  rotate_left 1
  · rintro en wl ⟨he, hb⟩
    subst he
    have HB : Hid (Below w.heap.size w wl) := then_ HZ.out (then_ U1.out.2.2 hb)
    clear hb U1
    go_wp2_with fail
    go_ret
    exact ⟨rfl, HB.out⟩
  · match k, hk with
    | 0, _ => exact U1.out.1
    | 1, _ => exact U1.out.2.1

/- an arc -/
def arcL (n : Ne) (x : Ar) (vars : Nat) : List Int := [errB (!inB x.place n.places.length) 3, errB (!Expr.rightB vars x.ex) 1]
def arcF (n : Ne) (x : Ar) (vars : Nat) : Int := firstNZ (arcL n x vars)
theorem arc1_any (q p g : Nat) (n : Ne) (x : Ar) (w : World) (hq : SBox w q n g) (hp : w.cell? ⟨p, 0, none⟩ = some (.int .i64 x.place)) :
    Calls Tryz.prog 121 #[.pointer (some ⟨q, 0, none⟩), .pointer (some ⟨p, 0, none⟩)] w fun e w' => e = .returned (.bool (!inB x.place n.places.length)) ∧ Below w.heap.size w w' := by
  obtain ⟨c0, c1, c2, c3, c4, c5⟩ := hq
  have I1 : Hid (∀ W, Calls Tryz.prog 76 #[.agg (subC n g), .int .i64 x.place] W fun e w' => e = .returned (.bool (inB x.place n.places.length)) ∧ Below W.heap.size W w') := fun W => isPlace_any n g x.place W
  unfold subC at I1
  go_enter Tryz.func121, Tryz.ntmps121
  go_wp2_with fail
  refine (I1.out _).mono ?_
  rintro e w1 ⟨he, hb⟩
  subst he
  have B1 : Hid (Below w.heap.size w w1) := hb
  clear hb
  go_wp2_with fail
  go_ret
  exact ⟨rfl, B1.out⟩
theorem arc2_any (p r vars : Nat) (x : Ar) (w : World) (h1 : w.cell? ⟨p, 1, none⟩ = some (.int .i64 x.ex.kind)) (h2 : w.cell? ⟨p, 2, none⟩ = some (.int .i64 x.ex.num)) (h3 : w.cell? ⟨p, 3, none⟩ = some (.slice x.ka x.ex.kids.length x.kc)) (hr : w.cell? ⟨r, 0, none⟩ = some (.int .i64 (vars : Int))) (hx : X w x.ex x.ka) :
    Calls Tryz.prog 122 #[.pointer (some ⟨p, 0, none⟩), .pointer (some ⟨r, 0, none⟩)] w fun e w' => e = .returned (.bool (!Expr.rightB vars x.ex)) ∧ Below w.heap.size w w' := by
  have I1 : Hid (Calls Tryz.prog 20 #[.agg #[.int .i64 x.ex.kind, .int .i64 x.ex.num, .slice x.ka x.ex.kids.length x.kc], .int .i64 (vars : Int)] w fun e w' => e = .returned (.bool (Expr.rightB vars x.ex)) ∧ Below w.heap.size w w') := Expr.right_any _ _ _ _ _ hx
  go_enter Tryz.func122, Tryz.ntmps122
  go_wp2_with fail
  refine I1.out.mono ?_
  rintro e w1 ⟨he, hb⟩
  subst he
  have B1 : Hid (Below w.heap.size w w1) := hb
  clear hb
  go_wp2_with fail
  go_ret
  exact ⟨rfl, B1.out⟩
theorem goes_arc1 : Goes 121 := fun args W => by kernel_rfl
theorem goes_arc2 : Goes 122 := fun args W => by kernel_rfl
set_option maxHeartbeats 1000000 in
theorem arc_any (n : Ne) (g vars : Nat) (x : Ar) (w : World) (hx : ArOk w x) :
    Calls Tryz.prog 95 #[.agg (subC n g), .agg #[.int .i64 x.place, .int .i64 x.ex.kind, .int .i64 x.ex.num, .slice x.ka x.ex.kids.length x.kc], .int .i64 (vars : Int)] w fun e w' => e = .returned (.int .i64 (arcF n x vars)) ∧ Below w.heap.size w w' := by
  obtain ⟨wz, hwz⟩ : ∃ wz, wz = ((w.alloc (.cells (subC n g) 67)).alloc (.cells #[.int .i64 x.place, .int .i64 x.ex.kind, .int .i64 x.ex.num, .slice x.ka x.ex.kids.length x.kc] 65)).alloc (.cells #[.int .i64 (vars : Int)] 3) := ⟨_, rfl⟩
  obtain ⟨hz, hsb, hv, hxx⟩ := three_boxes hwz
  have hv0 := hv 0 _ rfl
  have hv1 := hv 1 _ rfl
  have hv2 := hv 2 _ rfl
  have hv3 := hv 3 _ rfl
  have HB0 : Hid (AskB wz (.func (.func 121) #[] #[.pointer (some ⟨w.heap.size, 0, none⟩), .pointer (some ⟨w.heap.size + 1, 0, none⟩)]) (!inB x.place n.places.length)) := ⟨_, _, rfl, goes_arc1, fun W hW => arc1_any _ _ g n x W (hsb.below hW) (box_below hv0 hW)⟩
  have HB1 : Hid (AskB wz (.func (.func 122) #[] #[.pointer (some ⟨w.heap.size + 1, 0, none⟩), .pointer (some ⟨w.heap.size + 2, 0, none⟩)]) (!Expr.rightB vars x.ex)) :=
    ⟨_, _, rfl, goes_arc2, fun W hW => arc2_any _ _ vars x W (box_below hv1 hW) (box_below hv2 hW) (box_below hv3 hW) (box_below hxx hW) (hx.below (then_ hz hW)).2⟩
  have HZ : Hid (Below w.heap.size w wz) := hz
  clear hz hsb hv hxx hv0 hv1 hv2 hv3 hx
  unfold subC at hwz ⊢
  go_enter Tryz.func95, Tryz.ntmps95
  go_wp2_with fail
  rw [← hwz]
  refine (tells_any _ _ _ _ HB0.out).mono ?_
  rintro en v0 ⟨K0, c0, he, hu, hb⟩
  subst he
  have U0 : Hid (Ask v0 (.func (.func K0) #[] c0) _ ∧ Below wz.heap.size wz v0) := ⟨hu, hb⟩
  clear hu hb
  go_wp2_with fail
  refine (tells_any _ _ _ _ (HB1.out.below U0.out.2)).mono ?_
  rintro en v1 ⟨K1, c1, he, hu, hb⟩
  subst he
  have U1 : Hid (Ask v1 (.func (.func K0) #[] c0) _ ∧ Ask v1 (.func (.func K1) #[] c1) _ ∧ Below wz.heap.size wz v1) := ⟨U0.out.1.below hb, hu, then_ U0.out.2 hb⟩
  clear hu hb U0
  go_wp2_with fail
  refine (first_new #[.func (.func K0) #[] c0, .func (.func K1) #[] c1] _ 2 (arcL n x vars) v1 rfl rfl (by decide) (fun k hk h0 => ?_)).mono ?_
  rotate_left 1
  · rintro en wl ⟨he, hb⟩
    subst he
    have HB : Hid (Below w.heap.size w wl) := then_ HZ.out (then_ U1.out.2.2 hb)
    clear hb U1
    go_wp2_with fail
    go_ret
    exact ⟨rfl, HB.out⟩
  · match k, hk with
    | 0, _ => exact U1.out.1
    | 1, _ => exact U1.out.2.1
end Go.Proofs.YtgdkomkflfodaaaGreat.Check
/- What is wrong with a place that is emptied; in how many ways variables have members; joins, splits and instances: contracts of the calls, over the turned program. -/
namespace Go.Proofs.YtgdkomkflfodaaaGreat.Check
open Go.RowKit Go.Proofs.YtgdkomkflfodaaaGreat.Frame Go.Proofs.YtgdkomkflfodaaaGreat.Colour Go.Proofs.YtgdkomkflfodaaaGreat.Expr
set_option linter.unusedVariables false
set_option linter.unusedSimpArgs false

/-- numbers in memory -/
def Ns (w : World) (a : Option Addr) (l : List Int) : Prop := RowM 1 (fun z => [.int .i64 z]) Is 0 w a l
theorem Ns.below {w w' : World} {a : Option Addr} {l : List Int} (h : Ns w a l) (hb : Below w.heap.size w w') : Ns w' a l := RowM.below (ok := Is) (w := w) (w' := w') (fun x (g : In64 x) => g) h hb
theorem Ns.cell {w : World} {a : Option Addr} {l : List Int} (h : Ns w a l) {k : Nat} (hk : k < l.length) : ∃ b off, a = some ⟨b, off, none⟩ ∧ w.cell? ⟨b, off + k, none⟩ = some (.int .i64 (l.getD k 0)) := by
  obtain ⟨b, off, ha, hr, ho⟩ := RowM.at h hk
  refine ⟨b, off, ha, ?_⟩
  have := hr 0 _ rfl
  rwa [Nat.mul_one, Nat.add_zero] at this
/-- the first place of a number in a row; -1, if there is none -/
def idxF (l : List Int) (x : Int) : Int := match l.findIdx? (fun y => x == y) with | some i => (i : Int) | none => -1
theorem idxF_at {l : List Int} {x : Int} {i : Nat} (hi : i < l.length) (hb : ∀ j, j < i → (x == l.getD j 0) = false) (h : (x == l.getD i 0) = true) : idxF l x = i := by
  unfold idxF
  have : l.findIdx? (fun y => x == y) = some i := by
    rw [List.findIdx?_eq_some_iff_getElem]
    refine ⟨hi, ?_, fun j hj => ?_⟩
    · rw [List.getD_eq_getElem?_getD, List.getElem?_eq_getElem hi] at h; exact h
    · have := hb j hj
      rw [List.getD_eq_getElem?_getD, List.getElem?_eq_getElem (by omega)] at this
      have this : (x == l[j]) = false := this
      rw [this]; simp
  rw [this]
theorem idxF_none {l : List Int} {x : Int} (hb : ∀ j, j < l.length → (x == l.getD j 0) = false) : idxF l x = -1 := by
  unfold idxF
  have : l.findIdx? (fun y => x == y) = none := by
    rw [List.findIdx?_eq_none_iff]
    intro y hy
    obtain ⟨j, hj, rfl⟩ := List.getElem_of_mem hy
    have := hb j hj
    rwa [List.getD_eq_getElem?_getD, List.getElem?_eq_getElem hj] at this
  rw [this]
def hasB (l : List Int) (x : Int) : Bool := l.any fun y => x == y
theorem idx_has (l : List Int) (x : Int) : decide (0 ≤ idxF l x) = hasB l x := by
  unfold idxF hasB
  cases h : l.findIdx? (fun y => x == y) with
  | some i =>
    have : l.any (fun y => x == y) = true := by
      rw [List.any_eq_true]
      obtain ⟨hi, hp, _⟩ := List.findIdx?_eq_some_iff_getElem.1 h
      exact ⟨_, List.getElem_mem hi, hp⟩
    rw [this]; exact decide_eq_true (by show (0 : Int) ≤ (i : Int); omega)
  | none =>
    have : l.any (fun y => x == y) = false := by
      rw [List.any_eq_false]
      intro y hy
      have := List.findIdx?_eq_none_iff.1 h y hy
      rw [this]; simp
    rw [this]; rfl
set_option maxHeartbeats 1000000 in
theorem index_any (a : Option Addr) (cap : Nat) (l : List Int) (x : Int) (w : World) (h : Ns w a l) (hm : l.length ≤ 1000000) :
    Calls Tryz.prog 134 #[.slice a l.length cap, .int .i64 x] w fun e w' => e = .returned (.int .i64 (idxF l x)) ∧ w' = w := by
  have H0 : Hid (Ns w a l) := h
  clear h
  go_enter Tryz.func134, Tryz.ntmps134
  go_wp2_with fail
  go_loopw [8] (fun v wr => ∃ i : Nat, v = .int .i64 (i : Int) ∧ i ≤ l.length ∧ Hid (wr = w ∧ ∀ j, j < i → (x == l.getD j 0) = false)) (fun v _ => match v with | .int _ z => l.length - z.toNat | _ => 0)
  case atStart => exact ⟨0, rfl, by omega, ⟨rfl, fun j hj => absurd hj (Nat.not_lt_zero _)⟩⟩
  case round =>
    obtain ⟨i, rfl, hi, HI⟩ := hrel
    have hwr := HI.out.1
    subst hwr
    by_cases hlt : i < l.length
    · have hlt' : (i : Int) < l.length := by omega
      obtain ⟨b, off, ha, hc⟩ := H0.out.cell hlt
      subst ha
      obtain ⟨y, hy⟩ : ∃ y, y = l.getD i 0 := ⟨_, rfl⟩
      rw [← hy] at hc
      have HY : Hid (y = l.getD i 0) := hy
      clear hy
      cases hb : x == y with
      | true =>
        have R : Hid (idxF l x = i) := idxF_at hlt HI.out.2 (by rw [← HY.out]; exact hb)
        go_wp2_with fail
        go_ret
        exact ⟨by rw [R.out]; rfl, rfl⟩
      | false =>
        have NX : Hid (wr = wr ∧ ∀ j, j < i + 1 → (x == l.getD j 0) = false) := ⟨rfl, fun j hj => by
          rcases Nat.lt_succ_iff_lt_or_eq.1 hj with h | h
          · exact HI.out.2 j h
          · rw [h, ← HY.out]; exact hb⟩
        go_wp2_with fail
        go_roundw
        case rel => exact ⟨i + 1, by simp, by omega, ⟨trivial, NX.out.2⟩⟩
        case measure => simp; omega
    · have hlt' : ¬ (i : Int) < l.length := by omega
      have R : Hid (idxF l x = -1) := idxF_none fun j hj => HI.out.2 j (by omega)
      go_wp2_with fail
      go_ret
      exact ⟨by rw [R.out]; rfl, rfl⟩
theorem contains_any (a : Option Addr) (cap : Nat) (l : List Int) (x : Int) (w : World) (h : Ns w a l) (hm : l.length ≤ 1000000) :
    Calls Tryz.prog 125 #[.slice a l.length cap, .int .i64 x] w fun e w' => e = .returned (.bool (hasB l x)) ∧ w' = w := by
  have I1 : Hid (Calls Tryz.prog 134 #[.slice a l.length cap, .int .i64 x] w fun e w' => e = .returned (.int .i64 (idxF l x)) ∧ w' = w) := index_any a cap l x w h hm
  rw [← idx_has]
  generalize idxF l x = z at *
  clear h
  go_enter Tryz.func125, Tryz.ntmps125
  go_wp2_with fail
  refine I1.out.mono ?_
  rintro e w1 ⟨he, hw⟩
  subst he
  subst hw
  go_wp2_with fail
  go_ret
  exact ⟨rfl, rfl⟩
theorem Ns.take {w : World} {a : Option Addr} {l : List Int} (h : Ns w a l) {k : Nat} (hk : k ≤ l.length) : Ns w a (l.take k) := by
  rcases h with h | ⟨b, off, ha, h⟩
  · exact .inl (by rw [List.length_take]; omega)
  · refine .inr ⟨b, off, ha, fun i hi => ?_⟩
    rw [List.length_take] at hi
    have e : (l.take k).getD i 0 = l.getD i 0 := by rw [List.getD_eq_getElem?_getD, List.getElem?_take_of_lt (by omega), ← List.getD_eq_getElem?_getD]
    rw [e]; exact h i (by omega)

/- a place that is emptied -/
def cancelL (n : Ne) (l : List Int) (i : Nat) : List Int := [errB (!inB (l.getD i 0) n.places.length) 3, errB (hasB (l.take i) (l.getD i 0)) 5]
def cancelF (n : Ne) (l : List Int) (i : Nat) : Int := firstNZ (cancelL n l i)
set_option maxRecDepth 10000 in
theorem cancel1_any (q p r g j cp : Nat) (n : Ne) (a : Option Addr) (l : List Int) (w : World) (hq : SBox w q n g) (hp : w.cell? ⟨p, 0, none⟩ = some (.slice a l.length cp)) (hr : w.cell? ⟨r, 0, none⟩ = some (.int .i64 (j : Int))) (hs : Ns w a l) (hj : j < l.length) :
    Calls Tryz.prog 123 #[.pointer (some ⟨q, 0, none⟩), .pointer (some ⟨p, 0, none⟩), .pointer (some ⟨r, 0, none⟩)] w fun e w' => e = .returned (.bool (!inB (l.getD j 0) n.places.length)) ∧ Below w.heap.size w w' := by
  obtain ⟨c0, c1, c2, c3, c4, c5⟩ := hq
  obtain ⟨b, off, ha, d0⟩ := hs.cell hj
  have hj' : (j : Int) < l.length := by omega
  rw [ha] at hp
  obtain ⟨c, hc⟩ : ∃ x, x = l.getD j 0 := ⟨_, rfl⟩
  rw [← hc] at d0 ⊢
  have I1 : Hid (∀ W, Calls Tryz.prog 76 #[.agg (subC n g), .int .i64 c] W fun e w' => e = .returned (.bool (inB c n.places.length)) ∧ Below W.heap.size W w') := fun W => isPlace_any n g c W
  unfold subC at I1
  have HD : Hid (Below w.heap.size w w.drew) := (Below.refl _ _).drew
  clear hs ha hc
  go_enter Tryz.func123, Tryz.ntmps123
  go_wp2_with fail
  go_still_tail 5, follows
  go_wp2_with fail
  refine (I1.out _).mono ?_
  rintro e w1 ⟨he, hb⟩
  subst he
  have B1 : Hid (Below w.heap.size w w1) := then_ HD.out hb
  clear hb
  go_wp2_with fail
  go_ret
  exact ⟨rfl, B1.out⟩
set_option maxRecDepth 10000 in
theorem cancel2_any (p r j cp : Nat) (a : Option Addr) (l : List Int) (w : World) (hp : w.cell? ⟨p, 0, none⟩ = some (.slice a l.length cp)) (hr : w.cell? ⟨r, 0, none⟩ = some (.int .i64 (j : Int))) (hs : Ns w a l) (hm : l.length ≤ 1000000) (hcp : l.length ≤ cp) (hj : j < l.length) :
    Calls Tryz.prog 124 #[.pointer (some ⟨p, 0, none⟩), .pointer (some ⟨r, 0, none⟩)] w fun e w' => e = .returned (.bool (hasB (l.take j) (l.getD j 0))) ∧ Below w.heap.size w w' := by
  obtain ⟨b, off, ha, d0⟩ := hs.cell hj
  have hj' : (j : Int) < l.length := by omega
  have hjc : (j : Int) ≤ cp := by omega
  rw [ha] at hp
  have I1 : Hid (Calls Tryz.prog 125 #[.slice (some ⟨b, off, none⟩) j cp, .int .i64 (l.getD j 0)] w.drew fun e w' => e = .returned (.bool (hasB (l.take j) (l.getD j 0))) ∧ w' = w.drew) := by
    have := contains_any (some ⟨b, off, none⟩) cp (l.take j) (l.getD j 0) w.drew (((ha ▸ hs).take (by omega)).below (Below.refl _ _).drew) (by rw [List.length_take]; omega)
    rwa [List.length_take, Nat.min_eq_left (by omega)] at this
  obtain ⟨c, hc⟩ : ∃ x, x = l.getD j 0 := ⟨_, rfl⟩
  rw [← hc] at d0 I1 ⊢
  have HD : Hid (Below w.heap.size w w.drew) := (Below.refl _ _).drew
  clear hs ha hc
  go_enter Tryz.func124, Tryz.ntmps124
  go_wp2_with fail
  go_still_tail 7, follows
  go_wp2_with fail
  refine I1.out.mono ?_
  rintro e w1 ⟨he, hw⟩
  subst he
  subst hw
  go_wp2_with fail
  go_ret
  exact ⟨rfl, HD.out⟩
theorem goes_cancel1 : Goes 123 := fun args W => by kernel_rfl
theorem goes_cancel2 : Goes 124 := fun args W => by kernel_rfl
set_option maxHeartbeats 1000000 in
theorem cancel_any (n : Ne) (g j cp : Nat) (a : Option Addr) (l : List Int) (w : World) (hs : Ns w a l) (hm : l.length ≤ 1000000) (hcp : l.length ≤ cp) (hj : j < l.length) :
    Calls Tryz.prog 98 #[.agg (subC n g), .slice a l.length cp, .int .i64 (j : Int)] w fun e w' => e = .returned (.int .i64 (cancelF n l j)) ∧ Below w.heap.size w w' := by
  obtain ⟨wz, hwz⟩ : ∃ wz, wz = ((w.alloc (.cells (subC n g) 67)).alloc (.cells #[.slice a l.length cp] 36)).alloc (.cells #[.int .i64 (j : Int)] 3) := ⟨_, rfl⟩
  obtain ⟨hz, hsb, hv, hx⟩ := three_boxes hwz
  have hv0 := hv 0 _ rfl
  have HB0 : Hid (AskB wz (.func (.func 123) #[] #[.pointer (some ⟨w.heap.size, 0, none⟩), .pointer (some ⟨w.heap.size + 1, 0, none⟩), .pointer (some ⟨w.heap.size + 2, 0, none⟩)]) (!inB (l.getD j 0) n.places.length)) :=
    ⟨_, _, rfl, goes_cancel1, fun W hW => cancel1_any _ _ _ g j cp n a l W (hsb.below hW) (box_below hv0 hW) (box_below hx hW) (hs.below (then_ hz hW)) hj⟩
  have HB1 : Hid (AskB wz (.func (.func 124) #[] #[.pointer (some ⟨w.heap.size + 1, 0, none⟩), .pointer (some ⟨w.heap.size + 2, 0, none⟩)]) (hasB (l.take j) (l.getD j 0))) :=
    ⟨_, _, rfl, goes_cancel2, fun W hW => cancel2_any _ _ j cp a l W (box_below hv0 hW) (box_below hx hW) (hs.below (then_ hz hW)) hm hcp hj⟩
  have HZ : Hid (Below w.heap.size w wz) := hz
  clear hz hsb hv hx hv0 hs hj hm hcp
  unfold subC at hwz ⊢
  go_enter Tryz.func98, Tryz.ntmps98
  go_wp2_with fail
  rw [← hwz]
  refine (tells_any _ _ _ _ HB0.out).mono ?_
  rintro en v0 ⟨K0, c0, he, hu, hb⟩
  subst he
  have U0 : Hid (Ask v0 (.func (.func K0) #[] c0) _ ∧ Below wz.heap.size wz v0) := ⟨hu, hb⟩
  clear hu hb
  go_wp2_with fail
  refine (tells_any _ _ _ _ (HB1.out.below U0.out.2)).mono ?_
  rintro en v1 ⟨K1, c1, he, hu, hb⟩
  subst he
  have U1 : Hid (Ask v1 (.func (.func K0) #[] c0) _ ∧ Ask v1 (.func (.func K1) #[] c1) _ ∧ Below wz.heap.size wz v1) := ⟨U0.out.1.below hb, hu, then_ U0.out.2 hb⟩
  clear hu hb U0
  go_wp2_with fail
  refine (first_new #[.func (.func K0) #[] c0, .func (.func K1) #[] c1] _ 2 (cancelL n l j) v1 rfl rfl (by decide) (fun k hk h0 => ?_)).mono ?_
  rotate_left 1
  · rintro en wl ⟨he, hb⟩
    subst he
    have HB : Hid (Below w.heap.size w wl) := then_ HZ.out (then_ U1.out.2.2 hb)
    clear hb U1
    go_wp2_with fail
    go_ret
    exact ⟨rfl, HB.out⟩
  · match k, hk with
    | 0, _ => exact U1.out.1
    | 1, _ => exact U1.out.2.1

/- joins and splits, instances -/
def chosenB (kind : Int) (arcs : Nat) : Bool := (kind == 1 || kind == 2) || (kind == 3 && decide (arcs ≤ 4))
set_option maxHeartbeats 400000 in
theorem chosen_any (kind : Int) (arcs : Nat) (w : World) : Calls Tryz.prog 100 #[.int .i64 kind, .int .i64 (arcs : Int)] w fun e w' => e = .returned (.bool (chosenB kind arcs)) ∧ w' = w := by
  unfold chosenB
  by_cases h1 : kind = 1
  · subst h1
    go_enter Tryz.func100, Tryz.ntmps100
    go_wp2
    go_ret
    exact ⟨rfl, rfl⟩
  by_cases h2 : kind = 2
  · subst h2
    go_enter Tryz.func100, Tryz.ntmps100
    go_wp2
    go_ret
    exact ⟨rfl, rfl⟩
  have e1 : (kind == 1) = false := beq_eq_false_iff_ne.2 h1
  have e2 : (kind == 2) = false := beq_eq_false_iff_ne.2 h2
  by_cases h3 : kind = 3
  · subst h3
    go_enter Tryz.func100, Tryz.ntmps100
    go_wp2
    go_ret
    exact ⟨Colour.retb (by simp; omega), rfl⟩
  have e3 : (kind == 3) = false := beq_eq_false_iff_ne.2 h3
  rw [e1, e2, e3]
  go_enter Tryz.func100, Tryz.ntmps100
  go_wp2
  go_ret
  exact ⟨rfl, rfl⟩
end Go.Proofs.YtgdkomkflfodaaaGreat.Check
