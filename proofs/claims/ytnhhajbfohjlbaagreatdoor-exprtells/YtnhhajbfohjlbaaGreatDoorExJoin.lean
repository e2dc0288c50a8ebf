/- How package expr reckons two kids, and reckon, Eval: contracts of the calls, over the turned program. -/
import Derived.Test.YtnhhajbfohjlbaaGreatDoorExVal
import Derived.Test.YtnhhajbfohjlbaaGreatDoorExTakes
namespace Go.Proofs.YtnhhajbfohjlbaaGreatDoor.Expr
open Go.RowKit Go.Proofs.YtnhhajbfohjlbaaGreatDoor.Frame Go.Proofs.YtnhhajbfohjlbaaGreatDoor.Calc
set_option linter.unusedVariables false
set_option linter.unusedSimpArgs false

theorem node5_err {zs : List Int} {n : Int} {v y : Int × Int} (h : ¬ v.2 = 0) : nodeF zs 5 n [v, y] = (0, v.2) := by simp [nodeF, h]
theorem node5_and {zs : List Int} {n : Int} {v y : Int × Int} (h : v.2 = 0) (h1 : n = 10) (h2 : v.1 = 0) : nodeF zs 5 n [v, y] = (0, 0) := by simp [nodeF, h, h1, h2]
theorem node5_or {zs : List Int} {n : Int} {v y : Int × Int} (h : v.2 = 0) (h1 : n = 11) (h2 : ¬ v.1 = 0) : nodeF zs 5 n [v, y] = (1, 0) := by simp [nodeF, h, h1, h2]
theorem node5_err2 {zs : List Int} {n : Int} {v y : Int × Int} (h : v.2 = 0) (h1 : ¬ (n = 10 ∧ v.1 = 0)) (h2 : ¬ (n = 11 ∧ ¬ v.1 = 0)) (h3 : ¬ y.2 = 0) : nodeF zs 5 n [v, y] = (0, y.2) := by
  simp only [nodeF]; simp [h, h1, h2, h3]
theorem node5_do {zs : List Int} {n : Int} {v y : Int × Int} (h : v.2 = 0) (h1 : ¬ (n = 10 ∧ v.1 = 0)) (h2 : ¬ (n = 11 ∧ ¬ v.1 = 0)) (h3 : y.2 = 0) : nodeF zs 5 n [v, y] = doF n v.1 y.1 := by
  simp only [nodeF]; simp [h, h1, h2, h3]

set_option maxHeartbeats 2000000 in
theorem joined_any (zs : List Int) (k n : Int) (x y : Ex) (a ea : Option Addr) (c elen ec : Nat) (w : World) (hX : X w ⟨k, n, [x, y]⟩ a) (hz : Nm w ea elen zs) (hrx : Reck zs x) (hry : Reck zs y) (hpx : partsB elen x = true) (hpy : partsB elen y = true) :
    Calls Tryz.prog 68 #[.slice ea elen ec, .agg #[.int .i64 k, .int .i64 n, .slice a 2 c]] w fun e w' => e = .returned (.tuple #[.int .i64 (nodeF zs 5 n [valF zs x, valF zs y]).1, .int .i64 (nodeF zs 5 n [valF zs x, valF zs y]).2]) ∧ Below w.heap.size w w' := by
  obtain ⟨b, off, x', ax, cx, ha, hbl, -, hex, c0, c1, c2, hxx⟩ := hX.kid (i := 0) (by simp)
  subst ha
  obtain ⟨b', off', y', ay, cy, hay, -, -, hey, d0, d1, d2, hyy⟩ := hX.kid (i := 1) (by simp)
  cases hay
  obtain rfl : x' = x := hex
  obtain rfl : y' = y := hey
  simp at c0 c1 c2 d0 d1 d2
  have hin := in_val (fun i hi => hz.1.2 i (by rw [← hz.1.1]; exact hi))
  have vx := hin x' hxx
  have vy := hin y' hyy
  clear hin
  have CX : Hid (∀ wx, Below w.heap.size w wx → Calls Tryz.prog 34 #[.slice ea elen ec, .agg #[.int .i64 x'.kind, .int .i64 x'.num, .slice ax x'.kids.length cx]] wx fun e w' => e = .returned (.tuple #[.int .i64 (valF zs x').1, .int .i64 (valF zs x').2]) ∧ Below wx.heap.size wx w') :=
    fun wx hb => hrx wx ax ea cx elen ec (hxx.below hb) (hz.below hb) hpx
  have CY : Hid (∀ wx, Below w.heap.size w wx → Calls Tryz.prog 34 #[.slice ea elen ec, .agg #[.int .i64 y'.kind, .int .i64 y'.num, .slice ay y'.kids.length cy]] wx fun e w' => e = .returned (.tuple #[.int .i64 (valF zs y').1, .int .i64 (valF zs y').2]) ∧ Below wx.heap.size wx w') :=
    fun wx hb => hry wx ay ea cy elen ec (hyy.below hb) (hz.below hb) hpy
  clear hX hz hrx hry hpx hpy hxx hyy
  generalize valF zs x' = v at *
  generalize valF zs y' = u at *
  obtain ⟨v1, v2⟩ := v
  obtain ⟨u1, u2⟩ := u
  simp only at *
  by_cases h0 : v2 = 0
  case neg =>
    have E : Hid (nodeF zs 5 n [(v1, v2), (u1, u2)] = (0, v2)) := node5_err h0
    rw [E.out]
    go_enter Tryz.func68, Tryz.ntmps68
    go_wp2_with (go_at_call 34; refine (CX.out _ ((Below.refl _ _).alloc (Nat.le_refl _) _)).mono ?_; rintro e w1 ⟨he, hb⟩; subst he)
    go_ret2
    exact ⟨by simp, step2 hb⟩
  subst h0
  by_cases h1 : n = 10 ∧ v1 = 0
  · obtain ⟨rfl, rfl⟩ := h1
    have E : Hid (nodeF zs 5 10 [(0, 0), (u1, u2)] = (0, 0)) := node5_and rfl rfl rfl
    rw [E.out]
    go_enter Tryz.func68, Tryz.ntmps68
    go_wp2_with fail
    refine (CX.out _ ((Below.refl _ _).alloc (Nat.le_refl _) _)).mono ?_
    rintro e w1 ⟨he, hb⟩
    subst he
    have K : Hid (Below w.heap.size w w1) := step2 hb
    obtain ⟨hc, hf⟩ := bcell hb
    have hs : w.heap.size < w1.heap.size := by have := hb.size; simp at this; omega
    clear hb
    go_wp2_with fail
    go_ret2
    exact ⟨rfl, K.out⟩
  by_cases h2 : n = 11 ∧ ¬ v1 = 0
  · obtain ⟨rfl, h2⟩ := h2
    have E : Hid (nodeF zs 5 11 [(v1, 0), (u1, u2)] = (1, 0)) := node5_or rfl rfl h2
    rw [E.out]
    clear h1
    go_enter Tryz.func68, Tryz.ntmps68
    go_wp2_with fail
    refine (CX.out _ ((Below.refl _ _).alloc (Nat.le_refl _) _)).mono ?_
    rintro e w1 ⟨he, hb⟩
    subst he
    have K : Hid (Below w.heap.size w w1) := step2 hb
    obtain ⟨hc, hf⟩ := bcell hb
    have hs : w.heap.size < w1.heap.size := by have := hb.size; simp at this; omega
    clear hb
    go_wp2_with fail
    go_ret2
    exact ⟨rfl, K.out⟩
  have E1 : Hid (¬ u2 = 0 → nodeF zs 5 n [(v1, 0), (u1, u2)] = (0, u2)) := fun h => node5_err2 rfl h1 h2 h
  have E2 : Hid (u2 = 0 → nodeF zs 5 n [(v1, 0), (u1, u2)] = doF n v1 u1) := fun h => node5_do rfl h1 h2 h
  have h3 : ((n = 10 ∧ ¬ v1 = 0) ∨ (n = 11 ∧ v1 = 0)) ∨ (¬ n = 10 ∧ ¬ n = 11) := by omega
  clear h1 h2
  generalize nodeF zs 5 n [(v1, 0), (u1, u2)] = R at *
  rcases h3 with (⟨rfl, h3⟩ | ⟨rfl, rfl⟩) | ⟨h3, h4⟩
  all_goals
    go_enter Tryz.func68, Tryz.ntmps68
    go_wp2_with fail
    refine (CX.out _ ((Below.refl _ _).alloc (Nat.le_refl _) _)).mono ?_
    rintro e w1 ⟨he, hb⟩
    subst he
    have K : Hid (Below w.heap.size w w1) := step2 hb
    obtain ⟨hc, hf⟩ := bcell hb
    have hs : w.heap.size < w1.heap.size := by have := hb.size; simp at this; omega
    clear hb
    go_wp2_with fail
    refine (CY.out _ K.out).mono ?_
    rintro e w2 ⟨he, hb2⟩
    subst he
    have K2 : Hid (Below w.heap.size w w2) := then_ K.out hb2
    have hn2 : w2.cell? ⟨w.heap.size, 1, none⟩ = w1.cell? ⟨w.heap.size, 1, none⟩ := hb2.cell (p := ⟨w.heap.size, 1, none⟩) hs
    clear hb2
    by_cases hu : u2 = 0
    · subst hu
      have E3 := E2.out rfl
      have E3 : Hid (R = _) := E3
      clear E1 E2
      go_wp2_with (go_at_call 83; refine (do_any _ _ _ _ vx.1 vx.2 vy.1 vy.2).mono ?_; rintro e w3 ⟨he, hw⟩; subst he; have hw := hw.symm; subst hw)
      go_ret2
      exact ⟨ret2 E3.out, K2.out⟩
    · have E3 := E1.out hu
      have E3 : Hid (R = _) := E3
      clear E1 E2
      go_wp2_with fail
      go_ret2
      exact ⟨ret2 E3.out, K2.out⟩

/-- by which method a kind is reckoned -/
def wayN (k : Int) : Nat := if k = 1 then 64 else if k = 2 then 65 else if k = 3 then 66 else if k = 4 then 67 else if k = 5 then 68 else 69
theorem way_fn {a b : Nat} (h : a = b) (v : Value) : Ending.returned (.func (.func a) #[v] #[]) = .returned (.func (.func b) #[v] #[]) := by rw [h]

set_option maxHeartbeats 1000000 in
theorem way_any (v : Value) (k : Int) (w : World) :
    Calls Tryz.prog 42 #[v, .int .i64 k] w fun e w' => e = .returned (.func (.func (wayN k)) #[v] #[]) ∧ w' = w := by
  by_cases h1 : k = 1
  · subst h1
    go_enter Tryz.func42, Tryz.ntmps42
    go_wp2
    go_ret
    exact ⟨rfl, rfl⟩
  by_cases h2 : k = 2
  · subst h2
    go_enter Tryz.func42, Tryz.ntmps42
    go_wp2
    go_ret
    exact ⟨rfl, rfl⟩
  by_cases h3 : k = 3
  · subst h3
    go_enter Tryz.func42, Tryz.ntmps42
    go_wp2
    go_ret
    exact ⟨rfl, rfl⟩
  by_cases h4 : k = 4
  · subst h4
    go_enter Tryz.func42, Tryz.ntmps42
    go_wp2
    go_ret
    exact ⟨rfl, rfl⟩
  by_cases h5 : k = 5
  · subst h5
    go_enter Tryz.func42, Tryz.ntmps42
    go_wp2
    go_ret
    exact ⟨rfl, rfl⟩
  have N : Hid (wayN k = 69) := by simp [Hid, wayN, h1, h2, h3, h4, h5]
  go_enter Tryz.func42, Tryz.ntmps42
  go_wp2
  go_ret
  exact ⟨way_fn N.out.symm v, rfl⟩

end Go.Proofs.YtnhhajbfohjlbaaGreatDoor.Expr
