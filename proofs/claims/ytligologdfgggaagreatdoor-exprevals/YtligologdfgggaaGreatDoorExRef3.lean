/- The document's own eval: contracts of the calls, over the turned program. -/
import Derived.Test.YtligologdfgggaaGreatDoorExRef2
namespace Go.Proofs.YtligologdfgggaaGreatDoor.Expr
open Go.RowKit Go.Proofs.YtligologdfgggaaGreatDoor.Frame Go.Proofs.YtligologdfgggaaGreatDoor.Calc
set_option linter.unusedVariables false
set_option linter.unusedSimpArgs false

/-- what the document's own eval tells of an expression, wherever it lies -/
def RReck (zs : List Int) (x : Ex) : Prop := ∀ (w : World) (a ea : Option Addr) (c elen ec : Nat), X w x a → Nm w ea elen zs → partsB elen x = true →
    Calls Tryz.prog 37 #[.agg #[.int .i64 x.kind, .int .i64 x.num, .slice a x.kids.length c], .slice ea elen ec] w fun e w' => e = .returned (.tuple #[.int .i64 (valF zs x).1, .int .i64 (valF zs x).2]) ∧ Below w.heap.size w w'

set_option maxRecDepth 100000 in
set_option maxHeartbeats 4000000 in
theorem rnumber_any (k n : Int) (a ea : Option Addr) (len c elen ec : Nat) (w : World) :
    Calls Tryz.prog 37 #[.agg #[.int .i64 1, .int .i64 n, .slice a len c], .slice ea elen ec] w fun e w' => e = .returned (.tuple #[.int .i64 n, .int .i64 0]) ∧ Below w.heap.size w w' := by
  go_enter Tryz.func37, Tryz.ntmps37
  go_wp2
  go_ret2
  exact ⟨rfl, (Below.refl _ _).alloc (Nat.le_refl _) _⟩

set_option maxRecDepth 100000 in
set_option maxHeartbeats 4000000 in
theorem rvariable_any (k n : Int) (a ea : Option Addr) (len c elen ec : Nat) (zs : List Int) (w : World) (hz : Nm w ea elen zs) (h0 : 0 ≤ n) (h1 : n < elen) :
    Calls Tryz.prog 37 #[.agg #[.int .i64 2, .int .i64 n, .slice a len c], .slice ea elen ec] w fun e w' => e = .returned (.tuple #[.int .i64 (zs.getD n.toNat 0), .int .i64 0]) ∧ Below w.heap.size w w' := by
  obtain ⟨m, rfl⟩ := Int.eq_ofNat_of_zero_le h0
  obtain ⟨b, off, ha, hbl, hc⟩ := hz.at (i := m) (by omega)
  subst ha
  clear hz
  simp only [Int.toNat_natCast]
  generalize zs.getD m 0 = v at *
  go_enter Tryz.func37, Tryz.ntmps37
  go_wp2
  go_ret2
  exact ⟨rfl, (Below.refl _ _).alloc (Nat.le_refl _) _⟩

set_option maxRecDepth 100000 in
set_option maxHeartbeats 4000000 in
theorem rnegated_any (zs : List Int) (k n : Int) (x : Ex) (a ea : Option Addr) (c elen ec : Nat) (w : World) (hX : X w ⟨k, n, [x]⟩ a) (hz : Nm w ea elen zs) (hr : RReck zs x) (hp : partsB elen x = true) :
    Calls Tryz.prog 37 #[.agg #[.int .i64 3, .int .i64 n, .slice a 1 c], .slice ea elen ec] w fun e w' => e = .returned (.tuple #[.int .i64 (nodeF zs 3 n [valF zs x]).1, .int .i64 (nodeF zs 3 n [valF zs x]).2]) ∧ Below w.heap.size w w' := by
  obtain ⟨b, off, y, ai, ci, ha, hbl, hm, he, c0, c1, c2, hxx⟩ := hX.kid (i := 0) (by simp)
  obtain rfl : y = x := by simpa using hm
  subst ha
  simp at c0 c1 c2
  have hv := in_val (fun i hi => hz.1.2 i (by rw [← hz.1.1]; exact hi)) y hxx
  have CL : Hid (∀ wx, Below w.heap.size w wx → Calls Tryz.prog 37 #[.agg #[.int .i64 y.kind, .int .i64 y.num, .slice ai y.kids.length ci], .slice ea elen ec] wx fun e w' => e = .returned (.tuple #[.int .i64 (valF zs y).1, .int .i64 (valF zs y).2]) ∧ Below wx.heap.size wx w') :=
    fun wx hb => hr wx ai ea ci elen ec (hxx.below hb) (hz.below hb) hp
  have E : Hid (nodeF zs 3 n [valF zs y] = if (valF zs y).2 ≠ 0 then (0, (valF zs y).2) else doF 2 0 (valF zs y).1) := rfl
  clear hX hz hr hp he hm hxx
  rw [E.out]
  generalize valF zs y = v at *
  obtain ⟨v1, v2⟩ := v
  simp only at *
  by_cases h0 : v2 = 0
  · subst h0
    go_enter Tryz.func37, Tryz.ntmps37
    go_wp2_with (first | (go_at_call 37; refine (CL.out _ ((Below.refl _ _).alloc (Nat.le_refl _) _)).mono ?_; rintro e w1 ⟨he, hb⟩; subst he; have K : Hid (Below w.heap.size w w1) := step2 hb; obtain ⟨hc, hf⟩ := bcell hb; have hs : w.heap.size < w1.heap.size := (by have := hb.size; simp at this; omega); clear hb) | (go_at_call 46; refine (rdo_any 2 0 _ _ (by decide) (by decide) hv.1 hv.2).mono ?_; rintro e w2 ⟨he, hw⟩; subst he; have hw := hw.symm; subst hw))
    go_ret2
    exact ⟨rfl, K.out⟩
  · go_enter Tryz.func37, Tryz.ntmps37
    go_wp2_with (go_at_call 37; refine (CL.out _ ((Below.refl _ _).alloc (Nat.le_refl _) _)).mono ?_; rintro e w1 ⟨he, hb⟩; subst he; have K : Hid (Below w.heap.size w w1) := step2 hb; obtain ⟨hc, hf⟩ := bcell hb; have hs : w.heap.size < w1.heap.size := (by have := hb.size; simp at this; omega); clear hb)
    go_ret2
    exact ⟨by simp [h0], K.out⟩

set_option maxRecDepth 100000 in
set_option maxHeartbeats 4000000 in
theorem rturned_any (zs : List Int) (k n : Int) (x : Ex) (a ea : Option Addr) (c elen ec : Nat) (w : World) (hX : X w ⟨k, n, [x]⟩ a) (hz : Nm w ea elen zs) (hr : RReck zs x) (hp : partsB elen x = true) :
    Calls Tryz.prog 37 #[.agg #[.int .i64 4, .int .i64 n, .slice a 1 c], .slice ea elen ec] w fun e w' => e = .returned (.tuple #[.int .i64 (nodeF zs 4 n [valF zs x]).1, .int .i64 (nodeF zs 4 n [valF zs x]).2]) ∧ Below w.heap.size w w' := by
  obtain ⟨b, off, y, ai, ci, ha, hbl, hm, he, c0, c1, c2, hxx⟩ := hX.kid (i := 0) (by simp)
  obtain rfl : y = x := by simpa using hm
  subst ha
  simp at c0 c1 c2
  have CL : Hid (∀ wx, Below w.heap.size w wx → Calls Tryz.prog 37 #[.agg #[.int .i64 y.kind, .int .i64 y.num, .slice ai y.kids.length ci], .slice ea elen ec] wx fun e w' => e = .returned (.tuple #[.int .i64 (valF zs y).1, .int .i64 (valF zs y).2]) ∧ Below wx.heap.size wx w') :=
    fun wx hb => hr wx ai ea ci elen ec (hxx.below hb) (hz.below hb) hp
  have E : Hid (nodeF zs 4 n [valF zs y] = if (valF zs y).2 ≠ 0 then (0, (valF zs y).2) else (if (valF zs y).1 = 0 then 1 else 0, 0)) := rfl
  clear hX hz hr hp he hm hxx
  rw [E.out]
  generalize valF zs y = v at *
  obtain ⟨v1, v2⟩ := v
  simp only at *
  by_cases h0 : v2 = 0
  · subst h0
    by_cases h1 : v1 = 0
    · subst h1
      go_enter Tryz.func37, Tryz.ntmps37
      go_wp2_with (go_at_call 37; refine (CL.out _ ((Below.refl _ _).alloc (Nat.le_refl _) _)).mono ?_; rintro e w1 ⟨he, hb⟩; subst he; have K : Hid (Below w.heap.size w w1) := step2 hb; obtain ⟨hc, hf⟩ := bcell hb; have hs : w.heap.size < w1.heap.size := (by have := hb.size; simp at this; omega); clear hb)
      go_ret2
      exact ⟨rfl, K.out⟩
    · go_enter Tryz.func37, Tryz.ntmps37
      go_wp2_with (go_at_call 37; refine (CL.out _ ((Below.refl _ _).alloc (Nat.le_refl _) _)).mono ?_; rintro e w1 ⟨he, hb⟩; subst he; have K : Hid (Below w.heap.size w w1) := step2 hb; obtain ⟨hc, hf⟩ := bcell hb; have hs : w.heap.size < w1.heap.size := (by have := hb.size; simp at this; omega); clear hb)
      go_ret2
      exact ⟨by simp [h1], K.out⟩
  · go_enter Tryz.func37, Tryz.ntmps37
    go_wp2_with (go_at_call 37; refine (CL.out _ ((Below.refl _ _).alloc (Nat.le_refl _) _)).mono ?_; rintro e w1 ⟨he, hb⟩; subst he; have K : Hid (Below w.heap.size w w1) := step2 hb; obtain ⟨hc, hf⟩ := bcell hb; have hs : w.heap.size < w1.heap.size := (by have := hb.size; simp at this; omega); clear hb)
    go_ret2
    exact ⟨by simp [h0], K.out⟩

set_option maxRecDepth 100000 in
set_option maxHeartbeats 4000000 in
theorem rchosen_any (zs : List Int) (k n : Int) (x y z : Ex) (a ea : Option Addr) (c elen ec : Nat) (w : World) (hX : X w ⟨k, n, [x, y, z]⟩ a) (hz : Nm w ea elen zs) (hrx : RReck zs x) (hry : RReck zs y) (hrz : RReck zs z) (hpx : partsB elen x = true) (hpy : partsB elen y = true) (hpz : partsB elen z = true) :
    Calls Tryz.prog 37 #[.agg #[.int .i64 6, .int .i64 n, .slice a 3 c], .slice ea elen ec] w fun e w' => e = .returned (.tuple #[.int .i64 (nodeF zs 6 n [valF zs x, valF zs y, valF zs z]).1, .int .i64 (nodeF zs 6 n [valF zs x, valF zs y, valF zs z]).2]) ∧ Below w.heap.size w w' := by
  obtain ⟨b, off, x', ax, cx, ha, hbl, -, hex, c0, c1, c2, hxx⟩ := hX.kid (i := 0) (by simp)
  subst ha
  obtain ⟨b', off', y', ay, cy, hay, -, -, hey, d0, d1, d2, hyy⟩ := hX.kid (i := 1) (by simp)
  obtain ⟨b'', off'', z', az, cz, haz, -, -, hez, e0, e1, e2, hzz⟩ := hX.kid (i := 2) (by simp)
  cases hay
  cases haz
  obtain rfl : x' = x := hex
  obtain rfl : y' = y := hey
  obtain rfl : z' = z := hez
  simp at c0 c1 c2 d0 d1 d2 e0 e1 e2
  have CX : Hid (∀ wx, Below w.heap.size w wx → Calls Tryz.prog 37 #[.agg #[.int .i64 x'.kind, .int .i64 x'.num, .slice ax x'.kids.length cx], .slice ea elen ec] wx fun e w' => e = .returned (.tuple #[.int .i64 (valF zs x').1, .int .i64 (valF zs x').2]) ∧ Below wx.heap.size wx w') :=
    fun wx hb => hrx wx ax ea cx elen ec (hxx.below hb) (hz.below hb) hpx
  have CY : Hid (∀ wx, Below w.heap.size w wx → Calls Tryz.prog 37 #[.agg #[.int .i64 y'.kind, .int .i64 y'.num, .slice ay y'.kids.length cy], .slice ea elen ec] wx fun e w' => e = .returned (.tuple #[.int .i64 (valF zs y').1, .int .i64 (valF zs y').2]) ∧ Below wx.heap.size wx w') :=
    fun wx hb => hry wx ay ea cy elen ec (hyy.below hb) (hz.below hb) hpy
  have CZ : Hid (∀ wx, Below w.heap.size w wx → Calls Tryz.prog 37 #[.agg #[.int .i64 z'.kind, .int .i64 z'.num, .slice az z'.kids.length cz], .slice ea elen ec] wx fun e w' => e = .returned (.tuple #[.int .i64 (valF zs z').1, .int .i64 (valF zs z').2]) ∧ Below wx.heap.size wx w') :=
    fun wx hb => hrz wx az ea cz elen ec (hzz.below hb) (hz.below hb) hpz
  have E : Hid (nodeF zs 6 n [valF zs x', valF zs y', valF zs z'] = if (valF zs x').2 ≠ 0 then (0, (valF zs x').2) else (if (valF zs x').1 = 0 then valF zs z' else valF zs y')) := rfl
  clear hX hz hrx hry hrz hpx hpy hpz hxx hyy hzz
  rw [E.out]
  generalize valF zs x' = v at *
  generalize valF zs y' = vy at *
  generalize valF zs z' = vz at *
  obtain ⟨v1, v2⟩ := v
  obtain ⟨y1, y2⟩ := vy
  obtain ⟨z1, z2⟩ := vz
  simp only at *
  by_cases h0 : v2 = 0
  · subst h0
    by_cases h1 : v1 = 0
    · subst h1
      go_enter Tryz.func37, Tryz.ntmps37
      go_wp2_with fail
      refine (CX.out _ ((Below.refl _ _).alloc (Nat.le_refl _) _)).mono ?_
      rintro e w1 ⟨he, hb⟩
      subst he
      have K : Hid (Below w.heap.size w w1) := step2 hb
      obtain ⟨hc, hf⟩ := bcell hb
      have hs : w.heap.size < w1.heap.size := by have := hb.size; simp at this; omega
      clear hb
      go_wp2_with fail
      refine (CZ.out _ K.out).mono ?_
      rintro e w2 ⟨he, hb2⟩
      subst he
      go_wp2_with fail
      go_ret2
      exact ⟨rfl, then_ K.out hb2⟩
    · go_enter Tryz.func37, Tryz.ntmps37
      go_wp2_with fail
      refine (CX.out _ ((Below.refl _ _).alloc (Nat.le_refl _) _)).mono ?_
      rintro e w1 ⟨he, hb⟩
      subst he
      have K : Hid (Below w.heap.size w w1) := step2 hb
      obtain ⟨hc, hf⟩ := bcell hb
      have hs : w.heap.size < w1.heap.size := by have := hb.size; simp at this; omega
      clear hb
      go_wp2_with fail
      refine (CY.out _ K.out).mono ?_
      rintro e w2 ⟨he, hb2⟩
      subst he
      go_wp2_with fail
      go_ret2
      exact ⟨by simp [h1], then_ K.out hb2⟩
  · go_enter Tryz.func37, Tryz.ntmps37
    go_wp2_with (go_at_call 37; refine (CX.out _ ((Below.refl _ _).alloc (Nat.le_refl _) _)).mono ?_; rintro e w1 ⟨he, hb⟩; subst he)
    go_ret2
    exact ⟨by simp [h0], step2 hb⟩

set_option maxRecDepth 100000 in
set_option maxHeartbeats 4000000 in
theorem rjoined_any (zs : List Int) (k n : Int) (x y : Ex) (a ea : Option Addr) (c elen ec : Nat) (w : World) (hX : X w ⟨k, n, [x, y]⟩ a) (hz : Nm w ea elen zs) (hrx : RReck zs x) (hry : RReck zs y) (hpx : partsB elen x = true) (hpy : partsB elen y = true) :
    Calls Tryz.prog 37 #[.agg #[.int .i64 5, .int .i64 n, .slice a 2 c], .slice ea elen ec] w fun e w' => e = .returned (.tuple #[.int .i64 (nodeF zs 5 n [valF zs x, valF zs y]).1, .int .i64 (nodeF zs 5 n [valF zs x, valF zs y]).2]) ∧ Below w.heap.size w w' := by
  obtain ⟨b, off, x', ax, cx, ha, hbl, -, hex, c0, c1, c2, hxx⟩ := hX.kid (i := 0) (by simp)
  subst ha
  obtain ⟨b', off', y', ay, cy, hay, -, -, hey, d0, d1, d2, hyy⟩ := hX.kid (i := 1) (by simp)
  cases hay
  obtain rfl : x' = x := hex
  obtain rfl : y' = y := hey
  simp at c0 c1 c2 d0 d1 d2
  have hin := in_val (fun i hi => hz.1.2 i (by rw [← hz.1.1]; exact hi))
  have vx := hin x' hxx
  have vy := hin y' hyy
  clear hin
  have CX : Hid (∀ wx, Below w.heap.size w wx → Calls Tryz.prog 37 #[.agg #[.int .i64 x'.kind, .int .i64 x'.num, .slice ax x'.kids.length cx], .slice ea elen ec] wx fun e w' => e = .returned (.tuple #[.int .i64 (valF zs x').1, .int .i64 (valF zs x').2]) ∧ Below wx.heap.size wx w') :=
    fun wx hb => hrx wx ax ea cx elen ec (hxx.below hb) (hz.below hb) hpx
  have CY : Hid (∀ wx, Below w.heap.size w wx → Calls Tryz.prog 37 #[.agg #[.int .i64 y'.kind, .int .i64 y'.num, .slice ay y'.kids.length cy], .slice ea elen ec] wx fun e w' => e = .returned (.tuple #[.int .i64 (valF zs y').1, .int .i64 (valF zs y').2]) ∧ Below wx.heap.size wx w') :=
    fun wx hb => hry wx ay ea cy elen ec (hyy.below hb) (hz.below hb) hpy
  clear hX hz hrx hry hpx hpy hxx hyy
  generalize valF zs x' = v at *
  generalize valF zs y' = u at *
  obtain ⟨v1, v2⟩ := v
  obtain ⟨u1, u2⟩ := u
  simp only at *
  by_cases h0 : v2 = 0
  case neg =>
    have E : Hid (nodeF zs 5 n [(v1, v2), (u1, u2)] = (0, v2)) := node5_err h0
    rw [E.out]
    go_enter Tryz.func37, Tryz.ntmps37
    go_wp2_with (go_at_call 37; refine (CX.out _ ((Below.refl _ _).alloc (Nat.le_refl _) _)).mono ?_; rintro e w1 ⟨he, hb⟩; subst he)
    go_ret2
    exact ⟨by simp, step2 hb⟩
  subst h0
  by_cases h1 : n = 10 ∧ v1 = 0
  · obtain ⟨rfl, rfl⟩ := h1
    have E : Hid (nodeF zs 5 10 [(0, 0), (u1, u2)] = (0, 0)) := node5_and rfl rfl rfl
    rw [E.out]
    go_enter Tryz.func37, Tryz.ntmps37
    go_wp2_with fail
    refine (CX.out _ ((Below.refl _ _).alloc (Nat.le_refl _) _)).mono ?_
    rintro e w1 ⟨he, hb⟩
    subst he
    have K : Hid (Below w.heap.size w w1) := step2 hb
    obtain ⟨hc, hf⟩ := bcell hb
    have hs : w.heap.size < w1.heap.size := by have := hb.size; simp at this; omega
    clear hb
    go_wp2_with fail
    go_ret2
    exact ⟨rfl, K.out⟩
  by_cases h2 : n = 11 ∧ ¬ v1 = 0
  · obtain ⟨rfl, h2⟩ := h2
    have E : Hid (nodeF zs 5 11 [(v1, 0), (u1, u2)] = (1, 0)) := node5_or rfl rfl h2
    rw [E.out]
    clear h1
    go_enter Tryz.func37, Tryz.ntmps37
    go_wp2_with fail
    refine (CX.out _ ((Below.refl _ _).alloc (Nat.le_refl _) _)).mono ?_
    rintro e w1 ⟨he, hb⟩
    subst he
    have K : Hid (Below w.heap.size w w1) := step2 hb
    obtain ⟨hc, hf⟩ := bcell hb
    have hs : w.heap.size < w1.heap.size := by have := hb.size; simp at this; omega
    clear hb
    go_wp2_with fail
    go_ret2
    exact ⟨rfl, K.out⟩
  have E1 : Hid (¬ u2 = 0 → nodeF zs 5 n [(v1, 0), (u1, u2)] = (0, u2)) := fun h => node5_err2 rfl h1 h2 h
  have E2 : Hid (u2 = 0 → nodeF zs 5 n [(v1, 0), (u1, u2)] = doF n v1 u1) := fun h => node5_do rfl h1 h2 h
  have h3 : ((n = 10 ∧ ¬ v1 = 0) ∨ (n = 11 ∧ v1 = 0)) ∨ (¬ n = 10 ∧ ¬ n = 11) := by omega
  clear h1 h2
  generalize nodeF zs 5 n [(v1, 0), (u1, u2)] = R at *
  rcases h3 with (⟨rfl, h3⟩ | ⟨rfl, rfl⟩) | ⟨h3, h4⟩
  all_goals
    go_enter Tryz.func37, Tryz.ntmps37
    go_wp2_with fail
    refine (CX.out _ ((Below.refl _ _).alloc (Nat.le_refl _) _)).mono ?_
    rintro e w1 ⟨he, hb⟩
    subst he
    have K : Hid (Below w.heap.size w w1) := step2 hb
    obtain ⟨hc, hf⟩ := bcell hb
    have hs : w.heap.size < w1.heap.size := by have := hb.size; simp at this; omega
    clear hb
    go_wp2_with fail
    refine (CY.out _ K.out).mono ?_
    rintro e w2 ⟨he, hb2⟩
    subst he
    have K2 : Hid (Below w.heap.size w w2) := then_ K.out hb2
    have hn2 : w2.cell? ⟨w.heap.size, 1, none⟩ = w1.cell? ⟨w.heap.size, 1, none⟩ := hb2.cell (p := ⟨w.heap.size, 1, none⟩) hs
    clear hb2
    by_cases hu : u2 = 0
    · subst hu
      have E3 := E2.out rfl
      have E3 : Hid (R = _) := E3
      clear E1 E2
      go_wp2_with (go_at_call 46; refine (rdo_any _ _ _ _ vx.1 vx.2 vy.1 vy.2).mono ?_; rintro e w3 ⟨he, hw⟩; subst he; have hw := hw.symm; subst hw)
      go_ret2
      exact ⟨ret2 E3.out, K2.out⟩
    · have E3 := E1.out hu
      have E3 : Hid (R = _) := E3
      clear E1 E2
      go_wp2_with fail
      go_ret2
      exact ⟨ret2 E3.out, K2.out⟩

/-- eval, of any right expression -/
theorem rreck_all (zs : List Int) : ∀ t, RReck zs t := by
  refine Ex.ind fun k n ks ih w a ea c elen ec hX hz hp => ?_
  have hkids : ∀ x, x ∈ ks → RReck zs x ∧ partsB elen x = true := fun x hx => ⟨ih x hx, parts_kid hp hx⟩
  show Calls Tryz.prog 37 #[.agg #[.int .i64 k, .int .i64 n, .slice a ks.length c], .slice ea elen ec] w _
  rw [val_eq]
  rcases parts_kinds hp with ⟨rfl, rfl⟩ | ⟨rfl, rfl, h0, h1⟩ | ⟨rfl, x, rfl⟩ | ⟨rfl, x, rfl⟩ | ⟨rfl, x, y, rfl⟩ | ⟨rfl, x, y, z, rfl⟩
  · exact rnumber_any 1 n a ea 0 c elen ec w
  · exact rvariable_any 2 n a ea 0 c elen ec zs w hz h0 h1
  · exact rnegated_any zs 3 n x _ _ _ _ _ _ hX hz (hkids x (by simp)).1 (hkids x (by simp)).2
  · exact rturned_any zs 4 n x _ _ _ _ _ _ hX hz (hkids x (by simp)).1 (hkids x (by simp)).2
  · exact rjoined_any zs 5 n x y _ _ _ _ _ _ hX hz (hkids x (by simp)).1 (hkids y (by simp)).1 (hkids x (by simp)).2 (hkids y (by simp)).2
  · exact rchosen_any zs 6 n x y z _ _ _ _ _ _ hX hz (hkids x (by simp)).1 (hkids y (by simp)).1 (hkids z (by simp)).1 (hkids x (by simp)).2 (hkids y (by simp)).2 (hkids z (by simp)).2

set_option maxHeartbeats 1000000 in
theorem reval_any (zs : List Int) (t : Ex) (w : World) (a ea : Option Addr) (c elen ec : Nat) (hX : X w t a) (hz : Nm w ea elen zs) (hs : sizeF t ≤ 1000000) :
    Calls Tryz.prog 19 #[.agg #[.int .i64 t.kind, .int .i64 t.num, .slice a t.kids.length c], .slice ea elen ec] w fun e w' => e = .returned (.tuple #[.int .i64 (evalF zs t).1, .int .i64 (evalF zs t).2]) ∧ Below w.heap.size w w' := by
  have KB : Hid (Bs _ w.heap.size w.heap.size t t a a c c _) := bs_one w t a c
  have B0 : Hid (Below w.heap.size w (w.alloc (.cells #[.int .i64 t.kind, .int .i64 t.num, .slice a t.kids.length c] 24))) := al1 _ _
  have HX : Hid (X (w.alloc (.cells #[.int .i64 t.kind, .int .i64 t.num, .slice a t.kids.length c] 24)) t a) := hX.below B0.out
  have HZ : Hid (Nm (w.alloc (.cells #[.int .i64 t.kind, .int .i64 t.num, .slice a t.kids.length c] 24)) ea elen zs) := hz.below B0.out
  have ST : Hid (sizeF t ≤ 1000000) := hs
  cases hr : rightB elen t with
  | false =>
    have R : Hid (rightB elen t = false) := hr
    have E : Hid (evalF zs t = (0, 1)) := by simp only [Hid, evalF, hz.1.1, hr]; rfl
    clear hr hX hz hs
    go_enter Tryz.func19, Tryz.ntmps19
    go_wp2_with fail
    refine (Bs.call KB.out (fun hb => rright_any t _ a c elen (HX.out.below hb) ST.out)).mono ?_
    clear KB
    rintro e w1 ⟨he, KB, -⟩
    rw [R.out] at he
    subst he
    go_wp2_with fail
    go_ret2
    exact ⟨ret2 E.out, bs_end B0.out KB.out⟩
  | true =>
    have R : Hid (rightB elen t = true) := hr
    have E : Hid (evalF zs t = valF zs t) := by simp only [Hid, evalF, hz.1.1, hr]; rfl
    clear hX hz hs
    go_enter Tryz.func19, Tryz.ntmps19
    go_wp2_with fail
    refine (Bs.call KB.out (fun hb => rright_any t _ a c elen (HX.out.below hb) ST.out)).mono ?_
    clear KB
    rintro e w1 ⟨he, KB, ⟨⟨b0, b1, b2⟩, bl⟩, -, -⟩
    rw [R.out] at he
    subst he
    clear hr
    go_wp2_with fail
    refine (Bs.call KB.out (fun hb => rreck_all zs t _ a ea c elen ec (HX.out.below hb) (HZ.out.below hb) (rightB_parts R.out))).mono ?_
    clear KB b0 b1 b2 bl
    rintro e w2 ⟨he, KB, -⟩
    subst he
    go_wp2_with fail
    go_ret2
    exact ⟨ret2 E.out, bs_end B0.out KB.out⟩
end Go.Proofs.YtligologdfgggaaGreatDoor.Expr
