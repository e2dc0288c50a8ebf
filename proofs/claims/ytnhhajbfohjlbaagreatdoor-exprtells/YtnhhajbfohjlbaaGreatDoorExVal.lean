/- The methods by which package expr reckons: contracts of the calls, over the turned program. -/
import Derived.Test.YtnhhajbfohjlbaaGreatDoorExMem
import Derived.Test.YtnhhajbfohjlbaaGreatDoorCalcDo
import Derived.Deep.RegionHeld3
namespace Go.Proofs.YtnhhajbfohjlbaaGreatDoor.Expr
open Go.RowKit Go.Proofs.YtnhhajbfohjlbaaGreatDoor.Frame Go.Proofs.YtnhhajbfohjlbaaGreatDoor.Calc
set_option linter.unusedVariables false
set_option linter.unusedSimpArgs false

/-- what reckon tells of an expression, wherever it lies -/
def Reck (zs : List Int) (x : Ex) : Prop := ∀ (w : World) (a ea : Option Addr) (c elen ec : Nat), X w x a → Nm w ea elen zs → partsB elen x = true →
    Calls Tryz.prog 34 #[.slice ea elen ec, .agg #[.int .i64 x.kind, .int .i64 x.num, .slice a x.kids.length c]] w fun e w' => e = .returned (.tuple #[.int .i64 (valF zs x).1, .int .i64 (valF zs x).2]) ∧ Below w.heap.size w w'

theorem in_ovf (n : Int) : In64 (ovf n).1 := by
  unfold ovf; split
  · rename_i h; unfold inR lo hi at h; simp at h; exact h
  · exact ⟨by decide, by decide⟩
theorem in_bit (p : Bool) : In64 (bit p) := by cases p <;> exact ⟨by decide, by decide⟩
theorem in_do (op a b : Int) (ha : In64 a) : In64 (doF op a b).1 := by
  have hz : In64 0 := ⟨by decide, by decide⟩
  rcases op_cases op with h | h | h | h | h | h | h | h | h | h | h | h
  · subst h; rw [do1]; exact in_ovf _
  · subst h; rw [do2]; exact in_ovf _
  · subst h; rw [do3]; exact in_ovf _
  · subst h; rw [do4]; unfold divF; split
    · exact hz
    · exact in_ovf _
  · subst h; rw [do5]; unfold remF; split
    · exact hz
    · split
      · exact hz
      · exact tmod_range ha.1 ha.2
  · subst h; rw [do6]; exact in_bit _
  · subst h; rw [do7]; exact in_bit _
  · subst h; rw [do8]; exact in_bit _
  · subst h; rw [do9]; exact in_bit _
  · subst h
    by_cases h0 : a = 0
    · subst h0; rw [do10f]; exact in_bit false
    · rw [do10t h0]; exact in_bit _
  · subst h
    by_cases h0 : a = 0
    · subst h0; rw [do11f]; exact in_bit _
    · rw [do11t _ h0]; exact in_bit true
  · rw [do_not _ _ h]; exact hz

theorem getD_val {zs : List Int} {ks : List Ex} {i : Nat} (h : i < ks.length) : (ks.map (valF zs)).getD i (0, 0) = valF zs (ks.getD i nilEx) := by
  rw [List.getD_eq_getElem?_getD, List.getElem?_map, List.getD_eq_getElem?_getD, List.getElem?_eq_getElem h]; rfl
theorem in_getD {zs : List Int} (hz : ∀ i, i < zs.length → In64 (zs.getD i 0)) (i : Nat) : In64 (zs.getD i 0) := by
  by_cases h : i < zs.length
  · exact hz i h
  · rw [List.getD_eq_getElem?_getD, List.getElem?_eq_none (by omega)]; exact ⟨by decide, by decide⟩
/-- what is told is a number -/
theorem in_val {zs : List Int} (hz : ∀ i, i < zs.length → In64 (zs.getD i 0)) : ∀ (t : Ex) {w : World} {a : Option Addr}, X w t a → In64 (valF zs t).1 := by
  have z0 : In64 0 := ⟨by decide, by decide⟩
  have z1 : In64 1 := ⟨by decide, by decide⟩
  refine Ex.ind fun k n ks ih w a h => ?_
  have hk : ∀ i, In64 ((ks.map (valF zs)).getD i (0, 0)).1 := fun i => by
    by_cases hi : i < ks.length
    · rw [getD_val hi]
      obtain ⟨b, off, x, ai, ci, _, _, hm, hx, _, _, _, hxx⟩ := h.kid hi
      rw [← hx]; exact ih x hm hxx
    · rw [List.getD_eq_getElem?_getD, List.getElem?_eq_none (by simpa using hi)]; exact z0
  rw [val_eq]
  unfold nodeF
  repeat' split
  all_goals first | exact h.node.2 | exact in_getD hz _ | exact z0 | exact z1 | exact in_do _ _ _ z0 | exact in_do _ _ _ (hk 0) | exact hk _

set_option maxHeartbeats 1000000 in
theorem number_any (k n : Int) (a ea : Option Addr) (len c elen ec : Nat) (w : World) :
    Calls Tryz.prog 64 #[.slice ea elen ec, .agg #[.int .i64 k, .int .i64 n, .slice a len c]] w fun e w' => e = .returned (.tuple #[.int .i64 n, .int .i64 0]) ∧ Below w.heap.size w w' := by
  go_enter Tryz.func64, Tryz.ntmps64
  go_wp2
  go_ret2
  exact ⟨rfl, (Below.refl _ _).alloc (Nat.le_refl _) _⟩

set_option maxHeartbeats 1000000 in
theorem variable_any (k n : Int) (a ea : Option Addr) (len c elen ec : Nat) (zs : List Int) (w : World) (hz : Nm w ea elen zs) (h0 : 0 ≤ n) (h1 : n < elen) :
    Calls Tryz.prog 65 #[.slice ea elen ec, .agg #[.int .i64 k, .int .i64 n, .slice a len c]] w fun e w' => e = .returned (.tuple #[.int .i64 (zs.getD n.toNat 0), .int .i64 0]) ∧ Below w.heap.size w w' := by
  obtain ⟨m, rfl⟩ := Int.eq_ofNat_of_zero_le h0
  obtain ⟨b, off, ha, hbl, hc⟩ := hz.at (i := m) (by omega)
  subst ha
  clear hz
  simp only [Int.toNat_natCast]
  generalize zs.getD m 0 = v at *
  go_enter Tryz.func65, Tryz.ntmps65
  go_wp2
  go_ret2
  exact ⟨rfl, (Below.refl _ _).alloc (Nat.le_refl _) _⟩

set_option maxHeartbeats 1000000 in
theorem negated_any (zs : List Int) (k n : Int) (x : Ex) (a ea : Option Addr) (c elen ec : Nat) (w : World) (hX : X w ⟨k, n, [x]⟩ a) (hz : Nm w ea elen zs) (hr : Reck zs x) (hp : partsB elen x = true) :
    Calls Tryz.prog 66 #[.slice ea elen ec, .agg #[.int .i64 k, .int .i64 n, .slice a 1 c]] w fun e w' => e = .returned (.tuple #[.int .i64 (nodeF zs 3 n [valF zs x]).1, .int .i64 (nodeF zs 3 n [valF zs x]).2]) ∧ Below w.heap.size w w' := by
  obtain ⟨b, off, y, ai, ci, ha, hbl, hm, he, c0, c1, c2, hxx⟩ := hX.kid (i := 0) (by simp)
  obtain rfl : y = x := by simpa using hm
  subst ha
  simp at c0 c1 c2
  have hv := in_val (fun i hi => hz.1.2 i (by rw [← hz.1.1]; exact hi)) y hxx
  have CL : Hid (∀ wx, Below w.heap.size w wx → Calls Tryz.prog 34 #[.slice ea elen ec, .agg #[.int .i64 y.kind, .int .i64 y.num, .slice ai y.kids.length ci]] wx fun e w' => e = .returned (.tuple #[.int .i64 (valF zs y).1, .int .i64 (valF zs y).2]) ∧ Below wx.heap.size wx w') :=
    fun wx hb => hr wx ai ea ci elen ec (hxx.below hb) (hz.below hb) hp
  have E : Hid (nodeF zs 3 n [valF zs y] = if (valF zs y).2 ≠ 0 then (0, (valF zs y).2) else doF 2 0 (valF zs y).1) := rfl
  clear hX hz hr hp he hm hxx
  rw [E.out]
  generalize valF zs y = v at *
  obtain ⟨v1, v2⟩ := v
  simp only at *
  by_cases h0 : v2 = 0
  · subst h0
    go_enter Tryz.func66, Tryz.ntmps66
    go_wp2_with (first | (go_at_call 34; refine (CL.out _ ((Below.refl _ _).alloc (Nat.le_refl _) _)).mono ?_; rintro e w1 ⟨he, hb⟩; subst he) | (go_at_call 82; refine (neg_any _ _ hv.1 hv.2).mono ?_; rintro e w2 ⟨he, hw⟩; subst he; have hw := hw.symm; subst hw))
    go_ret2
    exact ⟨rfl, ((Below.refl _ _).alloc (Nat.le_refl _) _).trans (hb.mono (by simp))⟩
  · go_enter Tryz.func66, Tryz.ntmps66
    go_wp2_with (go_at_call 34; refine (CL.out _ ((Below.refl _ _).alloc (Nat.le_refl _) _)).mono ?_; rintro e w1 ⟨he, hb⟩; subst he)
    go_ret2
    exact ⟨by simp [h0], ((Below.refl _ _).alloc (Nat.le_refl _) _).trans (hb.mono (by simp))⟩

set_option maxHeartbeats 1000000 in
theorem turned_any (zs : List Int) (k n : Int) (x : Ex) (a ea : Option Addr) (c elen ec : Nat) (w : World) (hX : X w ⟨k, n, [x]⟩ a) (hz : Nm w ea elen zs) (hr : Reck zs x) (hp : partsB elen x = true) :
    Calls Tryz.prog 67 #[.slice ea elen ec, .agg #[.int .i64 k, .int .i64 n, .slice a 1 c]] w fun e w' => e = .returned (.tuple #[.int .i64 (nodeF zs 4 n [valF zs x]).1, .int .i64 (nodeF zs 4 n [valF zs x]).2]) ∧ Below w.heap.size w w' := by
  obtain ⟨b, off, y, ai, ci, ha, hbl, hm, he, c0, c1, c2, hxx⟩ := hX.kid (i := 0) (by simp)
  obtain rfl : y = x := by simpa using hm
  subst ha
  simp at c0 c1 c2
  have CL : Hid (∀ wx, Below w.heap.size w wx → Calls Tryz.prog 34 #[.slice ea elen ec, .agg #[.int .i64 y.kind, .int .i64 y.num, .slice ai y.kids.length ci]] wx fun e w' => e = .returned (.tuple #[.int .i64 (valF zs y).1, .int .i64 (valF zs y).2]) ∧ Below wx.heap.size wx w') :=
    fun wx hb => hr wx ai ea ci elen ec (hxx.below hb) (hz.below hb) hp
  have E : Hid (nodeF zs 4 n [valF zs y] = if (valF zs y).2 ≠ 0 then (0, (valF zs y).2) else (if (valF zs y).1 = 0 then 1 else 0, 0)) := rfl
  clear hX hz hr hp he hm hxx
  rw [E.out]
  generalize valF zs y = v at *
  obtain ⟨v1, v2⟩ := v
  simp only at *
  by_cases h0 : v2 = 0
  · subst h0
    by_cases h1 : v1 = 0
    · subst h1
      go_enter Tryz.func67, Tryz.ntmps67
      go_wp2_with (go_at_call 34; refine (CL.out _ ((Below.refl _ _).alloc (Nat.le_refl _) _)).mono ?_; rintro e w1 ⟨he, hb⟩; subst he)
      go_ret2
      exact ⟨rfl, ((Below.refl _ _).alloc (Nat.le_refl _) _).trans (hb.mono (by simp))⟩
    · go_enter Tryz.func67, Tryz.ntmps67
      go_wp2_with (go_at_call 34; refine (CL.out _ ((Below.refl _ _).alloc (Nat.le_refl _) _)).mono ?_; rintro e w1 ⟨he, hb⟩; subst he)
      go_ret2
      exact ⟨by simp [h1], ((Below.refl _ _).alloc (Nat.le_refl _) _).trans (hb.mono (by simp))⟩
  · go_enter Tryz.func67, Tryz.ntmps67
    go_wp2_with (go_at_call 34; refine (CL.out _ ((Below.refl _ _).alloc (Nat.le_refl _) _)).mono ?_; rintro e w1 ⟨he, hb⟩; subst he)
    go_ret2
    exact ⟨by simp [h0], ((Below.refl _ _).alloc (Nat.le_refl _) _).trans (hb.mono (by simp))⟩

theorem step2 {w w1 : World} {o : Obj} (hb : Below (w.alloc o).heap.size (w.alloc o) w1) : Below w.heap.size w w1 := ((Below.refl _ _).alloc (Nat.le_refl _) _).trans (hb.mono (by simp))

set_option maxHeartbeats 2000000 in
theorem chosen_any (zs : List Int) (k n : Int) (x y z : Ex) (a ea : Option Addr) (c elen ec : Nat) (w : World) (hX : X w ⟨k, n, [x, y, z]⟩ a) (hz : Nm w ea elen zs) (hrx : Reck zs x) (hry : Reck zs y) (hrz : Reck zs z) (hpx : partsB elen x = true) (hpy : partsB elen y = true) (hpz : partsB elen z = true) :
    Calls Tryz.prog 69 #[.slice ea elen ec, .agg #[.int .i64 k, .int .i64 n, .slice a 3 c]] w fun e w' => e = .returned (.tuple #[.int .i64 (nodeF zs 6 n [valF zs x, valF zs y, valF zs z]).1, .int .i64 (nodeF zs 6 n [valF zs x, valF zs y, valF zs z]).2]) ∧ Below w.heap.size w w' := by
  obtain ⟨b, off, x', ax, cx, ha, hbl, -, hex, c0, c1, c2, hxx⟩ := hX.kid (i := 0) (by simp)
  subst ha
  obtain ⟨b', off', y', ay, cy, hay, -, -, hey, d0, d1, d2, hyy⟩ := hX.kid (i := 1) (by simp)
  obtain ⟨b'', off'', z', az, cz, haz, -, -, hez, e0, e1, e2, hzz⟩ := hX.kid (i := 2) (by simp)
  cases hay
  cases haz
  obtain rfl : x' = x := hex
  obtain rfl : y' = y := hey
  obtain rfl : z' = z := hez
  simp at c0 c1 c2 d0 d1 d2 e0 e1 e2
  have CX : Hid (∀ wx, Below w.heap.size w wx → Calls Tryz.prog 34 #[.slice ea elen ec, .agg #[.int .i64 x'.kind, .int .i64 x'.num, .slice ax x'.kids.length cx]] wx fun e w' => e = .returned (.tuple #[.int .i64 (valF zs x').1, .int .i64 (valF zs x').2]) ∧ Below wx.heap.size wx w') :=
    fun wx hb => hrx wx ax ea cx elen ec (hxx.below hb) (hz.below hb) hpx
  have CY : Hid (∀ wx, Below w.heap.size w wx → Calls Tryz.prog 34 #[.slice ea elen ec, .agg #[.int .i64 y'.kind, .int .i64 y'.num, .slice ay y'.kids.length cy]] wx fun e w' => e = .returned (.tuple #[.int .i64 (valF zs y').1, .int .i64 (valF zs y').2]) ∧ Below wx.heap.size wx w') :=
    fun wx hb => hry wx ay ea cy elen ec (hyy.below hb) (hz.below hb) hpy
  have CZ : Hid (∀ wx, Below w.heap.size w wx → Calls Tryz.prog 34 #[.slice ea elen ec, .agg #[.int .i64 z'.kind, .int .i64 z'.num, .slice az z'.kids.length cz]] wx fun e w' => e = .returned (.tuple #[.int .i64 (valF zs z').1, .int .i64 (valF zs z').2]) ∧ Below wx.heap.size wx w') :=
    fun wx hb => hrz wx az ea cz elen ec (hzz.below hb) (hz.below hb) hpz
  have E : Hid (nodeF zs 6 n [valF zs x', valF zs y', valF zs z'] = if (valF zs x').2 ≠ 0 then (0, (valF zs x').2) else (if (valF zs x').1 = 0 then valF zs z' else valF zs y')) := rfl
  clear hX hz hrx hry hrz hpx hpy hpz hxx hyy hzz
  rw [E.out]
  generalize valF zs x' = v at *
  generalize valF zs y' = vy at *
  generalize valF zs z' = vz at *
  obtain ⟨v1, v2⟩ := v
  obtain ⟨y1, y2⟩ := vy
  obtain ⟨z1, z2⟩ := vz
  simp only at *
  by_cases h0 : v2 = 0
  · subst h0
    by_cases h1 : v1 = 0
    · subst h1
      go_enter Tryz.func69, Tryz.ntmps69
      go_wp2_with fail
      refine (CX.out _ ((Below.refl _ _).alloc (Nat.le_refl _) _)).mono ?_
      rintro e w1 ⟨he, hb⟩
      subst he
      have K : Hid (Below w.heap.size w w1) := step2 hb
      obtain ⟨hc, hf⟩ := bcell hb
      have hs : w.heap.size < w1.heap.size := by have := hb.size; simp at this; omega
      clear hb
      go_wp2_with fail
      refine (CZ.out _ K.out).mono ?_
      rintro e w2 ⟨he, hb2⟩
      subst he
      go_wp2_with fail
      go_ret2
      exact ⟨rfl, then_ K.out hb2⟩
    · go_enter Tryz.func69, Tryz.ntmps69
      go_wp2_with fail
      refine (CX.out _ ((Below.refl _ _).alloc (Nat.le_refl _) _)).mono ?_
      rintro e w1 ⟨he, hb⟩
      subst he
      have K : Hid (Below w.heap.size w w1) := step2 hb
      obtain ⟨hc, hf⟩ := bcell hb
      have hs : w.heap.size < w1.heap.size := by have := hb.size; simp at this; omega
      clear hb
      go_wp2_with fail
      refine (CY.out _ K.out).mono ?_
      rintro e w2 ⟨he, hb2⟩
      subst he
      go_wp2_with fail
      go_ret2
      exact ⟨by simp [h1], then_ K.out hb2⟩
  · go_enter Tryz.func69, Tryz.ntmps69
    go_wp2_with (go_at_call 34; refine (CX.out _ ((Below.refl _ _).alloc (Nat.le_refl _) _)).mono ?_; rintro e w1 ⟨he, hb⟩; subst he)
    go_ret2
    exact ⟨by simp [h0], step2 hb⟩
end Go.Proofs.YtnhhajbfohjlbaaGreatDoor.Expr
