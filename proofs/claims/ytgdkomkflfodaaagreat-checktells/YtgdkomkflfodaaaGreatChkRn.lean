/- The document's own Net: a contract of the call, over the turned program. -/
import Derived.Test.YtgdkomkflfodaaaGreatChkRt
namespace Go.Proofs.YtgdkomkflfodaaaGreat.Check
open Go.RowKit Go.Proofs.YtgdkomkflfodaaaGreat.Frame Go.Proofs.YtgdkomkflfodaaaGreat.Colour Go.Proofs.YtgdkomkflfodaaaGreat.Expr
set_option linter.unusedVariables false
set_option linter.unusedSimpArgs false

def Nn (w W : World) (q p r : Nat) (n : Ne) : Prop := La w W q n ∧ W.rowIs p 30 2 (fun _ => .int .i64 0) ∧ (W.cell? ⟨r, 0, none⟩ = some (.int .i64 1) ∧ W.cell? ⟨r, 1, none⟩ = some (.int .i64 0)) ∧ w.heap.size ≤ p
theorem Nn.on {w W W' : World} {q p r : Nat} {n : Ne} (h : Nn w W q p r n) (hb : Below W.heap.size W W') : Nn w W' q p r n := ⟨h.1.on hb, rowIs_below h.2.1 hb, ⟨box_below h.2.2.1.1 hb, box_below h.2.2.1.2 hb⟩, h.2.2.2⟩
theorem placeT_in {n : Ne} {k : Nat} (hk : k < n.places.length) : placeT n (k : Int) = placeF n k := by unfold placeT; rw [inB_nat hk, if_pos rfl]; rfl
theorem taskT_in {n : Ne} {k : Nat} (hk : k < n.tasks.length) (hw : ¬ wrongF n.cols < n.cols.length) : taskT n (k : Int) = taskF n k := by unfold taskT; rw [inB_nat hk, if_pos rfl, if_neg hw]; rfl
theorem whole_is {n : Ne} {a b c : Bool} (ha : longB n = a) (hb : endsB n = b) (hc : (n.frm == n.too) = c) : wholeF n = if a then 2 else if b then 3 else if c then 1 else 0 := by
  unfold wholeF; rw [ha, hb, hc]; cases a <;> cases b <;> cases c <;> rfl
theorem part_row (W : World) : (W.alloc (.cells #[.int .i64 0, .int .i64 0] 30)).rowIs W.heap.size 30 2 (fun _ => .int .i64 0) := World.rowIs_alloc W #[.int .i64 0, .int .i64 0] _ _ fun i hi => by
  match i, hi with
  | 0, _ => rfl
  | 1, _ => rfl
  | i + 2, hi => exact absurd hi (by simp)

set_option maxRecDepth 100000 in
set_option maxHeartbeats 16000000 in
theorem rNet_any (n : Ne) (w : World) (h : NeOk w n) (hm : Sm n) (hx : SzN n) : Calls Tryz.prog 10 #[.agg #[.slice n.ca n.cols.length n.cc, .slice n.pa n.places.length n.pc, .slice n.ta n.tasks.length n.tc, .int .i64 n.frm, .int .i64 n.too]] w (NetPost n w) := by
  obtain ⟨q, hq⟩ : ∃ q, q = w.heap.size := ⟨_, rfl⟩
  obtain ⟨wz, hwz⟩ : ∃ wz, wz = w.alloc (.cells #[.slice n.ca n.cols.length n.cc, .slice n.pa n.places.length n.pc, .slice n.ta n.tasks.length n.tc, .int .i64 n.frm, .int .i64 n.too] 26) := ⟨_, rfl⟩
  obtain ⟨p, hp⟩ : ∃ p, p = wz.heap.size := ⟨_, rfl⟩
  obtain ⟨wy, hwy⟩ : ∃ wy, wy = wz.alloc (.cells #[.int .i64 0, .int .i64 0] 30) := ⟨_, rfl⟩
  obtain ⟨r, hr⟩ : ∃ r, r = wy.heap.size := ⟨_, rfl⟩
  obtain ⟨wx, hwx⟩ : ∃ wx, wx = wy.alloc (.cells #[.int .i64 1, .int .i64 0] 30) := ⟨_, rfl⟩
  have hpe : p = q + 1 := by rw [hp, hwz, hq]; simp
  have hbz : Below w.heap.size w wz := by rw [hwz]; exact al_ _ _
  have HZ : Hid (Nn w wx q p r n) := by
    have h1 : La w wz q n := ⟨hbz, by rw [hwz, hq]; exact NBox.new w n _, h.below hbz⟩
    have h2 : Below wz.heap.size wz wy := by rw [hwy]; exact al_ _ _
    have h3 : Below wy.heap.size wy wx := by rw [hwx]; exact al_ _ _
    refine ⟨(h1.on h2).on h3, rowIs_below (by rw [hwy, hp]; exact part_row wz) h3, by rw [hwx]; exact part_new wy 1 0 r hr _, by rw [hp]; exact hbz.size⟩
  have HM : Hid (Sm n ∧ SzN n) := ⟨hm, hx⟩
  have y2 : n.places.length ≤ 1000000 := hm.1.2.1
  have y3 : n.tasks.length ≤ 1000000 := hm.1.2.2
  clear h hm hx hbz
  go_enter Tryz.func10, Tryz.ntmps10
  go_upto_region 1 with fail
  rw [← hwz, ← hwy, ← hq, ← hpe]
  clear hwz hq hwy hp hpe
  go_upto_region 2 with fail
  rw [← hwx, ← hr]
  clear hwx hr
  obtain ⟨c0, c1, c2, c3, c4⟩ := HZ.out.1.2.1
  obtain ⟨r0, r1⟩ := HZ.out.2.2.1
  by_cases l1 : 64 < n.places.length
  · have l1' : (64 : Int) < n.places.length := by omega
    have WE : Hid (wholeF n = 2) := whole_is (a := true) (b := endsB n) (c := n.frm == n.too) (by unfold longB; simp [l1]) rfl rfl
    have rb := HZ.out.2.1
    have x0 : wx.cell? ⟨p, 0, none⟩ = some (.int .i64 0) := rb.cell (by decide)
    have x1 : wx.cell? ⟨p, 1, none⟩ = some (.int .i64 0) := rb.cell (by decide)
    have z0 := rb.frozen 0
    have z1 := rb.frozen 1
    have pl := rb.lt
    have R : Hid (NetIs n 1 0 2) := .inr ⟨0, 0, by omega, by show 0 < 1; omega, rfl, rfl, WE.out.symm, by decide, fun j hj => absurd hj (Nat.not_lt_zero _), fun i' hi' => absurd hi' (Nat.not_lt_zero _)⟩
    have HF : Hid (Below w.heap.size w (put2 wx p (.int .i64 1) (.int .i64 0)) ∧ (put2 wx p (.int .i64 1) (.int .i64 0)).rowIs p 30 2 (fun j => (#[.int .i64 1, .int .i64 0] : Array Value).getD j undef)) := ⟨put2_below HZ.out.1.1 HZ.out.2.2.2 _ _, put2_row rb _ _⟩
    clear rb
    go_wp2_with fail
    obtain ⟨WF, hWF⟩ : ∃ WF, WF = put2 wx p (.int .i64 1) (.int .i64 0) := ⟨_, rfl⟩
    rw [← hWF] at HF
    unfold put2 at hWF
    rw [← hWF]
    have y0 : WF.cell? ⟨p, 0, none⟩ = some (.int .i64 1) := HF.out.2.cell (by decide)
    have y1 : WF.cell? ⟨p, 1, none⟩ = some (.int .i64 0) := HF.out.2.cell (by decide)
    clear hWF
    refine bodyPost_ret (v := .tuple #[.agg #[.int .i64 1, .int .i64 0], .int .i64 2]) ?_ rfl ⟨_, _, _, rfl, R.out, HF.out.1⟩
    simp [results, Tryz.results10, go_sem, y0, y1]
  have l1' : ¬ (64 : Int) < n.places.length := by omega
  by_cases l2 : 64 < n.tasks.length
  · have l2' : (64 : Int) < n.tasks.length := by omega
    have WE : Hid (wholeF n = 2) := whole_is (a := true) (b := endsB n) (c := n.frm == n.too) (by unfold longB; simp [l2]) rfl rfl
    have rb := HZ.out.2.1
    have x0 : wx.cell? ⟨p, 0, none⟩ = some (.int .i64 0) := rb.cell (by decide)
    have x1 : wx.cell? ⟨p, 1, none⟩ = some (.int .i64 0) := rb.cell (by decide)
    have z0 := rb.frozen 0
    have z1 := rb.frozen 1
    have pl := rb.lt
    have R : Hid (NetIs n 1 0 2) := .inr ⟨0, 0, by omega, by show 0 < 1; omega, rfl, rfl, WE.out.symm, by decide, fun j hj => absurd hj (Nat.not_lt_zero _), fun i' hi' => absurd hi' (Nat.not_lt_zero _)⟩
    have HF : Hid (Below w.heap.size w (put2 wx p (.int .i64 1) (.int .i64 0)) ∧ (put2 wx p (.int .i64 1) (.int .i64 0)).rowIs p 30 2 (fun j => (#[.int .i64 1, .int .i64 0] : Array Value).getD j undef)) := ⟨put2_below HZ.out.1.1 HZ.out.2.2.2 _ _, put2_row rb _ _⟩
    clear rb
    go_wp2_with fail
    obtain ⟨WF, hWF⟩ : ∃ WF, WF = put2 wx p (.int .i64 1) (.int .i64 0) := ⟨_, rfl⟩
    rw [← hWF] at HF
    unfold put2 at hWF
    rw [← hWF]
    have y0 : WF.cell? ⟨p, 0, none⟩ = some (.int .i64 1) := HF.out.2.cell (by decide)
    have y1 : WF.cell? ⟨p, 1, none⟩ = some (.int .i64 0) := HF.out.2.cell (by decide)
    clear hWF
    refine bodyPost_ret (v := .tuple #[.agg #[.int .i64 1, .int .i64 0], .int .i64 2]) ?_ rfl ⟨_, _, _, rfl, R.out, HF.out.1⟩
    simp [results, Tryz.results10, go_sem, y0, y1]
  have l2' : ¬ (64 : Int) < n.tasks.length := by omega
  have HLG : Hid (longB n = false) := by unfold Hid longB; simp [l1, l2]
  obtain ⟨f1, hf1⟩ : ∃ f1, f1 = inB n.frm n.places.length := ⟨_, rfl⟩
  obtain ⟨f2, hf2⟩ : ∃ f2, f2 = inB n.too n.places.length := ⟨_, rfl⟩
  have HEN : Hid (endsB n = (!f1 || !f2)) := by rw [Hid, hf1, hf2]; rfl
  have I1 : Hid (∀ W, Calls Tryz.prog 38 #[.agg #[.slice n.ca n.cols.length n.cc, .slice n.pa n.places.length n.pc, .slice n.ta n.tasks.length n.tc, .int .i64 n.frm, .int .i64 n.too], .int .i64 n.frm] W fun e w' => e = .returned (.bool f1) ∧ Below W.heap.size W w') := fun W => by rw [hf1]; exact risPlace_any n n.frm W
  have I2 : Hid (∀ W, Calls Tryz.prog 38 #[.agg #[.slice n.ca n.cols.length n.cc, .slice n.pa n.places.length n.pc, .slice n.ta n.tasks.length n.tc, .int .i64 n.frm, .int .i64 n.too], .int .i64 n.too] W fun e w' => e = .returned (.bool f2) ∧ Below W.heap.size W w') := fun W => by rw [hf2]; exact risPlace_any n n.too W
  clear hf1 hf2
  cases f1 with
  | false =>
    have WE : Hid (wholeF n = 3) := whole_is (a := false) (b := true) (c := n.frm == n.too) HLG.out (by rw [HEN.out]; rfl) rfl
    go_wp2_with fail
    refine (I1.out _).mono ?_
    rintro e w1 ⟨he, hb⟩
    subst he
    have H1 : Hid (Nn w w1 q p r n) := HZ.out.on hb
    clear hb I1 I2 c0 c1 c2 c3 c4 r0 r1 HZ
    obtain ⟨r0, r1⟩ := H1.out.2.2.1
    have rb := H1.out.2.1
    have x0 : w1.cell? ⟨p, 0, none⟩ = some (.int .i64 0) := rb.cell (by decide)
    have x1 : w1.cell? ⟨p, 1, none⟩ = some (.int .i64 0) := rb.cell (by decide)
    have z0 := rb.frozen 0
    have z1 := rb.frozen 1
    have pl := rb.lt
    have R : Hid (NetIs n 1 0 3) := .inr ⟨0, 0, by omega, by show 0 < 1; omega, rfl, rfl, WE.out.symm, by decide, fun j hj => absurd hj (Nat.not_lt_zero _), fun i' hi' => absurd hi' (Nat.not_lt_zero _)⟩
    have HF : Hid (Below w.heap.size w (put2 w1 p (.int .i64 1) (.int .i64 0)) ∧ (put2 w1 p (.int .i64 1) (.int .i64 0)).rowIs p 30 2 (fun j => (#[.int .i64 1, .int .i64 0] : Array Value).getD j undef)) := ⟨put2_below H1.out.1.1 H1.out.2.2.2 _ _, put2_row rb _ _⟩
    clear rb
    go_wp2_with fail
    obtain ⟨WF, hWF⟩ : ∃ WF, WF = put2 w1 p (.int .i64 1) (.int .i64 0) := ⟨_, rfl⟩
    rw [← hWF] at HF
    unfold put2 at hWF
    rw [← hWF]
    have y0 : WF.cell? ⟨p, 0, none⟩ = some (.int .i64 1) := HF.out.2.cell (by decide)
    have y1 : WF.cell? ⟨p, 1, none⟩ = some (.int .i64 0) := HF.out.2.cell (by decide)
    clear hWF
    refine bodyPost_ret (v := .tuple #[.agg #[.int .i64 1, .int .i64 0], .int .i64 3]) ?_ rfl ⟨_, _, _, rfl, R.out, HF.out.1⟩
    simp [results, Tryz.results10, go_sem, y0, y1]
  | true =>
  go_wp2_with fail
  refine (I1.out _).mono ?_
  rintro e w1 ⟨he, hb⟩
  subst he
  have H1 : Hid (Nn w w1 q p r n) := HZ.out.on hb
  clear hb I1 c0 c1 c2 c3 c4 r0 r1 HZ
  obtain ⟨c0, c1, c2, c3, c4⟩ := H1.out.1.2.1
  cases f2 with
  | false =>
    have WE : Hid (wholeF n = 3) := whole_is (a := false) (b := true) (c := n.frm == n.too) HLG.out (by rw [HEN.out]; rfl) rfl
    go_wp2_with fail
    refine (I2.out _).mono ?_
    rintro e w2 ⟨he, hb⟩
    subst he
    have H2 : Hid (Nn w w2 q p r n) := H1.out.on hb
    clear hb I2 c0 c1 c2 c3 c4 H1
    obtain ⟨r0, r1⟩ := H2.out.2.2.1
    have rb := H2.out.2.1
    have x0 : w2.cell? ⟨p, 0, none⟩ = some (.int .i64 0) := rb.cell (by decide)
    have x1 : w2.cell? ⟨p, 1, none⟩ = some (.int .i64 0) := rb.cell (by decide)
    have z0 := rb.frozen 0
    have z1 := rb.frozen 1
    have pl := rb.lt
    have R : Hid (NetIs n 1 0 3) := .inr ⟨0, 0, by omega, by show 0 < 1; omega, rfl, rfl, WE.out.symm, by decide, fun j hj => absurd hj (Nat.not_lt_zero _), fun i' hi' => absurd hi' (Nat.not_lt_zero _)⟩
    have HF : Hid (Below w.heap.size w (put2 w2 p (.int .i64 1) (.int .i64 0)) ∧ (put2 w2 p (.int .i64 1) (.int .i64 0)).rowIs p 30 2 (fun j => (#[.int .i64 1, .int .i64 0] : Array Value).getD j undef)) := ⟨put2_below H2.out.1.1 H2.out.2.2.2 _ _, put2_row rb _ _⟩
    clear rb
    go_wp2_with fail
    obtain ⟨WF, hWF⟩ : ∃ WF, WF = put2 w2 p (.int .i64 1) (.int .i64 0) := ⟨_, rfl⟩
    rw [← hWF] at HF
    unfold put2 at hWF
    rw [← hWF]
    have y0 : WF.cell? ⟨p, 0, none⟩ = some (.int .i64 1) := HF.out.2.cell (by decide)
    have y1 : WF.cell? ⟨p, 1, none⟩ = some (.int .i64 0) := HF.out.2.cell (by decide)
    clear hWF
    refine bodyPost_ret (v := .tuple #[.agg #[.int .i64 1, .int .i64 0], .int .i64 3]) ?_ rfl ⟨_, _, _, rfl, R.out, HF.out.1⟩
    simp [results, Tryz.results10, go_sem, y0, y1]
  | true =>
  go_wp2_with fail
  refine (I2.out _).mono ?_
  rintro e w2 ⟨he, hb⟩
  subst he
  have H2 : Hid (Nn w w2 q p r n) := H1.out.on hb
  clear hb I2 c0 c1 c2 c3 c4 H1
  obtain ⟨c0, c1, c2, c3, c4⟩ := H2.out.1.2.1
  obtain ⟨r0, r1⟩ := H2.out.2.2.1
  by_cases ft : n.frm = n.too
  · have WE : Hid (wholeF n = 1) := whole_is (a := false) (b := false) (c := true) HLG.out (by rw [HEN.out]; rfl) (by rw [ft]; simp)
    have ftb : (n.frm == n.too) = true := by rw [ft]; simp
    clear ft
    have rb := H2.out.2.1
    have x0 : w2.cell? ⟨p, 0, none⟩ = some (.int .i64 0) := rb.cell (by decide)
    have x1 : w2.cell? ⟨p, 1, none⟩ = some (.int .i64 0) := rb.cell (by decide)
    have z0 := rb.frozen 0
    have z1 := rb.frozen 1
    have pl := rb.lt
    have R : Hid (NetIs n 1 0 1) := .inr ⟨0, 0, by omega, by show 0 < 1; omega, rfl, rfl, WE.out.symm, by decide, fun j hj => absurd hj (Nat.not_lt_zero _), fun i' hi' => absurd hi' (Nat.not_lt_zero _)⟩
    have HF : Hid (Below w.heap.size w (put2 w2 p (.int .i64 1) (.int .i64 0)) ∧ (put2 w2 p (.int .i64 1) (.int .i64 0)).rowIs p 30 2 (fun j => (#[.int .i64 1, .int .i64 0] : Array Value).getD j undef)) := ⟨put2_below H2.out.1.1 H2.out.2.2.2 _ _, put2_row rb _ _⟩
    clear rb
    go_wp2_with fail
    obtain ⟨WF, hWF⟩ : ∃ WF, WF = put2 w2 p (.int .i64 1) (.int .i64 0) := ⟨_, rfl⟩
    rw [← hWF] at HF
    unfold put2 at hWF
    rw [← hWF]
    have y0 : WF.cell? ⟨p, 0, none⟩ = some (.int .i64 1) := HF.out.2.cell (by decide)
    have y1 : WF.cell? ⟨p, 1, none⟩ = some (.int .i64 0) := HF.out.2.cell (by decide)
    clear hWF
    refine bodyPost_ret (v := .tuple #[.agg #[.int .i64 1, .int .i64 0], .int .i64 1]) ?_ rfl ⟨_, _, _, rfl, R.out, HF.out.1⟩
    simp [results, Tryz.results10, go_sem, y0, y1]
  have WZ : Hid (wholeF n = 0) := whole_is (a := false) (b := false) (c := false) HLG.out (by rw [HEN.out]; rfl) (beq_eq_false_iff_ne.2 ft)
  have ftb : (n.frm == n.too) = false := beq_eq_false_iff_ne.2 ft
  have CC : Hid (Calls Tryz.prog 39 #[.agg #[.slice n.ca n.cols.length n.cc, .slice n.pa n.places.length n.pc, .slice n.ta n.tasks.length n.tc, .int .i64 n.frm, .int .i64 n.too]] w2 fun e w' => e = .returned (.int .i64 (wrongZ n.cols)) ∧ Below w2.heap.size w2 w') := rcolours_any n w2 H2.out.1.2.2 HM.out.1
  by_cases hw : wrongF n.cols < n.cols.length
  · have hz : wrongZ n.cols = (wrongF n.cols : Int) := by unfold wrongZ; rw [if_pos hw]
    obtain ⟨x, hx⟩ : ∃ x, x = wrongF n.cols := ⟨_, rfl⟩
    have HX : Hid (wrongF n.cols = x ∧ x < n.cols.length) := ⟨hx.symm, by rw [hx]; exact hw⟩
    rw [hz, ← hx] at CC
    have hz0 : (0 : Int) ≤ (x : Int) := by omega
    clear hz hx hw
    go_wp2_with fail
    refine CC.out.mono ?_
    rintro e w3 ⟨he, hb⟩
    subst he
    have H3 : Hid (Nn w w3 q p r n) := H2.out.on hb
    clear hb CC c0 c1 c2 c3 c4 r0 r1 H2
    have rb := H3.out.2.1
    have x0 : w3.cell? ⟨p, 0, none⟩ = some (.int .i64 0) := rb.cell (by decide)
    have x1 : w3.cell? ⟨p, 1, none⟩ = some (.int .i64 0) := rb.cell (by decide)
    have z0 := rb.frozen 0
    have z1 := rb.frozen 1
    have pl := rb.lt
    have R : Hid (NetIs n 2 (x : Int) 8) := .inr ⟨1, x, by omega, HX.out.2, rfl, rfl, (by show (8 : Int) = colF (wrongF n.cols) x; rw [HX.out.1]; unfold colF; simp [errB]), by decide, fun j hj => (by show colF (wrongF n.cols) j = 0; rw [HX.out.1]; unfold colF; rw [decide_eq_false (by omega)]; rfl), fun i' hi' j hj => (by have e : i' = 0 := (by omega); subst e; exact WZ.out)⟩
    have HF : Hid (Below w.heap.size w (put2 w3 p (.int .i64 2) (.int .i64 (x : Int))) ∧ (put2 w3 p (.int .i64 2) (.int .i64 (x : Int))).rowIs p 30 2 (fun j => (#[.int .i64 2, .int .i64 (x : Int)] : Array Value).getD j undef)) := ⟨put2_below H3.out.1.1 H3.out.2.2.2 _ _, put2_row rb _ _⟩
    clear rb
    go_wp2_with fail
    obtain ⟨WF, hWF⟩ : ∃ WF, WF = put2 w3 p (.int .i64 2) (.int .i64 (x : Int)) := ⟨_, rfl⟩
    rw [← hWF] at HF
    unfold put2 at hWF
    rw [← hWF]
    have y0 : WF.cell? ⟨p, 0, none⟩ = some (.int .i64 2) := HF.out.2.cell (by decide)
    have y1 : WF.cell? ⟨p, 1, none⟩ = some (.int .i64 (x : Int)) := HF.out.2.cell (by decide)
    clear hWF
    refine bodyPost_ret (v := .tuple #[.agg #[.int .i64 2, .int .i64 (x : Int)], .int .i64 8]) ?_ rfl ⟨_, _, _, rfl, R.out, HF.out.1⟩
    simp [results, Tryz.results10, go_sem, y0, y1]
  have hz : wrongZ n.cols = -1 := by unfold wrongZ; rw [if_neg hw]
  have HW : Hid (¬ wrongF n.cols < n.cols.length) := hw
  have CZ : Hid (∀ j, j < n.cols.length → partF n 1 j = 0) := fun j hj => by
    show colF (wrongF n.cols) j = 0
    unfold colF
    rw [decide_eq_false (by omega)]; rfl
  rw [hz] at CC
  clear hz hw
  go_wp2_with fail
  refine CC.out.mono ?_
  rintro e w3 ⟨he, hb⟩
  subst he
  have H3 : Hid (Nn w w3 q p r n) := H2.out.on hb
  clear hb CC c0 c1 c2 c3 c4 r0 r1 H2 l1 l2 l1' l2' ft ftb
  go_wp2_with fail
  go_loopw [6] (fun v wr => ∃ i : Nat, v = .int .i64 (i : Int) ∧ i ≤ n.places.length ∧ Hid (Nn w wr q p r n ∧ ∀ i', i' < i → placeF n i' = 0)) (fun v _ => n.places.length - (intOf v).toNat)
  case atStart => exact ⟨0, rfl, by omega, H3.out, fun i hi => absurd hi (Nat.not_lt_zero _)⟩
  case round =>
    clear H3
    obtain ⟨i, rfl, hi, HI⟩ := hrel
    obtain ⟨c0, c1, c2, c3, c4⟩ := HI.out.1.1.2.1
    by_cases hil : i < n.places.length
    · have hil' : (i : Int) < n.places.length := by omega
      obtain ⟨v, hv⟩ : ∃ v, v = placeF n i := ⟨_, rfl⟩
      have HV : Hid (placeF n i = v) := hv.symm
      have PC : Hid (Calls Tryz.prog 12 #[.agg #[.slice n.ca n.cols.length n.cc, .slice n.pa n.places.length n.pc, .slice n.ta n.tasks.length n.tc, .int .i64 n.frm, .int .i64 n.too], .int .i64 (i : Int)] wr fun e w' => e = .returned (.int .i64 v) ∧ Below wr.heap.size wr w') := by
        have := rPlace_any n i wr HI.out.1.1.2.2 HM.out.1
        rw [placeT_in hil, ← hv] at this
        exact this
      clear hv
      go_wp2_with fail
      refine PC.out.mono ?_
      rintro e w4 ⟨he, hb⟩
      subst he
      have H4 : Hid (Nn w w4 q p r n) := HI.out.1.on hb
      clear hb PC c0 c1 c2 c3 c4
      by_cases hv0 : v = 0
      · have NX : Hid (∀ i', i' < i + 1 → placeF n i' = 0) := fun i' hi' => by
          rcases Nat.lt_succ_iff_lt_or_eq.1 hi' with g | g
          · exact HI.out.2 i' g
          · rw [g]; exact HV.out.trans hv0
        subst hv0
        go_wp2_with fail
        go_roundw
        case rel => first | exact ⟨i + 1, by simp, by omega, H4.out, NX.out⟩ | exact ⟨_, _, ⟨i + 1, by go_num, by omega, H4.out, NX.out⟩, rfl, rfl⟩
        all_goals (simp [intOf]; omega)
      · have hv1 : (v != 0) = true := bne_iff_ne.2 hv0
        have rb := H4.out.2.1
        have x0 : w4.cell? ⟨p, 0, none⟩ = some (.int .i64 0) := rb.cell (by decide)
        have x1 : w4.cell? ⟨p, 1, none⟩ = some (.int .i64 0) := rb.cell (by decide)
        have z0 := rb.frozen 0
        have z1 := rb.frozen 1
        have pl := rb.lt
        have R : Hid (NetIs n 3 (i : Int) v) := .inr ⟨2, i, by omega, hil, rfl, rfl, HV.out.symm, hv0, HI.out.2, fun i' hi' j hj => (by rcases (show i' = 0 ∨ i' = 1 by omega) with e | e <;> subst e; exact WZ.out; exact CZ.out j hj)⟩
        have HF : Hid (Below w.heap.size w (put2 w4 p (.int .i64 3) (.int .i64 (i : Int))) ∧ (put2 w4 p (.int .i64 3) (.int .i64 (i : Int))).rowIs p 30 2 (fun j => (#[.int .i64 3, .int .i64 (i : Int)] : Array Value).getD j undef)) := ⟨put2_below H4.out.1.1 H4.out.2.2.2 _ _, put2_row rb _ _⟩
        clear rb
        go_wp2_with fail
        obtain ⟨WF, hWF⟩ : ∃ WF, WF = put2 w4 p (.int .i64 3) (.int .i64 (i : Int)) := ⟨_, rfl⟩
        rw [← hWF] at HF
        unfold put2 at hWF
        rw [← hWF]
        have y0 : WF.cell? ⟨p, 0, none⟩ = some (.int .i64 3) := HF.out.2.cell (by decide)
        have y1 : WF.cell? ⟨p, 1, none⟩ = some (.int .i64 (i : Int)) := HF.out.2.cell (by decide)
        clear hWF
        refine bodyPost_ret (v := .tuple #[.agg #[.int .i64 3, .int .i64 (i : Int)], .int .i64 v]) ?_ rfl ⟨_, _, _, rfl, R.out, HF.out.1⟩
        simp [results, Tryz.results10, go_sem, y0, y1]
    · have hil' : ¬ (i : Int) < n.places.length := by omega
      have PZ : Hid (∀ j, j < n.places.length → placeF n j = 0) := fun j hj => HI.out.2 j (by omega)
      have H5 : Hid (Nn w wr q p r n) := HI.out.1
      clear HI
      go_wp2_with fail
      clear c0 c1 c2 c3 c4
      go_loopw [8] (fun v wv => ∃ i : Nat, v = .int .i64 (i : Int) ∧ i ≤ n.tasks.length ∧ Hid (Nn w wv q p r n ∧ ∀ i', i' < i → taskF n i' = 0)) (fun v _ => n.tasks.length - (intOf v).toNat)
      case atStart => exact ⟨0, rfl, by omega, H5.out, fun i hi => absurd hi (Nat.not_lt_zero _)⟩
      case round =>
        clear H5
        obtain ⟨k, rfl, hk, HK⟩ := hrel
        obtain ⟨c0, c1, c2, c3, c4⟩ := HK.out.1.1.2.1
        by_cases hkl : k < n.tasks.length
        · have hkl' : (k : Int) < n.tasks.length := by omega
          obtain ⟨v, hv⟩ : ∃ v, v = taskF n k := ⟨_, rfl⟩
          have HV : Hid (taskF n k = v) := hv.symm
          have TC : Hid (Calls Tryz.prog 14 #[.agg #[.slice n.ca n.cols.length n.cc, .slice n.pa n.places.length n.pc, .slice n.ta n.tasks.length n.tc, .int .i64 n.frm, .int .i64 n.too], .int .i64 (k : Int)] wr fun e w' => e = .returned (.int .i64 v) ∧ Below wr.heap.size wr w') := by
            have := rTask_any n k wr HK.out.1.1.2.2 HM.out.1 HM.out.2
            rw [taskT_in hkl HW.out, ← hv] at this
            exact this
          clear hv
          go_wp2_with fail
          refine TC.out.mono ?_
          rintro e w4 ⟨he, hb⟩
          subst he
          have H4 : Hid (Nn w w4 q p r n) := HK.out.1.on hb
          clear hb TC c0 c1 c2 c3 c4
          by_cases hv0 : v = 0
          · have NX : Hid (∀ i', i' < k + 1 → taskF n i' = 0) := fun i' hi' => by
              rcases Nat.lt_succ_iff_lt_or_eq.1 hi' with g | g
              · exact HK.out.2 i' g
              · rw [g]; exact HV.out.trans hv0
            subst hv0
            go_wp2_with fail
            go_roundw
            case rel => first | exact ⟨k + 1, by simp, by omega, H4.out, NX.out⟩ | exact ⟨_, _, ⟨k + 1, by go_num, by omega, H4.out, NX.out⟩, rfl, rfl⟩
            all_goals (simp [intOf]; omega)
          · have hv1 : (v != 0) = true := bne_iff_ne.2 hv0
            have rb := H4.out.2.1
            have x0 : w4.cell? ⟨p, 0, none⟩ = some (.int .i64 0) := rb.cell (by decide)
            have x1 : w4.cell? ⟨p, 1, none⟩ = some (.int .i64 0) := rb.cell (by decide)
            have z0 := rb.frozen 0
            have z1 := rb.frozen 1
            have pl := rb.lt
            have R : Hid (NetIs n 4 (k : Int) v) := .inr ⟨3, k, by omega, hkl, rfl, rfl, HV.out.symm, hv0, HK.out.2, fun i' hi' j hj => (by rcases (show i' = 0 ∨ i' = 1 ∨ i' = 2 by omega) with e | e | e <;> subst e; exact WZ.out; exact CZ.out j hj; exact PZ.out j hj)⟩
            have HF : Hid (Below w.heap.size w (put2 w4 p (.int .i64 4) (.int .i64 (k : Int))) ∧ (put2 w4 p (.int .i64 4) (.int .i64 (k : Int))).rowIs p 30 2 (fun j => (#[.int .i64 4, .int .i64 (k : Int)] : Array Value).getD j undef)) := ⟨put2_below H4.out.1.1 H4.out.2.2.2 _ _, put2_row rb _ _⟩
            clear rb
            go_wp2_with fail
            obtain ⟨WF, hWF⟩ : ∃ WF, WF = put2 w4 p (.int .i64 4) (.int .i64 (k : Int)) := ⟨_, rfl⟩
            rw [← hWF] at HF
            unfold put2 at hWF
            rw [← hWF]
            have y0 : WF.cell? ⟨p, 0, none⟩ = some (.int .i64 4) := HF.out.2.cell (by decide)
            have y1 : WF.cell? ⟨p, 1, none⟩ = some (.int .i64 (k : Int)) := HF.out.2.cell (by decide)
            clear hWF
            refine bodyPost_ret (v := .tuple #[.agg #[.int .i64 4, .int .i64 (k : Int)], .int .i64 v]) ?_ rfl ⟨_, _, _, rfl, R.out, HF.out.1⟩
            simp [results, Tryz.results10, go_sem, y0, y1]
        · have hkl' : ¬ (k : Int) < n.tasks.length := by omega
          have HK1 : Hid (Nn w wr q p r n) := HK.out.1
          have rb := HK1.out.2.1
          have x0 : wr.cell? ⟨p, 0, none⟩ = some (.int .i64 0) := rb.cell (by decide)
          have x1 : wr.cell? ⟨p, 1, none⟩ = some (.int .i64 0) := rb.cell (by decide)
          have z0 := rb.frozen 0
          have z1 := rb.frozen 1
          have pl := rb.lt
          have R : Hid (NetIs n 0 0 0) := .inl ⟨rfl, rfl, rfl, fun i' hi' j hj => (by rcases (show i' = 0 ∨ i' = 1 ∨ i' = 2 ∨ i' = 3 by omega) with e | e | e | e <;> subst e; exact WZ.out; exact CZ.out j hj; exact PZ.out j hj; exact HK.out.2 j (by have : j < n.tasks.length := hj; omega))⟩
          have HF : Hid (Below w.heap.size w (put2 wr p (.int .i64 0) (.int .i64 0)) ∧ (put2 wr p (.int .i64 0) (.int .i64 0)).rowIs p 30 2 (fun j => (#[.int .i64 0, .int .i64 0] : Array Value).getD j undef)) := ⟨put2_below HK1.out.1.1 HK1.out.2.2.2 _ _, put2_row rb _ _⟩
          clear rb
          go_wp2_with fail
          obtain ⟨WF, hWF⟩ : ∃ WF, WF = put2 wr p (.int .i64 0) (.int .i64 0) := ⟨_, rfl⟩
          rw [← hWF] at HF
          unfold put2 at hWF
          rw [← hWF]
          have y0 : WF.cell? ⟨p, 0, none⟩ = some (.int .i64 0) := HF.out.2.cell (by decide)
          have y1 : WF.cell? ⟨p, 1, none⟩ = some (.int .i64 0) := HF.out.2.cell (by decide)
          clear hWF
          refine bodyPost_ret (v := .tuple #[.agg #[.int .i64 0, .int .i64 0], .int .i64 0]) ?_ rfl ⟨_, _, _, rfl, R.out, HF.out.1⟩
          simp [results, Tryz.results10, go_sem, y0, y1]
end Go.Proofs.YtgdkomkflfodaaaGreat.Check
