/- check.Net: a contract of the call, over the turned program. -/
import Derived.Test.YtgdkomkflfodaaaGreatMaW
import Derived.Laws.EntriesVeiled
namespace Go.Proofs.YtgdkomkflfodaaaGreat.Check
open Go.RowKit Go.Proofs.YtgdkomkflfodaaaGreat.Frame Go.Proofs.YtgdkomkflfodaaaGreat.Colour Go.Proofs.YtgdkomkflfodaaaGreat.Expr
set_option linter.unusedVariables false
set_option linter.unusedSimpArgs false

def partV (q r : Nat) : Nat → Value
  | 0 => .func (.func 28) #[] #[.pointer (some ⟨q, 0, none⟩)]
  | 1 => .func (.func 30) #[] #[.pointer (some ⟨r, 0, none⟩)]
  | 2 => .func (.func 34) #[] #[.pointer (some ⟨q, 0, none⟩)]
  | _ => .func (.func 36) #[] #[.pointer (some ⟨q, 0, none⟩)]
def partC (q r : Nat) : Nat → Nat × Array Value
  | 0 => (28, #[.pointer (some ⟨q, 0, none⟩)])
  | 1 => (30, #[.pointer (some ⟨r, 0, none⟩)])
  | 2 => (34, #[.pointer (some ⟨q, 0, none⟩)])
  | _ => (36, #[.pointer (some ⟨q, 0, none⟩)])
theorem partV_eq (q r i : Nat) : partV q r i = .func (.func (partC q r i).1) #[] (partC q r i).2 := by
  match i with
  | 0 => rfl
  | 1 => rfl
  | 2 => rfl
  | i + 3 => rfl
/-- two cells that are written -/
def put2 (W : World) (q : Nat) (v0 v1 : Value) : World := (W.setCell ⟨q, 0, none⟩ v0).setCell ⟨q, 1, none⟩ v1
theorem put2_row {W : World} {q : Nat} {t : TypeId} {f : Nat → Value} (h : W.rowIs q t 2 f) (v0 v1 : Value) : (put2 W q v0 v1).rowIs q t 2 (fun j => (#[v0, v1] : Array Value).getD j undef) := by
  refine ((h.set 0 v0).set 1 v1).congr fun i hi => ?_
  match i, hi with
  | 0, _ => rfl
  | 1, _ => rfl
  | i + 2, hi => omega
theorem put2_below {B : Nat} {w W : World} {q : Nat} (h : Below B w W) (hq : B ≤ q) (v0 v1 : Value) : Below B w (put2 W q v0 v1) := (h.setCell (p := ⟨q, 0, none⟩) hq v0).setCell (p := ⟨q, 1, none⟩) hq v1
def NetPost (n : Ne) (w : World) (e : Ending) (w' : World) : Prop := ∃ kd at_ er : Int, e = .returned (.tuple #[.agg #[.int .i64 kd, .int .i64 at_], .int .i64 er]) ∧ NetIs n kd at_ er ∧ Below w.heap.size w w'
/-- what the loops of Net stand on -/
def NB (n : Ne) (w wz : World) (q r s : Nat) : Prop := Below w.heap.size w wz ∧ wz.rowIs (w.heap.size + 1) 30 2 (fun _ => .int .i64 0) ∧
  (∀ i, i < 4 → wz.cell? ⟨s, i * 3, none⟩ = some (.int .i64 ((i : Int) + 1)) ∧ wz.cell? ⟨s, i * 3 + 1, none⟩ = some (.int .i64 (partN n i : Int)) ∧ wz.cell? ⟨s, i * 3 + 2, none⟩ = some (partV q r i)) ∧
  (∀ i, i < 4 → Goes (partC q r i).1 ∧ ∀ W, Below wz.heap.size wz W → ∀ k : Nat, k < partN n i → Calls Tryz.prog (partC q r i).1 (#[.int .i64 (k : Int)] ++ (partC q r i).2) W fun e w' => e = .returned (.int .i64 (partF n i k)) ∧ Below W.heap.size W w') ∧ ∀ i, i < 4 → partN n i ≤ 1000000
set_option maxHeartbeats 4000000 in
set_option maxRecDepth 10000 in
theorem net_any (n : Ne) (w : World) (h : NeOk w n) (hm : Sm n) : Calls Tryz.prog 9 #[.agg #[.slice n.ca n.cols.length n.cc, .slice n.pa n.places.length n.pc, .slice n.ta n.tasks.length n.tc, .int .i64 n.frm, .int .i64 n.too]] w (NetPost n w) := by
  have H0 : Hid (NeOk w n ∧ Sm n) := ⟨h, hm⟩
  clear h hm
  obtain ⟨wa, hwa⟩ : ∃ wa, wa = (w.alloc (.cells #[.slice n.ca n.cols.length n.cc, .slice n.pa n.places.length n.pc, .slice n.ta n.tasks.length n.tc, .int .i64 n.frm, .int .i64 n.too] 26)).alloc (.cells #[.int .i64 0, .int .i64 0] 30) := ⟨_, rfl⟩
  have hz1 : Below w.heap.size w (w.alloc (.cells #[.slice n.ca n.cols.length n.cc, .slice n.pa n.places.length n.pc, .slice n.ta n.tasks.length n.tc, .int .i64 n.frm, .int .i64 n.too] 26)) := (Below.refl _ _).alloc (Nat.le_refl _) _
  have hz : Below w.heap.size w wa := by rw [hwa]; exact al hz1 _
  have n0 : wa.cell? ⟨w.heap.size, 0, none⟩ = some (.slice n.ca n.cols.length n.cc) := by rw [hwa]; exact box_below (World.cell?_alloc_at _ _ _ _ rfl) ((Below.refl _ _).alloc (Nat.le_refl _) _)
  have n1 : wa.cell? ⟨w.heap.size, 1, none⟩ = some (.slice n.pa n.places.length n.pc) := by rw [hwa]; exact box_below (World.cell?_alloc_at _ _ _ _ rfl) ((Below.refl _ _).alloc (Nat.le_refl _) _)
  have n2 : wa.cell? ⟨w.heap.size, 2, none⟩ = some (.slice n.ta n.tasks.length n.tc) := by rw [hwa]; exact box_below (World.cell?_alloc_at _ _ _ _ rfl) ((Below.refl _ _).alloc (Nat.le_refl _) _)
  have n3 : wa.cell? ⟨w.heap.size, 3, none⟩ = some (.int .i64 n.frm) := by rw [hwa]; exact box_below (World.cell?_alloc_at _ _ _ _ rfl) ((Below.refl _ _).alloc (Nat.le_refl _) _)
  have n4 : wa.cell? ⟨w.heap.size, 4, none⟩ = some (.int .i64 n.too) := by rw [hwa]; exact box_below (World.cell?_alloc_at _ _ _ _ rfl) ((Below.refl _ _).alloc (Nat.le_refl _) _)
  have r2 : wa.rowIs (w.heap.size + 1) 30 2 (fun _ => .int .i64 0) := by
    rw [hwa]
    have := World.rowIs_alloc (w.alloc (.cells #[.slice n.ca n.cols.length n.cc, .slice n.pa n.places.length n.pc, .slice n.ta n.tasks.length n.tc, .int .i64 n.frm, .int .i64 n.too] 26)) #[.int .i64 0, .int .i64 0] 30 (fun _ => .int .i64 0) (fun i hi => by
      match i, hi with
      | 0, _ => rfl
      | 1, _ => rfl
      | i + 2, hi => exact absurd hi (by simp))
    simpa using this
  have HA : Hid (Below w.heap.size w wa ∧ wa.rowIs (w.heap.size + 1) 30 2 (fun _ => .int .i64 0)) := ⟨hz, r2⟩
  have AB : Hid (Calls Tryz.prog 26 #[.agg #[.slice n.ca n.cols.length n.cc, .slice n.pa n.places.length n.pc, .slice n.ta n.tasks.length n.tc, .int .i64 n.frm, .int .i64 n.too]] wa fun e w' => ∃ g, e = .returned (.agg (subC n g)) ∧ Sz w' g n ∧ Below wa.heap.size wa w') := about_any n wa (H0.out.1.below hz) H0.out.2.1.1
  clear hz hz1 r2
  go_enter Tryz.func9, Tryz.ntmps9
  go_upto_region 1 with fail
  rw [← hwa]
  clear hwa
  go_wp2_with fail
  refine AB.out.mono ?_
  rintro e w1 ⟨g, he, hsz, hb⟩
  subst he
  have m0 := box_below n0 hb
  have m1 := box_below n1 hb
  have m2 := box_below n2 hb
  have hwl : w.heap.size < w1.heap.size := World.block_lt_of_cell? _ _ m0
  obtain ⟨q, hq⟩ : ∃ q, q = w1.heap.size := ⟨_, rfl⟩
  obtain ⟨wb, hwb⟩ : ∃ wb, wb = w1.alloc (.cells (subC n g) 67) := ⟨_, rfl⟩
  have hbb : Below w1.heap.size w1 wb := by rw [hwb]; exact (Below.refl _ _).alloc (Nat.le_refl _) _
  have HB : Hid (Below w.heap.size w wb ∧ wb.rowIs (w.heap.size + 1) 30 2 (fun _ => .int .i64 0) ∧ SBox wb q n g ∧ Sz wb g n) := ⟨then_ HA.out.1 (then_ hb hbb), rowIs_below (rowIs_below HA.out.2 hb) hbb, by rw [hwb, hq]; exact SBox.new _ _ _ _, hsz.below hbb⟩
  have p0 := box_below m0 hbb
  have p1 := box_below m1 hbb
  have p2 := box_below m2 hbb
  have WC : Hid (Calls Tryz.prog 27 #[.slice n.ca n.cols.length n.cc] wb fun e w' => e = .returned (.int .i64 (wrongF n.cols : Int)) ∧ Below wb.heap.size wb w') := wrongColour_any _ _ _ wb ((H0.out.1.below HB.out.1).2.1) H0.out.1.1.2.1 H0.out.2.1.1 H0.out.2.2.2.2
  clear n0 n1 n2 n3 n4 m0 m1 m2 hsz hb hbb AB HA hwl
  unfold subC at hwb ⊢
  go_upto_region 2 with fail
  rw [← hwb, ← hq]
  clear hwb
  go_wp2_with fail
  refine WC.out.mono ?_
  rintro e w2 ⟨he, hb⟩
  subst he
  have p0' := box_below p0 hb
  have p1' := box_below p1 hb
  have p2' := box_below p2 hb
  have hwl : w.heap.size < w2.heap.size := World.block_lt_of_cell? _ _ p0'
  obtain ⟨r, hr⟩ : ∃ r, r = w2.heap.size := ⟨_, rfl⟩
  obtain ⟨x, hx⟩ : ∃ x, x = wrongF n.cols := ⟨_, rfl⟩
  rw [← hx]
  obtain ⟨wd, hwd⟩ : ∃ wd, wd = w2.alloc (.cells #[.int .i64 (x : Int)] 3) := ⟨_, rfl⟩
  have hbd : Below w2.heap.size w2 wd := by rw [hwd]; exact (Below.refl _ _).alloc (Nat.le_refl _) _
  have HD : Hid (Below w.heap.size w wd ∧ wd.rowIs (w.heap.size + 1) 30 2 (fun _ => .int .i64 0) ∧ SBox wd q n g ∧ Sz wd g n ∧ wd.cell? ⟨r, 0, none⟩ = some (.int .i64 (x : Int)) ∧ x = wrongF n.cols) :=
    ⟨then_ HB.out.1 (then_ hb hbd), rowIs_below (rowIs_below HB.out.2.1 hb) hbd, (HB.out.2.2.1.below hb).below hbd, (HB.out.2.2.2.below hb).below hbd, by rw [hwd, hr]; exact World.cell?_alloc_at _ _ _ _ rfl, hx⟩
  have y0 := box_below p0' hbd
  have y1 := box_below p1' hbd
  have y2 := box_below p2' hbd
  clear p0 p1 p2 p0' p1' p2' hb hbd WC HB hwl hx hq
  go_upto_region 3 with fail
  rw [← hwd, ← hr]
  clear hwd hr
  obtain ⟨s, hs⟩ : ∃ s, s = wd.heap.size := ⟨_, rfl⟩
  obtain ⟨wz, hwz⟩ : ∃ wz, wz = wd.alloc (.cells #[.int .i64 1, .int .i64 1, .func (.func 28) #[] #[.pointer (some ⟨q, 0, none⟩)], .int .i64 2, .int .i64 (n.cols.length : Int), .func (.func 30) #[] #[.pointer (some ⟨r, 0, none⟩)], .int .i64 3, .int .i64 (n.places.length : Int), .func (.func 34) #[] #[.pointer (some ⟨q, 0, none⟩)], .int .i64 4, .int .i64 (n.tasks.length : Int), .func (.func 36) #[] #[.pointer (some ⟨q, 0, none⟩)]] 72) := ⟨_, rfl⟩
  have HN : Hid (NB n w wz q r s) := by
    have hbz : Below wd.heap.size wd wz := by rw [hwz]; exact (Below.refl _ _).alloc (Nat.le_refl _) _
    have hsu : ∀ W, Below wz.heap.size wz W → Su W n g := fun W hW => ⟨H0.out.1.below (then_ HD.out.1 (then_ hbz hW)), (HD.out.2.2.2.1.below hbz).below hW, H0.out.2⟩
    have hsb : ∀ W, Below wz.heap.size wz W → SBox W q n g := fun W hW => (HD.out.2.2.1.below hbz).below hW
    refine ⟨then_ HD.out.1 hbz, rowIs_below HD.out.2.1 hbz, fun i hi => ?_, fun i hi => ?_, fun i hi => ?_⟩
    · have c : ∀ j v, (#[.int .i64 1, .int .i64 1, .func (.func 28) #[] #[.pointer (some ⟨q, 0, none⟩)], .int .i64 2, .int .i64 (n.cols.length : Int), .func (.func 30) #[] #[.pointer (some ⟨r, 0, none⟩)], .int .i64 3, .int .i64 (n.places.length : Int), .func (.func 34) #[] #[.pointer (some ⟨q, 0, none⟩)], .int .i64 4, .int .i64 (n.tasks.length : Int), .func (.func 36) #[] #[.pointer (some ⟨q, 0, none⟩)]] : Array Value)[j]? = some v → wz.cell? ⟨s, j, none⟩ = some v := fun j v hv => by
        rw [hwz, World.cell?_alloc_at _ _ _ _ hs]; exact hv
      match i, hi with
      | 0, _ => exact ⟨c 0 _ rfl, c 1 _ rfl, c 2 _ rfl⟩
      | 1, _ => exact ⟨c 3 _ rfl, c 4 _ rfl, c 5 _ rfl⟩
      | 2, _ => exact ⟨c 6 _ rfl, c 7 _ rfl, c 8 _ rfl⟩
      | 3, _ => exact ⟨c 9 _ rfl, c 10 _ rfl, c 11 _ rfl⟩
      | i + 4, hi => exact absurd hi (by omega)
    · match i, hi with
      | 0, _ => exact ⟨goes_net1, fun W hW k hk => net1_any q g k n W (hsb W hW) (hsu W hW)⟩
      | 1, _ => exact ⟨goes_net2, fun W hW k hk => by
          have := net2_any r k x W (box_below (box_below HD.out.2.2.2.2.1 hbz) hW)
          rw [HD.out.2.2.2.2.2] at this
          exact this⟩
      | 2, _ => exact ⟨goes_net3, fun W hW k hk => net3_any q g k n W (hsb W hW) (hsu W hW) hk⟩
      | 3, _ => exact ⟨goes_net4, fun W hW k hk => net4_any q g k n W (hsb W hW) (hsu W hW) hk⟩
      | i + 4, hi => exact absurd hi (by omega)
    · match i, hi with
      | 0, _ => show 1 ≤ 1000000; decide
      | 1, _ => exact H0.out.2.1.1
      | 2, _ => exact H0.out.2.1.2.1
      | 3, _ => exact H0.out.2.1.2.2
      | i + 4, hi => exact absurd hi (by omega)
  go_wp2_with fail
  rw [← hwz, ← hs]
  clear hwz hs y0 y1 y2 HD
  generalize wrongF n.cols = xx
  go_loopw [34] (fun v wr => ∃ i : Nat, v = .int .i64 (i : Int) ∧ i ≤ 4 ∧ Hid (Below wz.heap.size wz wr ∧ ∀ i', i' < i → ∀ j, j < partN n i' → partF n i' j = 0)) (fun v _ => match v with | .int _ z => 4 - z.toNat | _ => 0)
  case atStart => exact ⟨0, rfl, by omega, ⟨Below.refl _ _, fun j hj => absurd hj (Nat.not_lt_zero _)⟩⟩
  case round =>
    obtain ⟨i, rfl, hi, HI⟩ := hrel
    by_cases hlt : i < 4
    · have hlt' : (i : Int) < 4 := by omega
      obtain ⟨d0, d1, d2⟩ := HN.out.2.2.1 i hlt
      have d0 := box_below d0 HI.out.1
      have d1 := box_below d1 HI.out.1
      have d2 := box_below d2 HI.out.1
      rw [partV_eq] at d2
      have hsl : s < wr.heap.size := World.block_lt_of_cell? _ _ d0
      have hpn := HN.out.2.2.2.2 i hlt
      obtain ⟨hG, hA⟩ := HN.out.2.2.2.1 i hlt
      generalize partC q r i = pc at *
      obtain ⟨K, caps⟩ := pc
      obtain ⟨rows, hrows⟩ : ∃ x, x = partN n i := ⟨_, rfl⟩
      rw [← hrows] at d1 hA hpn
      have HP : Hid (rows = partN n i ∧ ∀ W, Below wz.heap.size wz W → ∀ k : Nat, k < rows → Calls Tryz.prog K (#[.int .i64 (k : Int)] ++ caps) W fun e w' => e = .returned (.int .i64 (partF n i k)) ∧ Below W.heap.size W w') := ⟨hrows, hA⟩
      obtain ⟨t, ht⟩ : ∃ t, t = wr.heap.size := ⟨_, rfl⟩
      obtain ⟨w4, hw4⟩ : ∃ w4, w4 = wr.alloc (.cells #[.int .i64 ((i : Int) + 1), .int .i64 (rows : Int), .func (.func K) #[] caps] 72) := ⟨_, rfl⟩
      have H4 : Hid (Below wz.heap.size wz w4 ∧ w4.cell? ⟨t, 0, none⟩ = some (.int .i64 ((i : Int) + 1)) ∧ w4.cell? ⟨t, 1, none⟩ = some (.int .i64 (rows : Int)) ∧ w4.cell? ⟨t, 2, none⟩ = some (.func (.func K) #[] caps)) := by
        refine ⟨by rw [hw4]; exact al HI.out.1 _, ?_, ?_, ?_⟩ <;> (rw [hw4]; exact World.cell?_alloc_at _ _ _ _ ht)
      unfold Goes at hG
      dsimp only at d2 hG
      clear hA hrows
      go_upto_region 6 with fail
      rw [← hw4, ← ht]
      clear hw4 ht d0 d1 d2 hsl
      have e1 := H4.out.2.2.1
      go_wp2_with fail
      clear e1
      go_loopw [40] (fun v wr => ∃ k : Nat, v = .int .i64 (k : Int) ∧ k ≤ rows ∧ Hid (Below w4.heap.size w4 wr ∧ ∀ j, j < k → partF n i j = 0)) (fun v _ => match v with | .int _ z => rows - z.toNat | _ => 0)
      case atStart => exact ⟨0, rfl, by omega, ⟨Below.refl _ _, fun j hj => absurd hj (Nat.not_lt_zero _)⟩⟩
      case round =>
        obtain ⟨k, rfl, hk, HK⟩ := hrel
        by_cases hkl : k < rows
        · have hkl' : (k : Int) < rows := by omega
          have e2 := box_below H4.out.2.2.2 HK.out.1
          have CL : Hid (Calls Tryz.prog K (#[.int .i64 (k : Int)] ++ caps) wr fun e w' => e = .returned (.int .i64 (partF n i k)) ∧ Below wr.heap.size wr w') := HP.out.2 wr (then_ H4.out.1 HK.out.1) k hkl
          obtain ⟨ei, hei⟩ : ∃ ei, ei = partF n i k := ⟨_, rfl⟩
          rw [← hei] at CL
          have HE : Hid (ei = partF n i k) := hei
          clear hei
          go_wp2_with fail
          refine CL.out.mono ?_
          rintro en w5 ⟨he, hb5⟩
          subst he
          have B5 : Hid (Below w4.heap.size w4 w5) := then_ HK.out.1 hb5
          clear hb5 e2 CL
          by_cases h0 : ei = 0
          · subst h0
            have NX : Hid (Below w4.heap.size w4 w5 ∧ ∀ j, j < k + 1 → partF n i j = 0) := ⟨B5.out, fun j hj => by
              rcases Nat.lt_succ_iff_lt_or_eq.1 hj with h | h
              · exact HK.out.2 j h
              · rw [h]; exact HE.out.symm⟩
            have e3 := box_below H4.out.2.2.1 B5.out
            go_wp2_with fail
            go_roundw
            case rel => exact ⟨k + 1, by simp, by omega, NX⟩
            case measure => simp; omega
          · have h0' : (ei == 0) = false := beq_eq_false_iff_ne.2 h0
            have hbz : Below wz.heap.size wz w5 := then_ H4.out.1 B5.out
            have rb := rowIs_below HN.out.2.1 hbz
            have x0 : w5.cell? ⟨w.heap.size + 1, 0, none⟩ = some (.int .i64 0) := rb.cell (by decide)
            have x1 : w5.cell? ⟨w.heap.size + 1, 1, none⟩ = some (.int .i64 0) := rb.cell (by decide)
            have z0 := rb.frozen 0
            have z1 := rb.frozen 1
            have pl := rb.lt
            have e3 := box_below H4.out.2.1 B5.out
            have R : Hid (NetIs n ((i : Int) + 1) (k : Int) ei) := .inr ⟨i, k, hlt, by rw [← HP.out.1]; exact hkl, rfl, rfl, HE.out, h0, HK.out.2, HI.out.2⟩
            have HF : Hid (Below w.heap.size w (put2 w5 (w.heap.size + 1) (.int .i64 ((i : Int) + 1)) (.int .i64 (k : Int))) ∧ (put2 w5 (w.heap.size + 1) (.int .i64 ((i : Int) + 1)) (.int .i64 (k : Int))).rowIs (w.heap.size + 1) 30 2 (fun j => (#[.int .i64 ((i : Int) + 1), .int .i64 (k : Int)] : Array Value).getD j undef)) := ⟨put2_below (then_ HN.out.1 hbz) (by omega) _ _, put2_row rb _ _⟩
            clear rb hbz HK HI HP
            go_wp2_with fail
            obtain ⟨WF, hWF⟩ : ∃ WF, WF = put2 w5 (w.heap.size + 1) (.int .i64 ((i : Int) + 1)) (.int .i64 (k : Int)) := ⟨_, rfl⟩
            rw [← hWF] at HF
            unfold put2 at hWF
            rw [← hWF]
            have y0 : WF.cell? ⟨w.heap.size + 1, 0, none⟩ = some (.int .i64 ((i : Int) + 1)) := HF.out.2.cell (by decide)
            have y1 : WF.cell? ⟨w.heap.size + 1, 1, none⟩ = some (.int .i64 (k : Int)) := HF.out.2.cell (by decide)
            clear hWF
            refine bodyPost_ret (v := .tuple #[.agg #[.int .i64 ((i : Int) + 1), .int .i64 (k : Int)], .int .i64 ei]) ?_ rfl ⟨_, _, _, rfl, R.out, HF.out.1⟩
            simp [results, Tryz.results9, go_sem, y0, y1]
        · have hkl' : ¬ (k : Int) < rows := by omega
          have e3 := box_below H4.out.2.2.1 HK.out.1
          have NX : Hid (Below wz.heap.size wz wr ∧ ∀ i', i' < i + 1 → ∀ j, j < partN n i' → partF n i' j = 0) := ⟨then_ H4.out.1 HK.out.1, fun i' hi' j hj => by
            rcases Nat.lt_succ_iff_lt_or_eq.1 hi' with h | h
            · exact HI.out.2 i' h j hj
            · subst h; exact HK.out.2 j (by rw [← HP.out.1] at hj; omega)⟩
          clear HK HI HP
          go_wp2_with fail
          go_roundw
          case rel => exact ⟨i + 1, by simp, by omega, NX⟩
          case measure => simp; omega
    · have hlt' : ¬ (i : Int) < 4 := by omega
      have hbz : Below wz.heap.size wz wr := HI.out.1
      have rb := rowIs_below HN.out.2.1 hbz
      have x0 : wr.cell? ⟨w.heap.size + 1, 0, none⟩ = some (.int .i64 0) := rb.cell (by decide)
      have x1 : wr.cell? ⟨w.heap.size + 1, 1, none⟩ = some (.int .i64 0) := rb.cell (by decide)
      have z0 := rb.frozen 0
      have z1 := rb.frozen 1
      have pl := rb.lt
      have R : Hid (NetIs n 0 0 0) := .inl ⟨rfl, rfl, rfl, fun i' hi' k hk => HI.out.2 i' (by omega) k hk⟩
      have HF : Hid (Below w.heap.size w (put2 wr (w.heap.size + 1) (.int .i64 0) (.int .i64 0)) ∧ (put2 wr (w.heap.size + 1) (.int .i64 0) (.int .i64 0)).rowIs (w.heap.size + 1) 30 2 (fun j => (#[.int .i64 0, .int .i64 0] : Array Value).getD j undef)) := ⟨put2_below (then_ HN.out.1 hbz) (by omega) _ _, put2_row rb _ _⟩
      clear rb hbz HI
      go_wp2_with fail
      obtain ⟨WF, hWF⟩ : ∃ WF, WF = put2 wr (w.heap.size + 1) (.int .i64 0) (.int .i64 0) := ⟨_, rfl⟩
      rw [← hWF] at HF
      unfold put2 at hWF
      rw [← hWF]
      have y0 : WF.cell? ⟨w.heap.size + 1, 0, none⟩ = some (.int .i64 0) := HF.out.2.cell (by decide)
      have y1 : WF.cell? ⟨w.heap.size + 1, 1, none⟩ = some (.int .i64 0) := HF.out.2.cell (by decide)
      clear hWF
      refine bodyPost_ret (v := .tuple #[.agg #[.int .i64 0, .int .i64 0], .int .i64 0]) ?_ rfl ⟨_, _, _, rfl, R.out, HF.out.1⟩
      simp [results, Tryz.results9, go_sem, y0, y1]
end Go.Proofs.YtgdkomkflfodaaaGreat.Check
