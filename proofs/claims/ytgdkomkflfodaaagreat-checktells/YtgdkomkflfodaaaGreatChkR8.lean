/- The document's own Binds, arcs, vars and kinds: contracts of the calls, over the turned program. -/
import Derived.Test.YtgdkomkflfodaaaGreatChkR7
import Derived.Test.YtgdkomkflfodaaaGreatChkRe
namespace Go.Proofs.YtgdkomkflfodaaaGreat.Check
open Go.RowKit Go.Proofs.YtgdkomkflfodaaaGreat.Frame Go.Proofs.YtgdkomkflfodaaaGreat.Colour Go.Proofs.YtgdkomkflfodaaaGreat.Expr
set_option linter.unusedVariables false
set_option linter.unusedSimpArgs false

theorem NeOk.task {w : World} {n : Ne} {k : Nat} (h : NeOk w n) (hk : k < n.tasks.length) : ∃ b off, n.ta = some ⟨b, off, none⟩ ∧ Run w b (off + k * 14) (n.tasks.getD k nilTa).cells ∧ TaOk w (n.tasks.getD k nilTa) := h.2.2.2.at hk
theorem goB_zero (cs : List Col) : ∀ (l : List Va), goB cs l 0 = 0
  | [] => rfl
  | v :: r => by
    unfold goB
    rw [Int.zero_mul, show min (0 : Int) 1025 = 0 from rfl, goB_zero cs r]
    split <;> rfl
theorem sizeF_off {cs : List Col} {k : Int} (h : inB k cs.length = false) : Colour.sizeF cs k = 0 := by
  unfold Colour.sizeF
  cases hs : sizesF cs with
  | none => rfl
  | some ns =>
    have hl := sizes_len hs
    have : withinB k ns.length = false := by rw [hl]; exact h
    simp [this]
theorem goB_none {cs : List Col} {l : List Va} {i : Nat} (hi : i < l.length) {ways : Int} (h : Colour.sizeF cs (l.getD i nilVa).colour = 0) : goB cs (l.drop i) ways = 0 := by
  rw [drop_va l i hi]
  unfold goB
  rw [h, Int.mul_zero, show min (0 : Int) 1025 = 0 from rfl, goB_zero]
  split <;> rfl
theorem goB_next {cs : List Col} {l : List Va} {i : Nat} (hi : i < l.length) {ways : Int} (h : Colour.sizeF cs (l.getD i nilVa).colour ≠ 0) : goB cs (l.drop i) ways = goB cs (l.drop (i + 1)) (min (ways * Colour.sizeF cs (l.getD i nilVa).colour) 1025) := by
  rw [drop_va l i hi]
  rw [goB, if_pos]
  cases hb : inB (l.getD i nilVa).colour cs.length with
  | true => rfl
  | false => exact absurd (sizeF_off hb) h

set_option maxRecDepth 100000 in
set_option maxHeartbeats 8000000 in
theorem rBinds_any (n : Ne) (k : Nat) (w : World) (h : NeOk w n) (hm : Sm n) (hk : k < n.tasks.length) : Calls Tryz.prog 51 #[.agg #[.slice n.ca n.cols.length n.cc, .slice n.pa n.places.length n.pc, .slice n.ta n.tasks.length n.tc, .int .i64 n.frm, .int .i64 n.too], .int .i64 (k : Int)] w fun e w' => e = .returned (.int .i64 (bindsF n.cols (n.tasks.getD k nilTa).vars)) ∧ Below w.heap.size w w' := by
  obtain ⟨q, hq⟩ : ∃ q, q = w.heap.size := ⟨_, rfl⟩
  obtain ⟨wz, hwz⟩ : ∃ wz, wz = w.alloc (.cells #[.slice n.ca n.cols.length n.cc, .slice n.pa n.places.length n.pc, .slice n.ta n.tasks.length n.tc, .int .i64 n.frm, .int .i64 n.too] 26) := ⟨_, rfl⟩
  have HZ : Hid (La w wz q n) := by rw [hwz, hq]; exact ⟨al_ _ _, NBox.new w n _, h.below (al_ _ _)⟩
  have HM : Hid (Sm n) := hm
  obtain ⟨l, hl⟩ : ∃ l, l = (n.tasks.getD k nilTa).vars := ⟨_, rfl⟩
  have HL : Hid (l = (n.tasks.getD k nilTa).vars) := hl
  have hlm : l.length ≤ 1000000 := by rw [hl]; exact (hm.2.2.1 _ (task_mem hk)).1
  have hk' : (k : Int) < n.tasks.length := by omega
  have hk0 : ¬ (k : Int) < 0 := by omega
  rw [← hl]
  clear h hm hl
  go_enter Tryz.func51, Tryz.ntmps51
  go_upto_region 1 with fail
  rw [← hwz, ← hq]
  clear hwz hq
  obtain ⟨c0, c1, c2, c3, c4⟩ := HZ.out.2.1
  go_wp2_with fail
  clear c0 c1 c2 c3 c4
  go_loopw [5, 6] (fun u v wr => ∃ (i : Nat) (ways : Int), u = .int .i64 ways ∧ v = .int .i64 (i : Int) ∧ i ≤ l.length ∧ (0 ≤ ways ∧ ways ≤ 1025) ∧ Hid (La w wr q n ∧ goB n.cols (l.drop i) ways = bindsF n.cols l)) (fun _ v _ => l.length - (intOf v).toNat)
  case atStart => exact ⟨0, 1, rfl, rfl, by omega, ⟨by decide, by decide⟩, HZ.out, rfl⟩
  case round =>
    clear HZ
    obtain ⟨i, ways, rfl, rfl, hi, hw, HI⟩ := hrel
    obtain ⟨c0, c1, c2, c3, c4⟩ := HI.out.1.2.1
    obtain ⟨b, off, ha, hr, ho⟩ := HI.out.1.2.2.task hk
    have d1 : wr.cell? ⟨b, off + k * 14 + 1, none⟩ = some (.slice (n.tasks.getD k nilTa).va l.length (n.tasks.getD k nilTa).vc) := by rw [HL.out]; exact hr 1 _ rfl
    obtain ⟨va, hva⟩ : ∃ va, va = (n.tasks.getD k nilTa).va := ⟨_, rfl⟩
    obtain ⟨vc, hvc⟩ : ∃ vc, vc = (n.tasks.getD k nilTa).vc := ⟨_, rfl⟩
    have HV : Vas wr va l := by rw [hva, HL.out]; exact ho.2.2.1
    rw [← hva, ← hvc] at d1
    rw [ha] at c2
    have hbb : b < wr.heap.size := World.block_lt_of_cell? _ _ d1
    clear ha hr ho hva hvc c1 c3 c4
    by_cases hlt : i < l.length
    · have hlt' : (i : Int) < l.length := by omega
      obtain ⟨bv, ov, hav, _, v1⟩ := HV.cell hlt
      rw [hav] at d1
      obtain ⟨c, hc⟩ : ∃ c, c = (l.getD i nilVa).colour := ⟨_, rfl⟩
      rw [← hc] at v1
      have HC : Hid (c = (l.getD i nilVa).colour) := hc
      obtain ⟨sz, hsz⟩ : ∃ sz, sz = Colour.sizeF n.cols c := ⟨_, rfl⟩
      have HSZ : Hid (sz = Colour.sizeF n.cols (l.getD i nilVa).colour) := by rw [Hid, hsz, hc]
      have hs1 : 0 ≤ sz ∧ sz ≤ 1024 := by rw [hsz]; exact sizeF_le _ _
      have SC : Hid (∀ wx, Below wr.heap.size wr wx → Calls Tryz.prog 46 #[.slice n.ca n.cols.length n.cc, .int .i64 c] wx fun e w' => e = .returned (.int .i64 sz) ∧ Below wr.heap.size wr w') := fun wx hx => (rsize2_any n.ca n.cc n.cols c wx (HI.out.1.2.2.2.1.below hx) HM.out.2.2.2).mono fun e w' h => ⟨by rw [hsz]; exact h.1, then_ hx h.2⟩
      have HC4 : Hid (wr.cell? ⟨q, 0, none⟩ = some (.slice n.ca n.cols.length n.cc) ∧ wr.cell? ⟨q, 2, none⟩ = some (.slice (some ⟨b, off, none⟩) n.tasks.length n.tc) ∧ wr.cell? ⟨b, off + k * 14 + 1, none⟩ = some (.slice (some ⟨bv, ov, none⟩) l.length vc) ∧ wr.cell? ⟨bv, ov + i * 2 + 1, none⟩ = some (.int .i64 c)) := ⟨c0, c2, d1, v1⟩
      clear hav hc hsz HV
      go_wp2_with fail
      go_region_held3 (fun w' => w'.cell? ⟨q, 0, none⟩ = some (.slice n.ca n.cols.length n.cc) ∧ w'.cell? ⟨q, 2, none⟩ = some (.slice (some ⟨b, off, none⟩) n.tasks.length n.tc) ∧ w'.cell? ⟨b, off + k * 14 + 1, none⟩ = some (.slice (some ⟨bv, ov, none⟩) l.length vc) ∧ w'.cell? ⟨bv, ov + i * 2 + 1, none⟩ = some (.int .i64 c)) (go_keep)
        (first | (go_at_call 46; refine (SC.out _ (by exact (Below.refl _ _).drew)).mono ?_; rintro e w5 ⟨he, hb5⟩; subst he; have g1 := box_below HC4.out.1 hb5; have g2 := box_below HC4.out.2.1 hb5; have g3 := box_below HC4.out.2.2.1 hb5; have g4 := box_below HC4.out.2.2.2 hb5))
      have N5 : Hid (La w w5 q n) := HI.out.1.on hb5
      clear g1 g2 g3 g4 hb5 c0 c2 d1 v1 SC HC4 hbb
      by_cases hz : sz = 0
      · have E : Hid (bindsF n.cols l = 0) := by rw [Hid, ← HI.out.2]; exact goB_none hlt (by rw [← HSZ.out]; exact hz)
        have HB : Hid (Below w.heap.size w w5) := N5.out.1
        subst hz
        go_wp2_with fail
        go_ret
        exact ⟨by rw [E.out]; try rfl, HB.out⟩
      · have hz' : (sz == 0) = false := beq_eq_false_iff_ne.2 hz
        obtain ⟨m, hmm⟩ : ∃ m, m = min (ways * sz) 1025 := ⟨_, rfl⟩
        have NX : Hid (goB n.cols (l.drop (i + 1)) m = bindsF n.cols l) := by rw [Hid, ← HI.out.2, goB_next hlt (by rw [← HSZ.out]; exact hz), ← HSZ.out, hmm]
        have hp1 : 0 ≤ ways * sz := Int.mul_nonneg hw.1 hs1.1
        have hp2 : ways * sz ≤ 1025 * 1024 := Int.mul_le_mul hw.2 hs1.2 hs1.1 (by omega)
        have mw : IntKind.i64.wrap (ways * sz) = ways * sz := wrap_id (by omega) (by omega)
        have hm2 : 0 ≤ m ∧ m ≤ 1025 := by omega
        have HMM : Hid (m = min (ways * sz) 1025) := hmm
        have hmw : wrap64 (ways * sz) = ways * sz := by unfold wrap64; omega
        have HMW : Hid (Value.int .i64 (min (ways * sz) 1025) = .int .i64 m) := by rw [Hid, hmm]
        clear hmm
        go_wp2_with fail
        go_roundw
        case rel => first | exact ⟨i + 1, m, HMW.out, by simp, by omega, hm2, N5.out, NX.out⟩ | exact ⟨_, _, _, ⟨i + 1, m, HMW.out, by go_num, by omega, hm2, N5.out, NX.out⟩, rfl, rfl, rfl⟩
        all_goals (simp [intOf]; omega)
    · have hlt' : ¬ (i : Int) < l.length := by omega
      have E : Hid (ways = bindsF n.cols l) := by
        have h2 := HI.out.2
        rw [List.drop_eq_nil_of_le (by omega)] at h2
        exact h2
      have HB : Hid (Below w.heap.size w wr) := HI.out.1.1
      go_wp2_with fail
      go_ret
      exact ⟨by rw [← E.out]; try rfl, HB.out⟩

theorem arcF_3 {n : Ne} {x : Ar} {vars : Nat} (h : inB x.place n.places.length = false) : arcF n x vars = 3 := by
  unfold arcF arcL; simp [firstNZ, errB, h]
theorem arcF_1 {n : Ne} {x : Ar} {vars : Nat} (h : inB x.place n.places.length = true) (h2 : Expr.rightB vars x.ex = false) : arcF n x vars = 1 := by
  unfold arcF arcL; simp [firstNZ, errB, h, h2]
theorem arcF_0 {n : Ne} {x : Ar} {vars : Nat} (h : inB x.place n.places.length = true) (h2 : Expr.rightB vars x.ex = true) : arcF n x vars = 0 := by
  unfold arcF arcL; simp [firstNZ, errB, h, h2]
set_option maxRecDepth 100000 in
set_option maxHeartbeats 8000000 in
theorem rarcs_any (n : Ne) (a : Option Addr) (cap : Nat) (l : List Ar) (vars : Nat) (w : World) (h : NeOk w n) (hr : RowM 4 Ar.cells ArOk nilAr w a l) (hlm : l.length ≤ 1000000) (hx : ∀ x, x ∈ l → Expr.sizeF x.ex ≤ 1000000) : Calls Tryz.prog 53 #[.agg #[.slice n.ca n.cols.length n.cc, .slice n.pa n.places.length n.pc, .slice n.ta n.tasks.length n.tc, .int .i64 n.frm, .int .i64 n.too], .slice a l.length cap, .int .i64 (vars : Int)] w fun e w' => e = .returned (.int .i64 (eachF l.length (fun i => arcF n (l.getD i nilAr) vars))) ∧ Below w.heap.size w w' := by
  obtain ⟨q, hq⟩ : ∃ q, q = w.heap.size := ⟨_, rfl⟩
  obtain ⟨wz, hwz⟩ : ∃ wz, wz = w.alloc (.cells #[.slice n.ca n.cols.length n.cc, .slice n.pa n.places.length n.pc, .slice n.ta n.tasks.length n.tc, .int .i64 n.frm, .int .i64 n.too] 26) := ⟨_, rfl⟩
  have HZ : Hid (La w wz q n) := by rw [hwz, hq]; exact ⟨al_ _ _, NBox.new w n _, h.below (al_ _ _)⟩
  have H0 : Hid (RowM 4 Ar.cells ArOk nilAr w a l ∧ ∀ x, x ∈ l → Expr.sizeF x.ex ≤ 1000000) := ⟨hr, hx⟩
  obtain ⟨V, hV⟩ : ∃ V, V = eachF l.length (fun i => arcF n (l.getD i nilAr) vars) := ⟨_, rfl⟩
  have HV : Hid (V = eachF l.length (fun i => arcF n (l.getD i nilAr) vars)) := hV
  rw [← hV]
  clear h hr hx hV
  go_enter Tryz.func53, Tryz.ntmps53
  go_upto_region 1 with fail
  rw [← hwz, ← hq]
  clear hwz hq
  go_wp2_with fail
  go_loopw [7] (fun v wr => ∃ i : Nat, v = .int .i64 (i : Int) ∧ i ≤ l.length ∧ Hid (La w wr q n ∧ ∀ j, j < i → arcF n (l.getD j nilAr) vars = 0)) (fun v _ => l.length - (intOf v).toNat)
  case atStart => exact ⟨0, rfl, by omega, HZ.out, fun j hj => absurd hj (Nat.not_lt_zero _)⟩
  case round =>
    clear HZ
    obtain ⟨i, rfl, hi, HI⟩ := hrel
    obtain ⟨c0, c1, c2, c3, c4⟩ := HI.out.1.2.1
    by_cases hlt : i < l.length
    · have hlt' : (i : Int) < l.length := by omega
      obtain ⟨b, off, ha, ⟨r0, r1, r2, r3⟩, hok⟩ := arcs_at (H0.out.1.below (fun _ g => g.below HI.out.1.1) HI.out.1.1) hlt
      have hmem : l.getD i nilAr ∈ l := by rw [List.getD_eq_getElem?_getD, List.getElem?_eq_getElem hlt]; exact List.getElem_mem _
      obtain ⟨x, hxe⟩ : ∃ x, x = l.getD i nilAr := ⟨_, rfl⟩
      rw [← hxe] at r0 r1 r2 r3 hok hmem
      have HX : Hid (x = l.getD i nilAr ∧ ArOk wr x ∧ Expr.sizeF x.ex ≤ 1000000) := ⟨hxe, hok, H0.out.2 x hmem⟩
      have IP : Hid (∀ W, Calls Tryz.prog 38 #[.agg #[.slice n.ca n.cols.length n.cc, .slice n.pa n.places.length n.pc, .slice n.ta n.tasks.length n.tc, .int .i64 n.frm, .int .i64 n.too], .int .i64 x.place] W fun e w' => e = .returned (.bool (inB x.place n.places.length)) ∧ Below W.heap.size W w') := fun W => risPlace_any n x.place W
      have HAA : Hid (a = some ⟨b, off, none⟩) := ha
      subst ha
      have HC : Hid ((wr.cell? ⟨b, off + i * 4, none⟩ = some (.int .i64 x.place) ∧ wr.cell? ⟨b, off + i * 4 + 1, none⟩ = some (.int .i64 x.ex.kind) ∧ wr.cell? ⟨b, off + i * 4 + 2, none⟩ = some (.int .i64 x.ex.num) ∧ wr.cell? ⟨b, off + i * 4 + 3, none⟩ = some (.slice x.ka x.ex.kids.length x.kc)) ∧ NBox wr q n) := ⟨⟨r0, r1, r2, r3⟩, HI.out.1.2.1⟩
      obtain ⟨bp, hbp⟩ : ∃ bp, bp = inB x.place n.places.length := ⟨_, rfl⟩
      have HBP : Hid (bp = inB x.place n.places.length) := hbp
      have IP2 : Hid (∀ wx, Below wr.heap.size wr wx → Calls Tryz.prog 38 #[.agg #[.slice n.ca n.cols.length n.cc, .slice n.pa n.places.length n.pc, .slice n.ta n.tasks.length n.tc, .int .i64 n.frm, .int .i64 n.too], .int .i64 x.place] wx fun e w' => e = .returned (.bool bp) ∧ Below wr.heap.size wr w') := fun wx hwx => (IP.out wx).mono fun e w' h => ⟨by rw [hbp]; exact h.1, then_ hwx h.2⟩
      clear hxe hok hmem hbp IP r1 r2 r3
      go_wp2_with fail
      go_region_held3 (fun w' => (w'.cell? ⟨q, 0, none⟩ = some (.slice n.ca n.cols.length n.cc) ∧ w'.cell? ⟨q, 1, none⟩ = some (.slice n.pa n.places.length n.pc) ∧ w'.cell? ⟨q, 2, none⟩ = some (.slice n.ta n.tasks.length n.tc) ∧ w'.cell? ⟨q, 3, none⟩ = some (.int .i64 n.frm) ∧ w'.cell? ⟨q, 4, none⟩ = some (.int .i64 n.too)) ∧ w'.cell? ⟨b, off + i * 4, none⟩ = some (.int .i64 x.place)) (go_keep)
        (first | (go_at_call 38; refine (IP2.out _ (by exact (Below.refl _ _).drew)).mono ?_; rintro e w5 ⟨he, hb5⟩; subst he; have g0 := box_below HC.out.2.1 hb5; have g1 := box_below HC.out.2.2.1 hb5; have g2 := box_below HC.out.2.2.2.1 hb5; have g3 := box_below HC.out.2.2.2.2.1 hb5; have g4 := box_below HC.out.2.2.2.2.2 hb5; have g5 := box_below HC.out.1.1 hb5))
      have N5 : Hid (La w w5 q n ∧ Below wr.heap.size wr w5) := ⟨HI.out.1.on hb5, hb5⟩
      clear g0 g1 g2 g3 g4 g5 c0 c1 c2 c3 c4 r0 IP2 hb5
      cases bp with
      | false =>
        have E : Hid (V = 3) := by
          rw [Hid, HV.out]
          have e3 : arcF n (l.getD i nilAr) vars = 3 := by rw [← HX.out.1]; exact arcF_3 HBP.out.symm
          exact (eachF_at (f := fun i => arcF n (l.getD i nilAr) vars) hlt HI.out.2 (by show arcF n (l.getD i nilAr) vars ≠ 0; rw [e3]; decide)).trans e3
        have HB : Hid (Below w.heap.size w w5) := N5.out.1.1
        go_wp2_with fail
        go_ret
        exact ⟨by rw [E.out]; try rfl, HB.out⟩
      | true =>
        have s1 := box_below HC.out.1.2.1 N5.out.2
        have s2 := box_below HC.out.1.2.2.1 N5.out.2
        have s3 := box_below HC.out.1.2.2.2 N5.out.2
        obtain ⟨br, hbr⟩ : ∃ br, br = Expr.rightB vars x.ex := ⟨_, rfl⟩
        have HBR : Hid (br = Expr.rightB vars x.ex) := hbr
        have RC : Hid (Calls Tryz.prog 52 #[.agg #[.int .i64 x.ex.kind, .int .i64 x.ex.num, .slice x.ka x.ex.kids.length x.kc], .int .i64 (vars : Int)] w5 fun e w' => e = .returned (.bool br) ∧ Below w5.heap.size w5 w') := by
          rw [hbr]; exact rright_any x.ex w5 x.ka x.kc vars (XG.below HX.out.2.1.2 N5.out.2) HX.out.2.2
        clear hbr
        go_wp2_with fail
        refine RC.out.mono ?_
        rintro e w6 ⟨he, hb⟩
        subst he
        have N6 : Hid (La w w6 q n) := N5.out.1.on hb
        clear hb RC s1 s2 s3
        cases br with
        | false =>
          have E : Hid (V = 1) := by
            rw [Hid, HV.out]
            have e3 : arcF n (l.getD i nilAr) vars = 1 := by rw [← HX.out.1]; exact arcF_1 HBP.out.symm HBR.out.symm
            exact (eachF_at (f := fun i => arcF n (l.getD i nilAr) vars) hlt HI.out.2 (by show arcF n (l.getD i nilAr) vars ≠ 0; rw [e3]; decide)).trans e3
          have HB : Hid (Below w.heap.size w w6) := N6.out.1
          go_wp2_with fail
          go_ret
          exact ⟨by rw [E.out]; try rfl, HB.out⟩
        | true =>
          have NX : Hid (∀ j, j < i + 1 → arcF n (l.getD j nilAr) vars = 0) := fun j hj => by
            rcases Nat.lt_succ_iff_lt_or_eq.1 hj with g | g
            · exact HI.out.2 j g
            · rw [g, ← HX.out.1]; exact arcF_0 HBP.out.symm HBR.out.symm
          go_wp2_with fail
          go_roundw
          case rel => first | exact ⟨i + 1, by simp, by omega, N6.out, NX.out⟩ | exact ⟨_, _, ⟨i + 1, by go_num, by omega, N6.out, NX.out⟩, rfl, rfl⟩
          all_goals (simp [intOf]; omega)
    · have hlt' : ¬ (i : Int) < l.length := by omega
      have E : Hid (V = 0) := HV.out.trans <| eachF_none fun j hj => HI.out.2 j (by omega)
      have HB : Hid (Below w.heap.size w wr) := HI.out.1.1
      go_wp2_with fail
      go_ret
      exact ⟨by rw [E.out]; try rfl, HB.out⟩
end Go.Proofs.YtgdkomkflfodaaaGreat.Check
