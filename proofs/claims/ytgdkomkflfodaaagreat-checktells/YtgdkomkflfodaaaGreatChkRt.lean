/- The document's own Task: a contract of the call, over the turned program. -/
import Derived.Test.YtgdkomkflfodaaaGreatChkRk
namespace Go.Proofs.YtgdkomkflfodaaaGreat.Check
open Go.RowKit Go.Proofs.YtgdkomkflfodaaaGreat.Frame Go.Proofs.YtgdkomkflfodaaaGreat.Colour Go.Proofs.YtgdkomkflfodaaaGreat.Expr
set_option linter.unusedVariables false
set_option linter.unusedSimpArgs false

def SzT (t : Ta) : Prop := Expr.sizeF t.guard ≤ 1000000 ∧ (∀ x, x ∈ t.ins → Expr.sizeF x.ex ≤ 1000000) ∧ ∀ x, x ∈ t.outs → Expr.sizeF x.ex ≤ 1000000
def SzN (n : Ne) : Prop := ∀ t, t ∈ n.tasks → SzT t
def Lt (w W : World) (q : Nat) (n : Ne) (r : Nat) (t : Ta) : Prop := La w W q n ∧ TBox W r t ∧ TaOk W t
theorem Lt.on {w W W' : World} {q r : Nat} {n : Ne} {t : Ta} (h : Lt w W q n r t) (hb : Below W.heap.size W W') : Lt w W' q n r t := ⟨h.1.on hb, h.2.1.below hb, h.2.2.below hb⟩
theorem TBox.new (w : World) (t : Ta) (r : Nat) (hr : r = w.heap.size) (T : TypeId) : TBox (w.alloc (.cells #[.string t.name, .slice t.va t.vars.length t.vc, .int .i64 t.guard.kind, .int .i64 t.guard.num, .slice t.ga t.guard.kids.length t.gc, .int .i64 t.join, .int .i64 t.split, .slice t.ia t.ins.length t.ic, .slice t.oa t.outs.length t.oc, .slice t.ca t.cancel.length t.cc, .int .i64 t.after, .int .i64 t.m0, .int .i64 t.m1, .int .i64 t.m2] T)) r t := fun j v hj => by
  have hj : (List.toArray t.cells)[j]? = some v := by simpa using hj
  rw [Nat.zero_add, World.cell?_alloc_at _ _ _ _ hr]
  exact hj
theorem namedF_1 {i : Nat} {nm : Nat → ByteArray} (h1 : freeB (nm i) = false) : namedF i nm = 1 := by unfold namedF; simp [firstNZ, errB, h1]
theorem namedF_5 {i : Nat} {nm : Nat → ByteArray} (h1 : freeB (nm i) = true) (h2 : twiceB i nm = true) : namedF i nm = 5 := by unfold namedF; simp [firstNZ, errB, h1, h2]
theorem namedF_0 {i : Nat} {nm : Nat → ByteArray} (h1 : freeB (nm i) = true) (h2 : twiceB i nm = false) : namedF i nm = 0 := by unfold namedF; simp [firstNZ, errB, h1, h2]
theorem errB_yes {b : Bool} {e : Int} (h : b = true) : errB b e = e := by rw [h]; rfl
theorem errB_no {b : Bool} {e : Int} (h : b = false) : errB b e = 0 := by rw [h]; rfl
theorem cancelF_3 {n : Ne} {l : List Int} {i : Nat} (h : inB (l.getD i 0) n.places.length = false) : cancelF n l i = 3 := by unfold cancelF cancelL; rw [h]; simp [firstNZ, errB]
theorem cancelF_5 {n : Ne} {l : List Int} {i : Nat} (h : inB (l.getD i 0) n.places.length = true) (h2 : hasB (l.take i) (l.getD i 0) = true) : cancelF n l i = 5 := by unfold cancelF cancelL; rw [h, h2]; simp [firstNZ, errB]
theorem cancelF_0 {n : Ne} {l : List Int} {i : Nat} (h : inB (l.getD i 0) n.places.length = true) (h2 : hasB (l.take i) (l.getD i 0) = false) : cancelF n l i = 0 := by unfold cancelF cancelL; rw [h, h2]; simp [firstNZ, errB]
theorem has_at {l : List Int} {i j : Nat} (hi : i < l.length) (hj : j < i) {x : Int} (h : l.getD j 0 = x) : hasB (l.take i) x = true := by
  unfold hasB
  rw [List.any_eq_true]
  refine ⟨l.getD j 0, ?_, by rw [h]; simp⟩
  rw [List.getD_eq_getElem?_getD, List.getElem?_eq_getElem (show j < l.length by omega)]
  exact List.mem_take_iff_getElem.2 ⟨j, by omega, rfl⟩
theorem has_not {l : List Int} {i : Nat} {x : Int} (h : ∀ j, j < i → l.getD j 0 ≠ x) : hasB (l.take i) x = false := by
  unfold hasB
  rw [List.any_eq_false]
  intro y hy
  obtain ⟨j, hj, he⟩ := List.mem_take_iff_getElem.1 hy
  have := h j (by omega)
  rw [List.getD_eq_getElem?_getD, List.getElem?_eq_getElem (show j < l.length by omega)] at this
  simp only [Option.getD_some, he] at this
  simpa using fun e => this e.symm
theorem first11 {a0 a1 a2 a3 a4 a5 a6 a7 a8 a9 a10 : Int} {L : List Int} (hL : L = [a0, a1, a2, a3, a4, a5, a6, a7, a8, a9, a10]) {m : Nat} {v : Int} (h0 : ∀ j, j < m → L.getD j 0 = 0) (hm : m < 11) (hv : L.getD m 0 = v) (hne : v ≠ 0) : firstNZ L = v := by
  have hl : L.length = 11 := by rw [hL]; rfl
  rw [firstNZ_at (k := m) (by rw [hl]; exact hm) h0 (by rw [hv]; exact hne), hv]

set_option maxRecDepth 100000 in
set_option maxHeartbeats 16000000 in
theorem rTask_any (n : Ne) (k : Int) (w : World) (h : NeOk w n) (hm : Sm n) (hx : SzN n) : Calls Tryz.prog 14 #[.agg #[.slice n.ca n.cols.length n.cc, .slice n.pa n.places.length n.pc, .slice n.ta n.tasks.length n.tc, .int .i64 n.frm, .int .i64 n.too], .int .i64 k] w fun e w' => e = .returned (.int .i64 (taskT n k)) ∧ Below w.heap.size w w' := by
  obtain ⟨q, hq⟩ : ∃ q, q = w.heap.size := ⟨_, rfl⟩
  obtain ⟨wz, hwz⟩ : ∃ wz, wz = w.alloc (.cells #[.slice n.ca n.cols.length n.cc, .slice n.pa n.places.length n.pc, .slice n.ta n.tasks.length n.tc, .int .i64 n.frm, .int .i64 n.too] 26) := ⟨_, rfl⟩
  have HZ : Hid (La w wz q n) := by rw [hwz, hq]; exact ⟨al_ _ _, NBox.new w n _, h.below (al_ _ _)⟩
  have HM : Hid (Sm n ∧ SzN n) := ⟨hm, hx⟩
  have hlt : n.tasks.length ≤ 1000000 := hm.1.2.2
  clear h hm hx
  go_enter Tryz.func14, Tryz.ntmps14
  go_upto_region 1 with fail
  rw [← hwz, ← hq]
  clear hwz hq
  obtain ⟨c0, c1, c2, c3, c4⟩ := HZ.out.2.1
  by_cases k0 : k < 0
  · have E : Hid (taskT n k = 3) := by unfold Hid taskT; rw [show inB k n.tasks.length = false from decide_eq_false (by omega)]; rfl
    have HB : Hid (Below w.heap.size w wz) := HZ.out.1
    go_wp2_with fail
    go_ret
    exact ⟨by rw [E.out]; try rfl, HB.out⟩
  by_cases k1 : k < n.tasks.length
  rotate_left 1
  · have E : Hid (taskT n k = 3) := by unfold Hid taskT; rw [show inB k n.tasks.length = false from decide_eq_false (by omega)]; rfl
    have HB : Hid (Below w.heap.size w wz) := HZ.out.1
    go_wp2_with fail
    go_ret
    exact ⟨by rw [E.out]; try rfl, HB.out⟩
  obtain ⟨j, rfl⟩ : ∃ j : Nat, k = j := ⟨k.toNat, by omega⟩
  have hj : j < n.tasks.length := by omega
  have CC : Hid (Calls Tryz.prog 39 #[.agg #[.slice n.ca n.cols.length n.cc, .slice n.pa n.places.length n.pc, .slice n.ta n.tasks.length n.tc, .int .i64 n.frm, .int .i64 n.too]] wz fun e w' => e = .returned (.int .i64 (wrongZ n.cols)) ∧ Below wz.heap.size wz w') := rcolours_any n wz HZ.out.2.2 HM.out.1
  by_cases hw : wrongF n.cols < n.cols.length
  · have E : Hid (taskT n (j : Int) = 8) := by unfold Hid taskT; rw [inB_nat hj, if_pos rfl, if_pos hw]
    have hz : wrongZ n.cols = (wrongF n.cols : Int) := by unfold wrongZ; rw [if_pos hw]
    rw [hz] at CC
    have hz0 : (0 : Int) ≤ (wrongF n.cols : Int) := by omega
    go_wp2_with fail
    refine CC.out.mono ?_
    rintro e w1 ⟨he, hb⟩
    subst he
    have HB : Hid (Below w.heap.size w w1) := then_ HZ.out.1 hb
    clear hb CC c0 c1 c2 c3 c4
    go_wp2_with fail
    go_ret
    exact ⟨by rw [E.out]; try rfl, HB.out⟩
  have hz : wrongZ n.cols = -1 := by unfold wrongZ; rw [if_neg hw]
  rw [hz] at CC
  go_wp2_with fail
  refine CC.out.mono ?_
  rintro e w1 ⟨he, hb⟩
  subst he
  have H1 : Hid (La w w1 q n) := HZ.out.on hb
  clear hb CC c0 c1 c2 c3 c4 HZ
  obtain ⟨c0, c1, c2, c3, c4⟩ := H1.out.2.1
  obtain ⟨b, off, ha, hr, ho⟩ := H1.out.2.2.task hj
  obtain ⟨t, ht⟩ : ∃ t, t = n.tasks.getD j nilTa := ⟨_, rfl⟩
  rw [← ht] at hr ho
  have E0 : Hid (taskT n (j : Int) = firstNZ (taskL n j t)) := by unfold Hid taskT; rw [inB_nat hj, if_pos rfl, if_neg hw, Int.toNat_natCast]; unfold taskF; rw [← ht]
  have HTE : Hid (t = n.tasks.getD j nilTa ∧ SmT t ∧ SzT t) := ⟨ht, by rw [ht]; exact HM.out.1.2.2.1 _ (task_mem hj), by rw [ht]; exact HM.out.2 _ (task_mem hj)⟩
  have d0 : w1.cell? ⟨b, off + j * 14, none⟩ = some (.string t.name) := hr 0 _ rfl
  have d1 : w1.cell? ⟨b, off + j * 14 + 1, none⟩ = some (.slice t.va t.vars.length t.vc) := hr 1 _ rfl
  have d2 : w1.cell? ⟨b, off + j * 14 + 2, none⟩ = some (.int .i64 t.guard.kind) := hr 2 _ rfl
  have d3 : w1.cell? ⟨b, off + j * 14 + 3, none⟩ = some (.int .i64 t.guard.num) := hr 3 _ rfl
  have d4 : w1.cell? ⟨b, off + j * 14 + 4, none⟩ = some (.slice t.ga t.guard.kids.length t.gc) := hr 4 _ rfl
  have d5 : w1.cell? ⟨b, off + j * 14 + 5, none⟩ = some (.int .i64 t.join) := hr 5 _ rfl
  have d6 : w1.cell? ⟨b, off + j * 14 + 6, none⟩ = some (.int .i64 t.split) := hr 6 _ rfl
  have d7 : w1.cell? ⟨b, off + j * 14 + 7, none⟩ = some (.slice t.ia t.ins.length t.ic) := hr 7 _ rfl
  have d8 : w1.cell? ⟨b, off + j * 14 + 8, none⟩ = some (.slice t.oa t.outs.length t.oc) := hr 8 _ rfl
  have d9 : w1.cell? ⟨b, off + j * 14 + 9, none⟩ = some (.slice t.ca t.cancel.length t.cc) := hr 9 _ rfl
  have d10 : w1.cell? ⟨b, off + j * 14 + 10, none⟩ = some (.int .i64 t.after) := hr 10 _ rfl
  have d11 : w1.cell? ⟨b, off + j * 14 + 11, none⟩ = some (.int .i64 t.m0) := hr 11 _ rfl
  have d12 : w1.cell? ⟨b, off + j * 14 + 12, none⟩ = some (.int .i64 t.m1) := hr 12 _ rfl
  have d13 : w1.cell? ⟨b, off + j * 14 + 13, none⟩ = some (.int .i64 t.m2) := hr 13 _ rfl
  have hbl : b < w1.heap.size := World.block_lt_of_cell? _ _ d0
  rw [ha] at c2
  obtain ⟨r, hrr⟩ : ∃ r, r = w1.heap.size := ⟨_, rfl⟩
  obtain ⟨wt, hwt⟩ : ∃ wt, wt = w1.alloc (.cells #[.string t.name, .slice t.va t.vars.length t.vc, .int .i64 t.guard.kind, .int .i64 t.guard.num, .slice t.ga t.guard.kids.length t.gc, .int .i64 t.join, .int .i64 t.split, .slice t.ia t.ins.length t.ic, .slice t.oa t.outs.length t.oc, .slice t.ca t.cancel.length t.cc, .int .i64 t.after, .int .i64 t.m0, .int .i64 t.m1, .int .i64 t.m2] 53) := ⟨_, rfl⟩
  have HT : Hid (Lt w wt q n r t) := by rw [hwt]; exact ⟨H1.out.on (al_ _ _), TBox.new w1 t r hrr _, ho.below (al_ _ _)⟩
  clear ht hr ho ha hw hz
  go_upto_region 6 with fail
  rw [← hwt, ← hrr]
  clear hwt hrr c0 c1 c2 c3 c4 d0 d1 d2 d3 d4 d5 d6 d7 d8 d9 d10 d11 d12 d13 H1 hbl
  have FC : Hid (∀ W, Calls Tryz.prog 43 #[.string t.name] W fun e w' => e = .returned (.bool (freeB t.name)) ∧ Below W.heap.size W w') := fun W => rfree_any t.name W
  have NM : Hid (taskNm n j = t.name) := by rw [Hid, HTE.out.1]; rfl
  obtain ⟨d0, d1, d2, d3, d4, d5, d6, d7, d8, d9, d10, d11, d12, d13⟩ := HT.out.2.1.cells
  clear d1 d2 d3 d4 d5 d6 d7 d8 d9 d10 d11 d12 d13
  cases hf : freeB t.name with
  | false =>
    rw [hf] at FC
    have N1 : Hid (namedF j (taskNm n) = 1) := namedF_1 (by rw [NM.out]; exact hf)
    go_wp2_with fail
    refine (FC.out _).mono ?_
    rintro e w2 ⟨he, hb⟩
    subst he
    have HB1 : Hid (Below w.heap.size w w2) := then_ HT.out.1.1 hb
    clear hb FC d0
    have E : Hid (taskT n (j : Int) = 1) := E0.out.trans (first11 (m := 0) rfl (fun i hi => absurd hi (Nat.not_lt_zero _)) (by decide) N1.out (by decide))
    have HB : Hid (Below w.heap.size w w2) := HB1.out
    go_wp2_with fail
    go_ret
    exact ⟨by rw [E.out]; try rfl, HB.out⟩
  | true =>
  have HF : Hid (freeB (taskNm n j) = true) := by rw [NM.out]; exact hf
  rw [hf] at FC
  clear hf
  go_wp2_with fail
  refine (FC.out _).mono ?_
  rintro e w2 ⟨he, hb⟩
  subst he
  have H2 : Hid (Lt w w2 q n r t) := HT.out.on hb
  clear hb FC d0 HT
  go_wp2_with fail
  go_loopw [6] (fun v wr => ∃ i : Nat, v = .int .i64 (i : Int) ∧ i ≤ j ∧ Hid (Lt w wr q n r t ∧ ∀ i', i' < i → eqS (taskNm n i') (taskNm n j) = false)) (fun v _ => j - (intOf v).toNat)
  case atStart => exact ⟨0, rfl, by omega, H2.out, fun i hi => absurd hi (Nat.not_lt_zero _)⟩
  case round =>
    clear H2
    obtain ⟨i, rfl, hi, HI⟩ := hrel
    obtain ⟨c0, c1, c2, c3, c4⟩ := HI.out.1.1.2.1
    obtain ⟨d0, d1, d2, d3, d4, d5, d6, d7, d8, d9, d10, d11, d12, d13⟩ := HI.out.1.2.1.cells
    clear d1 d2 d3 d4 d5 d6 d7 d8 d9 d10 d11 d12 d13
    by_cases hij : i < j
    · have hij' : (i : Int) < j := by omega
      have hin' : (i : Int) < n.tasks.length := by omega
      obtain ⟨b2, off2, ha2, hr2, _⟩ := HI.out.1.1.2.2.task (k := i) (by omega)
      have r0 : wr.cell? ⟨b2, off2 + i * 14, none⟩ = some (.string (n.tasks.getD i nilTa).name) := hr2 0 _ rfl
      rw [ha2] at c2
      obtain ⟨s, hs⟩ : ∃ s, s = (n.tasks.getD i nilTa).name := ⟨_, rfl⟩
      rw [← hs] at r0
      have DN : Hid (∀ m, Below wr.heap.size wr (wr.drewN m)) := fun m => below_drewN (Below.refl _ _) _
      have EQ : Hid (eqS (taskNm n i) (taskNm n j) = (s.toList == t.name.toList)) := by rw [Hid, NM.out]; unfold eqS taskNm; rw [← hs]
      clear hs ha2 hr2
      cases hq : (s.toList == t.name.toList) with
      | true =>
        have N5 : Hid (namedF j (taskNm n) = 5) := namedF_5 HF.out (twiceB_yes hij (EQ.out.trans hq))
        have HB1 : Hid (Below w.heap.size w wr) := HI.out.1.1.1
        clear c0 c1 c3 c4
        have E : Hid (taskT n (j : Int) = 5) := E0.out.trans (first11 (m := 0) rfl (fun i hi => absurd hi (Nat.not_lt_zero _)) (by decide) N5.out (by decide))
        go_wp2_with fail
        go_quiet (fail)
        go_wp2_with fail
        go_ret
        exact ⟨by rw [E.out]; try rfl, then_ HB1.out (DN.out _)⟩
      | false =>
        have NX : Hid (∀ i', i' < i + 1 → eqS (taskNm n i') (taskNm n j) = false) := fun i' hi' => by
          rcases Nat.lt_succ_iff_lt_or_eq.1 hi' with g | g
          · exact HI.out.2 i' g
          · rw [g]; exact EQ.out.trans hq
        clear c0 c1 c3 c4
        go_wp2_with fail
        go_quiet (fail)
        go_wp2_with fail
        go_roundw
        case rel => first | exact ⟨i + 1, by simp, by omega, HI.out.1.on (DN.out _), NX.out⟩ | exact ⟨_, _, ⟨i + 1, by go_num, by omega, HI.out.1.on (DN.out _), NX.out⟩, rfl, rfl⟩
        all_goals (simp [intOf]; omega)
    · have hij' : ¬ (i : Int) < j := by omega
      have F0 : Hid (namedF j (taskNm n) = 0) := namedF_0 HF.out (twiceB_no fun i' hi' => HI.out.2 i' (by omega))
      have H3 : Hid (Lt w wr q n r t) := HI.out.1
      clear HI c0 c1 c2 c3 c4 d0
      obtain ⟨d0, d1, d2, d3, d4, d5, d6, d7, d8, d9, d10, d11, d12, d13⟩ := H3.out.2.1.cells
      clear d0 d2 d3 d4 d5 d6 d10 d11 d12 d13
      obtain ⟨x1, x2, x3, x4⟩ := HTE.out.2.1
      by_cases g1 : 16 < t.vars.length
      · have N1 : Hid (errB (wideB t) 2 = 2) := errB_yes (by unfold wideB; simp only [Bool.or_eq_true, decide_eq_true_eq]; omega)
        have g1' : (16 : Int) < t.vars.length := by omega
        have E : Hid (taskT n (j : Int) = 2) := E0.out.trans (first11 (m := 1) rfl (fun i hi => by
              match i, hi with
              | 0, _ => exact F0.out
              | i + 1, hi => exact absurd hi (by omega)) (by decide) N1.out (by decide))
        have HB : Hid (Below w.heap.size w wr) := H3.out.1.1
        go_wp2_with fail
        go_ret
        exact ⟨by rw [E.out]; try rfl, HB.out⟩
      have g1' : ¬ (16 : Int) < t.vars.length := by omega
      by_cases g2 : 16 < t.ins.length
      · have N1 : Hid (errB (wideB t) 2 = 2) := errB_yes (by unfold wideB; simp only [Bool.or_eq_true, decide_eq_true_eq]; omega)
        have g2' : (16 : Int) < t.ins.length := by omega
        have E : Hid (taskT n (j : Int) = 2) := E0.out.trans (first11 (m := 1) rfl (fun i hi => by
              match i, hi with
              | 0, _ => exact F0.out
              | i + 1, hi => exact absurd hi (by omega)) (by decide) N1.out (by decide))
        have HB : Hid (Below w.heap.size w wr) := H3.out.1.1
        go_wp2_with fail
        go_ret
        exact ⟨by rw [E.out]; try rfl, HB.out⟩
      have g2' : ¬ (16 : Int) < t.ins.length := by omega
      by_cases g3 : 16 < t.outs.length
      · have N1 : Hid (errB (wideB t) 2 = 2) := errB_yes (by unfold wideB; simp only [Bool.or_eq_true, decide_eq_true_eq]; omega)
        have g3' : (16 : Int) < t.outs.length := by omega
        have E : Hid (taskT n (j : Int) = 2) := E0.out.trans (first11 (m := 1) rfl (fun i hi => by
              match i, hi with
              | 0, _ => exact F0.out
              | i + 1, hi => exact absurd hi (by omega)) (by decide) N1.out (by decide))
        have HB : Hid (Below w.heap.size w wr) := H3.out.1.1
        go_wp2_with fail
        go_ret
        exact ⟨by rw [E.out]; try rfl, HB.out⟩
      have g3' : ¬ (16 : Int) < t.outs.length := by omega
      by_cases g4 : 16 < t.cancel.length
      · have N1 : Hid (errB (wideB t) 2 = 2) := errB_yes (by unfold wideB; simp only [Bool.or_eq_true, decide_eq_true_eq]; omega)
        have g4' : (16 : Int) < t.cancel.length := by omega
        have E : Hid (taskT n (j : Int) = 2) := E0.out.trans (first11 (m := 1) rfl (fun i hi => by
              match i, hi with
              | 0, _ => exact F0.out
              | i + 1, hi => exact absurd hi (by omega)) (by decide) N1.out (by decide))
        have HB : Hid (Below w.heap.size w wr) := H3.out.1.1
        go_wp2_with fail
        go_ret
        exact ⟨by rw [E.out]; try rfl, HB.out⟩
      have g4' : ¬ (16 : Int) < t.cancel.length := by omega
      have F1 : Hid (errB (wideB t) 2 = 0) := errB_no (by unfold wideB; simp only [Bool.or_eq_false_iff, decide_eq_false_iff_not]; omega)
      obtain ⟨v2, hv2⟩ : ∃ v2, v2 = eachF t.vars.length (varF n t.vars) := ⟨_, rfl⟩
      have HV2 : Hid (eachF t.vars.length (varF n t.vars) = v2) := hv2.symm
      have VC : Hid (Calls Tryz.prog 50 #[.agg #[.slice n.ca n.cols.length n.cc, .slice n.pa n.places.length n.pc, .slice n.ta n.tasks.length n.tc, .int .i64 n.frm, .int .i64 n.too], .slice t.va t.vars.length t.vc] wr fun e w' => e = .returned (.int .i64 v2) ∧ Below wr.heap.size wr w') := by rw [hv2]; exact rvars_any n t.va t.vc t.vars wr H3.out.1.2.2 H3.out.2.2.2.2.1 x1
      obtain ⟨c0, c1, c2, c3, c4⟩ := H3.out.1.2.1
      clear hv2
      go_wp2_with fail
      refine VC.out.mono ?_
      rintro e w3 ⟨he, hb⟩
      subst he
      have H4 : Hid (Lt w w3 q n r t) := H3.out.on hb
      clear hb VC c0 c1 c2 c3 c4 d1 d7 d8 d9 H3
      by_cases e2 : v2 = 0
      rotate_left 1
      · have e2' : (v2 != 0) = true := bne_iff_ne.2 e2
        have E : Hid (taskT n (j : Int) = v2) := E0.out.trans (first11 (m := 2) rfl (fun i hi => by
            match i, hi with
            | 0, _ => exact F0.out
            | 1, _ => exact F1.out
            | i + 2, hi => exact absurd hi (by omega)) (by decide) HV2.out e2)
        have HB : Hid (Below w.heap.size w w3) := H4.out.1.1
        go_wp2_with fail
        go_ret
        exact ⟨by rw [E.out]; try rfl, HB.out⟩
      subst e2
      have F2 : Hid (eachF t.vars.length (varF n t.vars) = 0) := HV2.out
      obtain ⟨v3, hv3⟩ : ∃ v3, v3 = bindsF n.cols t.vars := ⟨_, rfl⟩
      have HV3 : Hid (v3 = bindsF n.cols t.vars) := hv3
      have BC : Hid (Calls Tryz.prog 51 #[.agg #[.slice n.ca n.cols.length n.cc, .slice n.pa n.places.length n.pc, .slice n.ta n.tasks.length n.tc, .int .i64 n.frm, .int .i64 n.too], .int .i64 (j : Int)] w3 fun e w' => e = .returned (.int .i64 v3) ∧ Below w3.heap.size w3 w') := by rw [hv3, HTE.out.1]; exact rBinds_any n j w3 H4.out.1.2.2 HM.out.1 hj
      obtain ⟨c0, c1, c2, c3, c4⟩ := H4.out.1.2.1
      clear hv3
      go_wp2_with fail
      refine BC.out.mono ?_
      rintro e w4 ⟨he, hb⟩
      subst he
      have H5 : Hid (Lt w w4 q n r t) := H4.out.on hb
      clear hb BC c0 c1 c2 c3 c4 H4
      by_cases e3 : 1024 < v3
      · have N1 : Hid (errB (decide (1024 < bindsF n.cols t.vars)) 2 = 2) := errB_yes (by rw [← HV3.out]; exact decide_eq_true e3)
        have E : Hid (taskT n (j : Int) = 2) := E0.out.trans (first11 (m := 3) rfl (fun i hi => by
              match i, hi with
              | 0, _ => exact F0.out
              | 1, _ => exact F1.out
              | 2, _ => exact F2.out
              | i + 3, hi => exact absurd hi (by omega)) (by decide) N1.out (by decide))
        have HB : Hid (Below w.heap.size w w4) := H5.out.1.1
        go_wp2_with fail
        go_ret
        exact ⟨by rw [E.out]; try rfl, HB.out⟩
      have F3 : Hid (errB (decide (1024 < bindsF n.cols t.vars)) 2 = 0) := errB_no (by rw [← HV3.out]; exact decide_eq_false e3)
      obtain ⟨br, hbr⟩ : ∃ br, br = Expr.rightB t.vars.length t.guard := ⟨_, rfl⟩
      have HBR : Hid (Expr.rightB t.vars.length t.guard = br) := hbr.symm
      have RC : Hid (Calls Tryz.prog 52 #[.agg #[.int .i64 t.guard.kind, .int .i64 t.guard.num, .slice t.ga t.guard.kids.length t.gc], .int .i64 (t.vars.length : Int)] w4 fun e w' => e = .returned (.bool br) ∧ Below w4.heap.size w4 w') := by rw [hbr]; exact rright_any t.guard w4 t.ga t.gc t.vars.length H5.out.2.2.2.1 HTE.out.2.2.1
      clear hbr
      obtain ⟨d0, d1, d2, d3, d4, d5, d6, d7, d8, d9, d10, d11, d12, d13⟩ := H5.out.2.1.cells
      clear d0 d5 d6 d7 d8 d9 d10 d11 d12 d13
      go_wp2_with fail
      refine RC.out.mono ?_
      rintro e w5 ⟨he, hb⟩
      subst he
      have H6 : Hid (Lt w w5 q n r t) := H5.out.on hb
      clear hb RC d1 d2 d3 d4 H5
      obtain ⟨d0, d1, d2, d3, d4, d5, d6, d7, d8, d9, d10, d11, d12, d13⟩ := H6.out.2.1.cells
      clear d0 d1 d2 d3 d4 d5 d6 d9 d10 d11 d12 d13
      cases br with
      | false =>
        have N1 : Hid (errB (!Expr.rightB t.vars.length t.guard) 1 = 1) := errB_yes (by rw [HBR.out]; rfl)
        have E : Hid (taskT n (j : Int) = 1) := E0.out.trans (first11 (m := 4) rfl (fun i hi => by
              match i, hi with
              | 0, _ => exact F0.out
              | 1, _ => exact F1.out
              | 2, _ => exact F2.out
              | 3, _ => exact F3.out
              | i + 4, hi => exact absurd hi (by omega)) (by decide) N1.out (by decide))
        have HB : Hid (Below w.heap.size w w5) := H6.out.1.1
        go_wp2_with fail
        go_ret
        exact ⟨by rw [E.out]; try rfl, HB.out⟩
      | true =>
      have F4 : Hid (errB (!Expr.rightB t.vars.length t.guard) 1 = 0) := errB_no (by rw [HBR.out]; rfl)
      by_cases g5 : t.ins.length = 0
      · have N1 : Hid (errB (noneB t) 1 = 1) := errB_yes (by unfold noneB; simp [g5])
        have g5' : ((t.ins.length : Int) == 0) = true := by rw [g5]; rfl
        have HG : Hid (t.ins.length = 0) := g5
        clear g5
        have E : Hid (taskT n (j : Int) = 1) := E0.out.trans (first11 (m := 5) rfl (fun i hi => by
              match i, hi with
              | 0, _ => exact F0.out
              | 1, _ => exact F1.out
              | 2, _ => exact F2.out
              | 3, _ => exact F3.out
              | 4, _ => exact F4.out
              | i + 5, hi => exact absurd hi (by omega)) (by decide) N1.out (by decide))
        have HB : Hid (Below w.heap.size w w5) := H6.out.1.1
        go_wp2_with fail
        go_ret
        exact ⟨by rw [E.out]; try rfl, HB.out⟩
      have g5' : ((t.ins.length : Int) == 0) = false := beq_eq_false_iff_ne.2 (by omega)
      by_cases g6 : t.outs.length = 0
      · have N1 : Hid (errB (noneB t) 1 = 1) := errB_yes (by unfold noneB; simp [g6])
        have g6' : ((t.outs.length : Int) == 0) = true := by rw [g6]; rfl
        have HG : Hid (t.outs.length = 0) := g6
        clear g6
        have E : Hid (taskT n (j : Int) = 1) := E0.out.trans (first11 (m := 5) rfl (fun i hi => by
              match i, hi with
              | 0, _ => exact F0.out
              | 1, _ => exact F1.out
              | 2, _ => exact F2.out
              | 3, _ => exact F3.out
              | 4, _ => exact F4.out
              | i + 5, hi => exact absurd hi (by omega)) (by decide) N1.out (by decide))
        have HB : Hid (Below w.heap.size w w5) := H6.out.1.1
        go_wp2_with fail
        go_ret
        exact ⟨by rw [E.out]; try rfl, HB.out⟩
      have g6' : ((t.outs.length : Int) == 0) = false := beq_eq_false_iff_ne.2 (by omega)
      have F5 : Hid (errB (noneB t) 1 = 0) := errB_no (by unfold noneB; simp [g5, g6])
      clear d7 d8
      obtain ⟨v6, hv6⟩ : ∃ v6, v6 = eachF t.ins.length (fun i => arcF n (t.ins.getD i nilAr) t.vars.length) := ⟨_, rfl⟩
      have HV6 : Hid (eachF t.ins.length (fun i => arcF n (t.ins.getD i nilAr) t.vars.length) = v6) := hv6.symm
      have AC6 : Hid (Calls Tryz.prog 53 #[.agg #[.slice n.ca n.cols.length n.cc, .slice n.pa n.places.length n.pc, .slice n.ta n.tasks.length n.tc, .int .i64 n.frm, .int .i64 n.too], .slice t.ia t.ins.length t.ic, .int .i64 (t.vars.length : Int)] w5 fun e w' => e = .returned (.int .i64 v6) ∧ Below w5.heap.size w5 w') := by rw [hv6]; exact rarcs_any n t.ia t.ic t.ins t.vars.length w5 H6.out.1.2.2 H6.out.2.2.2.2.2.1 x2 HTE.out.2.2.2.1
      obtain ⟨c0, c1, c2, c3, c4⟩ := H6.out.1.2.1
      clear hv6
      obtain ⟨d0, d1, d2, d3, d4, d5, d6, d7, d8, d9, d10, d11, d12, d13⟩ := H6.out.2.1.cells
      clear d0 d2 d3 d4 d5 d6 d9 d10 d11 d12 d13
      go_wp2_with fail
      refine AC6.out.mono ?_
      rintro e w6 ⟨he, hb⟩
      subst he
      have H7 : Hid (Lt w w6 q n r t) := H6.out.on hb
      clear hb AC6 c0 c1 c2 c3 c4 d1 d7 d8 H6
      by_cases e6 : v6 = 0
      rotate_left 1
      · have e6' : (v6 != 0) = true := bne_iff_ne.2 e6
        have E : Hid (taskT n (j : Int) = v6) := E0.out.trans (first11 (m := 6) rfl (fun i hi => by
            match i, hi with
            | 0, _ => exact F0.out
            | 1, _ => exact F1.out
            | 2, _ => exact F2.out
            | 3, _ => exact F3.out
            | 4, _ => exact F4.out
            | 5, _ => exact F5.out
            | i + 6, hi => exact absurd hi (by omega)) (by decide) HV6.out e6)
        have HB : Hid (Below w.heap.size w w6) := H7.out.1.1
        go_wp2_with fail
        go_ret
        exact ⟨by rw [E.out]; try rfl, HB.out⟩
      subst e6
      have F6 : Hid (eachF t.ins.length (fun i => arcF n (t.ins.getD i nilAr) t.vars.length) = 0) := HV6.out
      obtain ⟨v7, hv7⟩ : ∃ v7, v7 = eachF t.outs.length (fun i => arcF n (t.outs.getD i nilAr) t.vars.length) := ⟨_, rfl⟩
      have HV7 : Hid (eachF t.outs.length (fun i => arcF n (t.outs.getD i nilAr) t.vars.length) = v7) := hv7.symm
      have AC7 : Hid (Calls Tryz.prog 53 #[.agg #[.slice n.ca n.cols.length n.cc, .slice n.pa n.places.length n.pc, .slice n.ta n.tasks.length n.tc, .int .i64 n.frm, .int .i64 n.too], .slice t.oa t.outs.length t.oc, .int .i64 (t.vars.length : Int)] w6 fun e w' => e = .returned (.int .i64 v7) ∧ Below w6.heap.size w6 w') := by rw [hv7]; exact rarcs_any n t.oa t.oc t.outs t.vars.length w6 H7.out.1.2.2 H7.out.2.2.2.2.2.2.1 x3 HTE.out.2.2.2.2
      obtain ⟨c0, c1, c2, c3, c4⟩ := H7.out.1.2.1
      clear hv7
      obtain ⟨d0, d1, d2, d3, d4, d5, d6, d7, d8, d9, d10, d11, d12, d13⟩ := H7.out.2.1.cells
      clear d0 d2 d3 d4 d5 d6 d7 d9 d10 d11 d12 d13
      go_wp2_with fail
      refine AC7.out.mono ?_
      rintro e w7 ⟨he, hb⟩
      subst he
      have H8 : Hid (Lt w w7 q n r t) := H7.out.on hb
      clear hb AC7 c0 c1 c2 c3 c4 d1 d8 H7
      by_cases e7 : v7 = 0
      rotate_left 1
      · have e7' : (v7 != 0) = true := bne_iff_ne.2 e7
        have E : Hid (taskT n (j : Int) = v7) := E0.out.trans (first11 (m := 7) rfl (fun i hi => by
            match i, hi with
            | 0, _ => exact F0.out
            | 1, _ => exact F1.out
            | 2, _ => exact F2.out
            | 3, _ => exact F3.out
            | 4, _ => exact F4.out
            | 5, _ => exact F5.out
            | 6, _ => exact F6.out
            | i + 7, hi => exact absurd hi (by omega)) (by decide) HV7.out e7)
        have HB : Hid (Below w.heap.size w w7) := H8.out.1.1
        go_wp2_with fail
        go_ret
        exact ⟨by rw [E.out]; try rfl, HB.out⟩
      subst e7
      have F7 : Hid (eachF t.outs.length (fun i => arcF n (t.outs.getD i nilAr) t.vars.length) = 0) := HV7.out
      obtain ⟨l, hl⟩ : ∃ l, l = t.cancel := ⟨_, rfl⟩
      have HL : Hid (t.cancel = l) := hl.symm
      have hll : l.length ≤ 1000000 := by rw [hl]; exact x4
      have C9 : Hid (∀ W, Lt w W q n r t → W.cell? ⟨r, 9, none⟩ = some (.slice t.ca l.length t.cc) ∧ Ns W t.ca l) := fun W hW => by
        obtain ⟨d0, d1, d2, d3, d4, d5, d6, d7, d8, d9, d10, d11, d12, d13⟩ := hW.2.1.cells
        rw [hl]
        exact ⟨d9, hW.2.2.2.2.2.2.2⟩
      clear hl g1 g2 g3 g4 g1' g2' g3' g4' g5 g6 g5' g6' x1 x2 x3 x4
      go_wp2_with fail
      go_loopw [9] (fun v wv => ∃ i : Nat, v = .int .i64 (i : Int) ∧ i ≤ l.length ∧ Hid (Lt w wv q n r t ∧ ∀ i', i' < i → cancelF n l i' = 0)) (fun v _ => l.length - (intOf v).toNat)
      case atStart => exact ⟨0, rfl, by omega, H8.out, fun i hi => absurd hi (Nat.not_lt_zero _)⟩
      case round =>
        clear H8
        obtain ⟨i2, rfl, hi2, HK⟩ := hrel
        obtain ⟨d9, hns⟩ := C9.out wr HK.out.1
        by_cases hil : i2 < l.length
        · have hil' : (i2 : Int) < l.length := by omega
          obtain ⟨bc, oc, hac, z0⟩ := hns.cell hil
          rw [hac] at d9
          obtain ⟨x, hx⟩ : ∃ x, x = l.getD i2 0 := ⟨_, rfl⟩
          rw [← hx] at z0
          have HX : Hid (x = l.getD i2 0 ∧ t.ca = some ⟨bc, oc, none⟩) := ⟨hx, hac⟩
          obtain ⟨bp, hbp⟩ : ∃ bp, bp = inB x n.places.length := ⟨_, rfl⟩
          have HBP : Hid (inB (l.getD i2 0) n.places.length = bp) := by rw [Hid, hbp, hx]
          have IP2 : Hid (∀ wx, Below wr.heap.size wr wx → Calls Tryz.prog 38 #[.agg #[.slice n.ca n.cols.length n.cc, .slice n.pa n.places.length n.pc, .slice n.ta n.tasks.length n.tc, .int .i64 n.frm, .int .i64 n.too], .int .i64 x] wx fun e w' => e = .returned (.bool bp) ∧ Below wr.heap.size wr w') := fun wx hwx => (risPlace_any n x wx).mono fun e w' h => ⟨by rw [hbp]; exact h.1, then_ hwx h.2⟩
          have HCC : Hid (NBox wr q n ∧ wr.cell? ⟨r, 9, none⟩ = some (.slice (some ⟨bc, oc, none⟩) l.length t.cc) ∧ wr.cell? ⟨bc, oc + i2, none⟩ = some (.int .i64 x)) := ⟨HK.out.1.1.2.1, d9, z0⟩
          obtain ⟨c0, c1, c2, c3, c4⟩ := HK.out.1.1.2.1
          clear hbp hx hac hns
          go_wp2_with fail
          go_region_held3 (fun w' => (w'.cell? ⟨q, 0, none⟩ = some (.slice n.ca n.cols.length n.cc) ∧ w'.cell? ⟨q, 1, none⟩ = some (.slice n.pa n.places.length n.pc) ∧ w'.cell? ⟨q, 2, none⟩ = some (.slice n.ta n.tasks.length n.tc) ∧ w'.cell? ⟨q, 3, none⟩ = some (.int .i64 n.frm) ∧ w'.cell? ⟨q, 4, none⟩ = some (.int .i64 n.too)) ∧ w'.cell? ⟨r, 9, none⟩ = some (.slice (some ⟨bc, oc, none⟩) l.length t.cc) ∧ w'.cell? ⟨bc, oc + i2, none⟩ = some (.int .i64 x)) (go_keep)
            (first | (go_at_call 38; refine (IP2.out _ (by exact (Below.refl _ _).drew)).mono ?_; rintro e w8 ⟨he, hb5⟩; subst he; have g0 := box_below HCC.out.1.1 hb5; have g1 := box_below HCC.out.1.2.1 hb5; have g2 := box_below HCC.out.1.2.2.1 hb5; have g3 := box_below HCC.out.1.2.2.2.1 hb5; have g4 := box_below HCC.out.1.2.2.2.2 hb5; have g5 := box_below HCC.out.2.1 hb5; have g6 := box_below HCC.out.2.2 hb5))
          have H9 : Hid (Lt w w8 q n r t) := HK.out.1.on hb5
          clear g0 g1 g2 g3 g4 g5 g6 c0 c1 c2 c3 c4 d9 z0 IP2 hb5 HCC
          cases bp with
          | false =>
            have e3 : Hid (cancelF n l i2 = 3) := cancelF_3 HBP.out
            have N1 : Hid (eachF t.cancel.length (cancelF n t.cancel) = 3) := by rw [HL.out]; exact (eachF_at hil HK.out.2 (by rw [e3.out]; decide)).trans e3.out
            have E : Hid (taskT n (j : Int) = 3) := E0.out.trans (first11 (m := 8) rfl (fun i hi => by
                  match i, hi with
                  | 0, _ => exact F0.out
                  | 1, _ => exact F1.out
                  | 2, _ => exact F2.out
                  | 3, _ => exact F3.out
                  | 4, _ => exact F4.out
                  | 5, _ => exact F5.out
                  | 6, _ => exact F6.out
                  | 7, _ => exact F7.out
                  | i + 8, hi => exact absurd hi (by omega)) (by decide) N1.out (by decide))
            have HB : Hid (Below w.heap.size w w8) := H9.out.1.1
            go_wp2_with fail
            go_ret
            exact ⟨by rw [E.out]; try rfl, HB.out⟩
          | true =>
          go_wp2_with fail
          go_loopw [10] (fun v wu => ∃ i : Nat, v = .int .i64 (i : Int) ∧ i ≤ i2 ∧ Hid (Lt w wu q n r t ∧ ∀ i', i' < i → l.getD i' 0 ≠ x)) (fun v _ => i2 - (intOf v).toNat)
          case atStart => exact ⟨0, rfl, by omega, H9.out, fun i hi => absurd hi (Nat.not_lt_zero _)⟩
          case round =>
            clear H9
            obtain ⟨i3, rfl, hi3, HJ⟩ := hrel
            obtain ⟨d9, hns⟩ := C9.out wr HJ.out.1
            by_cases h32 : i3 < i2
            · have h32' : (i3 : Int) < i2 := by omega
              have h3l : (i3 : Int) < l.length := by omega
              obtain ⟨bc1, oc1, hac1, z0⟩ := hns.cell hil
              obtain ⟨bc2, oc2, hac2, z1⟩ := hns.cell (k := i3) (by omega)
              have hh1 := hac1.symm.trans HX.out.2
              have hh2 := hac2.symm.trans HX.out.2
              cases hh1
              cases hh2
              rw [hac1] at d9
              rw [← HX.out.1] at z0
              obtain ⟨y, hy⟩ : ∃ y, y = l.getD i3 0 := ⟨_, rfl⟩
              rw [← hy] at z1
              have HY : Hid (y = l.getD i3 0) := hy
              have DN : Hid (∀ m, Below wr.heap.size wr (wr.drewN m)) := fun m => below_drewN (Below.refl _ _) _
              clear hy hac1 hac2 hns
              by_cases hyx : y = x
              · have e5 : Hid (cancelF n l i2 = 5) := cancelF_5 HBP.out (has_at hil h32 (by rw [← HY.out, hyx, HX.out.1]))
                have N1 : Hid (eachF t.cancel.length (cancelF n t.cancel) = 5) := by rw [HL.out]; exact (eachF_at hil HK.out.2 (by rw [e5.out]; decide)).trans e5.out
                have hyb : (y == x) = true := by rw [hyx]; simp
                clear hyx
                have E : Hid (taskT n (j : Int) = 5) := E0.out.trans (first11 (m := 8) rfl (fun i hi => by
                      match i, hi with
                      | 0, _ => exact F0.out
                      | 1, _ => exact F1.out
                      | 2, _ => exact F2.out
                      | 3, _ => exact F3.out
                      | 4, _ => exact F4.out
                      | 5, _ => exact F5.out
                      | 6, _ => exact F6.out
                      | 7, _ => exact F7.out
                      | i + 8, hi => exact absurd hi (by omega)) (by decide) N1.out (by decide))
                have HB : Hid (Below w.heap.size w wr) := HJ.out.1.1.1
                go_wp2_with fail
                go_quiet (fail)
                go_wp2_with fail
                go_ret
                exact ⟨by rw [E.out]; try rfl, then_ HB.out (DN.out _)⟩
              · have hyb : (y == x) = false := beq_eq_false_iff_ne.2 hyx
                have NX : Hid (∀ i', i' < i3 + 1 → l.getD i' 0 ≠ x) := fun i' hi' => by
                  rcases Nat.lt_succ_iff_lt_or_eq.1 hi' with g | g
                  · exact HJ.out.2 i' g
                  · rw [g, ← HY.out]; exact hyx
                go_wp2_with fail
                go_quiet (fail)
                go_wp2_with fail
                go_roundw
                case rel => first | exact ⟨i3 + 1, by simp, by omega, HJ.out.1.on (DN.out _), NX.out⟩ | exact ⟨_, _, ⟨i3 + 1, by go_num, by omega, HJ.out.1.on (DN.out _), NX.out⟩, rfl, rfl⟩
                all_goals (simp [intOf]; omega)
            · have h32' : ¬ (i3 : Int) < i2 := by omega
              have NX : Hid (∀ i', i' < i2 + 1 → cancelF n l i' = 0) := fun i' hi' => by
                rcases Nat.lt_succ_iff_lt_or_eq.1 hi' with g | g
                · exact HK.out.2 i' g
                · rw [g]
                  refine cancelF_0 HBP.out (has_not fun j' hj' => ?_)
                  rw [← HX.out.1]
                  exact HJ.out.2 j' (by omega)
              have HQ : Hid (Lt w wr q n r t) := HJ.out.1
              clear d9 hns
              go_wp2_with fail
              go_roundw
              case rel => first | exact ⟨i2 + 1, by simp, by omega, HQ.out, NX.out⟩ | exact ⟨_, _, ⟨i2 + 1, by go_num, by omega, HQ.out, NX.out⟩, rfl, rfl⟩
              all_goals (simp [intOf]; omega)
        · have hil' : ¬ (i2 : Int) < l.length := by omega
          have F8 : Hid (eachF t.cancel.length (cancelF n t.cancel) = 0) := by rw [HL.out]; exact eachF_none fun i' hi' => HK.out.2 i' (by omega)
          have HQ : Hid (Lt w wr q n r t) := HK.out.1
          obtain ⟨kb, hkb⟩ : ∃ kb, kb = kindsT t := ⟨_, rfl⟩
          have HKB : Hid (kindsT t = kb) := hkb.symm
          have KC : Hid (Calls Tryz.prog 54 #[.agg #[.string t.name, .slice t.va t.vars.length t.vc, .int .i64 t.guard.kind, .int .i64 t.guard.num, .slice t.ga t.guard.kids.length t.gc, .int .i64 t.join, .int .i64 t.split, .slice t.ia t.ins.length t.ic, .slice t.oa t.outs.length t.oc, .slice t.ca t.cancel.length t.cc, .int .i64 t.after, .int .i64 t.m0, .int .i64 t.m1, .int .i64 t.m2]] wr fun e w' => e = .returned (.bool kb) ∧ Below wr.heap.size wr w') := by
            have := rkinds_any t wr
            rw [← hkb] at this
            exact this
          clear hkb HK hns
          have e9 : Hid (t.cancel.length = l.length) := by rw [Hid, HL.out]
          rw [e9.out] at KC
          obtain ⟨d0, d1, d2, d3, d4, d5, d6, d7, d8, d9b, d10, d11, d12, d13⟩ := HQ.out.2.1.cells
          rw [e9.out] at d9b
          clear d9
          go_wp2_with fail
          refine KC.out.mono ?_
          rintro e w9 ⟨he, hb⟩
          subst he
          have HR : Hid (Lt w w9 q n r t) := HQ.out.on hb
          clear hb KC d0 d1 d2 d3 d4 d5 d6 d7 d8 d9b d10 d11 d12 d13 HQ
          cases kb with
          | false =>
            have hkk : (kindsB t || manyB t) = true := by
              have h1 := HKB.out
              unfold kindsT at h1
              revert h1
              cases (kindsB t || manyB t) <;> simp
            have HB : Hid (Below w.heap.size w w9) := HR.out.1.1
            cases hkb : kindsB t with
            | true =>
              have N1 : Hid (errB (kindsB t) 11 = 11) := errB_yes hkb
              have E : Hid (taskT n (j : Int) = 11) := E0.out.trans (first11 (m := 9) rfl (fun i hi => by
                    match i, hi with
                    | 0, _ => exact F0.out
                    | 1, _ => exact F1.out
                    | 2, _ => exact F2.out
                    | 3, _ => exact F3.out
                    | 4, _ => exact F4.out
                    | 5, _ => exact F5.out
                    | 6, _ => exact F6.out
                    | 7, _ => exact F7.out
                    | 8, _ => exact F8.out
                    | i + 9, hi => exact absurd hi (by omega)) (by decide) N1.out (by decide))
              have HB : Hid (Below w.heap.size w w9) := HR.out.1.1
              clear hkk
              go_wp2_with fail
              go_ret
              exact ⟨by rw [E.out]; try rfl, HB.out⟩
            | false =>
              have F9 : Hid (errB (kindsB t) 11 = 0) := errB_no hkb
              have N1 : Hid (errB (manyB t) 11 = 11) := errB_yes (by rw [hkb] at hkk; simpa using hkk)
              have E : Hid (taskT n (j : Int) = 11) := E0.out.trans (first11 (m := 10) rfl (fun i hi => by
                    match i, hi with
                    | 0, _ => exact F0.out
                    | 1, _ => exact F1.out
                    | 2, _ => exact F2.out
                    | 3, _ => exact F3.out
                    | 4, _ => exact F4.out
                    | 5, _ => exact F5.out
                    | 6, _ => exact F6.out
                    | 7, _ => exact F7.out
                    | 8, _ => exact F8.out
                    | 9, _ => exact F9.out
                    | i + 10, hi => exact absurd hi (by omega)) (by decide) N1.out (by decide))
              have HB : Hid (Below w.heap.size w w9) := HR.out.1.1
              clear hkk
              go_wp2_with fail
              go_ret
              exact ⟨by rw [E.out]; try rfl, HB.out⟩
          | true =>
          have hkk : kindsB t = false ∧ manyB t = false := by
            have := HKB.out
            unfold kindsT at this
            simpa using this
          have E : Hid (taskT n (j : Int) = 0) := E0.out.trans (firstNZ_none fun i hi => by
            match i, hi with
            | 0, _ => exact F0.out
            | 1, _ => exact F1.out
            | 2, _ => exact F2.out
            | 3, _ => exact F3.out
            | 4, _ => exact F4.out
            | 5, _ => exact F5.out
            | 6, _ => exact F6.out
            | 7, _ => exact F7.out
            | 8, _ => exact F8.out
            | 9, _ => exact errB_no hkk.1
            | 10, _ => exact errB_no hkk.2
            | i + 11, hi => exact absurd hi (by show ¬ i + 11 < 11; omega))
          have HB : Hid (Below w.heap.size w w9) := HR.out.1.1
          clear hkk
          go_wp2_with fail
          go_ret
          exact ⟨by rw [E.out]; try rfl, HB.out⟩
end Go.Proofs.YtgdkomkflfodaaaGreat.Check
