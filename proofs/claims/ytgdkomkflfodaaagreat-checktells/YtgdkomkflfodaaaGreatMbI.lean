/- Few, of layer 7's statements (is a net small enough?): a contract of the call, over the turned program. -/
import Derived.Test.YtgdkomkflfodaaaGreatMaY
import Derived.Test.YtgdkomkflfodaaaGreatMbG
import Derived.Test.YtgdkomkflfodaaaGreatMbH
namespace Go.Proofs.YtgdkomkflfodaaaGreat.Check
open Go.RowKit Go.Proofs.YtgdkomkflfodaaaGreat.Frame Go.Proofs.YtgdkomkflfodaaaGreat.Colour Go.Proofs.YtgdkomkflfodaaaGreat.Expr
set_option linter.unusedVariables false
set_option linter.unusedSimpArgs false

def FewC (c : Col) : Prop := c.names.length ≤ 400 ∧ c.name.size ≤ 100 ∧ ∀ j, j < c.names.length → (c.names.getD j ByteArray.empty).size ≤ 100
def FewP (p : Pl) : Prop := p.first.length ≤ 400 ∧ p.name.size ≤ 100
def FewT (t : Ta) : Prop := (t.vars.length ≤ 200 ∧ t.ins.length ≤ 200 ∧ t.outs.length ≤ 200 ∧ t.cancel.length ≤ 200) ∧ t.name.size ≤ 100 ∧ (∀ j, j < t.vars.length → (t.vars.getD j nilVa).name.size ≤ 100) ∧ fewB t.guard = true ∧ (∀ j, j < t.ins.length → fewB (t.ins.getD j nilAr).ex = true) ∧ ∀ j, j < t.outs.length → fewB (t.outs.getD j nilAr).ex = true
/-- a net that is small enough -/
def FewN (n : Ne) : Prop := (n.cols.length ≤ 40 ∧ n.places.length ≤ 70 ∧ n.tasks.length ≤ 70) ∧ (∀ j, j < n.cols.length → FewC (n.cols.getD j nilCol)) ∧ (∀ j, j < n.places.length → FewP (n.places.getD j nilPl)) ∧ ∀ j, j < n.tasks.length → FewT (n.tasks.getD j nilTa)
def FewPost (n : Ne) (w : World) (e : Ending) (w' : World) : Prop := ∃ b, e = .returned (.bool b) ∧ (b = true → FewN n) ∧ Below w.heap.size w w'
theorem FewPost.no {n : Ne} {w w' : World} (h : Below w.heap.size w w') : FewPost n w (.returned (.bool false)) w' := ⟨false, rfl, fun h => (by cases h), h⟩
theorem mem_getD {α : Type} {l : List α} {x : α} (h : x ∈ l) (d : α) : ∃ j, j < l.length ∧ l.getD j d = x := by
  obtain ⟨j, hj, rfl⟩ := List.getElem_of_mem h
  exact ⟨j, hj, by rw [List.getD_eq_getElem?_getD, List.getElem?_eq_getElem hj]; rfl⟩
theorem col_mem {n : Ne} {k : Nat} (hk : k < n.cols.length) : n.cols.getD k nilCol ∈ n.cols := by
  rw [List.getD_eq_getElem?_getD, List.getElem?_eq_getElem hk]; exact List.getElem_mem hk
theorem FewN.sm {n : Ne} (h : FewN n) : Sm n := by
  obtain ⟨⟨h1, h2, h3⟩, hc, hp, ht⟩ := h
  refine ⟨⟨by omega, by omega, by omega⟩, fun p hm => ?_, fun t hm => ?_, fun c hm => ?_⟩
  · obtain ⟨j, hj, rfl⟩ := mem_getD hm nilPl
    have := (hp j hj).1; omega
  · obtain ⟨j, hj, rfl⟩ := mem_getD hm nilTa
    have := (ht j hj).1; omega
  · obtain ⟨j, hj, rfl⟩ := mem_getD hm nilCol
    have := (hc j hj).1; omega

set_option maxRecDepth 100000 in
theorem few_wide (n : Ne) (w : World) (hx : 40 < n.cols.length ∨ (n.cols.length ≤ 40 ∧ 70 < n.places.length) ∨ (n.cols.length ≤ 40 ∧ n.places.length ≤ 70 ∧ 70 < n.tasks.length)) : Calls Tryz.prog 8 #[.agg (netC n)] w (FewPost n w) := by
  obtain ⟨wz, hwz⟩ : ∃ wz, wz = w.alloc (.cells (netC n) 26) := ⟨_, rfl⟩
  have HZ : Hid (Below w.heap.size w wz ∧ NBox wz w.heap.size n) := by rw [hwz]; exact ⟨(Below.refl _ _).alloc (Nat.le_refl _) _, NBox.new w n _⟩
  obtain ⟨c0, c1, c2, c3, c4⟩ := HZ.out.2
  unfold netC at hwz ⊢
  rcases hx with hx | hx | hx
  · have x1 : (40 : Int) < n.cols.length := by omega
    clear hx
    go_enter Tryz.func8, Tryz.ntmps8
    go_upto_region 1 with fail
    rw [← hwz]
    clear hwz
    go_wp2_with fail
    go_ret
    exact FewPost.no HZ.out.1
  · have x1 : ¬ (40 : Int) < n.cols.length := by omega
    have x2 : (70 : Int) < n.places.length := by omega
    clear hx
    go_enter Tryz.func8, Tryz.ntmps8
    go_upto_region 1 with fail
    rw [← hwz]
    clear hwz
    go_wp2_with fail
    go_ret
    exact FewPost.no HZ.out.1
  · have x1 : ¬ (40 : Int) < n.cols.length := by omega
    have x2 : ¬ (70 : Int) < n.places.length := by omega
    have x3 : (70 : Int) < n.tasks.length := by omega
    clear hx
    go_enter Tryz.func8, Tryz.ntmps8
    go_upto_region 1 with fail
    rw [← hwz]
    clear hwz
    go_wp2_with fail
    go_ret
    exact FewPost.no HZ.out.1

set_option maxRecDepth 100000 in
set_option maxHeartbeats 4000000 in
theorem netFew_any (n : Ne) (w : World) (h : NeOk w n) (hl : NeLen n) : Calls Tryz.prog 8 #[.agg (netC n)] w (FewPost n w) := by
  by_cases hx : 40 < n.cols.length ∨ (n.cols.length ≤ 40 ∧ 70 < n.places.length) ∨ (n.cols.length ≤ 40 ∧ n.places.length ≤ 70 ∧ 70 < n.tasks.length)
  · exact few_wide n w hx
  have x1 : ¬ (40 : Int) < n.cols.length := by omega
  have x2 : ¬ (70 : Int) < n.places.length := by omega
  have x3 : ¬ (70 : Int) < n.tasks.length := by omega
  have HL : Hid (n.cols.length ≤ 40 ∧ n.places.length ≤ 70 ∧ n.tasks.length ≤ 70) := ⟨by omega, by omega, by omega⟩
  have H0 : Hid (NeOk w n ∧ NeLen n) := ⟨h, hl⟩
  obtain ⟨wz, hwz⟩ : ∃ wz, wz = w.alloc (.cells (netC n) 26) := ⟨_, rfl⟩
  have HZ : Hid (Below w.heap.size w wz ∧ NBox wz w.heap.size n ∧ NeOk wz n) := by rw [hwz]; exact ⟨(Below.refl _ _).alloc (Nat.le_refl _) _, NBox.new w n _, h.below ((Below.refl _ _).alloc (Nat.le_refl _) _)⟩
  clear h hl hx
  obtain ⟨c0, c1, c2, c3, c4⟩ := HZ.out.2.1
  unfold netC at hwz ⊢
  go_enter Tryz.func8, Tryz.ntmps8
  go_upto_region 1 with fail
  rw [← hwz]
  clear hwz
  go_wp2_with fail
  clear x1 x2 x3
  have y1 : n.cols.length ≤ 40 := HL.out.1
  have y2 : n.places.length ≤ 70 := HL.out.2.1
  have y3 : n.tasks.length ≤ 70 := HL.out.2.2
  go_loop [3, 4] (fun p i => ∃ (k P : Nat), p = .int .i64 (P : Int) ∧ i = .int .i64 (k : Int) ∧ k ≤ n.cols.length ∧ P ≤ 400 ∧ Hid (∀ j, j < k → FewC (n.cols.getD j nilCol))) (fun _ i => n.cols.length - (intOf i).toNat)
  case atStart => exact ⟨0, 0, rfl, rfl, by omega, by omega, fun j hj => absurd hj (Nat.not_lt_zero _)⟩
  case round =>
    obtain ⟨k, P, rfl, rfl, hk, hP, HK⟩ := hrel
    by_cases hlt : k < n.cols.length
    · have hlt' : (k : Int) < n.cols.length := by omega
      have hC : Cols wz n.ca n.cols.length n.cols := HZ.out.2.2.2.1
      obtain ⟨b, off, ha, hcol⟩ : ∃ b off, n.ca = some ⟨b, off, none⟩ ∧ ColAt wz b (off + k * 7) (n.cols.getD k nilCol) := by
        rcases hC.2 with h0 | ⟨b, off, ha, hx⟩
        · omega
        · exact ⟨b, off, ha, hx k hlt⟩
      clear hC
      have hnl : (n.cols.getD k nilCol).names.length ≤ 140737488351232 := H0.out.2.1 _ (col_mem hlt)
      obtain ⟨c, hc⟩ : ∃ c, c = n.cols.getD k nilCol := ⟨_, rfl⟩
      rw [← hc] at hcol hnl
      have HC : Hid (c = n.cols.getD k nilCol) := hc
      obtain ⟨⟨e0, e1, e2, e3, e4, e5, e6⟩, hs, hi6⟩ := hcol
      have HS : Hid (Strs wz c.na c.names.length c.names) := hs
      rw [ha] at c0
      clear hs hi6 e1 e2 e3 e5 e6 c1 c2 c3 c4 hc
      by_cases h1 : 100 < c.name.size
      · have h1' : (100 : Int) < c.name.size := by omega
        go_wp2_with fail
        go_ret
        exact FewPost.no HZ.out.1
      have h1' : ¬ (100 : Int) < c.name.size := by omega
      by_cases h2 : 400 < P + c.names.length
      · have h2' : (400 : Int) < P + c.names.length := by omega
        go_wp2_with fail
        go_ret
        exact FewPost.no HZ.out.1
      have h2' : ¬ (400 : Int) < P + c.names.length := by omega
      go_wp2_with fail
      go_loop [5] (fun i => ∃ (j : Nat), i = .int .i64 (j : Int) ∧ j ≤ c.names.length ∧ Hid (∀ j', j' < j → (c.names.getD j' ByteArray.empty).size ≤ 100)) (fun i => c.names.length - (intOf i).toNat)
      case atStart => exact ⟨0, rfl, by omega, fun j hj => absurd hj (Nat.not_lt_zero _)⟩
      case round =>
        obtain ⟨j, rfl, hj, HJ⟩ := hrel
        by_cases hjn : j < c.names.length
        · have hjn' : (j : Int) < c.names.length := by omega
          obtain ⟨b2, o2, hna, hcn⟩ : ∃ b2 o2, c.na = some ⟨b2, o2, none⟩ ∧ wz.cell? ⟨b2, o2 + j, none⟩ = some (.string (c.names.getD j ByteArray.empty)) := by
            rcases HS.out.2 with h0 | ⟨b2, o2, hna, hcn⟩
            · omega
            · exact ⟨b2, o2, hna, hcn j hjn⟩
          rw [hna] at e4
          clear hna
          obtain ⟨s, hs⟩ : ∃ s, s = c.names.getD j ByteArray.empty := ⟨_, rfl⟩
          rw [← hs] at hcn
          have HSS : Hid (s = c.names.getD j ByteArray.empty) := hs
          clear hs
          by_cases h3 : 100 < s.size
          · have h3' : (100 : Int) < s.size := by omega
            go_wp2_with fail
            go_ret
            exact FewPost.no HZ.out.1
          have h3' : ¬ (100 : Int) < s.size := by omega
          have NX : Hid (∀ j', j' < j + 1 → (c.names.getD j' ByteArray.empty).size ≤ 100) := fun j' hj' => by
            rcases Nat.lt_succ_iff_lt_or_eq.1 hj' with h | h
            · exact HJ.out j' h
            · rw [h, ← HSS.out]; omega
          go_wp2_with fail
          go_round
          case rel => exact ⟨j + 1, by simp, by omega, NX⟩
          case measure => simp [intOf]; omega
        · have hjn' : ¬ (j : Int) < c.names.length := by omega
          have NX : Hid (∀ j', j' < k + 1 → FewC (n.cols.getD j' nilCol)) := fun j' hj' => by
            rcases Nat.lt_succ_iff_lt_or_eq.1 hj' with h | h
            · exact HK.out j' h
            · rw [h, ← HC.out]; exact ⟨by omega, by omega, fun j' hj' => HJ.out j' (by omega)⟩
          go_wp2_with fail
          go_round
          case rel => first | exact ⟨k + 1, P + c.names.length, by simp, by simp, by omega, by omega, NX⟩ | exact ⟨_, _, _, ⟨k + 1, P + c.names.length, by simp, by go_num, by omega, by omega, NX⟩, rfl, rfl, rfl⟩
          case measure => simp [intOf]; omega
    · have hlt' : ¬ (k : Int) < n.cols.length := by omega
      have HCS : Hid (∀ j, j < n.cols.length → FewC (n.cols.getD j nilCol)) := fun j hj => HK.out j (by omega)
      clear HK
      go_wp2_with fail
      go_loop [3, 6] (fun p i => ∃ (k P : Nat), p = .int .i64 (P : Int) ∧ i = .int .i64 (k : Int) ∧ k ≤ n.places.length ∧ P ≤ 400 + k * 140737488351232 ∧ Hid (∀ j, j < k → (n.places.getD j nilPl).first.length ≤ P ∧ (n.places.getD j nilPl).name.size ≤ 100)) (fun _ i => n.places.length - (intOf i).toNat)
      case atStart => exact ⟨0, P, rfl, rfl, by omega, by omega, fun j hj => absurd hj (Nat.not_lt_zero _)⟩
      case round =>
        clear hlt hlt' hk hP
        obtain ⟨k, P, rfl, rfl, hk, hP, HK⟩ := hrel
        by_cases hlt : k < n.places.length
        · have hlt' : (k : Int) < n.places.length := by omega
          have hk70 : k < 70 := by have := HL.out.2.1; omega
          obtain ⟨b, off, ha, hr, ho⟩ := HZ.out.2.2.2.2.1.at hlt
          have hnl : (n.places.getD k nilPl).first.length ≤ 140737488351232 := H0.out.2.2.1 _ (place_mem hlt)
          obtain ⟨p, hp⟩ : ∃ p, p = n.places.getD k nilPl := ⟨_, rfl⟩
          rw [← hp] at hr hnl
          have HC : Hid (p = n.places.getD k nilPl) := hp
          have e0 : wz.cell? ⟨b, off + k * 3, none⟩ = some (.string p.name) := hr 0 _ rfl
          have e2 : wz.cell? ⟨b, off + k * 3 + 2, none⟩ = some (.slice p.fa p.first.length p.fc) := hr 2 _ rfl
          rw [ha] at c1
          clear hr ho c0 c2 c3 c4 hp
          by_cases h1 : 100 < p.name.size
          · have h1' : (100 : Int) < p.name.size := by omega
            go_wp2_with fail
            go_ret
            exact FewPost.no HZ.out.1
          have h1' : ¬ (100 : Int) < p.name.size := by omega
          have NX : Hid (∀ j', j' < k + 1 → (n.places.getD j' nilPl).first.length ≤ P + p.first.length ∧ (n.places.getD j' nilPl).name.size ≤ 100) := fun j' hj' => by
            rcases Nat.lt_succ_iff_lt_or_eq.1 hj' with h | h
            · exact ⟨by have := (HK.out j' h).1; omega, (HK.out j' h).2⟩
            · rw [h, ← HC.out]; exact ⟨by omega, by omega⟩
          go_wp2_with fail
          go_round
          case rel => exact ⟨k + 1, P + p.first.length, by simp, by simp, by omega, by omega, NX⟩
          case measure => simp [intOf]; omega
        · have hlt' : ¬ (k : Int) < n.places.length := by omega
          have hP : P ≤ 10000000000000000 := by have := HL.out.2.1; omega
          have HPS : Hid (∀ j, j < n.places.length → (n.places.getD j nilPl).first.length ≤ P ∧ (n.places.getD j nilPl).name.size ≤ 100) := fun j hj => HK.out j (by omega)
          clear HK hk
          go_wp2_with fail
          clear hlt hlt'
          go_loopw [7, 8] (fun p i wr => ∃ (k S : Nat), p = .int .i64 (S : Int) ∧ i = .int .i64 (k : Int) ∧ k ≤ n.tasks.length ∧ S ≤ 200 ∧ Hid (Below wz.heap.size wz wr ∧ ∀ j, j < k → FewT (n.tasks.getD j nilTa))) (fun _ i _ => n.tasks.length - (intOf i).toNat)
          case atStart => exact ⟨0, 0, rfl, rfl, by omega, by omega, Below.refl _ _, fun j hj => absurd hj (Nat.not_lt_zero _)⟩
          case round =>
            obtain ⟨k', S, rfl, rfl, hk, hS, HI⟩ := hrel
            have HZ' : Hid (NBox wr w.heap.size n) := HZ.out.2.1.below HI.out.1
            clear c0 c1 c2 c3 c4
            obtain ⟨c0, c1, c2, c3, c4⟩ := HZ'.out
            by_cases hlt : k' < n.tasks.length
            · have hlt' : (k' : Int) < n.tasks.length := by omega
              obtain ⟨b, off, ha, hr, ho⟩ := (HZ.out.2.2.below HI.out.1).2.2.2.at hlt
              have hlm := H0.out.2.2.2 _ (task_mem hlt)
              obtain ⟨t, ht⟩ : ∃ t, t = n.tasks.getD k' nilTa := ⟨_, rfl⟩
              rw [← ht] at hr ho hlm
              have HT : Hid (t = n.tasks.getD k' nilTa) := ht
              have hv1 : t.vars.length ≤ 140737488351232 := hlm.1
              have hv2 : t.ins.length ≤ 140737488351232 := hlm.2.1
              have hv3 : t.outs.length ≤ 140737488351232 := hlm.2.2.1
              have hv4 : t.cancel.length ≤ 140737488351232 := hlm.2.2.2
              have d0 : wr.cell? ⟨b, off + k' * 14, none⟩ = some (.string t.name) := hr 0 _ rfl
              have d1 : wr.cell? ⟨b, off + k' * 14 + 1, none⟩ = some (.slice t.va t.vars.length t.vc) := hr 1 _ rfl
              have d2 : wr.cell? ⟨b, off + k' * 14 + 2, none⟩ = some (.int .i64 t.guard.kind) := hr 2 _ rfl
              have d3 : wr.cell? ⟨b, off + k' * 14 + 3, none⟩ = some (.int .i64 t.guard.num) := hr 3 _ rfl
              have d4 : wr.cell? ⟨b, off + k' * 14 + 4, none⟩ = some (.slice t.ga t.guard.kids.length t.gc) := hr 4 _ rfl
              have d5 : wr.cell? ⟨b, off + k' * 14 + 5, none⟩ = some (.int .i64 t.join) := hr 5 _ rfl
              have d6 : wr.cell? ⟨b, off + k' * 14 + 6, none⟩ = some (.int .i64 t.split) := hr 6 _ rfl
              have d7 : wr.cell? ⟨b, off + k' * 14 + 7, none⟩ = some (.slice t.ia t.ins.length t.ic) := hr 7 _ rfl
              have d8 : wr.cell? ⟨b, off + k' * 14 + 8, none⟩ = some (.slice t.oa t.outs.length t.oc) := hr 8 _ rfl
              have d9 : wr.cell? ⟨b, off + k' * 14 + 9, none⟩ = some (.slice t.ca t.cancel.length t.cc) := hr 9 _ rfl
              have d10 : wr.cell? ⟨b, off + k' * 14 + 10, none⟩ = some (.int .i64 t.after) := hr 10 _ rfl
              have d11 : wr.cell? ⟨b, off + k' * 14 + 11, none⟩ = some (.int .i64 t.m0) := hr 11 _ rfl
              have d12 : wr.cell? ⟨b, off + k' * 14 + 12, none⟩ = some (.int .i64 t.m1) := hr 12 _ rfl
              have d13 : wr.cell? ⟨b, off + k' * 14 + 13, none⟩ = some (.int .i64 t.m2) := hr 13 _ rfl
              have hbl : b < wr.heap.size := World.block_lt_of_cell? _ _ d0
              have HO : Hid (TaOk wr t) := ho
              rw [ha] at c2
              clear hr ho hlm ht ha
              go_upto_region 26 with fail
              obtain ⟨w4, hw4⟩ : ∃ w4, w4 = wr.alloc (.cells #[.string t.name, .slice t.va t.vars.length t.vc, .int .i64 t.guard.kind, .int .i64 t.guard.num, .slice t.ga t.guard.kids.length t.gc, .int .i64 t.join, .int .i64 t.split, .slice t.ia t.ins.length t.ic, .slice t.oa t.outs.length t.oc, .slice t.ca t.cancel.length t.cc, .int .i64 t.after, .int .i64 t.m0, .int .i64 t.m1, .int .i64 t.m2] 53) := ⟨_, rfl⟩
              obtain ⟨q, hq⟩ : ∃ q, q = wr.heap.size := ⟨_, rfl⟩
              have hb4 : Below wr.heap.size wr w4 := by rw [hw4]; exact (Below.refl _ _).alloc (Nat.le_refl _) _
              have hrun : ∀ j v, t.cells[j]? = some v → w4.cell? ⟨q, j, none⟩ = some v := fun j v hv => by
                rw [hw4, World.cell?_alloc_at _ _ _ _ hq]
                have : (List.toArray t.cells)[j]? = some v := by simpa using hv
                exact this
              have H4 : Hid (Below wz.heap.size wz w4 ∧ TaOk w4 t) := ⟨then_ HI.out.1 hb4, HO.out.below hb4⟩
              rw [← hw4, ← hq]
              clear hw4 hq d0 d1 d2 d3 d4 d5 d6 d7 d8 d9 d10 d11 d12 d13 hbl HO hb4 c0 c1 c2 c3 c4 HZ'
              have HR : Hid (∀ j v, t.cells[j]? = some v → w4.cell? ⟨q, j, none⟩ = some v) := hrun
              have d0 : w4.cell? ⟨q, 0, none⟩ = some (.string t.name) := hrun 0 _ rfl
              have d1 : w4.cell? ⟨q, 1, none⟩ = some (.slice t.va t.vars.length t.vc) := hrun 1 _ rfl
              have d2 : w4.cell? ⟨q, 2, none⟩ = some (.int .i64 t.guard.kind) := hrun 2 _ rfl
              have d3 : w4.cell? ⟨q, 3, none⟩ = some (.int .i64 t.guard.num) := hrun 3 _ rfl
              have d4 : w4.cell? ⟨q, 4, none⟩ = some (.slice t.ga t.guard.kids.length t.gc) := hrun 4 _ rfl
              have d7 : w4.cell? ⟨q, 5 + 2, none⟩ = some (.slice t.ia t.ins.length t.ic) := hrun 7 _ rfl
              have d8 : w4.cell? ⟨q, 8, none⟩ = some (.slice t.oa t.outs.length t.oc) := hrun 8 _ rfl
              have d9 : w4.cell? ⟨q, 9, none⟩ = some (.slice t.ca t.cancel.length t.cc) := hrun 9 _ rfl
              clear hrun
              have hq4 : q < w4.heap.size := World.block_lt_of_cell? _ _ d0
              obtain ⟨S', hS'⟩ : ∃ S', S' = S + t.vars.length + t.ins.length + t.outs.length + t.cancel.length := ⟨_, rfl⟩
              by_cases h1 : 200 < S'
              · have h1' : (200 : Int) < (S : Int) + t.vars.length + t.ins.length + t.outs.length + t.cancel.length := by omega
                go_wp2_with fail
                go_ret
                exact FewPost.no (then_ HZ.out.1 H4.out.1)
              have h1' : ¬ (200 : Int) < (S : Int) + t.vars.length + t.ins.length + t.outs.length + t.cancel.length := by omega
              by_cases h2 : 100 < t.name.size
              · have h2' : (100 : Int) < t.name.size := by omega
                go_wp2_with fail
                go_ret
                exact FewPost.no (then_ HZ.out.1 H4.out.1)
              have h2' : ¬ (100 : Int) < t.name.size := by omega
              have HSM : Hid ((t.vars.length ≤ 200 ∧ t.ins.length ≤ 200 ∧ t.outs.length ≤ 200 ∧ t.cancel.length ≤ 200) ∧ t.name.size ≤ 100) := ⟨⟨by omega, by omega, by omega, by omega⟩, by omega⟩
              go_wp2_with fail
              clear h1' h2' h2
              go_loop [10] (fun i => ∃ (j : Nat), i = .int .i64 (j : Int) ∧ j ≤ t.vars.length ∧ Hid (∀ j', j' < j → (t.vars.getD j' nilVa).name.size ≤ 100)) (fun i => t.vars.length - (intOf i).toNat)
              case atStart => exact ⟨0, rfl, by omega, fun j hj => absurd hj (Nat.not_lt_zero _)⟩
              case round =>
                obtain ⟨j, rfl, hj, HJ⟩ := hrel
                by_cases hjn : j < t.vars.length
                · have hjn' : (j : Int) < t.vars.length := by omega
                  obtain ⟨b2, o2, hna, hr2, _⟩ := H4.out.2.2.2.1.at hjn
                  obtain ⟨v, hv⟩ : ∃ v, v = t.vars.getD j nilVa := ⟨_, rfl⟩
                  rw [← hv] at hr2
                  have HV : Hid (v = t.vars.getD j nilVa) := hv
                  have f0 : w4.cell? ⟨b2, o2 + j * 2, none⟩ = some (.string v.name) := hr2 0 _ rfl
                  rw [hna] at d1
                  clear hna hv hr2
                  by_cases h3 : 100 < v.name.size
                  · have h3' : (100 : Int) < v.name.size := by omega
                    go_wp2_with fail
                    go_ret
                    exact FewPost.no (then_ HZ.out.1 H4.out.1)
                  have h3' : ¬ (100 : Int) < v.name.size := by omega
                  have NX : Hid (∀ j', j' < j + 1 → (t.vars.getD j' nilVa).name.size ≤ 100) := fun j' hj' => by
                    rcases Nat.lt_succ_iff_lt_or_eq.1 hj' with h | h
                    · exact HJ.out j' h
                    · rw [h, ← HV.out]; omega
                  go_wp2_with fail
                  go_round
                  case rel => exact ⟨j + 1, by simp, by omega, NX⟩
                  case measure => simp [intOf]; omega
                · have hjn' : ¬ (j : Int) < t.vars.length := by omega
                  have HVS : Hid (∀ j', j' < t.vars.length → (t.vars.getD j' nilVa).name.size ≤ 100) := fun j' hj' => HJ.out j' (by omega)
                  have FG : Hid (Calls Tryz.prog 25 #[.agg #[.int .i64 t.guard.kind, .int .i64 t.guard.num, .slice t.ga t.guard.kids.length t.gc]] w4 fun e w' => e = .returned (.bool (fewB t.guard)) ∧ Below w4.heap.size w4 w') := Few_any t.guard w4 t.ga t.gc H4.out.2.2.1
                  obtain ⟨bg, hbg⟩ : ∃ bg, bg = fewB t.guard := ⟨_, rfl⟩
                  rw [← hbg] at FG
                  have HBG : Hid (bg = fewB t.guard) := hbg
                  clear HJ hbg hj
                  go_wp2_with fail
                  refine FG.out.mono ?_
                  rintro e w5 ⟨he, hb5⟩
                  subst he
                  have H5 : Hid (Below w4.heap.size w4 w5) := hb5
                  clear hb5 FG hjn hjn' d0 d1 d2 d3 d4 d7 d8 d9
                  go_wp2_with fail
                  go_loopw [11, 12] (fun o i wv => ∃ (j : Nat) (ok : Bool), o = .bool ok ∧ i = .int .i64 (j : Int) ∧ j ≤ t.ins.length ∧ Hid (Below w4.heap.size w4 wv ∧ (ok = true → fewB t.guard = true ∧ ∀ j', j' < j → fewB (t.ins.getD j' nilAr).ex = true))) (fun _ i _ => t.ins.length - (intOf i).toNat)
                  case atStart => exact ⟨0, bg, rfl, rfl, by omega, H5.out, fun h => ⟨by rw [← HBG.out, h], fun j hj => absurd hj (Nat.not_lt_zero _)⟩⟩
                  case round =>
                    obtain ⟨j, ok, rfl, rfl, hj, HJ⟩ := hrel
                    have d7 := box_below (HR.out 7 _ rfl) HJ.out.1
                    by_cases hjn : j < t.ins.length
                    · have hjn' : (j : Int) < t.ins.length := by omega
                      obtain ⟨b2, o2, hna, hr2, hok2⟩ := (H4.out.2.below HJ.out.1).2.2.2.1.at hjn
                      obtain ⟨x, hx⟩ : ∃ x, x = t.ins.getD j nilAr := ⟨_, rfl⟩
                      rw [← hx] at hr2 hok2
                      have HX : Hid (x = t.ins.getD j nilAr) := hx
                      have f1 : wr.cell? ⟨b2, o2 + j * 4 + 1, none⟩ = some (.int .i64 x.ex.kind) := hr2 1 _ rfl
                      have f2 : wr.cell? ⟨b2, o2 + j * 4 + 2, none⟩ = some (.int .i64 x.ex.num) := hr2 2 _ rfl
                      have f3 : wr.cell? ⟨b2, o2 + j * 4 + 3, none⟩ = some (.slice x.ka x.ex.kids.length x.kc) := hr2 3 _ rfl
                      have FX : Hid (Calls Tryz.prog 25 #[.agg #[.int .i64 x.ex.kind, .int .i64 x.ex.num, .slice x.ka x.ex.kids.length x.kc]] wr fun e w' => e = .returned (.bool (fewB x.ex)) ∧ Below wr.heap.size wr w') := Few_any x.ex wr x.ka x.kc hok2.2
                      obtain ⟨bx, hbx⟩ : ∃ bx, bx = fewB x.ex := ⟨_, rfl⟩
                      rw [← hbx] at FX
                      have HBX : Hid (bx = fewB x.ex) := hbx
                      rw [hna] at d7
                      clear hna hx hr2 hok2 hbx
                      cases ok with
                      | false =>
                        go_wp2_with fail
                        refine FX.out.mono ?_
                        rintro e w6 ⟨he, hb6⟩
                        subst he
                        have H6 : Hid (Below w4.heap.size w4 w6) := then_ HJ.out.1 hb6
                        clear hb6 FX d7 f1 f2 f3
                        go_wp2_with fail
                        go_roundw
                        case rel => exact ⟨j + 1, false, by simp, by simp, by omega, H6.out, fun h => (by cases h)⟩
                        case measure => simp [intOf]; omega
                      | true =>
                        go_wp2_with fail
                        refine FX.out.mono ?_
                        rintro e w6 ⟨he, hb6⟩
                        subst he
                        have H6 : Hid (Below w4.heap.size w4 w6 ∧ (bx = true → fewB t.guard = true ∧ ∀ j', j' < j + 1 → fewB (t.ins.getD j' nilAr).ex = true)) := ⟨then_ HJ.out.1 hb6, fun h => ⟨(HJ.out.2 (by simp)).1, fun j' hj' => by
                          rcases Nat.lt_succ_iff_lt_or_eq.1 hj' with g | g
                          · exact (HJ.out.2 (by simp)).2 j' g
                          · rw [g, ← HX.out, ← HBX.out, h]⟩⟩
                        clear hb6 FX d7 f1 f2 f3
                        go_wp2_with fail
                        go_roundw
                        case rel => exact ⟨j + 1, bx, by simp, by simp, by omega, H6.out⟩
                        case measure => simp [intOf]; omega
                    · have hjn' : ¬ (j : Int) < t.ins.length := by omega
                      have HIN : Hid (Below w4.heap.size w4 wr ∧ (ok = true → fewB t.guard = true ∧ ∀ j', j' < t.ins.length → fewB (t.ins.getD j' nilAr).ex = true)) := ⟨HJ.out.1, fun h => ⟨(HJ.out.2 h).1, fun j' hj' => (HJ.out.2 h).2 j' (by omega)⟩⟩
                      clear HJ
                      go_wp2_with fail
                      clear d7 hjn hjn' hj
                      go_loopw [11, 14] (fun o i wv => ∃ (j : Nat) (ok : Bool), o = .bool ok ∧ i = .int .i64 (j : Int) ∧ j ≤ t.outs.length ∧ Hid (Below w4.heap.size w4 wv ∧ (ok = true → fewB t.guard = true ∧ (∀ j', j' < t.ins.length → fewB (t.ins.getD j' nilAr).ex = true) ∧ ∀ j', j' < j → fewB (t.outs.getD j' nilAr).ex = true))) (fun _ i _ => t.outs.length - (intOf i).toNat)
                      case atStart => exact ⟨0, ok, rfl, rfl, by omega, HIN.out.1, fun h => ⟨(HIN.out.2 h).1, (HIN.out.2 h).2, fun j hj => absurd hj (Nat.not_lt_zero _)⟩⟩
                      case round =>
                        clear HIN
                        obtain ⟨j, ok, rfl, rfl, hj, HJ⟩ := hrel
                        have d8 := box_below (HR.out 8 _ rfl) HJ.out.1
                        by_cases hjn : j < t.outs.length
                        · have hjn' : (j : Int) < t.outs.length := by omega
                          obtain ⟨b2, o2, hna, hr2, hok2⟩ := (H4.out.2.below HJ.out.1).2.2.2.2.1.at hjn
                          obtain ⟨x, hx⟩ : ∃ x, x = t.outs.getD j nilAr := ⟨_, rfl⟩
                          rw [← hx] at hr2 hok2
                          have HX : Hid (x = t.outs.getD j nilAr) := hx
                          have f1 : wr.cell? ⟨b2, o2 + j * 4 + 1, none⟩ = some (.int .i64 x.ex.kind) := hr2 1 _ rfl
                          have f2 : wr.cell? ⟨b2, o2 + j * 4 + 2, none⟩ = some (.int .i64 x.ex.num) := hr2 2 _ rfl
                          have f3 : wr.cell? ⟨b2, o2 + j * 4 + 3, none⟩ = some (.slice x.ka x.ex.kids.length x.kc) := hr2 3 _ rfl
                          have FX : Hid (Calls Tryz.prog 25 #[.agg #[.int .i64 x.ex.kind, .int .i64 x.ex.num, .slice x.ka x.ex.kids.length x.kc]] wr fun e w' => e = .returned (.bool (fewB x.ex)) ∧ Below wr.heap.size wr w') := Few_any x.ex wr x.ka x.kc hok2.2
                          obtain ⟨bx, hbx⟩ : ∃ bx, bx = fewB x.ex := ⟨_, rfl⟩
                          rw [← hbx] at FX
                          have HBX : Hid (bx = fewB x.ex) := hbx
                          rw [hna] at d8
                          clear hna hx hr2 hok2 hbx
                          cases ok with
                          | false =>
                            go_wp2_with fail
                            refine FX.out.mono ?_
                            rintro e w6 ⟨he, hb6⟩
                            subst he
                            have H6 : Hid (Below w4.heap.size w4 w6) := then_ HJ.out.1 hb6
                            clear hb6 FX d8 f1 f2 f3
                            go_wp2_with fail
                            go_roundw
                            case rel => exact ⟨j + 1, false, by simp, by simp, by omega, H6.out, fun h => (by cases h)⟩
                            case measure => simp [intOf]; omega
                          | true =>
                            go_wp2_with fail
                            refine FX.out.mono ?_
                            rintro e w6 ⟨he, hb6⟩
                            subst he
                            have H6 : Hid (Below w4.heap.size w4 w6 ∧ (bx = true → fewB t.guard = true ∧ (∀ j', j' < t.ins.length → fewB (t.ins.getD j' nilAr).ex = true) ∧ ∀ j', j' < j + 1 → fewB (t.outs.getD j' nilAr).ex = true)) := ⟨then_ HJ.out.1 hb6, fun h => ⟨(HJ.out.2 (by simp)).1, (HJ.out.2 (by simp)).2.1, fun j' hj' => by
                              rcases Nat.lt_succ_iff_lt_or_eq.1 hj' with g | g
                              · exact (HJ.out.2 (by simp)).2.2 j' g
                              · rw [g, ← HX.out, ← HBX.out, h]⟩⟩
                            clear hb6 FX d8 f1 f2 f3
                            go_wp2_with fail
                            go_roundw
                            case rel => exact ⟨j + 1, bx, by simp, by simp, by omega, H6.out⟩
                            case measure => simp [intOf]; omega
                        · have hjn' : ¬ (j : Int) < t.outs.length := by omega
                          cases ok with
                          | false =>
                            go_wp2_with fail
                            go_ret
                            exact FewPost.no (then_ HZ.out.1 (then_ H4.out.1 HJ.out.1))
                          | true =>
                            have NX : Hid (Below wz.heap.size wz wr ∧ ∀ j', j' < k' + 1 → FewT (n.tasks.getD j' nilTa)) := ⟨then_ H4.out.1 HJ.out.1, fun j' hj' => by
                              rcases Nat.lt_succ_iff_lt_or_eq.1 hj' with g | g
                              · exact HI.out.2 j' g
                              · rw [g, ← HT.out]
                                exact ⟨HSM.out.1, HSM.out.2, HVS.out, (HJ.out.2 (by simp)).1, (HJ.out.2 (by simp)).2.1, fun i hi => (HJ.out.2 (by simp)).2.2 i (by omega)⟩⟩
                            clear HJ
                            go_wp2_with fail
                            go_roundw
                            case rel => exact ⟨k' + 1, S', by rw [hS']; simp, by simp, by omega, by omega, NX⟩
                            case measure => simp [intOf]; omega
            · have hlt' : ¬ (k' : Int) < n.tasks.length := by omega
              have HF : Hid (P ≤ 400 → FewN n) := fun hp => ⟨HL.out, HCS.out, fun j hj => ⟨by have := (HPS.out j hj).1; omega, (HPS.out j hj).2⟩, fun j hj => HI.out.2 j (by omega)⟩
              have HB : Hid (Below wz.heap.size wz wr) := HI.out.1
              clear HI
              go_wp2_with fail
              go_ret
              exact ⟨_, rfl, fun h => HF.out (by simp at h; omega), then_ HZ.out.1 HB.out⟩
end Go.Proofs.YtgdkomkflfodaaaGreat.Check
