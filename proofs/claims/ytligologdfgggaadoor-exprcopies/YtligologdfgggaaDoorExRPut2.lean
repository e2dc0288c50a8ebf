/- The document's own Put: a contract of the call, over the turned program. -/
import Derived.Test.YtligologdfgggaaDoorExRPut
import Derived.Deep.RegionLaw
import Derived.Deep.Cut
namespace Go.Proofs.YtligologdfgggaaDoor.Expr
open Go.RowKit Go.Proofs.YtligologdfgggaaDoor.Frame Go.Proofs.YtligologdfgggaaDoor.Calc
set_option linter.unusedVariables false
set_option linter.unusedSimpArgs false

theorem carry3 {ok : Nat → Nat → Prop} {w : World} {Z : Nat} {t : Ex} {a : Option Addr} (u0 u1 u2 : Value) (h : XG ok w t a) (hz : ∀ b off, ok b off → b ≠ Z) : XG ok (((w.setCell ⟨Z, 0, none⟩ u0).setCell ⟨Z, 1, none⟩ u1).setCell ⟨Z, 2, none⟩ u2) t a :=
  h.carry fun b off o hok v hv => by
    have hne : ∀ j, (⟨Z, j, none⟩ : Addr) ≠ ⟨b, o, none⟩ := fun j e => hz b off hok (congrArg Addr.block e).symm
    rw [World.cell?_setCell_other _ _ _ _ (hne 2), World.cell?_setCell_other _ _ _ _ (hne 1), World.cell?_setCell_other _ _ _ _ (hne 0)]
    exact hv
/-- the four boxes -/
abbrev putW (w : World) (k n : Int) (a : Option Addr) (len c : Nat) (y : Ex) (ay : Option Addr) (cy : Nat) : World :=
  (((w.alloc (.cells #[.int .i64 k, .int .i64 n, .slice a len c] 24)).alloc (.cells #[.int .i64 y.kind, .int .i64 y.num, .slice ay y.kids.length cy] 24)).alloc (.cells #[.int .i64 0, .int .i64 0, .slice none 0 0] 24)).alloc (.cells #[.int .i64 k, .int .i64 n, .slice none 0 0] 24)
theorem putW_facts (w : World) (k n : Int) (a : Option Addr) (len c : Nat) (y : Ex) (ay : Option Addr) (cy : Nat) :
    (putW w k n a len c y ay cy).heap.size = w.heap.size + 4 ∧ Below w.heap.size w (putW w k n a len c y ay cy) ∧ (∀ j, (putW w k n a len c y ay cy).cell? ⟨w.heap.size, j, none⟩ = #[Value.int .i64 k, .int .i64 n, .slice a len c][j]?) ∧
    (∀ j, (putW w k n a len c y ay cy).cell? ⟨w.heap.size + 1, j, none⟩ = #[Value.int .i64 y.kind, .int .i64 y.num, .slice ay y.kids.length cy][j]?) ∧ (∀ j, (putW w k n a len c y ay cy).cell? ⟨w.heap.size + 1 + 1, j, none⟩ = #[Value.int .i64 0, .int .i64 0, .slice none 0 0][j]?) ∧
    (∀ j, (putW w k n a len c y ay cy).cell? ⟨w.heap.size + 1 + 1 + 1, j, none⟩ = #[Value.int .i64 k, .int .i64 n, .slice none 0 0][j]?) ∧ (∀ j, (putW w k n a len c y ay cy).frozen? ⟨w.heap.size + 1 + 1, j, none⟩ = false) ∧ (∀ j, (putW w k n a len c y ay cy).frozen? ⟨w.heap.size + 1 + 1 + 1, j, none⟩ = false) := by
  refine ⟨by simp, ?_, fun j => ?_, fun j => ?_, fun j => ?_, fun j => ?_, fun j => ?_, fun j => ?_⟩
  · exact ((((Below.refl _ _).alloc (Nat.le_refl _) _).alloc (by simp) _).alloc (by simp; omega) _).alloc (by simp; omega) _
  · rw [World.cell?_alloc_lt _ _ _ (by first | (simp; done) | (simp; omega)), World.cell?_alloc_lt _ _ _ (by first | (simp; done) | (simp; omega)), World.cell?_alloc_lt _ _ _ (by first | (simp; done) | (simp; omega))]
    exact World.cell?_alloc_at _ _ _ _ rfl
  · rw [World.cell?_alloc_lt _ _ _ (by first | (simp; done) | (simp; omega)), World.cell?_alloc_lt _ _ _ (by first | (simp; done) | (simp; omega))]
    exact World.cell?_alloc_at _ _ _ _ (by simp)
  · rw [World.cell?_alloc_lt _ _ _ (by first | (simp; done) | (simp; omega))]
    exact World.cell?_alloc_at _ _ _ _ (by simp)
  · exact World.cell?_alloc_at _ _ _ _ (by simp)
  · have h : (((w.alloc (.cells #[.int .i64 k, .int .i64 n, .slice a len c] 24)).alloc (.cells #[.int .i64 y.kind, .int .i64 y.num, .slice ay y.kids.length cy] 24)).alloc (.cells #[.int .i64 0, .int .i64 0, .slice none 0 0] 24)).frozen? ⟨w.heap.size + 1 + 1, j, none⟩ = false := World.frozen?_alloc_at _ _ _ _ (by simp)
    have hb : Below (((w.alloc (.cells #[.int .i64 k, .int .i64 n, .slice a len c] 24)).alloc (.cells #[.int .i64 y.kind, .int .i64 y.num, .slice ay y.kids.length cy] 24)).alloc (.cells #[.int .i64 0, .int .i64 0, .slice none 0 0] 24)).heap.size _ (putW w k n a len c y ay cy) := al1 _ _
    exact (hb.frozen (p := ⟨w.heap.size + 1 + 1, j, none⟩) (by simp)).trans h
  · exact World.frozen?_alloc_at _ _ _ _ (by simp)

set_option maxRecDepth 100000 in
set_option maxHeartbeats 4000000 in
theorem rput_hit (v : Int) (y : Ex) (ks : List Ex) (w : World) (a ay : Option Addr) (c cy B : Nat) (hy : XG (fun b _ => b < B) w y ay) :
    Calls Tryd.prog 13 #[.agg #[.int .i64 2, .int .i64 v, .slice a ks.length c], .int .i64 v, .agg #[.int .i64 y.kind, .int .i64 y.num, .slice ay y.kids.length cy]] w (RPutPost B y w) := by
  have HY : Hid (XG (fun b _ => b < B) w y ay) := hy
  clear hy
  generalize ks.length = len
  go_enter Tryd.func13, Tryd.ntmps13
  go_wp2_with fail
  refine bodyPost_ret (v := .agg #[.int .i64 y.kind, .int .i64 y.num, .slice ay y.kids.length cy]) ?_ rfl ⟨ay, cy, rfl, ?_, ?_⟩
  · simp [results, Tryd.results13, go_sem]
  · exact (HY.out.below ((((Below.refl _ _).alloc (Nat.le_refl _) _).alloc (by simp) _).alloc (by simp; omega) _)).mono fun b _ h => .inl h
  · exact (((Below.refl _ _).alloc (Nat.le_refl _) _).alloc (by simp) _).alloc (by simp; omega) _

theorem PInv.slice {F : Ex → Ex} {B R0 : Nat} {ks : List Ex} {j : Nat} {v : Value} {wr : World} (h : PInv F B R0 ks j v wr) : ∃ p l m, v = .slice p l m := by
  obtain ⟨ys, _, h2, _⟩ := h
  rcases h2.2 with ⟨h, _⟩ | ⟨g, cap, cur, e1, _⟩
  · exact ⟨_, _, _, h⟩
  · exact ⟨_, _, _, e1⟩
/-- what is read in a round -/
def PutS (w : World) (a : Option Addr) (len c : Nat) (y : Ex) (ay : Option Addr) (cy b1 o1 : Nat) (x : Ex) (ax : Option Addr) (cx : Nat) (w' : World) : Prop :=
  w'.cell? ⟨w.heap.size, 2, none⟩ = some (.slice a len c) ∧ (w'.cell? ⟨w.heap.size + 1, 0, none⟩ = some (.int .i64 y.kind) ∧ w'.cell? ⟨w.heap.size + 1, 1, none⟩ = some (.int .i64 y.num) ∧ w'.cell? ⟨w.heap.size + 1, 2, none⟩ = some (.slice ay y.kids.length cy)) ∧ (w'.cell? ⟨b1, o1, none⟩ = some (.int .i64 x.kind) ∧ w'.cell? ⟨b1, o1 + 1, none⟩ = some (.int .i64 x.num) ∧ w'.cell? ⟨b1, o1 + 2, none⟩ = some (.slice ax x.kids.length cx))
theorem PutS.below {w : World} {a : Option Addr} {len c : Nat} {y : Ex} {ay : Option Addr} {cy b1 o1 : Nat} {x : Ex} {ax : Option Addr} {cx : Nat} {w1 w2 : World} {R : Nat} (h : PutS w a len c y ay cy b1 o1 x ax cx w1) (hR : w.heap.size + 1 < R) (hb1 : b1 < R) (hb : Below R w1 w2) : PutS w a len c y ay cy b1 o1 x ax cx w2 :=
  ⟨(hb.cell (p := ⟨w.heap.size, 2, none⟩) (show w.heap.size < R by omega)).trans h.1, ⟨(hb.cell (p := ⟨w.heap.size + 1, 0, none⟩) hR).trans h.2.1.1, (hb.cell (p := ⟨w.heap.size + 1, 1, none⟩) hR).trans h.2.1.2.1, (hb.cell (p := ⟨w.heap.size + 1, 2, none⟩) hR).trans h.2.1.2.2⟩,
    (hb.cell (p := ⟨b1, _, none⟩) hb1).trans h.2.2.1, (hb.cell (p := ⟨b1, _, none⟩) hb1).trans h.2.2.2.1, (hb.cell (p := ⟨b1, _, none⟩) hb1).trans h.2.2.2.2⟩

set_option maxRecDepth 100000 in
set_option maxHeartbeats 4000000 in
theorem rput_miss (v : Int) (y : Ex) (k n : Int) (ks : List Ex) (w : World) (a ay : Option Addr) (c cy B : Nat) (hx : X w ⟨k, n, ks⟩ a) (hy : XG (fun b _ => b < B) w y ay) (hB : B ≤ w.heap.size) (hl : ks.length ≤ 1000000) (hkn : ¬ (k = 2 ∧ n = v))
    (hK : ∀ (x : Ex), x ∈ ks → ∀ (wx : World) (ax : Option Addr) (cx : Nat), Below w.heap.size w wx → X wx x ax → Calls Tryd.prog 13 #[.agg #[.int .i64 x.kind, .int .i64 x.num, .slice ax x.kids.length cx], .int .i64 v, .agg #[.int .i64 y.kind, .int .i64 y.num, .slice ay y.kids.length cy]] wx (RPutPost B (putF v y x) wx)) :
    Calls Tryd.prog 13 #[.agg #[.int .i64 k, .int .i64 n, .slice a ks.length c], .int .i64 v, .agg #[.int .i64 y.kind, .int .i64 y.num, .slice ay y.kids.length cy]] w (RPutPost B ⟨k, n, ks.map (putF v y)⟩ w) := by
  have HX : Hid (X w ⟨k, n, ks⟩ a) := hx
  have HK : Hid (∀ (x : Ex), x ∈ ks → ∀ (wx : World) (ax : Option Addr) (cx : Nat), Below w.heap.size w wx → X wx x ax → Calls Tryd.prog 13 #[.agg #[.int .i64 x.kind, .int .i64 x.num, .slice ax x.kids.length cx], .int .i64 v, .agg #[.int .i64 y.kind, .int .i64 y.num, .slice ay y.kids.length cy]] wx (RPutPost B (putF v y x) wx)) := hK
  have HN : Hid (In64 k ∧ In64 n) := hx.node
  clear hx hy hK
  obtain ⟨len, hlen⟩ : ∃ len, len = ks.length := ⟨_, rfl⟩
  rw [← hlen] at hl ⊢
  have HL : Hid (len = ks.length) := hlen
  clear hlen
  obtain ⟨W0, hW⟩ : ∃ W0, W0 = putW w k n a len c y ay cy := ⟨_, rfl⟩
  obtain ⟨p1, p2, p3, p4, p5, p6, p7, p8⟩ := putW_facts w k n a len c y ay cy
  rw [← hW] at p1 p2 p3 p4 p5 p6 p7 p8
  have HF : Hid ((∀ j, W0.cell? ⟨w.heap.size, j, none⟩ = #[Value.int .i64 k, .int .i64 n, .slice a len c][j]?) ∧ (∀ j, W0.cell? ⟨w.heap.size + 1, j, none⟩ = #[Value.int .i64 y.kind, .int .i64 y.num, .slice ay y.kids.length cy][j]?) ∧ (∀ j, W0.cell? ⟨w.heap.size + 1 + 1, j, none⟩ = #[Value.int .i64 0, .int .i64 0, .slice none 0 0][j]?) ∧ (∀ j, W0.cell? ⟨w.heap.size + 1 + 1 + 1, j, none⟩ = #[Value.int .i64 k, .int .i64 n, .slice none 0 0][j]?) ∧ (∀ j, W0.frozen? ⟨w.heap.size + 1 + 1, j, none⟩ = false) ∧ (∀ j, W0.frozen? ⟨w.heap.size + 1 + 1 + 1, j, none⟩ = false)) := ⟨p3, p4, p5, p6, p7, p8⟩
  have P0 : Hid (PInv (putF v y) B (w.heap.size + 4) ks 0 (.slice none 0 0) W0) := ⟨[], rfl, World.ownsRow_nil _ _ _ _, fun i hi => (by omega)⟩
  have K0 : Hid (KO W0 (w.heap.size + 4) (w.heap.size + 1 + 1 + 1) (.slice none 0 0) W0) := ⟨fun _ _ _ _ => rfl, fun _ _ _ => rfl, (p6 2).trans rfl, by omega⟩
  have HB0 : Hid (Below w.heap.size w W0) := p2
  have HW : Hid (W0 = putW w k n a len c y ay cy) := hW
  clear p1 p2 p3 p4 p5 p6 p7 p8 hW
  have main : k = 2 ∧ ¬ n = v ∨ ¬ k = 2 := by omega
  clear hkn
  go_enter Tryd.func13, Tryd.ntmps13
  go_upto_region 1 with (fail)
  go_cut [17] from 9 (fun s wc => s = .bool false ∧ wc = ((w.alloc (.cells #[.int .i64 k, .int .i64 n, .slice a len c] 24)).alloc (.cells #[.int .i64 y.kind, .int .i64 y.num, .slice ay y.kids.length cy] 24)).alloc (.cells #[.int .i64 0, .int .i64 0, .slice none 0 0] 24))
  case first =>
    rcases main with ⟨rfl, hn⟩ | hk
    · have hn' : (n == v) = false := by simpa using hn
      go_wp2_with fail
      go_meet
      exact ⟨by first | rfl | rw [hn'], rfl⟩
    · go_wp2_with fail
      go_meet
      exact ⟨rfl, rfl⟩
  case rest =>
  obtain ⟨rfl, rfl⟩ := hcut
  clear main
  go_wp2_with fail
  go_loopw [8] (fun i wr => ∃ (j : Nat) (vv : Value), j ≤ len ∧ i = .int .i64 j ∧ wr.cell? ⟨w.heap.size, 2, none⟩ = some (.slice a len c) ∧ Hid (PInv (putF v y) B (w.heap.size + 4) ks j vv wr) ∧ Hid (KO W0 (w.heap.size + 4) (w.heap.size + 1 + 1 + 1) vv wr) ∧ Hid (Below w.heap.size w wr)) (fun i _ => len - (intOf i).toNat)
  case atStart =>
    refine ⟨0, .slice none 0 0, by omega, rfl, ?_, ?_, ?_, ?_⟩
    · show (putW w _ n a len c y ay cy).cell? _ = _
      rw [← HW.out]; exact (HF.out.1 2).trans rfl
    · show Hid (PInv _ _ _ _ _ _ (putW w _ n a len c y ay cy))
      rw [← HW.out]; exact P0
    · show Hid (KO W0 _ _ _ (putW w _ n a len c y ay cy))
      rw [← HW.out]; exact K0
    · show Hid (Below _ _ (putW w _ n a len c y ay cy))
      rw [← HW.out]; exact HB0
  case round =>
    obtain ⟨j, vv, hj, rfl, hcE, HP, HKO, HBr⟩ := hrel
    have hR : w.heap.size + 4 ≤ wr.heap.size := HKO.out.2.2.2
    by_cases hlt : j < len
    · have hlt' : (j : Int) < len := by omega
      obtain ⟨vp, vl, vm, rfl⟩ := HP.out.slice
      obtain ⟨b1, o1, x, ax, cx, ha, hbl, hxm, hxe, c0, c1, c2, hxx⟩ := (HX.out.below HBr.out).kid (i := j) (by rw [← HL.out]; exact hlt)
      subst ha
      have hb1 : b1 < w.heap.size := by
        obtain ⟨b1', o1', _, _, _, ha', hbl', _⟩ := HX.out.kid (i := j) (by rw [← HL.out]; exact hlt)
        cases ha'
        exact hbl'
      have hO : wr.cell? ⟨w.heap.size + 1 + 1 + 1, 2, none⟩ = some (.slice vp vl vm) := HKO.out.2.2.1
      have hfO : wr.frozen? ⟨w.heap.size + 1 + 1 + 1, 2, none⟩ = false := (HKO.out.2.1 _ _ (by omega)).trans (HF.out.2.2.2.2.2 2)
      have hS0 : PutS w (some ⟨b1, o1, none⟩) len c y ay cy b1 (o1 + j * 3) x ax cx wr := ⟨hcE, ⟨(HKO.out.1 _ _ (by omega) (by omega)).trans ((HF.out.2.1 0).trans rfl), (HKO.out.1 _ _ (by omega) (by omega)).trans ((HF.out.2.1 1).trans rfl), (HKO.out.1 _ _ (by omega) (by omega)).trans ((HF.out.2.1 2).trans rfl)⟩, c0, c1, c2⟩
      have CL : Hid (Calls Tryd.prog 13 #[.agg #[.int .i64 x.kind, .int .i64 x.num, .slice ax x.kids.length cx], .int .i64 v, .agg #[.int .i64 y.kind, .int .i64 y.num, .slice ay y.kids.length cy]] wr.drew fun e w1 => ∃ a' c' p' l' m' w2, e = .returned (.agg #[.int .i64 (putF v y x).kind, .int .i64 (putF v y x).num, .slice a' (putF v y x).kids.length c']) ∧
          Hid ((Builtin.append_ #[22, 22] 22 #[.slice vp vl vm, .slice (some ⟨w1.heap.size, 0, none⟩) 1 1]).run Tryd.prog (w1.alloc (.cells #[.int .i64 (putF v y x).kind, .int .i64 (putF v y x).num, .slice a' (putF v y x).kids.length c'] 24)) = .ok (.slice p' l' m') w2) ∧ Hid (PInv (putF v y) B (w.heap.size + 4) ks (j + 1) (.slice p' l' m') w2 ∧ KO W0 (w.heap.size + 4) (w.heap.size + 1 + 1 + 1) (.slice vp vl vm) w2 ∧ Below w.heap.size w w2) ∧
          PutS w (some ⟨b1, o1, none⟩) len c y ay cy b1 (o1 + j * 3) x ax cx w1 ∧ (w1.cell? ⟨w.heap.size + 1 + 1 + 1, 2, none⟩ = some (.slice vp vl vm) ∧ w.heap.size + 1 + 1 + 1 < w1.heap.size) ∧ PutS w (some ⟨b1, o1, none⟩) len c y ay cy b1 (o1 + j * 3) x ax cx w2 ∧ w2.cell? ⟨w.heap.size + 1 + 1 + 1, 2, none⟩ = some (.slice vp vl vm) ∧ w2.frozen? ⟨w.heap.size + 1 + 1 + 1, 2, none⟩ = false) :=
        (HK.out x hxm wr.drew ax cx (HBr.out.drew) (hxx.below ((Below.refl _ _).drew))).mono fun e w1 h => by
          obtain ⟨a', c', he, hxa, hb⟩ := h
          replace hb := cast_drew hb
          have hb' : Below wr.heap.size wr w1 := hb
          have hbR : Below (w.heap.size + 4) wr w1 := hb'.mono hR
          obtain ⟨v', w2, hr, hp, hb2⟩ := pinv_step (c' := c') HP.out (by omega) hR (by omega) (show putF v y x = putF v y (ks.getD j nilEx) by rw [hxe]) hb' hxa 22
          obtain ⟨p', l', m', rfl⟩ := hp.slice
          have hk1 := HKO.out.below (by omega) hbR
          have hk2 := hk1.below (by omega) hb2
          have hs1 := hS0.below (by omega) (by omega) hbR
          have hs2 := hs1.below (by omega) (by omega) hb2
          exact ⟨a', c', p', l', m', w2, he, hr, ⟨hp, hk2, HBr.out.trans ((hbR.trans hb2).mono (by omega))⟩, hs1, ⟨hk1.2.2.1, by have := hk1.2.2.2; omega⟩, hs2, hk2.2.2.1, (hk2.2.1 _ _ (by omega)).trans (HF.out.2.2.2.2.2 2)⟩
      obtain ⟨s1, ⟨s2, s3, s4⟩, s5, s6, s7⟩ := hS0
      have hn1 : ¬ b1 = w.heap.size + 1 + 1 + 1 := by omega
      have hn2 : ¬ w.heap.size + 1 + 1 + 1 = b1 := by omega
      have hz0 : w.heap.size + 1 + 1 + 1 < wr.heap.size := by omega
      generalize putF v y x = t' at *
      clear hxx hxm hxe HP HX HK P0 K0 HB0 HW c0 c1 c2 hcE
      go_wp2_with fail
      go_region_law (first | (refine step_append_run rfl _ _ _ _ rfl rfl rfl HR.out ?_) | (go_simp; refine CL.out.mono ?_; rintro e w1 ⟨a', c', p', l', m', w2, he, HR, HP2, ⟨q1, ⟨q2, q3, q4⟩, q5, q6, q7⟩, ⟨q8, q9⟩, ⟨r1, ⟨r2, r3, r4⟩, r5, r6, r7⟩, r8, r9⟩; subst he))
      all_goals
        go_wp2_with fail
        go_roundw
        case rel => exact ⟨j + 1, .slice p' l' m', by omega, by go_num, (HP2.out.2.1.set.1 _ _ (by omega) (by omega)).trans ((HKO.out.1 _ _ (by omega) (by omega)).symm.trans s1), HP2.out.1.set (by omega) (by omega), HP2.out.2.1.set, HP2.out.2.2.setCell (p := ⟨w.heap.size + 1 + 1 + 1, 2, none⟩) (by show w.heap.size ≤ w.heap.size + 1 + 1 + 1; omega) _⟩
        case measure => simp [intOf]; omega
    · obtain rfl : j = len := by omega
      obtain ⟨a', c', hv, hxg⟩ := pinv_done (k := k) (n := n) (show PInv (putF v y) B (w.heap.size + 4) ks ks.length vv wr by rw [← HL.out]; exact HP.out) HN.out.1 HN.out.2
      rw [← HL.out] at hv
      subst hv
      have HG : Hid (XG (fun b _ => b < B ∨ w.heap.size + 4 ≤ b) wr ⟨k, n, ks.map (putF v y)⟩ a') := hxg
      have o0 := (HKO.out.1 (w.heap.size + 1 + 1 + 1) 0 (by omega) (by omega)).trans ((HF.out.2.2.2.1 0).trans rfl)
      have o1 := (HKO.out.1 (w.heap.size + 1 + 1 + 1) 1 (by omega) (by omega)).trans ((HF.out.2.2.2.1 1).trans rfl)
      have o2 := HKO.out.2.2.1
      have z0 := (HKO.out.1 (w.heap.size + 1 + 1) 0 (by omega) (by omega)).trans ((HF.out.2.2.1 0).trans rfl)
      have z1 := (HKO.out.1 (w.heap.size + 1 + 1) 1 (by omega) (by omega)).trans ((HF.out.2.2.1 1).trans rfl)
      have z2 := (HKO.out.1 (w.heap.size + 1 + 1) 2 (by omega) (by omega)).trans ((HF.out.2.2.1 2).trans rfl)
      have f0 := (HKO.out.2.1 (w.heap.size + 1 + 1) 0 (by omega)).trans (HF.out.2.2.2.2.1 0)
      have f1 := (HKO.out.2.1 (w.heap.size + 1 + 1) 1 (by omega)).trans (HF.out.2.2.2.2.1 1)
      have f2 := (HKO.out.2.1 (w.heap.size + 1 + 1) 2 (by omega)).trans (HF.out.2.2.2.2.1 2)
      have hlt' : ¬ (j : Int) < j := by omega
      have hzs : w.heap.size + 1 + 1 < wr.heap.size := by omega
      clear hxg HP HX HK P0 K0 HB0 HW
      go_wp2_with fail
      refine bodyPost_ret (v := .agg #[.int .i64 k, .int .i64 n, .slice a' j c']) ?_ rfl ⟨a', c', ?_, ?_, ?_⟩
      rotate_left
      · show _ = Ending.returned (.agg #[.int .i64 k, .int .i64 n, .slice a' (ks.map (putF v y)).length c'])
        rw [List.length_map, ← HL.out]
      · exact (carry3 _ _ _ HG.out (fun b off hok => by rcases hok with h | h <;> omega)).mono fun b _ h => by rcases h with h | h <;> omega
      · exact ((HBr.out.setCell (p := ⟨w.heap.size + 1 + 1, 0, none⟩) (by show w.heap.size ≤ w.heap.size + 1 + 1; omega) _).setCell (p := ⟨w.heap.size + 1 + 1, 1, none⟩) (by show w.heap.size ≤ w.heap.size + 1 + 1; omega) _).setCell (p := ⟨w.heap.size + 1 + 1, 2, none⟩) (by show w.heap.size ≤ w.heap.size + 1 + 1; omega) _
      · simp [results, Tryd.results13, go_sem, z0, z1, z2]

theorem rput_any (v : Int) (y : Ex) : ∀ (t : Ex) (w : World) (a ay : Option Addr) (c cy B : Nat), X w t a → XG (fun b _ => b < B) w y ay → B ≤ w.heap.size → sizeF t ≤ 1000000 →
    Calls Tryd.prog 13 #[.agg #[.int .i64 t.kind, .int .i64 t.num, .slice a t.kids.length c], .int .i64 v, .agg #[.int .i64 y.kind, .int .i64 y.num, .slice ay y.kids.length cy]] w (RPutPost B (putF v y t) w) := by
  refine Ex.ind fun k n ks ih w a ay c cy B hx hy hB hs => ?_
  show Calls Tryd.prog 13 #[.agg #[.int .i64 k, .int .i64 n, .slice a ks.length c], .int .i64 v, .agg #[.int .i64 y.kind, .int .i64 y.num, .slice ay y.kids.length cy]] w _
  rw [put_eq]
  by_cases hkn : k = 2 ∧ n = v
  · rw [if_pos hkn]
    obtain ⟨rfl, rfl⟩ := hkn
    exact rput_hit n y ks w a ay c cy B hy
  · rw [if_neg hkn]
    refine rput_miss v y k n ks w a ay c cy B hx hy hB (by have := len_size k n ks; omega) hkn fun x hxm wx ax cx hb hxx => ?_
    exact ih x hxm wx ax ay cx cy B hxx (hy.belowB (fun _ _ h => h) (hb.mono hB)) (Nat.le_trans hB hb.size) (by have := size_kid (k := k) (n := n) hxm; omega)
end Go.Proofs.YtligologdfgggaaDoor.Expr
