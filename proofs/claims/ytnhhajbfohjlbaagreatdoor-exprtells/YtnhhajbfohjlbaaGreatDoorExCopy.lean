/- Copy, rebuilt, in and Put of package expr: contracts of the calls, over the turned program. -/
import Derived.Test.YtnhhajbfohjlbaaGreatDoorExOwn
namespace Go.Proofs.YtnhhajbfohjlbaaGreatDoor.Expr
open Go.RowKit Go.Proofs.YtnhhajbfohjlbaaGreatDoor.Frame
set_option linter.unusedVariables false
set_option linter.unusedSimpArgs false

/-- what is made anew -/
def NewPost (t' : Ex) (w : World) (e : Ending) (w' : World) : Prop :=
  ∃ a' c', e = .returned (.agg #[.int .i64 t'.kind, .int .i64 t'.num, .slice a' t'.kids.length c']) ∧ XO w.heap.size w' t' a' ∧ Below w.heap.size w w'
theorem NewPost.x {t' : Ex} {w w' : World} {e : Ending} (h : NewPost t' w e w') : ∃ a' c', e = .returned (.agg #[.int .i64 t'.kind, .int .i64 t'.num, .slice a' t'.kids.length c']) ∧ X w' t' a' ∧ Below w.heap.size w w' := by
  obtain ⟨a', c', h1, h2, h3⟩ := h
  exact ⟨a', c', h1, h2.x, h3⟩
/-- the result's cells, stored into at last -/
theorem made_end {f : Ex → Ex} {w W0 wr : World} {ks : List Ex} {v : Value} {k n : Int} {o1 o2 : Obj} (hW : W0 = (w.alloc o1).alloc o2) (h : RInv f W0 ks ks.length v wr) (hk : In64 k) (hn : In64 n) :
    ∃ a' c', v = .slice a' ks.length c' ∧ ∀ u0 u1 u2 : Value, XO w.heap.size (((wr.setCell ⟨w.heap.size + 1, 0, none⟩ u0).setCell ⟨w.heap.size + 1, 1, none⟩ u1).setCell ⟨w.heap.size + 1, 2, none⟩ u2) ⟨k, n, ks.map f⟩ a' ∧
      Below w.heap.size w (((wr.setCell ⟨w.heap.size + 1, 0, none⟩ u0).setCell ⟨w.heap.size + 1, 1, none⟩ u1).setCell ⟨w.heap.size + 1, 2, none⟩ u2) := by
  have hs : W0.heap.size = w.heap.size + 2 := by rw [hW]; simp
  obtain ⟨a', c', h1, h2⟩ := rinv_done (k := k) (n := n) h hk hn
  obtain ⟨ys, _, _, hbel, _⟩ := h
  have hb : Below w.heap.size w wr := by
    have : Below w.heap.size w W0 := by rw [hW]; exact ((Below.refl _ _).alloc (Nat.le_refl _) _).alloc (by simp) _
    exact this.trans (hbel.mono (by omega))
  refine ⟨a', c', h1, fun u0 u1 u2 => ⟨?_, ?_⟩⟩
  · refine (XG.carry (w' := (((wr.setCell ⟨w.heap.size + 1, 0, none⟩ u0).setCell ⟨w.heap.size + 1, 1, none⟩ u1).setCell ⟨w.heap.size + 1, 2, none⟩ u2)) (fun b off o hok v0 hc => ?_) h2).mono fun b off hok => ⟨by omega, hok.2.1, ((hok.2.2.set _ _).set _ _).set _ _⟩
    have hne : ∀ j, (⟨w.heap.size + 1, j, none⟩ : Addr) ≠ ⟨b, o, none⟩ := fun j e => by
      have := congrArg Addr.block e
      simp at this; omega
    rw [World.cell?_setCell_other _ _ _ _ (hne 2), World.cell?_setCell_other _ _ _ _ (hne 1), World.cell?_setCell_other _ _ _ _ (hne 0)]
    exact hc
  · exact ((hb.setCell (p := ⟨w.heap.size + 1, 0, none⟩) (by simp) _).setCell (p := ⟨w.heap.size + 1, 1, none⟩) (by simp) _).setCell (p := ⟨w.heap.size + 1, 2, none⟩) (by simp) _

theorem new_end {w W0 w1 : World} {rb : Nat} {t' : Ex} {a' : Option Addr} (hb0 : Below w.heap.size w W0) (hr : w.heap.size ≤ rb) (hr2 : rb < W0.heap.size) (h2 : XO W0.heap.size w1 t' a') (hb : Below W0.heap.size W0 w1) (u0 u1 u2 : Value) :
    XO w.heap.size (((w1.setCell ⟨rb, 0, none⟩ u0).setCell ⟨rb, 1, none⟩ u1).setCell ⟨rb, 2, none⟩ u2) t' a' ∧ Below w.heap.size w (((w1.setCell ⟨rb, 0, none⟩ u0).setCell ⟨rb, 1, none⟩ u1).setCell ⟨rb, 2, none⟩ u2) := by
  have hs := hb0.size
  have hb' : Below w.heap.size w w1 := hb0.trans (hb.mono hs)
  refine ⟨?_, ?_⟩
  · refine (XG.carry (w' := (((w1.setCell ⟨rb, 0, none⟩ u0).setCell ⟨rb, 1, none⟩ u1).setCell ⟨rb, 2, none⟩ u2)) (fun b off o hok v0 hc => ?_) h2).mono fun b off hok => ⟨by omega, hok.2.1, ((hok.2.2.set _ _).set _ _).set _ _⟩
    have hne : ∀ j, (⟨rb, j, none⟩ : Addr) ≠ ⟨b, o, none⟩ := fun j e => by
      have := congrArg Addr.block e
      simp at this; omega
    rw [World.cell?_setCell_other _ _ _ _ (hne 2), World.cell?_setCell_other _ _ _ _ (hne 1), World.cell?_setCell_other _ _ _ _ (hne 0)]
    exact hc
  · exact ((hb'.setCell (p := ⟨rb, 0, none⟩) hr _).setCell (p := ⟨rb, 1, none⟩) hr _).setCell (p := ⟨rb, 2, none⟩) hr _

set_option maxHeartbeats 2000000 in
theorem rebuilt_copy (F : Ex → Ex) (k n : Int) (ks : List Ex) (w : World) (a : Option Addr) (c : Nat) (hX : X w ⟨k, n, ks⟩ a) (hl : ks.length ≤ 1000000)
    (hK : ∀ (x : Ex), x ∈ ks → ∀ (wx : World) (ax : Option Addr) (cx : Nat), Below w.heap.size w wx → X wx x ax → Calls Tryz.prog 43 #[.agg #[.int .i64 x.kind, .int .i64 x.num, .slice ax x.kids.length cx]] wx (NewPost (F x) wx)) :
    Calls Tryz.prog 44 #[.agg #[.int .i64 k, .int .i64 n, .slice a ks.length c], .func (.func 43) #[] #[]] w (NewPost ⟨k, n, ks.map F⟩ w) := by
  have HX : Hid (X w ⟨k, n, ks⟩ a) := hX
  have HK : Hid (∀ (x : Ex), x ∈ ks → ∀ (wx : World) (ax : Option Addr) (cx : Nat), Below w.heap.size w wx → X wx x ax → Calls Tryz.prog 43 #[.agg #[.int .i64 x.kind, .int .i64 x.num, .slice ax x.kids.length cx]] wx (NewPost (F x) wx)) := hK
  have hN := hX.node
  clear hX hK
  obtain ⟨len, hlen⟩ : ∃ len, len = ks.length := ⟨_, rfl⟩
  rw [← hlen] at hl ⊢
  have HL : Hid (len = ks.length) := hlen
  have HN : Hid (In64 k ∧ In64 n) := hN
  clear hlen hN
  obtain ⟨W0, hW⟩ : ∃ W0, W0 = (w.alloc (Obj.cells #[Value.int IntKind.i64 k, Value.int IntKind.i64 n, Value.slice a len c] 24)).alloc (Obj.cells #[Value.int IntKind.i64 0, Value.int IntKind.i64 0, Value.slice none 0 0] 24) := ⟨_, rfl⟩
  have hs0 : W0.heap.size = w.heap.size + 2 := by rw [hW]; simp
  have HB0 : Hid (Below w.heap.size w W0) := by rw [hW]; exact ((Below.refl _ _).alloc (Nat.le_refl _) _).alloc (by simp) _
  have B0 : Hid (∀ j, W0.cell? ⟨w.heap.size, j, none⟩ = #[Value.int IntKind.i64 k, Value.int IntKind.i64 n, Value.slice a len c][j]?) := fun j => by rw [hW, World.cell?_alloc_lt _ _ _ (by simp)]; exact World.cell?_alloc_at _ _ _ _ rfl
  have B1 : Hid (∀ j, W0.cell? ⟨w.heap.size + 1, j, none⟩ = #[Value.int IntKind.i64 0, Value.int IntKind.i64 0, Value.slice none 0 0][j]?) := fun j => by rw [hW]; exact World.cell?_alloc_at _ _ _ _ (by simp)
  have F1 : Hid (∀ j, W0.frozen? ⟨w.heap.size + 1, j, none⟩ = false) := fun j => by rw [hW]; exact World.frozen?_alloc_at _ _ _ _ (by simp)
  have HW : Hid (W0 = _) := hW
  clear hW
  go_enter Tryz.func44, Tryz.ntmps44
  go_wp2_with fail
  go_loopw [5, 11] (fun v i wr => ∃ j : Nat, j ≤ len ∧ i = .int .i64 j ∧ Hid (RInv F W0 ks j v wr)) (fun _ i _ => len - (intOf i).toNat)
  case atStart => exact ⟨0, by omega, rfl, by rw [← HW.out]; exact rinv_start F W0 ks⟩
  case round =>
    obtain ⟨j, hj, rfl, hI⟩ := hrel
    have HBr : Hid (Below W0.heap.size W0 wr) := by obtain ⟨ys, _, _, hb, _⟩ := hI.out; exact hb
    have HBw : Hid (Below w.heap.size w wr) := HB0.out.trans (HBr.out.mono (by omega))
    by_cases hlt : j < len
    · have hlt' : (j : Int) < len := by omega
      obtain ⟨b, off, x, ai, ci, ha, hbl, hxm, hxe, c0, c1, c2, hxx⟩ := (HX.out.below HBw.out).kid (i := j) (by rw [← HL.out]; exact hlt)
      subst ha
      have CL : Hid (∀ o, Calls Tryz.prog 43 #[.agg #[.int .i64 x.kind, .int .i64 x.num, .slice ai x.kids.length ci]] (wr.alloc o) (NewPost (F x) (wr.alloc o))) := fun o =>
        HK.out x hxm (wr.alloc o) ai ci (HBw.out.alloc HBw.out.size _) (hxx.below ((Below.refl _ _).alloc (Nat.le_refl _) _))
      have XE : Hid (x = ks.getD j nilEx) := hxe
      clear hxx hxm hxe
      go_wp2_with fail
      refine (CL.out _).mono ?_
      rintro e w1 ⟨a', c', he, hx', hb'⟩
      subst he
      obtain ⟨v', w2, hr, hI2⟩ := rinv_step (c' := c') hI.out (by omega) (congrArg F XE.out) hb' hx' 22
      have HR : Hid (_ = _) := hr
      have I2 : Hid (RInv F W0 ks (j + 1) v' w2) := hI2
      clear hr hI2 hx' hb' CL c0 c1 c2
      go_wp2_with (at_builtin; refine wpList_append_run rfl _ _ _ _ rfl rfl rfl HR.out ?_)
      go_roundw
      case rel => exact ⟨j + 1, by omega, by go_num, I2⟩
      case measure => simp [intOf]; omega
    · have hjl : j = ks.length := by rw [← HL.out]; omega
      have I2 := hI.out
      rw [hjl] at I2
      obtain ⟨a', c', hv, hend⟩ := made_end HW.out I2 HN.out.1 HN.out.2
      rw [← HL.out] at hv
      subst hv
      have EN : Hid (∀ u0 u1 u2 : Value, _) := hend
      have hN : ∀ q, q < W0.heap.size → ∀ j, wr.cell? ⟨q, j, none⟩ = W0.cell? ⟨q, j, none⟩ := fun q hq j => HBr.out.cell (p := ⟨q, j, none⟩) hq
      have d0 := (hN w.heap.size (by omega) 0).trans (B0.out 0)
      have d1 := (hN w.heap.size (by omega) 1).trans (B0.out 1)
      have e0 := (hN (w.heap.size + 1) (by omega) 0).trans (B1.out 0)
      have e1 := (hN (w.heap.size + 1) (by omega) 1).trans (B1.out 1)
      have e2 := (hN (w.heap.size + 1) (by omega) 2).trans (B1.out 2)
      have f0 := (HBr.out.frozen (p := ⟨w.heap.size + 1, 0, none⟩) (show w.heap.size + 1 < W0.heap.size by omega)).trans (F1.out 0)
      have f1 := (HBr.out.frozen (p := ⟨w.heap.size + 1, 1, none⟩) (show w.heap.size + 1 < W0.heap.size by omega)).trans (F1.out 1)
      have f2 := (HBr.out.frozen (p := ⟨w.heap.size + 1, 2, none⟩) (show w.heap.size + 1 < W0.heap.size by omega)).trans (F1.out 2)
      simp at d0 d1 e0 e1 e2
      clear hN I2 hend hI hjl
      go_wp2_with fail
      refine bodyPost_ret (v := .agg #[.int .i64 k, .int .i64 n, .slice a' len c']) ?_ rfl ⟨a', c', ?_, ?_, ?_⟩
      · simp [results, Tryz.results44, go_sem, e0, e1, e2]
      · show _ = Ending.returned (.agg #[.int .i64 k, .int .i64 n, .slice a' (ks.map F).length c'])
        rw [List.length_map, ← HL.out]
      · exact (EN.out _ _ _).1
      · exact (EN.out _ _ _).2

set_option maxHeartbeats 2000000 in
theorem rebuilt_in (F : Ex → Ex) (v yk yn : Int) (ay : Option Addr) (yl cy : Nat) (k n : Int) (ks : List Ex) (w : World) (a : Option Addr) (c : Nat) (hX : X w ⟨k, n, ks⟩ a) (hl : ks.length ≤ 1000000)
    (hK : ∀ (x : Ex), x ∈ ks → ∀ (wx : World) (ax : Option Addr) (cx : Nat), Below w.heap.size w wx → X wx x ax → Calls Tryz.prog 35 #[.agg #[.int .i64 v, .int .i64 yk, .int .i64 yn, .slice ay yl cy], .agg #[.int .i64 x.kind, .int .i64 x.num, .slice ax x.kids.length cx]] wx (NewPost (F x) wx)) :
    Calls Tryz.prog 44 #[.agg #[.int .i64 k, .int .i64 n, .slice a ks.length c], .func (.func 35) #[.agg #[.int .i64 v, .int .i64 yk, .int .i64 yn, .slice ay yl cy]] #[]] w (NewPost ⟨k, n, ks.map F⟩ w) := by
  have HX : Hid (X w ⟨k, n, ks⟩ a) := hX
  have HK : Hid (∀ (x : Ex), x ∈ ks → ∀ (wx : World) (ax : Option Addr) (cx : Nat), Below w.heap.size w wx → X wx x ax → Calls Tryz.prog 35 #[.agg #[.int .i64 v, .int .i64 yk, .int .i64 yn, .slice ay yl cy], .agg #[.int .i64 x.kind, .int .i64 x.num, .slice ax x.kids.length cx]] wx (NewPost (F x) wx)) := hK
  have hN := hX.node
  clear hX hK
  obtain ⟨len, hlen⟩ : ∃ len, len = ks.length := ⟨_, rfl⟩
  rw [← hlen] at hl ⊢
  have HL : Hid (len = ks.length) := hlen
  have HN : Hid (In64 k ∧ In64 n) := hN
  clear hlen hN
  obtain ⟨W0, hW⟩ : ∃ W0, W0 = (w.alloc (Obj.cells #[Value.int IntKind.i64 k, Value.int IntKind.i64 n, Value.slice a len c] 24)).alloc (Obj.cells #[Value.int IntKind.i64 0, Value.int IntKind.i64 0, Value.slice none 0 0] 24) := ⟨_, rfl⟩
  have hs0 : W0.heap.size = w.heap.size + 2 := by rw [hW]; simp
  have HB0 : Hid (Below w.heap.size w W0) := by rw [hW]; exact ((Below.refl _ _).alloc (Nat.le_refl _) _).alloc (by simp) _
  have B0 : Hid (∀ j, W0.cell? ⟨w.heap.size, j, none⟩ = #[Value.int IntKind.i64 k, Value.int IntKind.i64 n, Value.slice a len c][j]?) := fun j => by rw [hW, World.cell?_alloc_lt _ _ _ (by simp)]; exact World.cell?_alloc_at _ _ _ _ rfl
  have B1 : Hid (∀ j, W0.cell? ⟨w.heap.size + 1, j, none⟩ = #[Value.int IntKind.i64 0, Value.int IntKind.i64 0, Value.slice none 0 0][j]?) := fun j => by rw [hW]; exact World.cell?_alloc_at _ _ _ _ (by simp)
  have F1 : Hid (∀ j, W0.frozen? ⟨w.heap.size + 1, j, none⟩ = false) := fun j => by rw [hW]; exact World.frozen?_alloc_at _ _ _ _ (by simp)
  have HW : Hid (W0 = _) := hW
  clear hW
  go_enter Tryz.func44, Tryz.ntmps44
  go_wp2_with fail
  go_loopw [5, 11] (fun v i wr => ∃ j : Nat, j ≤ len ∧ i = .int .i64 j ∧ Hid (RInv F W0 ks j v wr)) (fun _ i _ => len - (intOf i).toNat)
  case atStart => exact ⟨0, by omega, rfl, by rw [← HW.out]; exact rinv_start F W0 ks⟩
  case round =>
    obtain ⟨j, hj, rfl, hI⟩ := hrel
    have HBr : Hid (Below W0.heap.size W0 wr) := by obtain ⟨ys, _, _, hb, _⟩ := hI.out; exact hb
    have HBw : Hid (Below w.heap.size w wr) := HB0.out.trans (HBr.out.mono (by omega))
    by_cases hlt : j < len
    · have hlt' : (j : Int) < len := by omega
      obtain ⟨b, off, x, ai, ci, ha, hbl, hxm, hxe, c0, c1, c2, hxx⟩ := (HX.out.below HBw.out).kid (i := j) (by rw [← HL.out]; exact hlt)
      subst ha
      have CL : Hid (∀ o, Calls Tryz.prog 35 #[.agg #[.int .i64 v, .int .i64 yk, .int .i64 yn, .slice ay yl cy], .agg #[.int .i64 x.kind, .int .i64 x.num, .slice ai x.kids.length ci]] (wr.alloc o) (NewPost (F x) (wr.alloc o))) := fun o =>
        HK.out x hxm (wr.alloc o) ai ci (HBw.out.alloc HBw.out.size _) (hxx.below ((Below.refl _ _).alloc (Nat.le_refl _) _))
      have XE : Hid (x = ks.getD j nilEx) := hxe
      clear hxx hxm hxe
      go_wp2_with fail
      refine (CL.out _).mono ?_
      rintro e w1 ⟨a', c', he, hx', hb'⟩
      subst he
      obtain ⟨v', w2, hr, hI2⟩ := rinv_step (c' := c') hI.out (by omega) (congrArg F XE.out) hb' hx' 22
      have HR : Hid (_ = _) := hr
      have I2 : Hid (RInv F W0 ks (j + 1) v' w2) := hI2
      clear hr hI2 hx' hb' CL c0 c1 c2
      go_wp2_with (at_builtin; refine wpList_append_run rfl _ _ _ _ rfl rfl rfl HR.out ?_)
      go_roundw
      case rel => exact ⟨j + 1, by omega, by go_num, I2⟩
      case measure => simp [intOf]; omega
    · have hjl : j = ks.length := by rw [← HL.out]; omega
      have I2 := hI.out
      rw [hjl] at I2
      obtain ⟨a', c', hv, hend⟩ := made_end HW.out I2 HN.out.1 HN.out.2
      rw [← HL.out] at hv
      subst hv
      have EN : Hid (∀ u0 u1 u2 : Value, _) := hend
      have hN : ∀ q, q < W0.heap.size → ∀ j, wr.cell? ⟨q, j, none⟩ = W0.cell? ⟨q, j, none⟩ := fun q hq j => HBr.out.cell (p := ⟨q, j, none⟩) hq
      have d0 := (hN w.heap.size (by omega) 0).trans (B0.out 0)
      have d1 := (hN w.heap.size (by omega) 1).trans (B0.out 1)
      have e0 := (hN (w.heap.size + 1) (by omega) 0).trans (B1.out 0)
      have e1 := (hN (w.heap.size + 1) (by omega) 1).trans (B1.out 1)
      have e2 := (hN (w.heap.size + 1) (by omega) 2).trans (B1.out 2)
      have f0 := (HBr.out.frozen (p := ⟨w.heap.size + 1, 0, none⟩) (show w.heap.size + 1 < W0.heap.size by omega)).trans (F1.out 0)
      have f1 := (HBr.out.frozen (p := ⟨w.heap.size + 1, 1, none⟩) (show w.heap.size + 1 < W0.heap.size by omega)).trans (F1.out 1)
      have f2 := (HBr.out.frozen (p := ⟨w.heap.size + 1, 2, none⟩) (show w.heap.size + 1 < W0.heap.size by omega)).trans (F1.out 2)
      simp at d0 d1 e0 e1 e2
      clear hN I2 hend hI hjl
      go_wp2_with fail
      refine bodyPost_ret (v := .agg #[.int .i64 k, .int .i64 n, .slice a' len c']) ?_ rfl ⟨a', c', ?_, ?_, ?_⟩
      · simp [results, Tryz.results44, go_sem, e0, e1, e2]
      · show _ = Ending.returned (.agg #[.int .i64 k, .int .i64 n, .slice a' (ks.map F).length c'])
        rw [List.length_map, ← HL.out]
      · exact (EN.out _ _ _).1
      · exact (EN.out _ _ _).2

set_option maxHeartbeats 1000000 in
theorem copy_any : ∀ (t : Ex) (w : World) (a : Option Addr) (c : Nat), X w t a → sizeF t ≤ 1000000 →
    Calls Tryz.prog 43 #[.agg #[.int .i64 t.kind, .int .i64 t.num, .slice a t.kids.length c]] w (NewPost t w) := by
  refine Ex.ind fun k n ks ih w a c h hs => ?_
  have hlen : ks.length ≤ 1000000 := by have := len_size k n ks; omega
  have hK : ∀ (x : Ex), x ∈ ks → ∀ (wx : World) (ax : Option Addr) (cx : Nat), X wx x ax → Calls Tryz.prog 43 #[.agg #[.int .i64 x.kind, .int .i64 x.num, .slice ax x.kids.length cx]] wx (NewPost x wx) := fun x hx wx ax cx hxx =>
    ih x hx wx ax cx hxx (by have := size_kid (k := k) (n := n) hx; omega)
  obtain ⟨W0, hW⟩ : ∃ W0, W0 = (w.alloc (Obj.cells #[Value.int IntKind.i64 k, Value.int IntKind.i64 n, Value.slice a ks.length c] 24)).alloc (Obj.cells #[Value.int IntKind.i64 0, Value.int IntKind.i64 0, Value.slice none 0 0] 24) := ⟨_, rfl⟩
  have hs0 : W0.heap.size = w.heap.size + 2 := by rw [hW]; simp
  have hb0 : Below w.heap.size w W0 := by rw [hW]; exact ((Below.refl _ _).alloc (Nat.le_refl _) _).alloc (by simp) _
  have hc1 : ∀ j, W0.cell? ⟨w.heap.size + 1, j, none⟩ = #[Value.int IntKind.i64 0, Value.int IntKind.i64 0, Value.slice none 0 0][j]? := fun j => by rw [hW]; exact World.cell?_alloc_at _ _ _ _ (by simp)
  have hf1 : ∀ j, W0.frozen? ⟨w.heap.size + 1, j, none⟩ = false := fun j => by rw [hW]; exact World.frozen?_alloc_at _ _ _ _ (by simp)
  have CL : Hid (∀ wx, wx = W0 → Calls Tryz.prog 44 #[.agg #[.int .i64 k, .int .i64 n, .slice a ks.length c], .func (.func 43) #[] #[]] wx fun e w1 => ∃ a' c', e = .returned (.agg #[.int .i64 k, .int .i64 n, .slice a' ks.length c']) ∧
      (w1.cell? ⟨w.heap.size + 1, 0, none⟩ = some (.int .i64 0) ∧ w1.cell? ⟨w.heap.size + 1, 1, none⟩ = some (.int .i64 0) ∧ w1.cell? ⟨w.heap.size + 1, 2, none⟩ = some (.slice none 0 0)) ∧ (w1.frozen? ⟨w.heap.size + 1, 0, none⟩ = false ∧ w1.frozen? ⟨w.heap.size + 1, 1, none⟩ = false ∧ w1.frozen? ⟨w.heap.size + 1, 2, none⟩ = false) ∧
      Hid (∀ u0 u1 u2 : Value, XO w.heap.size (((w1.setCell ⟨w.heap.size + 1, 0, none⟩ u0).setCell ⟨w.heap.size + 1, 1, none⟩ u1).setCell ⟨w.heap.size + 1, 2, none⟩ u2) ⟨k, n, ks⟩ a' ∧ Below w.heap.size w (((w1.setCell ⟨w.heap.size + 1, 0, none⟩ u0).setCell ⟨w.heap.size + 1, 1, none⟩ u1).setCell ⟨w.heap.size + 1, 2, none⟩ u2))) := by
    intro wx hx
    subst hx
    refine (rebuilt_copy id k n ks wx a c (h.below hb0) hlen (fun x hx wx ax cx _ hxx => hK x hx wx ax cx hxx)).mono ?_
    rintro e w1 ⟨a', c', he, hx', hb'⟩
    rw [List.map_id] at hx' he
    have hlt : w.heap.size + 1 < wx.heap.size := by omega
    exact ⟨a', c', he, ⟨(hb'.cell (p := ⟨w.heap.size + 1, 0, none⟩) hlt).trans (hc1 0), (hb'.cell (p := ⟨w.heap.size + 1, 1, none⟩) hlt).trans (hc1 1), (hb'.cell (p := ⟨w.heap.size + 1, 2, none⟩) hlt).trans (hc1 2)⟩,
      ⟨(hb'.frozen (p := ⟨w.heap.size + 1, 0, none⟩) hlt).trans (hf1 0), (hb'.frozen (p := ⟨w.heap.size + 1, 1, none⟩) hlt).trans (hf1 1), (hb'.frozen (p := ⟨w.heap.size + 1, 2, none⟩) hlt).trans (hf1 2)⟩,
      fun u0 u1 u2 => new_end hb0 (by omega) (by omega) hx' hb' u0 u1 u2⟩
  have HW : Hid (W0 = _) := hW
  clear hW hs0 hb0 hc1 hf1 hK ih h hs
  show Calls Tryz.prog 43 #[.agg #[.int .i64 k, .int .i64 n, .slice a ks.length c]] w _
  generalize hL : ks.length = len at *
  have HL : Hid (ks.length = len) := hL
  clear hL
  go_enter Tryz.func43, Tryz.ntmps43
  go_wp2_with (go_at_call 44; refine (CL.out _ HW.out.symm).mono ?_; rintro e w1 ⟨a', c', he, ⟨g0, g1, g2⟩, ⟨f0, f1, f2⟩, EN⟩; subst he)
  refine bodyPost_ret (v := .agg #[.int .i64 k, .int .i64 n, .slice a' len c']) ?_ rfl ⟨a', c', ?_, ?_, ?_⟩
  · simp [results, Tryz.results43, go_sem, g0, g1, g2]
  · show _ = Ending.returned (.agg #[.int .i64 k, .int .i64 n, .slice a' ks.length c'])
    rw [HL.out]
  · exact (EN.out _ _ _).1
  · exact (EN.out _ _ _).2
end Go.Proofs.YtnhhajbfohjlbaaGreatDoor.Expr
