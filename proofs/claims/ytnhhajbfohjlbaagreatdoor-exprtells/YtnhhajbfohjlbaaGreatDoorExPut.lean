/- in and Put of package expr: contracts of the calls, over the turned program. -/
import Derived.Test.YtnhhajbfohjlbaaGreatDoorExCopy
namespace Go.Proofs.YtnhhajbfohjlbaaGreatDoor.Expr
open Go.RowKit Go.Proofs.YtnhhajbfohjlbaaGreatDoor.Frame
set_option linter.unusedVariables false
set_option linter.unusedSimpArgs false

/-- the result's cells, and what lies there at last -/
def EndsAt (w : World) (rb : Nat) (t' : Ex) (w1 : World) (a' : Option Addr) : Prop :=
  (w1.cell? ⟨rb, 0, none⟩ = some (.int .i64 0) ∧ w1.cell? ⟨rb, 1, none⟩ = some (.int .i64 0) ∧ w1.cell? ⟨rb, 2, none⟩ = some (.slice none 0 0)) ∧ (w1.frozen? ⟨rb, 0, none⟩ = false ∧ w1.frozen? ⟨rb, 1, none⟩ = false ∧ w1.frozen? ⟨rb, 2, none⟩ = false) ∧
      Hid (∀ u0 u1 u2 : Value, XO w.heap.size (((w1.setCell ⟨rb, 0, none⟩ u0).setCell ⟨rb, 1, none⟩ u1).setCell ⟨rb, 2, none⟩ u2) t' a' ∧ Below w.heap.size w (((w1.setCell ⟨rb, 0, none⟩ u0).setCell ⟨rb, 1, none⟩ u1).setCell ⟨rb, 2, none⟩ u2))
theorem ends_at {w W0 : World} {rb : Nat} {t' : Ex} (hb0 : Below w.heap.size w W0) (hr : w.heap.size ≤ rb) (hr2 : rb < W0.heap.size) (hc : ∀ j, W0.cell? ⟨rb, j, none⟩ = #[Value.int IntKind.i64 0, Value.int IntKind.i64 0, Value.slice none 0 0][j]?) (hf : ∀ j, W0.frozen? ⟨rb, j, none⟩ = false)
    {f : Nat} {args : Array Value} (h : Calls Tryz.prog f args W0 (NewPost t' W0)) :
    Calls Tryz.prog f args W0 fun e w1 => ∃ a' c', e = .returned (.agg #[.int .i64 t'.kind, .int .i64 t'.num, .slice a' t'.kids.length c']) ∧ EndsAt w rb t' w1 a' := by
  refine h.mono ?_
  rintro e w1 ⟨a', c', he, hx', hb'⟩
  exact ⟨a', c', he, ⟨(hb'.cell (p := ⟨rb, 0, none⟩) hr2).trans (hc 0), (hb'.cell (p := ⟨rb, 1, none⟩) hr2).trans (hc 1), (hb'.cell (p := ⟨rb, 2, none⟩) hr2).trans (hc 2)⟩,
    ⟨(hb'.frozen (p := ⟨rb, 0, none⟩) hr2).trans (hf 0), (hb'.frozen (p := ⟨rb, 1, none⟩) hr2).trans (hf 1), (hb'.frozen (p := ⟨rb, 2, none⟩) hr2).trans (hf 2)⟩,
    fun u0 u1 u2 => new_end hb0 hr hr2 hx' hb' u0 u1 u2⟩

set_option maxHeartbeats 2000000 in
theorem in_any (v : Int) (y : Ex) (hy : sizeF y ≤ 1000000) : ∀ (t : Ex) (w : World) (a ay : Option Addr) (c cy : Nat), X w t a → X w y ay → sizeF t ≤ 1000000 →
    Calls Tryz.prog 35 #[.agg #[.int .i64 v, .int .i64 y.kind, .int .i64 y.num, .slice ay y.kids.length cy], .agg #[.int .i64 t.kind, .int .i64 t.num, .slice a t.kids.length c]] w (NewPost (putF v y t) w) := by
  refine Ex.ind fun k n ks ih w a ay c cy h hyy hs => ?_
  have hlen : ks.length ≤ 1000000 := by have := len_size k n ks; omega
  obtain ⟨W0, hW⟩ : ∃ W0, W0 = ((w.alloc (Obj.cells #[Value.int IntKind.i64 v, Value.int IntKind.i64 y.kind, Value.int IntKind.i64 y.num, Value.slice ay y.kids.length cy] 58)).alloc (Obj.cells #[Value.int IntKind.i64 k, Value.int IntKind.i64 n, Value.slice a ks.length c] 24)).alloc (Obj.cells #[Value.int IntKind.i64 0, Value.int IntKind.i64 0, Value.slice none 0 0] 24) := ⟨_, rfl⟩
  have hs0 : W0.heap.size = w.heap.size + 3 := by rw [hW]; simp
  have hb0 : Below w.heap.size w W0 := by rw [hW]; exact (((Below.refl _ _).alloc (Nat.le_refl _) _).alloc (by simp) _).alloc (by simp; omega) _
  have hc1 : ∀ j, W0.cell? ⟨w.heap.size + 2, j, none⟩ = #[Value.int IntKind.i64 0, Value.int IntKind.i64 0, Value.slice none 0 0][j]? := fun j => by rw [hW]; exact World.cell?_alloc_at _ _ _ _ (by simp)
  have hf1 : ∀ j, W0.frozen? ⟨w.heap.size + 2, j, none⟩ = false := fun j => by rw [hW]; exact World.frozen?_alloc_at _ _ _ _ (by simp)
  show Calls Tryz.prog 35 #[.agg #[.int .i64 v, .int .i64 y.kind, .int .i64 y.num, .slice ay y.kids.length cy], .agg #[.int .i64 k, .int .i64 n, .slice a ks.length c]] w _
  by_cases hkn : k = 2 ∧ n = v
  · have E : Hid (putF v y ⟨k, n, ks⟩ = y) := by rw [Hid, put_eq, if_pos hkn]
    rw [E.out]
    obtain ⟨rfl, rfl⟩ := hkn
    have CL : Hid (∀ wx, wx = W0 → Calls Tryz.prog 43 #[.agg #[.int .i64 y.kind, .int .i64 y.num, .slice ay y.kids.length cy]] wx fun e w1 => ∃ a' c', e = .returned (.agg #[.int .i64 y.kind, .int .i64 y.num, .slice a' y.kids.length c']) ∧ EndsAt w (w.heap.size + 2) y w1 a') := by
      intro wx hx
      subst hx
      exact ends_at hb0 (by omega) (by omega) hc1 hf1 (copy_any y wx ay cy (hyy.below hb0) hy)
    have HW : Hid (W0 = _) := hW
    clear hW hs0 hb0 hc1 hf1 ih h hs hyy hy E
    go_enter Tryz.func35, Tryz.ntmps35
    go_wp2_with (go_at_call 43; refine (CL.out _ HW.out.symm).mono ?_; rintro e w1 ⟨a', c', he, ⟨g0, g1, g2⟩, ⟨f0, f1, f2⟩, EN⟩; subst he)
    refine bodyPost_ret (v := .agg #[.int .i64 y.kind, .int .i64 y.num, .slice a' y.kids.length c']) ?_ rfl ⟨a', c', rfl, ?_, ?_⟩
    · simp [results, Tryz.results35, go_sem, g0, g1, g2]
    · exact (EN.out _ _ _).1
    · exact (EN.out _ _ _).2
  · have E : Hid (putF v y ⟨k, n, ks⟩ = ⟨k, n, ks.map (putF v y)⟩) := by rw [Hid, put_eq, if_neg hkn]
    rw [E.out]
    have CL : Hid (∀ wx, wx = W0 → Calls Tryz.prog 44 #[.agg #[.int .i64 k, .int .i64 n, .slice a ks.length c], .func (.func 35) #[.agg #[.int .i64 v, .int .i64 y.kind, .int .i64 y.num, .slice ay y.kids.length cy]] #[]] wx fun e w1 => ∃ a' c', e = .returned (.agg #[.int .i64 k, .int .i64 n, .slice a' ks.length c']) ∧ EndsAt w (w.heap.size + 2) ⟨k, n, ks.map (putF v y)⟩ w1 a') := by
      intro wx hx
      subst hx
      refine (ends_at hb0 (by omega) (by omega) hc1 hf1 (rebuilt_in (putF v y) v y.kind y.num ay y.kids.length cy k n ks wx a c (h.below hb0) hlen (fun x hx wx' ax cx hbx hxx => ih x hx wx' ax ay cx cy hxx ((hyy.below hb0).below hbx) (by have := size_kid (k := k) (n := n) hx; omega)))).mono ?_
      rintro e w1 ⟨a', c', he, hE⟩
      refine ⟨a', c', ?_, hE⟩
      rw [he]
      show Ending.returned (.agg #[.int .i64 k, .int .i64 n, .slice a' (ks.map (putF v y)).length c']) = _
      rw [List.length_map]
    have HW : Hid (W0 = _) := hW
    clear hW hs0 hb0 hc1 hf1 ih h hs hyy hy E
    have HLn : Hid (ks.length = (ks.map (putF v y)).length) := by rw [Hid, List.length_map]
    have main : k = 2 ∧ ¬ n = v ∨ ¬ k = 2 := by omega
    clear hkn
    rcases main with ⟨rfl, hn⟩ | hk
    · go_enter Tryz.func35, Tryz.ntmps35
      go_wp2_with (go_at_call 44; refine (CL.out _ HW.out.symm).mono ?_; rintro e w1 ⟨a', c', he, ⟨g0, g1, g2⟩, ⟨f0, f1, f2⟩, EN⟩; subst he)
      refine bodyPost_ret (v := .agg #[.int .i64 2, .int .i64 n, .slice a' ks.length c']) ?_ rfl ⟨a', c', ?_, ?_, ?_⟩
      · simp [results, Tryz.results35, go_sem, g0, g1, g2]
      · show _ = Ending.returned (.agg #[.int .i64 2, .int .i64 n, .slice a' (ks.map (putF v y)).length c'])
        rw [← HLn.out]
      · exact (EN.out _ _ _).1
      · exact (EN.out _ _ _).2
    · go_enter Tryz.func35, Tryz.ntmps35
      go_wp2_with (go_at_call 44; refine (CL.out _ HW.out.symm).mono ?_; rintro e w1 ⟨a', c', he, ⟨g0, g1, g2⟩, ⟨f0, f1, f2⟩, EN⟩; subst he)
      refine bodyPost_ret (v := .agg #[.int .i64 k, .int .i64 n, .slice a' ks.length c']) ?_ rfl ⟨a', c', ?_, ?_, ?_⟩
      · simp [results, Tryz.results35, go_sem, g0, g1, g2]
      · show _ = Ending.returned (.agg #[.int .i64 k, .int .i64 n, .slice a' (ks.map (putF v y)).length c'])
        rw [← HLn.out]
      · exact (EN.out _ _ _).1
      · exact (EN.out _ _ _).2

set_option maxRecDepth 100000 in
set_option maxHeartbeats 1000000 in
theorem put_any (v : Int) (y t : Ex) (w : World) (a ay : Option Addr) (c cy : Nat) (h : X w t a) (hyy : X w y ay) (ht : sizeF t ≤ 1000000) (hy : sizeF y ≤ 1000000) :
    Calls Tryz.prog 20 #[.agg #[.int .i64 t.kind, .int .i64 t.num, .slice a t.kids.length c], .int .i64 v, .agg #[.int .i64 y.kind, .int .i64 y.num, .slice ay y.kids.length cy]] w (NewPost (putF v y t) w) := by
  obtain ⟨W0, hW⟩ : ∃ W0, W0 = ((w.alloc (Obj.cells #[Value.int IntKind.i64 t.kind, Value.int IntKind.i64 t.num, Value.slice a t.kids.length c] 24)).alloc (Obj.cells #[Value.int IntKind.i64 y.kind, Value.int IntKind.i64 y.num, Value.slice ay y.kids.length cy] 24)).alloc (Obj.cells #[Value.int IntKind.i64 0, Value.int IntKind.i64 0, Value.slice none 0 0] 24) := ⟨_, rfl⟩
  have hs0 : W0.heap.size = w.heap.size + 3 := by rw [hW]; simp
  have hb0 : Below w.heap.size w W0 := by rw [hW]; exact (((Below.refl _ _).alloc (Nat.le_refl _) _).alloc (by simp) _).alloc (by simp; omega) _
  have hc1 : ∀ j, W0.cell? ⟨w.heap.size + 2, j, none⟩ = #[Value.int IntKind.i64 0, Value.int IntKind.i64 0, Value.slice none 0 0][j]? := fun j => by rw [hW]; exact World.cell?_alloc_at _ _ _ _ (by simp)
  have hf1 : ∀ j, W0.frozen? ⟨w.heap.size + 2, j, none⟩ = false := fun j => by rw [hW]; exact World.frozen?_alloc_at _ _ _ _ (by simp)
  have CL : Hid (∀ wx, wx = W0 → Calls Tryz.prog 35 #[.agg #[.int .i64 v, .int .i64 y.kind, .int .i64 y.num, .slice ay y.kids.length cy], .agg #[.int .i64 t.kind, .int .i64 t.num, .slice a t.kids.length c]] wx fun e w1 => ∃ a' c', e = .returned (.agg #[.int .i64 (putF v y t).kind, .int .i64 (putF v y t).num, .slice a' (putF v y t).kids.length c']) ∧ EndsAt w (w.heap.size + 2) (putF v y t) w1 a') := by
    intro wx hx
    subst hx
    exact ends_at hb0 (by omega) (by omega) hc1 hf1 (in_any v y hy t wx a ay c cy (h.below hb0) (hyy.below hb0) ht)
  have HW : Hid (W0 = _) := hW
  clear hW hs0 hb0 hc1 hf1 h hyy ht hy
  generalize putF v y t = p at *
  go_enter Tryz.func20, Tryz.ntmps20
  go_wp2_with (go_at_call 35; refine (CL.out _ HW.out.symm).mono ?_; rintro e w1 ⟨a', c', he, ⟨g0, g1, g2⟩, ⟨f0, f1, f2⟩, EN⟩; subst he)
  refine bodyPost_ret (v := .agg #[.int .i64 p.kind, .int .i64 p.num, .slice a' p.kids.length c']) ?_ rfl ⟨a', c', rfl, ?_, ?_⟩
  · simp [results, Tryz.results20, go_sem, g0, g1, g2]
  · exact (EN.out _ _ _).1
  · exact (EN.out _ _ _).2
end Go.Proofs.YtnhhajbfohjlbaaGreatDoor.Expr
