/- Rows of expressions that a call makes, one by one; over the turned program. -/
import Derived.Test.YtjcanodnlnodpaaGreatDoorMOwn
import Derived.Deep.RegionLaw
namespace Go.Proofs.YtjcanodnlnodpaaGreatDoor.Expr
open Go.RowKit Go.Proofs.YtjcanodnlnodpaaGreatDoor.Frame Go.Proofs.YtjcanodnlnodpaaGreatDoor.Calc
set_option linter.unusedVariables false
set_option linter.unusedSimpArgs false

/-- 'append', as a step of a region that draws -/
theorem step_append_run {P : Program} {w w' : World} {v' vs vx : Value} {ops : Array Oper} {o : Oper} {a : Act} {Q : Exit → Act → World → Prop} {K : Act → World → Prop} (hgd : o.guard = none) (s x : Operand) (t tx : TypeId)
    (ho : o.op = .call { callee := .builtin .append, args := #[s, x], argTypes := #[t, tx] }) (hs : a.eval s = vs) (hx : a.eval x = vx)
    (hr : (Builtin.append_ #[t, tx] o.type #[vs, vx]).run P w = .ok v' w') (h : K (a.put o.dst v') w') : if Region.wanted o (yielded ops a.tmps) = true then Oper.wp P o a w K Q else K (a.put o.dst undef) w := by
  rw [if_pos (by simp [Region.wanted, hgd])]
  unfold Oper.wp execOp
  simp only [ho, resolve, invoke, builtin, Sem.run_bind, Sem.run_pure, Result.andThen_ok, List.map_toArray, List.map_cons, List.map_nil, hs, hx, hr]
  exact h

/-- the kids that were made so far; what came in lies below B, what is made from R0 on -/
def PInv (F : Ex → Ex) (B R0 : Nat) (ks : List Ex) (j : Nat) (v : Value) (wr : World) : Prop :=
  ∃ ys : List Lx, ys.length = j ∧ wr.ownsRow R0 40 3 v j (celL ys) ∧
    ∀ i, i < j → (ys.getD i nilLx).t = F (ks.getD i nilEx) ∧ XG (fun b _ => (b < B ∨ R0 ≤ b) ∧ some b ≠ v.ownBlock) wr (ys.getD i nilLx).t (ys.getD i nilLx).a
/-- the boxes below R0: all as they were, but for the kids' cell of O -/
def KO (W0 : World) (R0 O : Nat) (v : Value) (wr : World) : Prop :=
  (∀ b o, b < R0 → ¬ (b = O ∧ o = 2) → wr.cell? ⟨b, o, none⟩ = W0.cell? ⟨b, o, none⟩) ∧ (∀ b o, b < R0 → wr.frozen? ⟨b, o, none⟩ = W0.frozen? ⟨b, o, none⟩) ∧ wr.cell? ⟨O, 2, none⟩ = some v ∧ R0 ≤ wr.heap.size
theorem KO.below {W0 wr w1 : World} {R0 O : Nat} {v : Value} (h : KO W0 R0 O v wr) (hO : O < R0) (hb : Below R0 wr w1) : KO W0 R0 O v w1 :=
  ⟨fun b o h1 h2 => (hb.cell (p := ⟨b, o, none⟩) h1).trans (h.1 b o h1 h2), fun b o h1 => (hb.frozen (p := ⟨b, o, none⟩) h1).trans (h.2.1 b o h1), (hb.cell (p := ⟨O, 2, none⟩) hO).trans h.2.2.1, Nat.le_trans h.2.2.2 hb.size⟩
theorem KO.set {W0 wr : World} {R0 O : Nat} {v v' : Value} (h : KO W0 R0 O v wr) : KO W0 R0 O v' (wr.setCell ⟨O, 2, none⟩ v') := by
  refine ⟨fun b o h1 h2 => ?_, fun b o h1 => ?_, World.cell?_setCell_same _ _ _ h.2.2.1, by simpa [World.setCell] using h.2.2.2⟩
  · rw [World.cell?_setCell_other _ _ _ _ (fun e => h2 ⟨(congrArg Addr.block e).symm, (congrArg Addr.off e).symm⟩)]
    exact h.1 b o h1 h2
  · rw [← h.2.1 b o h1]; simp
theorem PInv.set {F : Ex → Ex} {B R0 O : Nat} {ks : List Ex} {j : Nat} {v u : Value} {wr : World} (h : PInv F B R0 ks j v wr) (hB : B ≤ O) (hO : O < R0) : PInv F B R0 ks j v (wr.setCell ⟨O, 2, none⟩ u) := by
  obtain ⟨ys, h1, h2, h3⟩ := h
  have hc : ∀ b o, b ≠ O → (wr.setCell ⟨O, 2, none⟩ u).cell? ⟨b, o, none⟩ = wr.cell? ⟨b, o, none⟩ := fun b o hb => World.cell?_setCell_other _ _ _ _ (fun e => hb (congrArg Addr.block e).symm)
  refine ⟨ys, h1, ⟨h2.1, ?_⟩, fun i hi => ⟨(h3 i hi).1, (h3 i hi).2.carry fun b off o hok v0 hv => (hc b o ?_).trans hv⟩⟩
  · rcases h2.2 with h | ⟨g, cap, cur, e1, e2, e3, e4⟩
    · exact .inl h
    · refine .inr ⟨g, cap, cur, e1, e2, ?_, e4⟩
      rw [Below.heap_setCell _ _ _ _ (show g ≠ (⟨O, 2, none⟩ : Addr).block from by show g ≠ O; omega)]; exact e3
  · rcases hok.1 with h | h <;> omega
theorem pinv_step {F : Ex → Ex} {B R0 : Nat} {ks : List Ex} {j : Nat} {v : Value} {wr w1 : World} {t' : Ex} {a' : Option Addr} {c' : Nat} (h : PInv F B R0 ks j v wr) (hBR : B ≤ R0) (hR : R0 ≤ wr.heap.size) (hj : j ≤ 1000000) (ht : t' = F (ks.getD j nilEx))
    (hb : Below wr.heap.size wr w1) (hx : XG (fun b _ => b < B ∨ wr.heap.size ≤ b) w1 t' a') (ty : TypeId) :
    ∃ v' w2, (Builtin.append_ #[38, 38] ty #[v, .slice (some ⟨w1.heap.size, 0, none⟩) 1 1]).run Tryz.prog (w1.alloc (.cells #[.int .i64 t'.kind, .int .i64 t'.num, .slice a' t'.kids.length c'] 40)) = .ok v' w2 ∧ PInv F B R0 ks (j + 1) v' w2 ∧ Below R0 w1 w2 := by
  obtain ⟨ys, hyl, hown, hall⟩ := h
  obtain ⟨i0, hi, hz0, hz1, hz2⟩ := info_parts exInfo
  have hown1 : w1.ownsRow R0 40 3 v j (celL ys) := hown.kept (row := none) ⟨hb.os, hb.tape, hb.output, hb.size, fun k hk _ => hb.block k hk⟩ (by cases hv : v.ownBlock <;> simp)
  have hown2 := hown1.alloc (.cells #[.int .i64 t'.kind, .int .i64 t'.num, .slice a' t'.kids.length c'] 40)
  have hs1 := hb.size
  obtain ⟨v', w2, hr, ho, hg, hv⟩ := append_new (P := Tryz.prog) (w1.alloc (.cells #[.int .i64 t'.kind, .int .i64 t'.num, .slice a' t'.kids.length c'] 40)) R0 38 ty 40 i0 _ 3 40 Tryz.underlying38 hi hz0 hz1 hz2 rfl (by decide)
    v j (celL ys) hown2 ⟨w1.heap.size, 0, none⟩ 1 1 (cel ⟨t', a', c'⟩) rfl (fun k u hu => by
      rw [Go.WideShapes.add_plain, Nat.zero_add, World.cell?_alloc_new]
      rw [← hu]; simp [cel])
    (fun u hu => by simp [cel] at hu; rcases hu with rfl | rfl | rfl <;> rfl)
    (by unfold maxLen; omega) (by omega) (by simp; omega) (by decide)
  refine ⟨v', w2, hr, ⟨ys ++ [⟨t', a', c'⟩], by simp [hyl], by rw [celL_snoc]; exact ho, fun i hi' => ?_⟩, ?_⟩
  · have hcar : ∀ b o v0, some b ≠ v.ownBlock → w1.cell? ⟨b, o, none⟩ = some v0 → w2.cell? ⟨b, o, none⟩ = some v0 := fun b o v0 hne hc => by
      have hlt : b < w1.heap.size := World.block_lt_of_cell? w1 _ hc
      refine hg.cell (a := ⟨b, o, none⟩) ?_ hne
      rw [World.cell?_alloc_lt _ _ _ hlt]; exact hc
    have hne' : ∀ b, b < w1.heap.size → some b ≠ v.ownBlock → some b ≠ v'.ownBlock := fun b hb' hn => by
      rcases hv with h | h
      · rw [h]; exact hn
      · rw [h]; simp; omega
    rcases Nat.lt_or_ge i j with hij | hij
    · rw [getD_snoc_lt _ _ _ (by omega)]
      obtain ⟨h1, h2⟩ := hall i hij
      refine ⟨h1, ?_⟩
      have h3 := (h2.below hb).lt2
      exact (h3.carry (w' := w2) (fun b off o hok v0 hc => hcar b o v0 hok.1.2 hc)).mono fun b off hok => ⟨hok.1.1, hne' b hok.2 hok.1.2⟩
    · obtain rfl : i = j := by omega
      rw [show (ys ++ [(⟨t', a', c'⟩ : Lx)]).getD i nilLx = ⟨t', a', c'⟩ from by rw [← hyl]; exact getD_snoc_eq ..]
      refine ⟨ht, ?_⟩
      have h3 := hx.lt2
      have hvo : ∀ b, (b < B ∨ wr.heap.size ≤ b) → some b ≠ v.ownBlock := fun b hb' he => by
        have h4 := hown.lt b he.symm
        rcases hb' with h | h <;> omega
      exact (h3.carry (w' := w2) (fun b off o hok v0 hc => hcar b o v0 (hvo b hok.1) hc)).mono fun b off hok => ⟨by rcases hok.1 with h | h <;> omega, hne' b hok.2 (hvo b hok.1)⟩
  · exact ((Below.refl _ w1).alloc (by omega) _).grown hg (by simp; omega) (fun k hk => (hown1.lt k hk).1)
theorem pinv_done {F : Ex → Ex} {B R0 : Nat} {wr : World} {ks : List Ex} {v : Value} {k n : Int} (h : PInv F B R0 ks ks.length v wr) (hk : In64 k) (hn : In64 n) :
    ∃ a' c', v = .slice a' ks.length c' ∧ XG (fun b _ => b < B ∨ R0 ≤ b) wr ⟨k, n, ks.map F⟩ a' := by
  obtain ⟨ys, hyl, hown, hall⟩ := h
  rcases hown.2 with ⟨rfl, h0⟩ | ⟨g, cap, cur, rfl, hbg, hgg, hnc, hcm, hcs, htake⟩
  · exact ⟨none, 0, by rw [h0], (xg_eq _ _ _ _ _ _).2 ⟨⟨hk, hn⟩, .inl (by simpa using h0)⟩⟩
  · refine ⟨_, _, rfl, (xg_eq _ _ _ _ _ _).2 ⟨⟨hk, hn⟩, .inr ⟨g, 0, rfl, .inr hbg, fun i hi => ?_⟩⟩⟩
    have hi' : i < ks.length := by simpa using hi
    obtain ⟨h1, h2⟩ := hall i hi'
    have e : (ks.map F).getD i nilEx = (ys.getD i nilLx).t := by
      rw [h1, List.getD_eq_getElem?_getD, List.getElem?_map, List.getD_eq_getElem?_getD, List.getElem?_eq_getElem hi']; rfl
    have hc : ∀ j, j < 3 → wr.cell? ⟨g, i * 3 + j, none⟩ = (cel (ys.getD i nilLx))[j]? := fun j hj => by
      rw [World.ownsRow.cellAt hown (i * 3 + j) (by omega), celL_at ys i j (by omega) hj]
    rw [e, Nat.zero_add]
    exact ⟨(ys.getD i nilLx).a, (ys.getD i nilLx).c, hc 0 (by omega), hc 1 (by omega), hc 2 (by omega), h2.mono fun b off hok => hok.1⟩
end Go.Proofs.YtjcanodnlnodpaaGreatDoor.Expr
