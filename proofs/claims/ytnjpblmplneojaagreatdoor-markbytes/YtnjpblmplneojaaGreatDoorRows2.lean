/- Slices of ints that a call makes by append: what the new row holds; and append by its run, as a step of a walk. -/
import Derived.Test.YtnjpblmplneojaaGreatDoorFrame
import Derived.Deep.AppendSrc
import Derived.Laws.OwnMore
namespace Go.Proofs.YtnjpblmplneojaaGreatDoor.Frame
open Go.RowKit

/-- append, by whatever is known of its run -/
theorem wpList_append_run {P : Program} {w w' : World} {v' vs vx : Value} {ops : Array Oper} {rest : List Oper} {o : Oper} {a : Act} {Q : Exit → Act → World → Prop} (hgd : o.guard = none) (s x : Operand) (t tx : TypeId)
    (ho : o.op = .call { callee := .builtin .append, args := #[s, x], argTypes := #[t, tx] }) (hs : a.eval s = vs) (hx : a.eval x = vx)
    (hr : (Builtin.append_ #[t, tx] o.type #[vs, vx]).run P w = .ok v' w') (h : wpList P ops Q rest (a.put o.dst v') w') : wpList P ops Q (o :: rest) a w :=
  wpList_plain hgd fun K hK => by
    unfold Oper.wp execOp
    simp only [ho, resolve, invoke, builtin, Sem.run_bind, Sem.run_pure, Result.andThen_ok, List.map_toArray, List.map_cons, List.map_nil, hs, hx, hr]
    exact hK _ _ h

theorem intInfo : (Tryz.prog.info? 3).map (fun i => (i.zero, i.size, i.bytes)) = some (some (.int .i64 0), 1, 8) := by kernel_rfl

/-- 'append([]int{}, l...)', l not empty: a row of its own, in memory that was not there -/
theorem copy_run (w : World) (ty : TypeId) (b off len cap : Nat) (zs : List Int) (h1 : 1 ≤ len) (h2 : len ≤ 1000000)
    (hc : ∀ j, j < len → w.cell? ⟨b, off + j, none⟩ = some (.int .i64 (zs.getD j 0))) :
    ∃ g c w2, (Builtin.append_ #[75, 75] ty #[.slice (some ⟨w.heap.size, 0, none⟩) 0 0, .slice (some ⟨b, off, none⟩) len cap]).run Tryz.prog (w.alloc (.cells #[] 3)) = .ok (.slice (some ⟨g, 0, none⟩) len c) w2 ∧
      (∀ j, j < len → w2.cell? ⟨g, j, none⟩ = some (.int .i64 (zs.getD j 0))) ∧ Below w.heap.size w w2 ∧ len ≤ c ∧ c ≤ maxLen ∧ w.heap.size ≤ g := by
  obtain ⟨i0, hi, hz0, hz1, hz2⟩ := info_parts intInfo
  have hml : (1000000 : Nat) ≤ maxLen := by decide
  have hown : (w.alloc (.cells #[] 3)).ownsRow w.heap.size 3 1 (.slice (some ⟨w.heap.size, 0, none⟩) 0 0) 0 [] := World.ownsRow_made w #[] 0 (Nat.le_refl _) (by decide) rfl
  have hnl : ((List.range len).map fun j => Value.int .i64 (zs.getD j 0)).length = len * 1 := by simp
  have hget : ∀ j u, ((List.range len).map fun j => Value.int .i64 (zs.getD j 0))[j]? = some u → j < len ∧ u = .int .i64 (zs.getD j 0) := by
    intro j u hu
    rw [List.getElem?_map] at hu
    rcases Nat.lt_or_ge j len with hj | hj
    · rw [List.getElem?_eq_getElem (by simpa using hj)] at hu
      simp at hu
      exact ⟨hj, by rw [← hu]; simp⟩
    · rw [List.getElem?_eq_none (by simpa using hj)] at hu
      simp at hu
  obtain ⟨v', w2, hr, ho, hg, hnil⟩ := run_append_own (P := Tryz.prog) (w.alloc (.cells #[] 3)) w.heap.size 75 ty 3 i0 (.int .i64 0) 1 8 Tryz.underlying75 hi hz0 hz1 hz2 rfl (by decide)
    (.slice (some ⟨w.heap.size, 0, none⟩) 0 0) 0 [] hown ⟨b, off, none⟩ len cap ((List.range len).map fun j => Value.int .i64 (zs.getD j 0)) hnl
    (fun j u hu => by
      obtain ⟨hj, rfl⟩ := hget j u hu
      have hcj := hc j hj
      rw [Go.WideShapes.add_plain]
      have hlt := World.block_lt_of_cell? w _ hcj
      rw [World.cell?_of_block (w := w) (Below.heap_alloc w _ b hlt)]
      exact hcj)
    (fun u hu => by
      obtain ⟨j, _, rfl⟩ := List.mem_map.1 hu
      rfl)
    (by omega) (by omega) (by simp)
  rw [Nat.zero_add, List.nil_append] at ho
  obtain ⟨hlen, hcase⟩ := ho
  rcases hcase with ⟨_, h0⟩ | ⟨g, c, cur, rfl, hb, hh, hcap, hm, hcs, htk⟩
  · omega
  refine ⟨g, c, w2, hr, fun j hj => ?_, ?_, hcap, hm, hb⟩
  · have := World.ownsRow.cellAt (w := w2) (base := w.heap.size) (e := 3) (size := 1) (g := g) (n := len) (cap := c) (xs := (List.range len).map fun j => Value.int .i64 (zs.getD j 0)) ⟨hlen, .inr ⟨g, c, cur, rfl, hb, hh, hcap, hm, hcs, htk⟩⟩ j (by omega)
    rw [this, List.getElem?_map, List.getElem?_eq_getElem (by simpa using hj)]
    simp
  · exact ((Below.refl _ w).alloc (Nat.le_refl _) _).grown hg (by simp) (fun k hk => by cases hk; exact Nat.le_refl _)
end Go.Proofs.YtnjpblmplneojaaGreatDoor.Frame
