/- Rows of numbers that a call makes by append, as steps of a region that draws. -/
import Derived.Test.YtnhhajbfohjlbaaGreatDoorExRow
namespace Go.Proofs.YtnhhajbfohjlbaaGreatDoor.Expr
open Go.RowKit Go.Proofs.YtnhhajbfohjlbaaGreatDoor.Frame
set_option linter.unusedVariables false
set_option linter.unusedSimpArgs false

/-- a row of the call's own, from R on, that holds these numbers -/
def RowI (R : Nat) (l : List Int) (v : Value) (w : World) : Prop := w.ownsRow R 3 1 v l.length (l.map (Value.int .i64)) ∧ R ≤ w.heap.size
theorem intInfoX : (Tryz.prog.info? 3).map (fun i => (i.zero, i.size, i.bytes)) = some (some (.int .i64 0), 1, 8) := by kernel_rfl
theorem RowI.up {R : Nat} {l : List Int} {v : Value} {w w' : World} (h : RowI R l v w) (hb : Below w.heap.size w w') : RowI R l v w' :=
  ⟨h.1.kept (row := none) ⟨hb.os, hb.tape, hb.output, hb.size, fun k hk _ => hb.block k hk⟩ (by cases hv : v.ownBlock <;> simp), Nat.le_trans h.2 hb.size⟩
theorem RowI.keep {R : Nat} {l : List Int} {v : Value} {w w' : World} (h : RowI R l v w) (hg : w.grownBy w' v.ownBlock) : Below R w w' :=
  (Below.refl _ _).grown hg h.2 (fun k hk => (h.1.lt k hk).1)
/-- where numbers that are appended lie: they are none, or in cells -/
def SrcI (w : World) (sa : Option Addr) (l : List Int) : Prop := ∃ b off, sa = some ⟨b, off, none⟩ ∧ ∀ i, i < l.length → w.cell? ⟨b, off + i, none⟩ = some (.int .i64 (l.getD i 0))
/-- 'append(v, x...)', as a step of a region that draws -/
theorem step_appI {ops : Array Oper} {o : Oper} {a : Act} {Q : Exit → Act → World → Prop} {K : Act → World → Prop} {w : World} {R m sc : Nat} {v : Value} {sa : Option Addr} (l1 l2 : List Int) (hgd : o.guard = none) (s x : Operand)
    (ho : o.op = .call { callee := .builtin .append, args := #[s, x], argTypes := #[32, 32] }) (hs : a.eval s = v) (hx : a.eval x = .slice sa m sc) (hm : m = l2.length)
    (hr : RowI R l1 v w) (hc : SrcI w sa l2) (hl : l1.length + l2.length ≤ 10000000)
    (h : ∀ v' w', RowI R (l1 ++ l2) v' w' → w.grownBy w' v.ownBlock → Below R w w' → K (a.put o.dst v') w') : if Region.wanted o (yielded ops a.tmps) = true then Oper.wp Tryz.prog o a w K Q else K (a.put o.dst undef) w := by
  rw [if_pos (by simp [Region.wanted, hgd])]
  subst hm
  obtain ⟨b, off, rfl, hc⟩ := hc
  obtain ⟨i0, hi, hz0, hz1, hz2⟩ := info_parts intInfoX
  obtain ⟨v', w', hrun, hown, hg, _⟩ := run_append_own (P := Tryz.prog) w R 32 o.type 3 i0 _ 1 8 Tryz.underlying32 hi hz0 hz1 hz2 rfl (by decide) v l1.length (l1.map (Value.int .i64)) hr.1 ⟨b, off, none⟩ l2.length sc (l2.map (Value.int .i64)) (by simp)
    (fun j u hu => by
      have hj : j < l2.length := by
        rcases Nat.lt_or_ge j l2.length with h | h
        · exact h
        · rw [List.getElem?_eq_none (by simpa using h)] at hu; cases hu
      rw [Go.WideShapes.add_plain, hc j hj, ← hu, List.getElem?_map, List.getD_eq_getElem?_getD, List.getElem?_eq_getElem hj]; rfl)
    (fun u hu => by obtain ⟨y, _, rfl⟩ := List.mem_map.1 hu; rfl) (by unfold maxLen; omega) (by omega) hr.2
  unfold Oper.wp execOp
  simp only [ho, resolve, invoke, builtin, Sem.run_bind, Sem.run_pure, Result.andThen_ok, List.map_toArray, List.map_cons, List.map_nil, hs, hx, hrun]
  refine h v' w' ⟨?_, Nat.le_trans hr.2 hg.size⟩ hg (hr.keep hg)
  rw [List.map_append, List.length_append]
  exact hown
/-- 'append(v, nil...)': all is as it was -/
theorem step_appN {ops : Array Oper} {o : Oper} {a : Act} {Q : Exit → Act → World → Prop} {K : Act → World → Prop} {w : World} {R : Nat} {v : Value} (l1 : List Int) (hgd : o.guard = none) (s x : Operand)
    (ho : o.op = .call { callee := .builtin .append, args := #[s, x], argTypes := #[32, 32] }) (hs : a.eval s = v) (hx : a.eval x = .slice none 0 0)
    (hr : RowI R l1 v w) (h : K (a.put o.dst v) w) : if Region.wanted o (yielded ops a.tmps) = true then Oper.wp Tryz.prog o a w K Q else K (a.put o.dst undef) w := by
  rw [if_pos (by simp [Region.wanted, hgd])]
  obtain ⟨i0, hi, hz0, hz1, hz2⟩ := info_parts intInfoX
  have hrun := run_append_owned_none (P := Tryz.prog) (w := w) R 32 o.type 3 i0 1 Tryz.underlying32 hi v l1.length (l1.map (Value.int .i64)) hr.1
  unfold Oper.wp execOp
  simp only [ho, resolve, invoke, builtin, Sem.run_bind, Sem.run_pure, Result.andThen_ok, List.map_toArray, List.map_cons, List.map_nil, hs, hx, hrun]
  exact h
end Go.Proofs.YtnhhajbfohjlbaaGreatDoor.Expr
