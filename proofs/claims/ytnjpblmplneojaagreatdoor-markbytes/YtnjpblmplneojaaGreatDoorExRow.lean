/- Rows of bytes that a call makes by append: what they hold, and what is left as it was. -/
import Derived.Test.YtnjpblmplneojaaGreatDoorExMem
import Derived.Test.YtnjpblmplneojaaGreatDoorRows2
import Derived.Lib.OthersKept
import Derived.Lib.AppendStr
import Derived.Lib.AppendIntMem
namespace Go.Proofs.YtnjpblmplneojaaGreatDoor.Expr
open Go.RowKit Go.Proofs.YtnjpblmplneojaaGreatDoor.Frame
set_option linter.unusedVariables false
set_option linter.unusedSimpArgs false

/-- a row of the call's own that holds these bytes -/
def Row (B : Nat) (bs : List UInt8) (v : Value) (w : World) : Prop := w.ownsRow B 5 1 v bs.length (Lib.byteCells bs) ∧ B ≤ w.heap.size
/-- what a writer leaves as it was -/
def Keep (B : Nat) (w w' : World) : Prop := Below B w w' ∧ Lib.OthersKept 5 none w w'
theorem Keep.refl (B : Nat) (w : World) : Keep B w w := ⟨Below.refl _ _, Lib.OthersKept.refl _ _ _⟩
theorem Keep.trans {B : Nat} {u v w : World} (h : Keep B u v) (k : Keep B v w) : Keep B u w := ⟨h.1.trans k.1, h.2.trans k.2⟩
theorem Keep.of {B : Nat} {w w' : World} (hB : B ≤ w.heap.size) (h : Below w.heap.size w w') : Keep B w w' := ⟨h.mono hB, fun k o hk _ _ => by
  have hlt : k < w.heap.size := (Array.getElem?_eq_some_iff.1 hk).1
  rw [h.block k hlt]; exact hk⟩
theorem Row.up {B : Nat} {bs : List UInt8} {v : Value} {w w' : World} (h : Row B bs v w) (hb : Below w.heap.size w w') : Row B bs v w' :=
  ⟨h.1.kept (row := none) ⟨hb.os, hb.tape, hb.output, hb.size, fun k hk _ => hb.block k hk⟩ (by cases hv : v.ownBlock <;> simp), Nat.le_trans h.2 hb.size⟩
theorem Row.kind {B : Nat} {bs : List UInt8} {v : Value} {w : World} (h : Row B bs v w) : ∀ g, v.ownBlock = some g → ∃ c fz, w.heap[g]? = some (.cells c 5 fz) := by
  intro g hg
  rcases h.1.2 with ⟨rfl, _⟩ | ⟨g', cap, cur, rfl, _, hgg, _⟩
  · simp [Value.ownBlock] at hg
  · simp [Value.ownBlock] at hg
    subst hg
    exact ⟨cur, _, hgg⟩
theorem Keep.grown {B : Nat} {bs : List UInt8} {v : Value} {w w' : World} (h : Row B bs v w) (hg : w.grownBy w' v.ownBlock) : Keep B w w' :=
  ⟨(Below.refl _ _).grown hg h.2 (fun k hk => (h.1.lt k hk).1), (Lib.OthersKept.refl _ _ _).grown hg h.kind⟩
/-- a block that is no row of bytes is kept -/
theorem Keep.box {B C : Nat} {w w' : World} {cs : Array Value} {fz : Nat × Nat} (h : Keep B w w') (hC : w.heap[C]? = some (.cells cs 187 fz)) : w'.heap[C]? = some (.cells cs 187 fz) :=
  h.2 C _ hC (fun e => by cases e) (fun c f e => by injection e with e1 e2; exact absurd e2 (by decide))
theorem box_cell {C : Nat} {w : World} {cs : Array Value} {t : TypeId} {fz : Nat × Nat} (h : w.heap[C]? = some (.cells cs t fz)) (j : Nat) : w.cell? ⟨C, j, none⟩ = cs[j]? := by
  simp [World.cell?, h]
theorem bytes_append (l m : List UInt8) : Lib.byteCells (l ++ m) = Lib.byteCells l ++ Lib.byteCells m := by simp [Lib.byteCells]
theorem byteInfo : (Tryz.prog.info? 5).map (fun i => (i.zero, i.size, i.bytes)) = some (some (.int .u8 0), 1, 1) := by kernel_rfl
theorem row_nil (w : World) : Row w.heap.size [] (.slice none 0 0) w := ⟨World.ownsRow_nil _ _ _ _, Nat.le_refl _⟩

/-- 'append(out, c)', as a step of a walk -/
theorem wp_app1 {ops : Array Oper} {rest : List Oper} {o : Oper} {a : Act} {Q : Exit → Act → World → Prop} {w : World} {B q : Nat} {bs : List UInt8} {v : Value} {z : Int} (c : UInt8) (hgd : o.guard = none) (s x : Operand)
    (ho : o.op = .call { callee := .builtin .append, args := #[s, x], argTypes := #[28, 28] }) (hs : a.eval s = v) (hx : a.eval x = .slice (some ⟨q, 0, none⟩) 1 1)
    (hz : z = c.toNat) (hr : Row B bs v w) (hc : w.cell? ⟨q, 0, none⟩ = some (.int .u8 z)) (hl : bs.length ≤ 10000000)
    (h : ∀ v' w', Row B (bs ++ [c]) v' w' → Keep B w w' → wpList Tryz.prog ops Q rest (a.put o.dst v') w') : wpList Tryz.prog ops Q (o :: rest) a w := by
  obtain ⟨i0, hi, hz0, hz1, hz2⟩ := info_parts byteInfo
  obtain ⟨v', w', hrun, hown, hg, _⟩ := run_append_own (P := Tryz.prog) w B 28 o.type 5 i0 _ 1 1 Tryz.underlying28 hi hz0 hz1 hz2 rfl (by decide) v bs.length (Lib.byteCells bs) hr.1 ⟨q, 0, none⟩ 1 1 [.int .u8 z] rfl
    (fun j u hu => by
      match j, hu with
      | 0, hu => simp at hu; subst hu; rw [Go.WideShapes.add_plain]; exact hc
      | j + 1, hu => simp at hu) (fun u hu => by simp at hu; subst hu; rfl) (by unfold maxLen; omega) (by omega) hr.2
  refine wpList_append_run hgd s x _ _ ho hs hx hrun (h v' w' ⟨?_, Nat.le_trans hr.2 hg.size⟩ (Keep.grown hr hg))
  rw [bytes_append, List.length_append]
  subst hz
  exact hown
/-- 'append(out, c)', as a step of a region that draws -/
theorem step_app1 {ops : Array Oper} {o : Oper} {a : Act} {Q : Exit → Act → World → Prop} {K : Act → World → Prop} {w : World} {B q : Nat} {bs : List UInt8} {v : Value} {z : Int} (c : UInt8) (hgd : o.guard = none) (s x : Operand)
    (ho : o.op = .call { callee := .builtin .append, args := #[s, x], argTypes := #[28, 28] }) (hs : a.eval s = v) (hx : a.eval x = .slice (some ⟨q, 0, none⟩) 1 1)
    (hz : z = c.toNat) (hr : Row B bs v w) (hc : w.cell? ⟨q, 0, none⟩ = some (.int .u8 z)) (hl : bs.length ≤ 10000000)
    (h : ∀ v' w', Row B (bs ++ [c]) v' w' → Keep B w w' → K (a.put o.dst v') w') : if Region.wanted o (yielded ops a.tmps) = true then Oper.wp Tryz.prog o a w K Q else K (a.put o.dst undef) w := by
  rw [if_pos (by simp [Region.wanted, hgd])]
  obtain ⟨i0, hi, hz0, hz1, hz2⟩ := info_parts byteInfo
  obtain ⟨v', w', hrun, hown, hg, _⟩ := run_append_own (P := Tryz.prog) w B 28 o.type 5 i0 _ 1 1 Tryz.underlying28 hi hz0 hz1 hz2 rfl (by decide) v bs.length (Lib.byteCells bs) hr.1 ⟨q, 0, none⟩ 1 1 [.int .u8 z] rfl
    (fun j u hu => by
      match j, hu with
      | 0, hu => simp at hu; subst hu; rw [Go.WideShapes.add_plain]; exact hc
      | j + 1, hu => simp at hu) (fun u hu => by simp at hu; subst hu; rfl) (by unfold maxLen; omega) (by omega) hr.2
  unfold Oper.wp execOp
  simp only [ho, resolve, invoke, builtin, Sem.run_bind, Sem.run_pure, Result.andThen_ok, List.map_toArray, List.map_cons, List.map_nil, hs, hx, hrun]
  refine h v' w' ⟨?_, Nat.le_trans hr.2 hg.size⟩ (Keep.grown hr hg)
  rw [bytes_append, List.length_append]
  subst hz
  exact hown
/-- 'append(out, s...)', as a step of a walk -/
theorem wp_appS {ops : Array Oper} {rest : List Oper} {o : Oper} {a : Act} {Q : Exit → Act → World → Prop} {w : World} {B : Nat} {bs : List UInt8} {v : Value} (str : ByteArray) (hgd : o.guard = none) (s x : Operand)
    (ho : o.op = .call { callee := .builtin .append, args := #[s, x], argTypes := #[28, 9] }) (hs : a.eval s = v) (hx : a.eval x = .string str)
    (hr : Row B bs v w) (hl : bs.length + str.data.toList.length ≤ 10000000)
    (h : ∀ v' w', Row B (bs ++ str.data.toList) v' w' → Keep B w w' → wpList Tryz.prog ops Q rest (a.put o.dst v') w') : wpList Tryz.prog ops Q (o :: rest) a w := by
  obtain ⟨i0, hi, hz0, hz1, hz2⟩ := info_parts byteInfo
  have hsz : str.size = str.data.toList.length := by cases str; simp [ByteArray.size]
  obtain ⟨v', w', hrun, hown, hg, _⟩ := Lib.run_append_own_string (P := Tryz.prog) w B 28 9 o.type 5 i0 Tryz.underlying28 Tryz.underlying9 hi hz0 hz1 hz2 v bs.length (Lib.byteCells bs) hr.1 str (by unfold maxLen; omega) (by omega) hr.2
  refine wpList_append_run hgd s x _ _ ho hs hx hrun (h v' w' ⟨?_, Nat.le_trans hr.2 hg.size⟩ (Keep.grown hr hg))
  rw [bytes_append, List.length_append, ← hsz]
  exact hown

def tabName : String := Rows.markOrdersRow.named.getD 0 Rows.markOrdersRow.func
/-- names below B, and the table of the powers of ten -/
def Env (B : Nat) (na : Option Addr) (names : List ByteArray) (w : World) : Prop :=
  (names.length = 0 ∨ ∃ b off, na = some ⟨b, off, none⟩ ∧ b < B ∧ ∀ i, i < names.length → w.cell? ⟨b, off + i, none⟩ = some (.string (names.getD i ByteArray.empty))) ∧ Lib.TabBelow Tryz.prog B w tabName .u64 Lib.pow10Tab
theorem Env.on {B : Nat} {na : Option Addr} {names : List ByteArray} {w w' : World} (h : Env B na names w) (hb : Below B w w') : Env B na names w' := by
  refine ⟨?_, h.2.on hb⟩
  rcases h.1 with h0 | ⟨b, off, ha, hB, hc⟩
  · exact .inl h0
  · exact .inr ⟨b, off, ha, hB, fun i hi => (hb.cell (p := ⟨b, off + i, none⟩) hB).trans (hc i hi)⟩
/-- what a writer tells, and leaves -/
def TPost (B : Nat) (bs : List UInt8) (w : World) (e : Ending) (w' : World) : Prop := ∃ v', e = .returned v' ∧ Row B bs v' w' ∧ Keep B w w'
end Go.Proofs.YtnjpblmplneojaaGreatDoor.Expr
