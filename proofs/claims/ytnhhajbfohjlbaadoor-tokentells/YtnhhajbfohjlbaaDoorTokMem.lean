/- How tokens lie in memory. -/
import Derived.Test.YtnhhajbfohjlbaaDoorTokSign
import Derived.WalkSmall
namespace Go.Proofs.YtnhhajbfohjlbaaDoor.Token
open Go.RowKit Go.Proofs.YtnhhajbfohjlbaaDoor.Colour Go.Proofs.YtnhhajbfohjlbaaDoor.Frame
set_option linter.unusedVariables false
set_option linter.unusedSimpArgs false

theorem box_cell {C : Nat} {w : World} {cs : Array Value} {t : TypeId} {fz : Nat × Nat} (h : w.heap[C]? = some (.cells cs t fz)) (j : Nat) : w.cell? ⟨C, j, none⟩ = cs[j]? := by
  simp [World.cell?, h]
def tk0 : Tok := ⟨0, [], 0⟩
def cellsT : List Tok → List Value
  | [] => []
  | t :: l => .int .i64 t.kind :: .string (str t.text) :: .int .i64 t.at_ :: cellsT l
theorem cellsT_length : ∀ l, (cellsT l).length = l.length * 3
  | [] => rfl
  | t :: l => by simp only [cellsT, List.length_cons, cellsT_length l]; omega
theorem cellsT_snoc : ∀ (l : List Tok) (t : Tok), cellsT (l ++ [t]) = cellsT l ++ [.int .i64 t.kind, .string (str t.text), .int .i64 t.at_]
  | [], t => rfl
  | u :: l, t => by simp only [List.cons_append, cellsT, cellsT_snoc l t]
theorem cellsT_at : ∀ (l : List Tok) (i : Nat), i < l.length → (cellsT l)[i * 3]? = some (.int .i64 (l.getD i tk0).kind) ∧ (cellsT l)[i * 3 + 1]? = some (.string (str (l.getD i tk0).text)) ∧ (cellsT l)[i * 3 + 2]? = some (.int .i64 (l.getD i tk0).at_)
  | [], i, h => by cases h
  | t :: l, 0, h => ⟨rfl, rfl, rfl⟩
  | t :: l, i + 1, h => by
    have := cellsT_at l i (by simpa using h)
    rw [show (i + 1) * 3 = i * 3 + 1 + 1 + 1 by omega]
    simpa [cellsT] using this
/-- tokens in memory -/
def TAt (w : World) (b off : Nat) (l : List Tok) : Prop :=
  ∀ i, i < l.length → w.cell? ⟨b, off + i * 3, none⟩ = some (.int .i64 (l.getD i tk0).kind) ∧ w.cell? ⟨b, off + i * 3 + 1, none⟩ = some (.string (str (l.getD i tk0).text)) ∧ w.cell? ⟨b, off + i * 3 + 2, none⟩ = some (.int .i64 (l.getD i tk0).at_)
def Toks (w : World) (a : Option Addr) (l : List Tok) : Prop := l = [] ∨ ∃ b off, a = some ⟨b, off, none⟩ ∧ TAt w b off l
theorem TAt.below {w w' : World} {b off : Nat} {l : List Tok} (h : TAt w b off l) (hb : Below w.heap.size w w') : TAt w' b off l := fun i hi => by
  obtain ⟨h0, h1, h2⟩ := h i hi
  have hl : b < w.heap.size := World.block_lt_of_cell? w _ h0
  exact ⟨(hb.cell (p := ⟨b, off + i * 3, none⟩) hl).trans h0, (hb.cell (p := ⟨b, off + i * 3 + 1, none⟩) hl).trans h1, (hb.cell (p := ⟨b, off + i * 3 + 2, none⟩) hl).trans h2⟩
theorem Toks.below {w w' : World} {a : Option Addr} {l : List Tok} (h : Toks w a l) (hb : Below w.heap.size w w') : Toks w' a l := by
  rcases h with h0 | ⟨b, off, ha, hc⟩
  · exact .inl h0
  · exact .inr ⟨b, off, ha, hc.below hb⟩
theorem Toks.row {w : World} {a : Option Addr} {l : List Tok} (h : Toks w a l) {k : Nat} (hk : k < l.length) : ∃ b off, a = some ⟨b, off, none⟩ ∧ b < w.heap.size ∧ TAt w b off l := by
  rcases h with h0 | ⟨b, off, ha, hc⟩
  · rw [h0] at hk; cases hk
  · exact ⟨b, off, ha, World.block_lt_of_cell? w _ (hc k hk).1, hc⟩
theorem infoTok : (Tryd.prog.info? 33).map (fun i => (i.zero, i.size, i.bytes)) = some (some (.agg #[.int .i64 0, .string ⟨#[]⟩, .int .i64 0]), 3, 32) := by kernel_rfl
/-- tokens of the call's own, as far as they go -/
def Tw (w wr : World) (out : List Tok) (a : Option Addr) (c : Nat) : Prop :=
  wr.ownsRow w.heap.size 33 3 (.slice a out.length c) out.length (cellsT out) ∧ Below w.heap.size w wr
theorem Tw.add {w wr w1 : World} {out : List Tok} {a a' : Option Addr} {c c' : Nat} {t : Tok} {o : Obj} (h : Tw w wr out a c)
    (h1 : w1.ownsRow w.heap.size 33 3 (.slice a' (out.length + 1) c') (out.length + 1) (cellsT out ++ [.int .i64 t.kind, .string (str t.text), .int .i64 t.at_])) (hg : (wr.alloc o).grownBy w1 (Value.slice a out.length c).ownBlock) : Tw w w1 (out ++ [t]) a' c' := by
  refine ⟨by rw [List.length_append, cellsT_snoc]; exact h1, (h.2.alloc h.2.size o).grown hg (by simp; have := h.2.size; omega) (fun k hk => (h.1.lt k hk).1)⟩
theorem Tw.up {w wr w1 : World} {out : List Tok} {a : Option Addr} {c : Nat} (h : Tw w wr out a c) (hb : Below wr.heap.size wr w1) : Tw w w1 out a c :=
  ⟨h.1.kept (row := none) ⟨hb.os, hb.tape, hb.output, hb.size, fun k hk _ => hb.block k hk⟩ (by cases hv : (Value.slice a out.length c).ownBlock <;> simp), then_ h.2 hb⟩
theorem own_slice {w : World} {base : Nat} {e : TypeId} {size : Nat} {v : Value} {n : Nat} {xs : List Value} (h : w.ownsRow base e size v n xs) : ∃ a c, v = .slice a n c := by
  rcases h.2 with ⟨h1, h2⟩ | ⟨g, c, cur, h1, _⟩
  · exact ⟨none, 0, by rw [h1, h2]⟩
  · exact ⟨_, c, h1⟩
theorem Tw.toks {w wr : World} {out : List Tok} {a : Option Addr} {c : Nat} (h : Tw w wr out a c) : Toks wr a out := by
  rcases h.1.2 with ⟨h1, h0⟩ | ⟨g, c', cur, hv, _, hg, hc, hmx, hsz, ht⟩
  · exact .inl (List.eq_nil_of_length_eq_zero h0)
  · simp only [Value.slice.injEq] at hv
    obtain ⟨rfl, _, rfl⟩ := hv
    refine .inr ⟨g, 0, rfl, fun i hi => ?_⟩
    have hrow : ∀ j v, (cellsT out)[j]? = some v → wr.cell? ⟨g, 0 + j, none⟩ = some v := fun j v hj => by
      rw [Nat.zero_add, box_cell hg, ← Array.getElem?_toList]
      rw [← ht, List.getElem?_take] at hj
      split at hj
      · exact hj
      · cases hj
    obtain ⟨c0, c1, c2⟩ := cellsT_at out i hi
    exact ⟨hrow _ _ c0, by rw [Nat.add_assoc]; exact hrow _ _ c1, by rw [Nat.add_assoc]; exact hrow _ _ c2⟩
theorem Tw.nil (w wr : World) (h : Below w.heap.size w wr) : Tw w wr [] none 0 := ⟨World.ownsRow_nil _ _ _ _, h⟩
theorem cells_three (w : World) (x y z : Value) (t : TypeId) : ∀ j v, [x, y, z][j]? = some v → (w.alloc (.cells #[x, y, z] t)).cell? ((⟨w.heap.size, 0, none⟩ : Addr).add j) = some v := fun j v hj => by
  rw [Go.WideShapes.add_plain, Nat.zero_add]
  have : (w.alloc (.cells #[x, y, z] t)).heap[w.heap.size]? = some (.cells #[x, y, z] t) := heap_alloc_new w _
  rw [box_cell this]
  simpa using hj
/-- what Lex tells -/
def LexPost (x : Lexed) (w : World) (e : Ending) (w' : World) : Prop := ∃ a c, e = .returned (.tuple #[.slice a x.1.length c, .int .i64 x.2.1, .int .i64 x.2.2]) ∧ Toks w' a x.1 ∧ Below w.heap.size w w'
theorem clone_any (s : ByteArray) (w : World) (hs : s.size ≤ 1000000) : Calls Tryd.prog 21 #[.string s] w fun e w' => e = .returned (.string s) ∧ Below w.heap.size w w' := by
  go_enter Tryd.func21, Tryd.ntmps21
  go_wp2_with (go_at_call 43; refine (Tryd.stringslite_Clone s _ (by omega)).mono ?_; rintro e w' ⟨he, hb⟩; subst he)
  go_ret
  exact ⟨rfl, hb⟩
end Go.Proofs.YtnhhajbfohjlbaaDoor.Token
