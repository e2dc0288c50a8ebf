/- Rows of numbers that a call makes by append; which numbers hold: contracts of the calls, over the turned program. -/
import Derived.Test.YtgdkomkflfodaaaGreatChkCan
import Derived.Test.YtgdkomkflfodaaaGreatChkAbo
import Derived.Test.YtgdkomkflfodaaaGreatRows2
import Derived.Deep.AppendLies
namespace Go.Proofs.YtgdkomkflfodaaaGreat.Check
open Go.RowKit Go.Proofs.YtgdkomkflfodaaaGreat.Frame Go.Proofs.YtgdkomkflfodaaaGreat.Colour Go.Proofs.YtgdkomkflfodaaaGreat.Expr
set_option linter.unusedVariables false
set_option linter.unusedSimpArgs false

theorem own_slice {w : World} {base : Nat} {e : TypeId} {size : Nat} {v : Value} {n : Nat} {xs : List Value} (h : w.ownsRow base e size v n xs) : ∃ a c, v = .slice a n c := by
  rcases h.2 with ⟨h1, h2⟩ | ⟨g, c, cur, h1, _⟩
  · exact ⟨none, 0, by rw [h1, h2]⟩
  · exact ⟨_, c, h1⟩
def ints (l : List Int) : List Value := l.map fun z => Value.int .i64 z
/-- numbers in a row of the call's own, made since W0 -/
def IR (W0 wr : World) (a : Option Addr) (c : Nat) (l : List Int) : Prop := wr.ownsRow W0.heap.size 3 1 (.slice a l.length c) l.length (ints l) ∧ Below W0.heap.size W0 wr
theorem IR.nil (W0 wr : World) (h : Below W0.heap.size W0 wr) : IR W0 wr none 0 [] := ⟨World.ownsRow_nil _ _ _ _, h⟩
theorem below_grown {w w' : World} (hb : Below w.heap.size w w') : w.grownBy w' none := ⟨hb.os, hb.tape, hb.output, hb.size, fun k hk _ => hb.block k hk⟩
theorem IR.below {W0 wr wr' : World} {a : Option Addr} {c : Nat} {l : List Int} (h : IR W0 wr a c l) (hb : Below wr.heap.size wr wr') : IR W0 wr' a c l := by
  refine ⟨h.1.kept (below_grown hb) ?_, then_ h.2 hb⟩
  cases hv : (Value.slice a l.length c).ownBlock with
  | none => exact .inl rfl
  | some k => exact .inr (by simp)
theorem IR.ns {W0 wr : World} {a : Option Addr} {c : Nat} {l : List Int} (h : IR W0 wr a c l) (hl : ∀ z, z ∈ l → In64 z) : Ns wr a l := by
  rcases h.1.2 with ⟨_, h0⟩ | ⟨g, c', cur, hv, hrest⟩
  · exact .inl h0
  · injection hv with h1 h2 h3
    subst h1 h3
    refine .inr ⟨g, 0, rfl, fun i hi => ⟨fun j v hj => ?_, ?_⟩⟩
    · have := World.ownsRow.cellAt (w := wr) (base := W0.heap.size) (e := 3) (size := 1) (g := g) (n := l.length) (cap := c) (xs := ints l) h.1 i (by omega)
      cases j with
      | zero =>
        rw [Nat.zero_add, Nat.mul_one, Nat.add_zero, this]
        unfold ints
        rw [List.getElem?_map, List.getElem?_eq_getElem hi, ← hj]
        show some _ = some _
        rw [List.getD_eq_getElem?_getD, List.getElem?_eq_getElem hi]; rfl
      | succ j => simp at hj
    · rw [List.getD_eq_getElem?_getD, List.getElem?_eq_getElem hi]; exact hl _ (List.getElem_mem hi)
theorem IR.len {W0 wr : World} {a : Option Addr} {c : Nat} {l : List Int} (h : IR W0 wr a c l) : l.length ≤ c := by
  rcases h.1.2 with ⟨hv, h0⟩ | ⟨g, c', cur, hv, hb, hh, hcap, _⟩
  · omega
  · injection hv with h1 h2 h3
    subst h3
    exact hcap
theorem IR.base {W wr W0 : World} {a : Option Addr} {c : Nat} {l : List Int} (h : IR W0 wr a c l) (hb : Below W.heap.size W W0) : IR W wr a c l :=
  ⟨⟨h.1.1, h.1.2.imp id fun ⟨g, c', cur, e, hg, r⟩ => ⟨g, c', cur, e, Nat.le_trans hb.size hg, r⟩⟩, then_ hb h.2⟩
/-- one number more -/
theorem wp_push {ops : Array Oper} {rest : List Oper} {o : Oper} {ac : Act} {Q : Exit → Act → World → Prop} {W0 W1 W : World} {a : Option Addr} {c q : Nat} {l : List Int} {x : Int} {T : TypeId} (hgd : o.guard = none) (s y : Operand)
    (ho : o.op = .call { callee := .builtin .append, args := #[s, y], argTypes := #[36, 36] }) (hs : ac.eval s = .slice a l.length c) (hx : ac.eval y = .slice (some ⟨q, 0, none⟩) 1 1)
    (hown : IR W0 W1 a c l) (hW : W = W1.alloc (.cells #[.int .i64 x] T)) (hq : q = W1.heap.size) (hn : l.length ≤ 1000001)
    (h : ∀ a' c' w', IR W0 w' a' c' (l ++ [x]) → wpList Tryz.prog ops Q rest (ac.put o.dst (.slice a' (l.length + 1) c')) w') : wpList Tryz.prog ops Q (o :: rest) ac W := by
  have hIR := hown.below (wr' := W) (by rw [hW]; exact (Below.refl _ _).alloc (Nat.le_refl _) _)
  obtain ⟨i0, hi, hz0, hz1, hz2⟩ := info_parts infoInt8
  have hml : (1000001 : Nat) + 1 ≤ maxLen := by decide
  obtain ⟨v', w', hr, h2, h3, h4, h5⟩ := run_append_own_at (P := Tryz.prog) W W0.heap.size 36 o.type 3 i0 (.int .i64 0) 1 8 Tryz.underlying36 hi hz0 hz1 hz2 rfl (by decide) (.slice a l.length c) l.length (ints l) hIR.1 ⟨q, 0, none⟩ 1 1 [.int .i64 x] rfl
    (fun j u hu => by
      rw [Go.WideShapes.add_plain, Nat.zero_add, hW, World.cell?_alloc_at _ _ _ _ hq]
      simpa using hu) (by simp [Value.oneCell']) (by omega) (by omega) hIR.2.size
  obtain ⟨a', c', rfl⟩ := own_slice h2
  have hb' : Below W0.heap.size W0 w' := hIR.2.grown h3 hIR.2.size (fun k hk => (hIR.1.lt k hk).1)
  refine wpList_append_run hgd s y _ _ ho hs hx hr (h a' c' w' ⟨?_, hb'⟩)
  have e : ints (l ++ [x]) = ints l ++ [.int .i64 x] := by unfold ints; simp
  rw [e, List.length_append]
  exact h2

/-- the numbers below n at which f holds -/
def trueL (n : Nat) (f : Nat → Bool) : List Int := ((List.range n).filter f).map fun (k : Nat) => (k : Int)
theorem trueL_yes {n : Nat} {f : Nat → Bool} (h : f n = true) : trueL (n + 1) f = trueL n f ++ [(n : Int)] := by
  unfold trueL; rw [List.range_succ, List.filter_append]; simp [h]
theorem trueL_no {n : Nat} {f : Nat → Bool} (h : f n = false) : trueL (n + 1) f = trueL n f := by
  unfold trueL; rw [List.range_succ, List.filter_append]; simp [h]
theorem trueL_len (n : Nat) (f : Nat → Bool) : (trueL n f).length ≤ n := by
  unfold trueL; rw [List.length_map]
  have := List.length_filter_le f (List.range n)
  simpa using this
theorem trueL_mem {n : Nat} {f : Nat → Bool} {z : Int} : z ∈ trueL n f ↔ ∃ k : Nat, z = k ∧ k < n ∧ f k = true := by
  unfold trueL
  simp only [List.mem_map, List.mem_filter, List.mem_range]
  constructor
  · rintro ⟨k, ⟨h1, h2⟩, rfl⟩; exact ⟨k, rfl, h1, h2⟩
  · rintro ⟨k, rfl, h1, h2⟩; exact ⟨k, ⟨h1, h2⟩, rfl⟩
/-- yes and no in memory -/
def Bs (w : World) (a : Option Addr) (n : Nat) (f : Nat → Bool) : Prop := n = 0 ∨ ∃ b off, a = some ⟨b, off, none⟩ ∧ ∀ i, i < n → w.cell? ⟨b, off + i, none⟩ = some (.bool (f i))
theorem Bs.below {w w' : World} {a : Option Addr} {n : Nat} {f : Nat → Bool} (h : Bs w a n f) (hb : Below w.heap.size w w') : Bs w' a n f := by
  rcases h with h | ⟨b, off, ha, h⟩
  · exact .inl h
  · exact .inr ⟨b, off, ha, fun i hi => box_below (h i hi) hb⟩
def ListPost (L : List Int) (w : World) (e : Ending) (w' : World) : Prop := ∃ a c, e = .returned (.slice a L.length c) ∧ IR w w' a c L
set_option maxHeartbeats 1000000 in
theorem numbers_any (a : Option Addr) (n cap : Nat) (f : Nat → Bool) (w : World) (h : Bs w a n f) (hn : n ≤ 1000000) : Calls Tryz.prog 58 #[.slice a n cap] w (ListPost (trueL n f) w) := by
  have H0 : Hid (Bs w a n f) := h
  clear h
  go_enter Tryz.func58, Tryz.ntmps58
  go_wp2_with fail
  go_loopw [8, 3] (fun v u wr => ∃ (i : Nat) (a' : Option Addr) (c' : Nat), v = .int .i64 (i : Int) ∧ u = .slice a' (trueL i f).length c' ∧ i ≤ n ∧ Hid (IR w wr a' c' (trueL i f))) (fun v u _ => match v with | .int _ z => n - z.toNat | _ => 0)
  case atStart => exact ⟨0, none, 0, rfl, rfl, by omega, IR.nil w w (Below.refl _ _)⟩
  case round =>
    obtain ⟨i, a', c', rfl, rfl, hi, HI⟩ := hrel
    by_cases hlt : i < n
    · have hlt' : (i : Int) < n := by omega
      obtain ⟨b, off, ha, hc⟩ : ∃ b off, a = some ⟨b, off, none⟩ ∧ wr.cell? ⟨b, off + i, none⟩ = some (.bool (f i)) := by
        rcases H0.out.below HI.out.2 with g | ⟨b, off, ha, g⟩
        · omega
        · exact ⟨b, off, ha, g i hlt⟩
      subst ha
      have hlen := trueL_len i f
      cases hf : f i with
      | true =>
        rw [hf] at hc
        have E : Hid (trueL (i + 1) f = trueL i f ++ [(i : Int)]) := trueL_yes hf
        clear hf
        go_wp2_with (at_builtin; refine wp_push rfl _ _ rfl rfl rfl HI.out rfl (by simp) (by omega) ?_; intro a2 c2 w2 h2; have NX : Hid (IR w w2 a2 c2 (trueL (i + 1) f)) := by rw [E.out]; exact h2)
        clear h2
        have hl2 : (trueL i f).length + 1 = (trueL (i + 1) f).length := by rw [E.out, List.length_append]; rfl
        rw [hl2]
        go_roundw
        case rel => exact ⟨i + 1, a2, c2, by simp, by simp, by omega, NX⟩
        case measure => simp; omega
      | false =>
        rw [hf] at hc
        have E : Hid (trueL (i + 1) f = trueL i f) := trueL_no hf
        clear hf
        go_wp2_with fail
        go_roundw
        case rel => exact ⟨i + 1, a', c', by simp, by rw [E.out], by omega, by rw [E.out]; exact HI⟩
        case measure => simp; omega
    · have hlt' : ¬ (i : Int) < n := by omega
      have e : i = n := by omega
      subst e
      go_wp2_with fail
      go_ret
      exact ⟨_, _, rfl, HI.out⟩
end Go.Proofs.YtgdkomkflfodaaaGreat.Check
