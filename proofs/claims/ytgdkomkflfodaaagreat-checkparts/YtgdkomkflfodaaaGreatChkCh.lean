/- What may change, block by block; a number more in a row of the call's own: steps of a walk. -/
import Derived.Test.YtgdkomkflfodaaaGreatChkOwn
namespace Go.Proofs.YtgdkomkflfodaaaGreat.Check
open Go.RowKit Go.Proofs.YtgdkomkflfodaaaGreat.Frame Go.Proofs.YtgdkomkflfodaaaGreat.Colour Go.Proofs.YtgdkomkflfodaaaGreat.Expr
set_option linter.unusedVariables false
set_option linter.unusedSimpArgs false

/-- nothing that was there has changed, but blocks of M -/
structure Ch (M : Nat → Prop) (w w' : World) : Prop where
  os : w'.os = w.os
  tape : w'.tape = w.tape
  output : w'.output = w.output
  size : w.heap.size ≤ w'.heap.size
  block : ∀ k, k < w.heap.size → ¬ M k → w'.heap[k]? = w.heap[k]?
theorem Ch.refl (M : Nat → Prop) (w : World) : Ch M w w := ⟨rfl, rfl, rfl, Nat.le_refl _, fun _ _ _ => rfl⟩
theorem Ch.trans {M : Nat → Prop} {a b c : World} (h : Ch M a b) (k : Ch M b c) : Ch M a c :=
  ⟨k.os.trans h.os, k.tape.trans h.tape, k.output.trans h.output, Nat.le_trans h.size k.size, fun i hi hm => (k.block i (Nat.lt_of_lt_of_le hi h.size) hm).trans (h.block i hi hm)⟩
theorem Ch.mono {M N : Nat → Prop} {w w' : World} (h : Ch M w w') (k : ∀ b, b < w.heap.size → M b → N b) : Ch N w w' :=
  ⟨h.os, h.tape, h.output, h.size, fun i hi hm => h.block i hi fun x => hm (k i hi x)⟩
theorem Ch.of_below {M : Nat → Prop} {w w' : World} (h : Below w.heap.size w w') : Ch M w w' := ⟨h.os, h.tape, h.output, h.size, fun i hi _ => h.block i hi⟩
theorem Ch.below {M : Nat → Prop} {B : Nat} {w w' : World} (h : Ch M w w') (hB : B ≤ w.heap.size) (hM : ∀ b, M b → B ≤ b) : Below B w w' :=
  ⟨h.os, h.tape, h.output, h.size, fun i hi => h.block i (Nat.lt_of_lt_of_le hi hB) fun m => absurd (hM i m) (by omega)⟩
theorem Ch.up2 {M N : Nat → Prop} {H w w' : World} (h : Ch M H w) (k : Ch N w w') (hN : ∀ b, N b → M b ∨ H.heap.size ≤ b) : Ch M H w' :=
  ⟨k.os.trans h.os, k.tape.trans h.tape, k.output.trans h.output, Nat.le_trans h.size k.size, fun i hi hm => (k.block i (Nat.lt_of_lt_of_le hi h.size) fun n => by rcases hN i n with g | g; exact hm g; omega).trans (h.block i hi hm)⟩
theorem Ch.grown {M : Nat → Prop} {w w' : World} {row : Option Nat} (h : w.grownBy w' row) (k : ∀ b, row = some b → M b) : Ch M w w' :=
  ⟨h.os, h.tape, h.output, h.size, fun i hi hm => h.block i hi fun e => hm (k i e.symm)⟩
theorem Ch.setCell {M : Nat → Prop} {w w' : World} (h : Ch M w w') {b o : Nat} (hb : M b ∨ w.heap.size ≤ b) (v : Value) : Ch M w (w'.setCell ⟨b, o, none⟩ v) := by
  refine ⟨h.os, h.tape, h.output, by simpa [World.setCell] using h.size, fun i hi hm => ?_⟩
  have : i ≠ b := fun e => by subst e; rcases hb with hb | hb; exact hm hb; omega
  rw [RowKit.Below.heap_setCell _ _ _ _ this]
  exact h.block i hi hm
theorem cell_of_block {w w' : World} {b : Nat} (h : w'.heap[b]? = w.heap[b]?) (o : Nat) : w'.cell? ⟨b, o, none⟩ = w.cell? ⟨b, o, none⟩ := by
  simp [World.cell?, h]
theorem frozen_of_block {w w' : World} {b : Nat} (h : w'.heap[b]? = w.heap[b]?) (o : Nat) : w'.frozen? ⟨b, o, none⟩ = w.frozen? ⟨b, o, none⟩ := by
  simp [World.frozen?, h]
theorem Ch.cell {M : Nat → Prop} {w w' : World} (h : Ch M w w') {b o : Nat} {v : Value} (hm : ¬ M b) (hv : w.cell? ⟨b, o, none⟩ = some v) : w'.cell? ⟨b, o, none⟩ = some v :=
  (cell_of_block (h.block b (World.block_lt_of_cell? w _ hv) hm) o).trans hv
theorem cell_set_ne {w : World} {b o b' o' : Nat} {v : Value} (h : ¬ (b = b' ∧ o = o')) : (w.setCell ⟨b, o, none⟩ v).cell? ⟨b', o', none⟩ = w.cell? ⟨b', o', none⟩ :=
  World.cell?_setCell_other _ _ _ _ (fun e => h ⟨congrArg Addr.block e, congrArg Addr.off e⟩)
theorem cell_set_eq {w : World} {b o : Nat} {v u : Value} (h : w.cell? ⟨b, o, none⟩ = some u) : (w.setCell ⟨b, o, none⟩ v).cell? ⟨b, o, none⟩ = some v := World.cell?_setCell_same _ _ _ h
theorem own_ch2 {M : Nat → Prop} {w w' : World} {base : Nat} {e : TypeId} {size : Nat} {v : Value} {n : Nat} {xs : List Value} (h : w.ownsRow base e size v n xs) (hc : Ch M w w') (hm : ∀ k, v.ownBlock = some k → ¬ M k) : w'.ownsRow base e size v n xs := by
  refine ⟨h.1, ?_⟩
  rcases h.2 with h0 | ⟨g, cap, cur, hv, hb, hg, hn, hcm, hs, ht⟩
  · exact .inl h0
  · refine .inr ⟨g, cap, cur, hv, hb, ?_, hn, hcm, hs, ht⟩
    rw [hc.block g (by have := h.lt g (by rw [hv]; rfl); exact this.2) (hm g (by rw [hv]; rfl))]
    exact hg
theorem own_block (a : Option Addr) (n c : Nat) : (Value.slice a n c).ownBlock = a.map Addr.block := by cases a <;> rfl
theorem rowIs_ch {M : Nat → Prop} {w w' : World} {b : Nat} {t : TypeId} {n : Nat} {f : Nat → Value} (h : w.rowIs b t n f) (hc : Ch M w w') (hm : ¬ M b) : w'.rowIs b t n f := h.of_block (hc.block _ h.lt hm)
theorem own_lt {w : World} {base : Nat} {e : TypeId} {size : Nat} {a : Option Addr} {n c m : Nat} {xs : List Value} (h : w.ownsRow base e size (.slice a n c) m xs) {k : Nat} (hk : a.map Addr.block = some k) : base ≤ k ∧ k < w.heap.size := h.lt k (by rw [own_block]; exact hk)
/-- one number more, and what is changed by it -/
theorem run_push {W0 W1 W : World} {B : Nat} {a : Option Addr} {c q : Nat} {l : List Int} {x : Int} {T ty : TypeId} (hown : W1.ownsRow B 3 1 (.slice a l.length c) l.length (ints l)) (hB : B ≤ W1.heap.size) (hW : W = W1.alloc (.cells #[.int .i64 x] T)) (hq : q = W1.heap.size) (hn : l.length ≤ 1000001) :
    ∃ a' c' w', (Builtin.append_ #[36, 36] ty #[.slice a l.length c, .slice (some ⟨q, 0, none⟩) 1 1]).run Tryz.prog W = .ok (.slice a' (l.length + 1) c') w' ∧ w'.ownsRow B 3 1 (.slice a' (l.length + 1) c') (l.length + 1) (ints (l ++ [x])) ∧
      W.grownBy w' (a.map Addr.block) ∧ (a'.map Addr.block = a.map Addr.block ∨ a'.map Addr.block = some W.heap.size) := by
  obtain ⟨i0, hi, hz0, hz1, hz2⟩ := info_parts infoInt8
  have hml : (1000001 : Nat) + 1 ≤ maxLen := by decide
  have hsz : B ≤ W.heap.size := by rw [hW]; simp; omega
  have hown' : W.ownsRow B 3 1 (.slice a l.length c) l.length (ints l) := by rw [hW]; exact hown.alloc _
  obtain ⟨v', w', hr, h2, h3, h4, h5⟩ := run_append_own_at (P := Tryz.prog) W B 36 ty 3 i0 (.int .i64 0) 1 8 Tryz.underlying36 hi hz0 hz1 hz2 rfl (by decide) (.slice a l.length c) l.length (ints l) hown' ⟨q, 0, none⟩ 1 1 [.int .i64 x] rfl
    (fun j u hu => by
      rw [Go.WideShapes.add_plain, Nat.zero_add, hW, World.cell?_alloc_at _ _ _ _ hq]
      simpa using hu) (by simp [Value.oneCell']) (by omega) (by omega) hsz
  obtain ⟨a', c', rfl⟩ := own_slice h2
  rw [own_block] at h3 h5
  rw [own_block] at h5
  have e : ints (l ++ [x]) = ints l ++ [.int .i64 x] := by unfold ints; simp
  exact ⟨a', c', w', hr, by rw [e]; exact h2, h3, h5⟩
theorem wp_push2 {ops : Array Oper} {rest : List Oper} {o : Oper} {ac : Act} {Q : Exit → Act → World → Prop} {W0 W1 W : World} {B : Nat} {a : Option Addr} {c q : Nat} {l : List Int} {x : Int} {T : TypeId} (hgd : o.guard = none) (s y : Operand)
    (ho : o.op = .call { callee := .builtin .append, args := #[s, y], argTypes := #[36, 36] }) (hs : ac.eval s = .slice a l.length c) (hx : ac.eval y = .slice (some ⟨q, 0, none⟩) 1 1)
    (hown : W1.ownsRow B 3 1 (.slice a l.length c) l.length (ints l)) (hB : B ≤ W1.heap.size) (hW : W = W1.alloc (.cells #[.int .i64 x] T)) (hq : q = W1.heap.size) (hn : l.length ≤ 1000001)
    (h : ∀ a' c' w', w'.ownsRow B 3 1 (.slice a' (l.length + 1) c') (l.length + 1) (ints (l ++ [x])) → W.grownBy w' (a.map Addr.block) → (a'.map Addr.block = a.map Addr.block ∨ a'.map Addr.block = some W.heap.size) → wpList Tryz.prog ops Q rest (ac.put o.dst (.slice a' (l.length + 1) c')) w') : wpList Tryz.prog ops Q (o :: rest) ac W := by
  obtain ⟨a', c', w', hr, h1, h2, h3⟩ := run_push (W0 := W0) (ty := o.type) hown hB hW hq hn
  exact wpList_append_run hgd s y _ _ ho hs hx hr (h a' c' w' h1 h2 h3)
/-- .. as a step of a region that draws -/
theorem step_push {ops : Array Oper} {o : Oper} {ac : Act} {Q : Exit → Act → World → Prop} {K : Act → World → Prop} {W1 W : World} {B : Nat} {a : Option Addr} {c q : Nat} {l : List Int} {x : Int} {T : TypeId} (hgd : o.guard = none) (s y : Operand)
    (ho : o.op = .call { callee := .builtin .append, args := #[s, y], argTypes := #[36, 36] }) (hs : ac.eval s = .slice a l.length c) (hx : ac.eval y = .slice (some ⟨q, 0, none⟩) 1 1)
    (hown : W1.ownsRow B 3 1 (.slice a l.length c) l.length (ints l)) (hB : B ≤ W1.heap.size) (hW : W = W1.alloc (.cells #[.int .i64 x] T)) (hq : q = W1.heap.size) (hn : l.length ≤ 1000001)
    (h : ∀ a' c' w', w'.ownsRow B 3 1 (.slice a' (l.length + 1) c') (l.length + 1) (ints (l ++ [x])) → W.grownBy w' (a.map Addr.block) → (a'.map Addr.block = a.map Addr.block ∨ a'.map Addr.block = some W.heap.size) → K (ac.put o.dst (.slice a' (l.length + 1) c')) w') :
    if Region.wanted o (yielded ops ac.tmps) = true then Oper.wp Tryz.prog o ac W K Q else K (ac.put o.dst undef) W := by
  rw [if_pos (by simp [Region.wanted, hgd])]
  obtain ⟨a', c', w', hr, h1, h2, h3⟩ := run_push (W0 := W) (ty := o.type) hown hB hW hq hn
  unfold Oper.wp execOp
  simp only [ho, resolve, invoke, builtin, Sem.run_bind, Sem.run_pure, Result.andThen_ok, List.map_toArray, List.map_cons, List.map_nil, hs, hx, hr]
  exact h a' c' w' h1 h2 h3
end Go.Proofs.YtgdkomkflfodaaaGreat.Check
