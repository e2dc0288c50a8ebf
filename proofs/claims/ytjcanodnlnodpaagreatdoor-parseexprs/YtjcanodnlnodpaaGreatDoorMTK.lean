/- Contracts and plain mathematics, together: ParTK, ParTE, ParTC1, ParTC3, ParTC4. -/
import Derived.Test.YtjcanodnlnodpaaGreatDoorMColA
import Derived.Test.YtjcanodnlnodpaaGreatDoorMUnary
/- What a task's reader keeps of what it has read. -/
namespace Go.Proofs.YtjcanodnlnodpaaGreatDoor.Parse
open Go.RowKit Go.Maps Go.Proofs.YtjcanodnlnodpaaGreatDoor.Frame Go.Proofs.YtjcanodnlnodpaaGreatDoor.Token Go.Proofs.YtjcanodnlnodpaaGreatDoor.Expr Go.Proofs.YtjcanodnlnodpaaGreatDoor.Calc
set_option linter.unusedVariables false
set_option linter.unusedSimpArgs false

structure TM where
  mv : Nat
  fv : List UInt8 → Option Nat
  kv : Nat
  av : Option Addr
  cv : Nat
  ag : Option Addr
  cg : Nat
  ai : Option Addr
  ci : Nat
  ao : Option Addr
  co : Nat
  ac : Option Addr
  cc : Nat
  vv : List Value
  vi : List Value
  vo : List Value
  xb : Nat
def taskC (p : Nat) (t : PTask) (m : TM) : List Value := [.pointer (some ⟨p, 0, none⟩), .string (str t.name), .slice m.av t.vars.length m.cv, .int .i64 t.guard.kind, .int .i64 t.guard.num, .slice m.ag t.guard.kids.length m.cg, .int .i64 t.join, .int .i64 t.split, .slice m.ai t.ins.length m.ci, .slice m.ao t.outs.length m.co, .slice m.ac t.cancel.length m.cc, .int .i64 t.after, .int .i64 t.m0, .int .i64 t.m1, .int .i64 t.m2, .map (some m.mv)]
def TM.bs (m : TM) (q : Nat) : List (Option Nat) := [some q, some m.mv, m.av.map Addr.block, m.ai.map Addr.block, m.ao.map Addr.block, m.ac.map Addr.block, some m.xb]
def TM.M (m : TM) (q L b : Nat) : Prop := some b ∈ m.bs q ∨ b < L
def TH (t : PTask) (m : TM) (W : World) : Prop := Rws VarR t.vars m.vv ∧ X W t.guard m.ag ∧ Rws (ArcR W) t.ins m.vi ∧ Rws (ArcR W) t.outs m.vo
def TR (L : Nat) (w : World) (t : PTask) (m : TM) : Prop := w.ownsRow L 149 2 (.slice m.av t.vars.length m.cv) t.vars.length m.vv ∧ w.ownsRow L 65 4 (.slice m.ai t.ins.length m.ci) t.ins.length m.vi ∧ w.ownsRow L 65 4 (.slice m.ao t.outs.length m.co) t.outs.length m.vo ∧ w.ownsRow L 3 1 (.slice m.ac t.cancel.length m.cc) t.cancel.length (ints t.cancel)
def TK (L : Nat) (w : World) (q p : Nat) (t : PTask) (m : TM) : Prop :=
  Bx w q (taskC p t m) ∧ TR L w t m ∧ SMp w m.mv t.vars.length m.kv m.fv ∧ (Apt (m.bs q) ∧ (∀ b, some b ∈ m.bs q → L ≤ b ∧ b < w.heap.size) ∧ p < L ∧ p < w.heap.size) ∧ Held (m.M q L) w (TH t m) ∧ ∀ z, z ∈ t.cancel → In64 z
def TA (t : PTask) (m : TM) : Prop := m.fv = nameAt (t.vars.map Prod.fst) ∧ m.kv = t.vars.length
def TCh (p L : Nat) (w w' : World) : Prop := Ch (fun b => b = p ∨ L ≤ b) w w' ∧ ∀ o, (4 ≤ o → w'.cell? ⟨p, o, none⟩ = w.cell? ⟨p, o, none⟩) ∧ w'.frozen? ⟨p, o, none⟩ = w.frozen? ⟨p, o, none⟩
theorem TCh.trans {p L : Nat} {a b c : World} (h : TCh p L a b) (k : TCh p L b c) : TCh p L a c := ⟨h.1.trans k.1, fun o => ⟨fun ho => ((k.2 o).1 ho).trans ((h.2 o).1 ho), (k.2 o).2.trans (h.2 o).2⟩⟩
theorem TCh.of {p L : Nat} {w w' : World} (h : RCh p w w') : TCh p L w w' := ⟨h.1.mono fun b _ e => .inl e, h.2⟩
theorem TCh.own {p L : Nat} {w w' : World} (h : Ch (fun b => L ≤ b) w w') (hp : p < L) (hp2 : p < w.heap.size) : TCh p L w w' :=
  have hb := h.block p hp2 (by omega)
  ⟨h.mono fun b _ e => .inr e, fun o => ⟨fun _ => cell_of_block hb o, frozen_of_block hb o⟩⟩
theorem TCh.rch {p L : Nat} {w w' : World} (h : TCh p L w w') (hL : w.heap.size ≤ L) : RCh p w w' := ⟨⟨h.1.os, h.1.tape, h.1.output, h.1.size, fun k hk hm => h.1.block k hk fun e => by rcases e with e | e; exact hm e; omega⟩, h.2⟩
def TB (m m' : TM) (q p : Nat) (w w' : World) : Prop := Ch (fun b => b = p ∨ (some b ∈ m.bs q ∧ b ≠ m.xb)) w w' ∧ (∀ k, some k ∈ m'.bs q → some k ∈ m.bs q ∨ w.heap.size ≤ k) ∧ m'.xb = m.xb
theorem TB.pre {m m' : TM} {q p : Nat} {w w1 w2 : World} (hr : RCh p w w1) (h : TB m m' q p w1 w2) : TB m m' q p w w2 :=
  ⟨(hr.1.mono fun b _ e => .inl e).trans h.1, fun k hk => by rcases h.2.1 k hk with g | g; exact .inl g; exact .inr (Nat.le_trans hr.1.size g), h.2.2⟩
theorem TB.trans {m : TM} {q p : Nat} {w w1 w2 : World} (h : TB m m q p w w1) (k : TB m m q p w1 w2) : TB m m q p w w2 := ⟨h.1.trans k.1, fun _ hk => .inl hk, rfl⟩
theorem TK.ne {L : Nat} {w : World} {q p : Nat} {t : PTask} {m : TM} (h : TK L w q p t m) : ∀ b, some b ∈ m.bs q → b ≠ p := fun b hb e => by
  have := (h.2.2.2.1.2.1 b hb).1
  have := h.2.2.2.1.2.2
  omega
theorem TK.q_in {m : TM} {q : Nat} : some q ∈ m.bs q := by unfold TM.bs; simp
theorem TK.v_in {m : TM} {q : Nat} : some m.mv ∈ m.bs q := by unfold TM.bs; simp
theorem mem_bs {m : TM} {q k i : Nat} {a : Option Addr} (ha : (m.bs q)[i]? = some (a.map Addr.block)) {l c : Nat} (hk : (Value.slice a l c).ownBlock = some k) : some k ∈ m.bs q := by
  rw [own_block] at hk
  rw [hk] at ha
  exact List.mem_of_getElem? ha
theorem TK.on {L : Nat} {w w' : World} {q p : Nat} {t : PTask} {m : TM} (h : TK L w q p t m) (hr : RCh p w w') : TK L w' q p t m := by
  have hne := h.ne
  obtain ⟨hb, ⟨r1, r2, r3, r4⟩, hs, ⟨hA, hM, hpL, hpw⟩, hH, hz⟩ := h
  refine ⟨hb.ch hr.1 (hne q TK.q_in), ⟨own_ch2 r1 hr.1 fun k hk => hne k (mem_bs (i := 2) rfl hk), own_ch2 r2 hr.1 fun k hk => hne k (mem_bs (i := 3) rfl hk), own_ch2 r3 hr.1 fun k hk => hne k (mem_bs (i := 4) rfl hk), own_ch2 r4 hr.1 fun k hk => hne k (mem_bs (i := 5) rfl hk)⟩, hs.ch hr.1 (hne _ TK.v_in), ⟨hA, fun b hb => ⟨(hM b hb).1, Nat.lt_of_lt_of_le (hM b hb).2 hr.1.size⟩, hpL, Nat.lt_of_lt_of_le hpw hr.1.size⟩, hH.on (hr.1.mono fun b _ e => .inr (by have e : b = p := e; omega)), hz⟩
theorem TK.below {L : Nat} {w w' : World} {q p : Nat} {t : PTask} {m : TM} (h : TK L w q p t m) (hb : Below w.heap.size w w') : TK L w' q p t m := h.on (RCh.of_below h.2.2.2.1.2.2.2 hb)
theorem TK.put {L : Nat} {w : World} {q p : Nat} {t t' : PTask} {m : TM} (h : TK L w q p t m) (j : Nat) (v : Value) (hj : j < 16) (hc : taskC p t' m = (taskC p t m).set j v) (h1 : t'.vars = t.vars ∧ t'.guard = t.guard ∧ t'.ins = t.ins ∧ t'.outs = t.outs ∧ t'.cancel = t.cancel) : TK L (w.setCell ⟨q, j, none⟩ v) q p t' m ∧ TCh p L w (w.setCell ⟨q, j, none⟩ v) ∧ TB m m q p w (w.setCell ⟨q, j, none⟩ v) := by
  have hne := h.ne
  obtain ⟨hb, ⟨r1, r2, r3, r4⟩, hs, ⟨hA, hM, hpL, hpw⟩, hH, hz⟩ := h
  obtain ⟨e1, e2, e3, e4, e5⟩ := h1
  have hcq : Ch (fun b => b = q) w (w.setCell ⟨q, j, none⟩ v) := (Ch.refl (fun b => b = q) w).setCell (b := q) (o := j) (.inl rfl) v
  have hsz : (w.setCell ⟨q, j, none⟩ v).heap.size = w.heap.size := by simp [World.setCell]
  have row : ∀ (i : Nat) (a : Option Addr), i ≠ 0 → (m.bs q)[i]? = some (a.map Addr.block) → ∀ (l c k : Nat), (Value.slice a l c).ownBlock = some k → ¬ k = q := fun i a hi ha l c k hk e => by
    rw [own_block] at hk
    rw [hk] at ha
    exact hA.ne ha (j := 0) rfl hi e
  refine ⟨⟨by rw [hc]; exact hb.put j v (by simpa [taskC] using hj), ?_, ?_, ⟨hA, fun b hb => by rw [hsz]; exact hM b hb, hpL, by rw [hsz]; exact hpw⟩, ?_, by rw [e5]; exact hz⟩, TCh.own (hcq.mono fun b _ e => by subst e; exact (hM _ TK.q_in).1) hpL hpw, hcq.mono fun b _ e => by subst e; exact .inr ⟨TK.q_in, hA.ne (i := 0) (j := 6) rfl rfl (by decide)⟩, fun _ hk => .inl hk, rfl⟩
  · unfold TR
    rw [e1, e3, e4, e5]
    exact ⟨own_ch2 r1 hcq (row 2 _ (by decide) rfl _ _), own_ch2 r2 hcq (row 3 _ (by decide) rfl _ _), own_ch2 r3 hcq (row 4 _ (by decide) rfl _ _), own_ch2 r4 hcq (row 5 _ (by decide) rfl _ _)⟩
  · rw [e1]; exact hs.ch hcq (hA.ne (i := 1) (j := 0) rfl rfl (by decide))
  · refine (hH.on (hcq.mono fun b _ e => by subst e; exact .inl TK.q_in)).mono fun W hW => ?_
    unfold TH
    rw [e1, e2, e3, e4]
    exact hW
theorem TK.add_vars {L : Nat} {w w1 wa w2 : World} {q p : Nat} {t : PTask} {m : TM} {x : List UInt8 × Int} {us : List Value} {s : List UInt8} {a' : Option Addr} {c' : Nat} (h : TK L w q p t m) (hu : VarR x us) (hs1 : SMp w1 m.mv (t.vars.length + 1) (addK m.fv s m.kv) (addF m.fv s m.kv)) (h1 : Ch (· = m.mv) w w1) (hB : Below w1.heap.size w1 wa)
    (hown : w2.ownsRow L 149 2 (.slice a' (t.vars.length + 1) c') (t.vars.length + 1) (m.vv ++ us)) (hg : wa.grownBy w2 (m.av.map Addr.block)) (hat : a'.map Addr.block = m.av.map Addr.block ∨ a'.map Addr.block = some wa.heap.size) :
    TK L (w2.setCell ⟨q, 2, none⟩ (.slice a' (t.vars.length + 1) c')) q p { t with vars := t.vars ++ [x] } { m with av := a', cv := c', vv := m.vv ++ us, kv := addK m.fv s m.kv, fv := addF m.fv s m.kv } ∧ TCh p L w (w2.setCell ⟨q, 2, none⟩ (.slice a' (t.vars.length + 1) c')) ∧ TB m { m with av := a', cv := c', vv := m.vv ++ us, kv := addK m.fv s m.kv, fv := addF m.fv s m.kv } q p w (w2.setCell ⟨q, 2, none⟩ (.slice a' (t.vars.length + 1) c')) := by
  have hl : (t.vars ++ [x]).length = t.vars.length + 1 := by simp
  obtain ⟨hb, ⟨r1, r2, r3, r4⟩, hs, ⟨hA, hM, hpL, hpw⟩, hH, hz⟩ := h
  have hql := (hM q TK.q_in).2
  have z2 := hB.size
  have z3 := hg.size
  have z1 := h1.size
  have hi : (m.bs q)[2]? = some (m.av.map Addr.block) := rfl
  have apart : ∀ (k y : Nat), k ≠ 2 → (m.bs q)[k]? = some (some y) → some y ≠ m.av.map Addr.block := fun k y hk hy e => by
    rw [← e] at hi
    exact hk (hA k 2 y hy hi)
  have hc : Ch (fun b => b = m.mv ∨ some b = m.av.map Addr.block ∨ b = q) w (w2.setCell ⟨q, 2, none⟩ (.slice a' (t.vars.length + 1) c')) :=
    ((h1.mono fun b _ e => .inl e).trans ((Ch.of_below hB).trans (Ch.grown hg fun b hb => .inr (.inl hb.symm)))).setCell (b := q) (o := 2) (.inl (.inr (.inr rfl))) _
  have hcM : ∀ b, (b = m.mv ∨ some b = m.av.map Addr.block ∨ b = q) → some b ∈ m.bs q := fun b e => by
    rcases e with e | e | e
    · subst e; exact TK.v_in
    · rw [e]; exact List.mem_of_getElem? hi
    · subst e; exact TK.q_in
  have hcX : ∀ b, (b = m.mv ∨ some b = m.av.map Addr.block ∨ b = q) → b ≠ m.xb := fun b e => by
    rcases e with e | e | e
    · rw [e]; exact hA.ne (i := 1) (j := 6) rfl rfl (by decide)
    · exact fun e' => apart 6 m.xb (by decide) rfl (by rw [← e']; exact e)
    · rw [e]; exact hA.ne (i := 0) (j := 6) rfl rfl (by decide)
  have row : ∀ (k : Nat) (a : Option Addr), k ≠ 0 ∧ k ≠ 1 ∧ k ≠ 2 → (m.bs q)[k]? = some (a.map Addr.block) → ∀ (l c y : Nat), (Value.slice a l c).ownBlock = some y → ¬ (y = m.mv ∨ some y = m.av.map Addr.block ∨ y = q) := fun k a hk ha l c y hy e => by
    rw [own_block] at hy
    rw [hy] at ha
    rcases e with e | e | e
    · exact hA.ne ha (j := 1) rfl hk.2.1 e
    · exact apart k y hk.2.2 ha e
    · exact hA.ne ha (j := 0) rfl hk.1 e
  have hq : some wa.heap.size ∉ m.bs q := fun e => by have := (hM _ e).2; omega
  have haq : ∀ k, (Value.slice a' (t.vars.length + 1) c').ownBlock = some k → ¬ k = q := fun k hk e => by
    rw [own_block] at hk
    subst e
    rcases hat with e | e
    · rw [hk] at e; exact apart 0 _ (by decide) rfl e
    · rw [hk] at e; injection e with e; omega
  have hal : ∀ k, a'.map Addr.block = some k → L ≤ k ∧ k < w2.heap.size := fun k hk => hown.lt k (by rw [own_block]; exact hk)
  have hsz : (w2.setCell ⟨q, 2, none⟩ (.slice a' (t.vars.length + 1) c')).heap.size = w2.heap.size := by simp [World.setCell]
  have hbq : Bx w2 q (taskC p t m) := ((hb.ch h1 (fun e => (hA.ne (i := 0) (j := 1) rfl rfl (by decide)) e)).below hB).keep (hg.block q (by omega) (apart 0 q (by decide) rfl)) hg.size
  refine ⟨⟨?_, ⟨?_, own_ch2 r2 hc (row 3 _ (by decide) rfl _ _), own_ch2 r3 hc (row 4 _ (by decide) rfl _ _), own_ch2 r4 hc (row 5 _ (by decide) rfl _ _)⟩, ?_, ⟨hA.turn (i := 2) hi hat hq, ?_, hpL, by rw [hsz]; omega⟩, ?_, ?_⟩, TCh.own (hc.mono fun b _ e => (hM b (hcM b e)).1) hpL hpw, hc.mono fun b _ e => .inr ⟨hcM b e, hcX b e⟩, fun k hk => by rcases mem_turn hi hat (show some k ∈ (m.bs q).set 2 (a'.map Addr.block) from hk) with g | g; exact .inl g; exact .inr (by omega), rfl⟩
  · have e : taskC p { t with vars := t.vars ++ [x] } { m with av := a', cv := c', vv := m.vv ++ us, kv := addK m.fv s m.kv, fv := addF m.fv s m.kv } = (taskC p t m).set 2 (.slice a' (t.vars ++ [x]).length c') := rfl
    rw [e, hl]
    exact hbq.put 2 _ (by simp [taskC])
  · show World.ownsRow (w2.setCell ⟨q, 2, none⟩ (.slice a' (t.vars.length + 1) c')) L 149 2 (.slice a' (t.vars ++ [x]).length c') (t.vars ++ [x]).length (m.vv ++ us)
    rw [hl]
    exact own_ch2 hown ((Ch.refl (fun b => b = q) w2).setCell (b := q) (o := 2) (.inl rfl) _) haq
  · show SMp (w2.setCell ⟨q, 2, none⟩ (.slice a' (t.vars.length + 1) c')) m.mv (t.vars ++ [x]).length (addK m.fv s m.kv) (addF m.fv s m.kv)
    rw [hl]
    have hc2 : Ch (fun b => some b = m.av.map Addr.block ∨ b = q) w1 (w2.setCell ⟨q, 2, none⟩ (.slice a' (t.vars.length + 1) c')) := ((Ch.of_below hB).trans (Ch.grown hg fun b hb => .inl hb.symm)).setCell (b := q) (o := 2) (.inl (.inr rfl)) _
    refine hs1.ch hc2 fun e => ?_
    rcases e with e | e
    · exact apart 1 _ (by decide) rfl e
    · exact hA.ne (i := 1) (j := 0) rfl rfl (by decide) e
  · intro b hb
    have hb' : some b ∈ (m.bs q).set 2 (a'.map Addr.block) := hb
    rw [hsz]
    rcases hat with e | e
    · rw [e, set_self hi] at hb'
      exact ⟨(hM b hb').1, by have := (hM b hb').2; omega⟩
    · rcases mem_turn hi (.inr e) hb' with g | g
      · exact ⟨(hM b g).1, by have := (hM b g).2; omega⟩
      · subst g; exact hal _ e
  · refine (hH.up (hc.mono fun b _ e => .inl (hcM b e)) fun b hb => ?_).mono fun W hW => ?_
    · rcases hb with hb | hb
      · have hb' : some b ∈ (m.bs q).set 2 (a'.map Addr.block) := hb
        rcases mem_turn hi hat hb' with g | g
        · exact .inl (.inl g)
        · exact .inr (by omega)
      · exact .inl (.inr hb)
    · obtain ⟨g1, g2, g3, g4⟩ := hW
      exact ⟨g1.snoc hu, g2, g3, g4⟩
  · exact hz
theorem TK.add_ins {L : Nat} {w wa w2 : World} {q p : Nat} {t : PTask} {m : TM} {x : Int × Ex} {us : List Value} {a' : Option Addr} {c' : Nat} (h : TK L w q p t m) (hu : Held (m.M q L) w fun W => ArcR W x us) (hB : Below w.heap.size w wa)
    (hown : w2.ownsRow L 65 4 (.slice a' (t.ins.length + 1) c') (t.ins.length + 1) (m.vi ++ us)) (hg : wa.grownBy w2 (m.ai.map Addr.block)) (hat : a'.map Addr.block = m.ai.map Addr.block ∨ a'.map Addr.block = some wa.heap.size) :
    TK L (w2.setCell ⟨q, 8, none⟩ (.slice a' (t.ins.length + 1) c')) q p { t with ins := t.ins ++ [x] } { m with ai := a', ci := c', vi := m.vi ++ us } ∧ TCh p L w (w2.setCell ⟨q, 8, none⟩ (.slice a' (t.ins.length + 1) c')) ∧ TB m { m with ai := a', ci := c', vi := m.vi ++ us } q p w (w2.setCell ⟨q, 8, none⟩ (.slice a' (t.ins.length + 1) c')) := by
  have hl : (t.ins ++ [x]).length = t.ins.length + 1 := by simp
  obtain ⟨hb, ⟨r1, r2, r3, r4⟩, hs, ⟨hA, hM, hpL, hpw⟩, hH, hz⟩ := h
  have hql := (hM q TK.q_in).2
  have z2 := hB.size
  have z3 := hg.size
  have hi : (m.bs q)[3]? = some (m.ai.map Addr.block) := rfl
  have apart : ∀ (k y : Nat), k ≠ 3 → (m.bs q)[k]? = some (some y) → some y ≠ m.ai.map Addr.block := fun k y hk hy e => by
    rw [← e] at hi
    exact hk (hA k 3 y hy hi)
  have hc : Ch (fun b => some b = m.ai.map Addr.block ∨ b = q) w (w2.setCell ⟨q, 8, none⟩ (.slice a' (t.ins.length + 1) c')) :=
    (((Ch.of_below hB).trans (Ch.grown hg fun b hb => .inl hb.symm))).setCell (b := q) (o := 8) (.inl (.inr rfl)) _
  have hcM : ∀ b, (some b = m.ai.map Addr.block ∨ b = q) → some b ∈ m.bs q := fun b e => by
    rcases e with e | e
    · rw [e]; exact List.mem_of_getElem? hi
    · subst e; exact TK.q_in
  have hcX : ∀ b, (some b = m.ai.map Addr.block ∨ b = q) → b ≠ m.xb := fun b e => by
    rcases e with e | e
    · exact fun e' => apart 6 m.xb (by decide) rfl (by rw [← e']; exact e)
    · rw [e]; exact hA.ne (i := 0) (j := 6) rfl rfl (by decide)
  have row : ∀ (k : Nat) (a : Option Addr), k ≠ 0 ∧ k ≠ 1 ∧ k ≠ 3 → (m.bs q)[k]? = some (a.map Addr.block) → ∀ (l c y : Nat), (Value.slice a l c).ownBlock = some y → ¬ (some y = m.ai.map Addr.block ∨ y = q) := fun k a hk ha l c y hy e => by
    rw [own_block] at hy
    rw [hy] at ha
    rcases e with e | e
    · exact apart k y hk.2.2 ha e
    · exact hA.ne ha (j := 0) rfl hk.1 e
  have hq : some wa.heap.size ∉ m.bs q := fun e => by have := (hM _ e).2; omega
  have haq : ∀ k, (Value.slice a' (t.ins.length + 1) c').ownBlock = some k → ¬ k = q := fun k hk e => by
    rw [own_block] at hk
    subst e
    rcases hat with e | e
    · rw [hk] at e; exact apart 0 _ (by decide) rfl e
    · rw [hk] at e; injection e with e; omega
  have hal : ∀ k, a'.map Addr.block = some k → L ≤ k ∧ k < w2.heap.size := fun k hk => hown.lt k (by rw [own_block]; exact hk)
  have hsz : (w2.setCell ⟨q, 8, none⟩ (.slice a' (t.ins.length + 1) c')).heap.size = w2.heap.size := by simp [World.setCell]
  have hbq : Bx w2 q (taskC p t m) := (hb.below hB).keep (hg.block q (by omega) (apart 0 q (by decide) rfl)) hg.size
  refine ⟨⟨?_, ⟨own_ch2 r1 hc (row 2 _ (by decide) rfl _ _), ?_, own_ch2 r3 hc (row 4 _ (by decide) rfl _ _), own_ch2 r4 hc (row 5 _ (by decide) rfl _ _)⟩, ?_, ⟨hA.turn (i := 3) hi hat hq, ?_, hpL, by rw [hsz]; omega⟩, ?_, ?_⟩, TCh.own (hc.mono fun b _ e => (hM b (hcM b e)).1) hpL hpw, hc.mono fun b _ e => .inr ⟨hcM b e, hcX b e⟩, fun k hk => by rcases mem_turn hi hat (show some k ∈ (m.bs q).set 3 (a'.map Addr.block) from hk) with g | g; exact .inl g; exact .inr (by omega), rfl⟩
  · have e : taskC p { t with ins := t.ins ++ [x] } { m with ai := a', ci := c', vi := m.vi ++ us } = (taskC p t m).set 8 (.slice a' (t.ins ++ [x]).length c') := rfl
    rw [e, hl]
    exact hbq.put 8 _ (by simp [taskC])
  · show World.ownsRow (w2.setCell ⟨q, 8, none⟩ (.slice a' (t.ins.length + 1) c')) L 65 4 (.slice a' (t.ins ++ [x]).length c') (t.ins ++ [x]).length (m.vi ++ us)
    rw [hl]
    exact own_ch2 hown ((Ch.refl (fun b => b = q) w2).setCell (b := q) (o := 8) (.inl rfl) _) haq
  · refine hs.ch hc fun e => ?_
    rcases e with e | e
    · exact apart 1 _ (by decide) rfl e
    · exact hA.ne (i := 1) (j := 0) rfl rfl (by decide) e
  · intro b hb
    have hb' : some b ∈ (m.bs q).set 3 (a'.map Addr.block) := hb
    rw [hsz]
    rcases hat with e | e
    · rw [e, set_self hi] at hb'
      exact ⟨(hM b hb').1, by have := (hM b hb').2; omega⟩
    · rcases mem_turn hi (.inr e) hb' with g | g
      · exact ⟨(hM b g).1, by have := (hM b g).2; omega⟩
      · subst g; exact hal _ e
  · refine ((hH.and hu).up (hc.mono fun b _ e => .inl (hcM b e)) fun b hb => ?_).mono fun W hW => ?_
    · rcases hb with hb | hb
      · have hb' : some b ∈ (m.bs q).set 3 (a'.map Addr.block) := hb
        rcases mem_turn hi hat hb' with g | g
        · exact .inl (.inl g)
        · exact .inr (by omega)
      · exact .inl (.inr hb)
    · obtain ⟨⟨g1, g2, g3, g4⟩, g5⟩ := hW
      exact ⟨g1, g2, g3.snoc g5, g4⟩
  · exact hz
theorem TK.add_outs {L : Nat} {w wa w2 : World} {q p : Nat} {t : PTask} {m : TM} {x : Int × Ex} {us : List Value} {a' : Option Addr} {c' : Nat} (h : TK L w q p t m) (hu : Held (m.M q L) w fun W => ArcR W x us) (hB : Below w.heap.size w wa)
    (hown : w2.ownsRow L 65 4 (.slice a' (t.outs.length + 1) c') (t.outs.length + 1) (m.vo ++ us)) (hg : wa.grownBy w2 (m.ao.map Addr.block)) (hat : a'.map Addr.block = m.ao.map Addr.block ∨ a'.map Addr.block = some wa.heap.size) :
    TK L (w2.setCell ⟨q, 9, none⟩ (.slice a' (t.outs.length + 1) c')) q p { t with outs := t.outs ++ [x] } { m with ao := a', co := c', vo := m.vo ++ us } ∧ TCh p L w (w2.setCell ⟨q, 9, none⟩ (.slice a' (t.outs.length + 1) c')) ∧ TB m { m with ao := a', co := c', vo := m.vo ++ us } q p w (w2.setCell ⟨q, 9, none⟩ (.slice a' (t.outs.length + 1) c')) := by
  have hl : (t.outs ++ [x]).length = t.outs.length + 1 := by simp
  obtain ⟨hb, ⟨r1, r2, r3, r4⟩, hs, ⟨hA, hM, hpL, hpw⟩, hH, hz⟩ := h
  have hql := (hM q TK.q_in).2
  have z2 := hB.size
  have z3 := hg.size
  have hi : (m.bs q)[4]? = some (m.ao.map Addr.block) := rfl
  have apart : ∀ (k y : Nat), k ≠ 4 → (m.bs q)[k]? = some (some y) → some y ≠ m.ao.map Addr.block := fun k y hk hy e => by
    rw [← e] at hi
    exact hk (hA k 4 y hy hi)
  have hc : Ch (fun b => some b = m.ao.map Addr.block ∨ b = q) w (w2.setCell ⟨q, 9, none⟩ (.slice a' (t.outs.length + 1) c')) :=
    (((Ch.of_below hB).trans (Ch.grown hg fun b hb => .inl hb.symm))).setCell (b := q) (o := 9) (.inl (.inr rfl)) _
  have hcM : ∀ b, (some b = m.ao.map Addr.block ∨ b = q) → some b ∈ m.bs q := fun b e => by
    rcases e with e | e
    · rw [e]; exact List.mem_of_getElem? hi
    · subst e; exact TK.q_in
  have hcX : ∀ b, (some b = m.ao.map Addr.block ∨ b = q) → b ≠ m.xb := fun b e => by
    rcases e with e | e
    · exact fun e' => apart 6 m.xb (by decide) rfl (by rw [← e']; exact e)
    · rw [e]; exact hA.ne (i := 0) (j := 6) rfl rfl (by decide)
  have row : ∀ (k : Nat) (a : Option Addr), k ≠ 0 ∧ k ≠ 1 ∧ k ≠ 4 → (m.bs q)[k]? = some (a.map Addr.block) → ∀ (l c y : Nat), (Value.slice a l c).ownBlock = some y → ¬ (some y = m.ao.map Addr.block ∨ y = q) := fun k a hk ha l c y hy e => by
    rw [own_block] at hy
    rw [hy] at ha
    rcases e with e | e
    · exact apart k y hk.2.2 ha e
    · exact hA.ne ha (j := 0) rfl hk.1 e
  have hq : some wa.heap.size ∉ m.bs q := fun e => by have := (hM _ e).2; omega
  have haq : ∀ k, (Value.slice a' (t.outs.length + 1) c').ownBlock = some k → ¬ k = q := fun k hk e => by
    rw [own_block] at hk
    subst e
    rcases hat with e | e
    · rw [hk] at e; exact apart 0 _ (by decide) rfl e
    · rw [hk] at e; injection e with e; omega
  have hal : ∀ k, a'.map Addr.block = some k → L ≤ k ∧ k < w2.heap.size := fun k hk => hown.lt k (by rw [own_block]; exact hk)
  have hsz : (w2.setCell ⟨q, 9, none⟩ (.slice a' (t.outs.length + 1) c')).heap.size = w2.heap.size := by simp [World.setCell]
  have hbq : Bx w2 q (taskC p t m) := (hb.below hB).keep (hg.block q (by omega) (apart 0 q (by decide) rfl)) hg.size
  refine ⟨⟨?_, ⟨own_ch2 r1 hc (row 2 _ (by decide) rfl _ _), own_ch2 r2 hc (row 3 _ (by decide) rfl _ _), ?_, own_ch2 r4 hc (row 5 _ (by decide) rfl _ _)⟩, ?_, ⟨hA.turn (i := 4) hi hat hq, ?_, hpL, by rw [hsz]; omega⟩, ?_, ?_⟩, TCh.own (hc.mono fun b _ e => (hM b (hcM b e)).1) hpL hpw, hc.mono fun b _ e => .inr ⟨hcM b e, hcX b e⟩, fun k hk => by rcases mem_turn hi hat (show some k ∈ (m.bs q).set 4 (a'.map Addr.block) from hk) with g | g; exact .inl g; exact .inr (by omega), rfl⟩
  · have e : taskC p { t with outs := t.outs ++ [x] } { m with ao := a', co := c', vo := m.vo ++ us } = (taskC p t m).set 9 (.slice a' (t.outs ++ [x]).length c') := rfl
    rw [e, hl]
    exact hbq.put 9 _ (by simp [taskC])
  · show World.ownsRow (w2.setCell ⟨q, 9, none⟩ (.slice a' (t.outs.length + 1) c')) L 65 4 (.slice a' (t.outs ++ [x]).length c') (t.outs ++ [x]).length (m.vo ++ us)
    rw [hl]
    exact own_ch2 hown ((Ch.refl (fun b => b = q) w2).setCell (b := q) (o := 9) (.inl rfl) _) haq
  · refine hs.ch hc fun e => ?_
    rcases e with e | e
    · exact apart 1 _ (by decide) rfl e
    · exact hA.ne (i := 1) (j := 0) rfl rfl (by decide) e
  · intro b hb
    have hb' : some b ∈ (m.bs q).set 4 (a'.map Addr.block) := hb
    rw [hsz]
    rcases hat with e | e
    · rw [e, set_self hi] at hb'
      exact ⟨(hM b hb').1, by have := (hM b hb').2; omega⟩
    · rcases mem_turn hi (.inr e) hb' with g | g
      · exact ⟨(hM b g).1, by have := (hM b g).2; omega⟩
      · subst g; exact hal _ e
  · refine ((hH.and hu).up (hc.mono fun b _ e => .inl (hcM b e)) fun b hb => ?_).mono fun W hW => ?_
    · rcases hb with hb | hb
      · have hb' : some b ∈ (m.bs q).set 4 (a'.map Addr.block) := hb
        rcases mem_turn hi hat hb' with g | g
        · exact .inl (.inl g)
        · exact .inr (by omega)
      · exact .inl (.inr hb)
    · obtain ⟨⟨g1, g2, g3, g4⟩, g5⟩ := hW
      exact ⟨g1, g2, g3, g4.snoc g5⟩
  · exact hz
theorem TK.add_cancel {L : Nat} {w wa w2 : World} {q p : Nat} {t : PTask} {m : TM} {x : Int} {us : List Value} {a' : Option Addr} {c' : Nat} (h : TK L w q p t m) (hu : us = [.int .i64 x] ∧ In64 x) (hB : Below w.heap.size w wa)
    (hown : w2.ownsRow L 3 1 (.slice a' (t.cancel.length + 1) c') (t.cancel.length + 1) (ints t.cancel ++ us)) (hg : wa.grownBy w2 (m.ac.map Addr.block)) (hat : a'.map Addr.block = m.ac.map Addr.block ∨ a'.map Addr.block = some wa.heap.size) :
    TK L (w2.setCell ⟨q, 10, none⟩ (.slice a' (t.cancel.length + 1) c')) q p { t with cancel := t.cancel ++ [x] } { m with ac := a', cc := c' } ∧ TCh p L w (w2.setCell ⟨q, 10, none⟩ (.slice a' (t.cancel.length + 1) c')) ∧ TB m { m with ac := a', cc := c' } q p w (w2.setCell ⟨q, 10, none⟩ (.slice a' (t.cancel.length + 1) c')) := by
  have hl : (t.cancel ++ [x]).length = t.cancel.length + 1 := by simp
  obtain ⟨hb, ⟨r1, r2, r3, r4⟩, hs, ⟨hA, hM, hpL, hpw⟩, hH, hz⟩ := h
  have hql := (hM q TK.q_in).2
  have z2 := hB.size
  have z3 := hg.size
  have hi : (m.bs q)[5]? = some (m.ac.map Addr.block) := rfl
  have apart : ∀ (k y : Nat), k ≠ 5 → (m.bs q)[k]? = some (some y) → some y ≠ m.ac.map Addr.block := fun k y hk hy e => by
    rw [← e] at hi
    exact hk (hA k 5 y hy hi)
  have hc : Ch (fun b => some b = m.ac.map Addr.block ∨ b = q) w (w2.setCell ⟨q, 10, none⟩ (.slice a' (t.cancel.length + 1) c')) :=
    (((Ch.of_below hB).trans (Ch.grown hg fun b hb => .inl hb.symm))).setCell (b := q) (o := 10) (.inl (.inr rfl)) _
  have hcM : ∀ b, (some b = m.ac.map Addr.block ∨ b = q) → some b ∈ m.bs q := fun b e => by
    rcases e with e | e
    · rw [e]; exact List.mem_of_getElem? hi
    · subst e; exact TK.q_in
  have hcX : ∀ b, (some b = m.ac.map Addr.block ∨ b = q) → b ≠ m.xb := fun b e => by
    rcases e with e | e
    · exact fun e' => apart 6 m.xb (by decide) rfl (by rw [← e']; exact e)
    · rw [e]; exact hA.ne (i := 0) (j := 6) rfl rfl (by decide)
  have row : ∀ (k : Nat) (a : Option Addr), k ≠ 0 ∧ k ≠ 1 ∧ k ≠ 5 → (m.bs q)[k]? = some (a.map Addr.block) → ∀ (l c y : Nat), (Value.slice a l c).ownBlock = some y → ¬ (some y = m.ac.map Addr.block ∨ y = q) := fun k a hk ha l c y hy e => by
    rw [own_block] at hy
    rw [hy] at ha
    rcases e with e | e
    · exact apart k y hk.2.2 ha e
    · exact hA.ne ha (j := 0) rfl hk.1 e
  have hq : some wa.heap.size ∉ m.bs q := fun e => by have := (hM _ e).2; omega
  have haq : ∀ k, (Value.slice a' (t.cancel.length + 1) c').ownBlock = some k → ¬ k = q := fun k hk e => by
    rw [own_block] at hk
    subst e
    rcases hat with e | e
    · rw [hk] at e; exact apart 0 _ (by decide) rfl e
    · rw [hk] at e; injection e with e; omega
  have hal : ∀ k, a'.map Addr.block = some k → L ≤ k ∧ k < w2.heap.size := fun k hk => hown.lt k (by rw [own_block]; exact hk)
  have hsz : (w2.setCell ⟨q, 10, none⟩ (.slice a' (t.cancel.length + 1) c')).heap.size = w2.heap.size := by simp [World.setCell]
  have hbq : Bx w2 q (taskC p t m) := (hb.below hB).keep (hg.block q (by omega) (apart 0 q (by decide) rfl)) hg.size
  refine ⟨⟨?_, ⟨own_ch2 r1 hc (row 2 _ (by decide) rfl _ _), own_ch2 r2 hc (row 3 _ (by decide) rfl _ _), own_ch2 r3 hc (row 4 _ (by decide) rfl _ _), ?_⟩, ?_, ⟨hA.turn (i := 5) hi hat hq, ?_, hpL, by rw [hsz]; omega⟩, ?_, ?_⟩, TCh.own (hc.mono fun b _ e => (hM b (hcM b e)).1) hpL hpw, hc.mono fun b _ e => .inr ⟨hcM b e, hcX b e⟩, fun k hk => by rcases mem_turn hi hat (show some k ∈ (m.bs q).set 5 (a'.map Addr.block) from hk) with g | g; exact .inl g; exact .inr (by omega), rfl⟩
  · have e : taskC p { t with cancel := t.cancel ++ [x] } { m with ac := a', cc := c' } = (taskC p t m).set 10 (.slice a' (t.cancel ++ [x]).length c') := rfl
    rw [e, hl]
    exact hbq.put 10 _ (by simp [taskC])
  · show World.ownsRow (w2.setCell ⟨q, 10, none⟩ (.slice a' (t.cancel.length + 1) c')) L 3 1 (.slice a' (t.cancel ++ [x]).length c') (t.cancel ++ [x]).length (ints (t.cancel ++ [x]))
    rw [hl]
    rw [show ints (t.cancel ++ [x]) = ints t.cancel ++ us by rw [hu.1]; unfold ints; simp]
    exact own_ch2 hown ((Ch.refl (fun b => b = q) w2).setCell (b := q) (o := 10) (.inl rfl) _) haq
  · refine hs.ch hc fun e => ?_
    rcases e with e | e
    · exact apart 1 _ (by decide) rfl e
    · exact hA.ne (i := 1) (j := 0) rfl rfl (by decide) e
  · intro b hb
    have hb' : some b ∈ (m.bs q).set 5 (a'.map Addr.block) := hb
    rw [hsz]
    rcases hat with e | e
    · rw [e, set_self hi] at hb'
      exact ⟨(hM b hb').1, by have := (hM b hb').2; omega⟩
    · rcases mem_turn hi (.inr e) hb' with g | g
      · exact ⟨(hM b g).1, by have := (hM b g).2; omega⟩
      · subst g; exact hal _ e
  · refine (hH.up (hc.mono fun b _ e => .inl (hcM b e)) fun b hb => ?_).mono fun W hW => ?_
    · rcases hb with hb | hb
      · have hb' : some b ∈ (m.bs q).set 5 (a'.map Addr.block) := hb
        rcases mem_turn hi hat hb' with g | g
        · exact .inl (.inl g)
        · exact .inr (by omega)
      · exact .inl (.inr hb)
    · exact hW
  · intro z hz2
    rcases List.mem_append.1 hz2 with g | g
    · exact hz z g
    · rw [List.mem_singleton] at g; subst g; exact hu.2
theorem TK.stand {L : Nat} {w : World} {q p : Nat} {t : PTask} {m : TM} (h : TK L w q p t m) (o : Nat) (v : Value) : TK L (w.setCell ⟨m.xb, o, none⟩ v) q p t m := by
  obtain ⟨hb, ⟨r1, r2, r3, r4⟩, hs, ⟨hA, hM, hpL, hpw⟩, hH, hz⟩ := h
  have hc : Ch (fun b => b = m.xb) w (w.setCell ⟨m.xb, o, none⟩ v) := (Ch.refl (fun b => b = m.xb) w).setCell (b := m.xb) (o := o) (.inl rfl) v
  have hx : some m.xb ∈ m.bs q := by unfold TM.bs; simp
  have hsz : (w.setCell ⟨m.xb, o, none⟩ v).heap.size = w.heap.size := by simp [World.setCell]
  have row : ∀ (i : Nat) (a : Option Addr), i ≠ 6 → (m.bs q)[i]? = some (a.map Addr.block) → ∀ (l c k : Nat), (Value.slice a l c).ownBlock = some k → ¬ k = m.xb := fun i a hi ha l c k hk e => by
    rw [own_block] at hk
    rw [hk] at ha
    exact hA.ne ha (j := 6) rfl hi e
  exact ⟨hb.ch hc (hA.ne (i := 0) (j := 6) rfl rfl (by decide)), ⟨own_ch2 r1 hc (row 2 _ (by decide) rfl _ _), own_ch2 r2 hc (row 3 _ (by decide) rfl _ _), own_ch2 r3 hc (row 4 _ (by decide) rfl _ _), own_ch2 r4 hc (row 5 _ (by decide) rfl _ _)⟩, hs.ch hc (hA.ne (i := 1) (j := 6) rfl rfl (by decide)), ⟨hA, fun b hb => by rw [hsz]; exact hM b hb, hpL, by rw [hsz]; exact hpw⟩, hH.on (hc.mono fun b _ e => by subst e; exact .inl hx), hz⟩
end Go.Proofs.YtjcanodnlnodpaaGreatDoor.Parse
/- Expressions and arcs of a task: contracts of the calls, over the turned program. -/
namespace Go.Proofs.YtjcanodnlnodpaaGreatDoor.Parse
open Go.RowKit Go.Maps Go.Proofs.YtjcanodnlnodpaaGreatDoor.Frame Go.Proofs.YtjcanodnlnodpaaGreatDoor.Token Go.Proofs.YtjcanodnlnodpaaGreatDoor.Expr Go.Proofs.YtjcanodnlnodpaaGreatDoor.Calc
set_option linter.unusedVariables false
set_option linter.unusedSimpArgs false

def NB (B L : Nat) (w : World) (p : Nat) (n : PNet) (mN : NM) : Prop := ∃ w0, NK B w0 p n mN ∧ w0.heap.size ≤ L ∧ TCh p L w0 w
theorem NB.now {B L : Nat} {w : World} {p : Nat} {n : PNet} {mN : NM} (h : NB B L w p n mN) : NK B w p n mN := by
  obtain ⟨w0, h1, h2, h3⟩ := h
  exact h1.on (h3.rch h2)
theorem NB.go {B L : Nat} {w w' : World} {p : Nat} {n : PNet} {mN : NM} (h : NB B L w p n mN) (hc : TCh p L w w') : NB B L w' p n mN := by
  obtain ⟨w0, h1, h2, h3⟩ := h
  exact ⟨w0, h1, h2, h3.trans hc⟩
theorem NB.on {B L : Nat} {w w' : World} {p : Nat} {n : PNet} {mN : NM} (h : NB B L w p n mN) (hr : RCh p w w') : NB B L w' p n mN := h.go (TCh.of hr)
def TPre (B L : Nat) (w : World) (p q : Nat) (en : Int) (st : St) (n : PNet) (mN : NM) (t : PTask) (m : TM) : Prop := RS B w p en st ∧ TK L w q p t m ∧ NB B L w p n mN ∧ NA n mN ∧ TA t m ∧ (n.colours.length ≤ 1000000 ∧ n.places.length ≤ 1000000) ∧ (t.vars.length ≤ 1000000 ∧ t.ins.length ≤ 1000000 ∧ t.outs.length ≤ 1000000 ∧ t.cancel.length ≤ 1000000) ∧ B ≤ L
theorem TPre.on {B L : Nat} {w w' : World} {p q : Nat} {en : Int} {st st' : St} {n : PNet} {mN : NM} {t : PTask} {m : TM} (h : TPre B L w p q en st n mN t m) (hR : RS B w' p en st') (hr : RCh p w w') : TPre B L w' p q en st' n mN t m :=
  ⟨hR, h.2.1.on hr, h.2.2.1.on hr, h.2.2.2⟩
theorem TPre.below {B L : Nat} {w w' : World} {p q : Nat} {en : Int} {st : St} {n : PNet} {mN : NM} {t : PTask} {m : TM} (h : TPre B L w p q en st n mN t m) (hb : Below w.heap.size w w') : TPre B L w' p q en st n mN t m := h.on (h.1.below hb) (RCh.of_below h.1.lt hb)
theorem TPre.cells {B L : Nat} {w : World} {p q : Nat} {en : Int} {st : St} {n : PNet} {mN : NM} {t : PTask} {m : TM} (h : TPre B L w p q en st n mN t m) : w.cell? ⟨q, 0, none⟩ = some (.pointer (some ⟨p, 0, none⟩)) ∧ w.cell? ⟨q, 15, none⟩ = some (.map (some m.mv)) ∧ w.cell? ⟨p, 9, none⟩ = some (.map (some mN.mc)) ∧ w.cell? ⟨p, 10, none⟩ = some (.map (some mN.mp)) ∧ q < w.heap.size ∧ p < w.heap.size :=
  ⟨h.2.1.1.1 0, h.2.1.1.1 15, h.2.2.1.now.1.2.2.1, h.2.2.1.now.1.2.2.2.1, h.2.1.1.2.2, h.1.lt⟩
theorem TPre.mv_ne {B L : Nat} {w : World} {p q : Nat} {en : Int} {st : St} {n : PNet} {mN : NM} {t : PTask} {m : TM} (h : TPre B L w p q en st n mN t m) : m.mv ≠ p := h.2.1.ne _ TK.v_in
theorem fin3 {B p : Nat} {en : Int} {st : St} {w W : World} {t : Ex} {a : Option Addr} (hp : p < w.heap.size) (hR : RS B W p en st) (hr : RCh p w W) (hx : XG (fun b _ => w.heap.size + 1 ≤ b) W t a) (v0 v1 v2 : Value) :
    RS B (((W.setCell ⟨w.heap.size, 0, none⟩ v0).setCell ⟨w.heap.size, 1, none⟩ v1).setCell ⟨w.heap.size, 2, none⟩ v2) p en st ∧ RCh p w (((W.setCell ⟨w.heap.size, 0, none⟩ v0).setCell ⟨w.heap.size, 1, none⟩ v1).setCell ⟨w.heap.size, 2, none⟩ v2) ∧ XG (fun b _ => w.heap.size ≤ b) (((W.setCell ⟨w.heap.size, 0, none⟩ v0).setCell ⟨w.heap.size, 1, none⟩ v1).setCell ⟨w.heap.size, 2, none⟩ v2) t a := by
  have hc : Ch (fun x => x = w.heap.size) W (((W.setCell ⟨w.heap.size, 0, none⟩ v0).setCell ⟨w.heap.size, 1, none⟩ v1).setCell ⟨w.heap.size, 2, none⟩ v2) := (((Ch.refl (fun x => x = w.heap.size) W).setCell (b := w.heap.size) (o := 0) (.inl rfl) v0).setCell (b := w.heap.size) (o := 1) (.inl rfl) v1).setCell (b := w.heap.size) (o := 2) (.inl rfl) v2
  have hB := hR.1.1
  exact ⟨hR.ch hc (fun b hb => by subst hb; omega) (by omega), rch_own (L := w.heap.size) (Nat.le_refl _) hr (hc.mono fun b _ e => by omega) hp, xg_up (hx.carry fun b off o hb v hv => hc.cell (by show ¬ b = _; omega) hv) (Nat.le_succ _)⟩

set_option maxRecDepth 100000 in
set_option maxHeartbeats 4000000 in
theorem texpr_any (B L p q : Nat) (en : Int) (st : St) (n : PNet) (mN : NM) (t : PTask) (m : TM) (w : World) (h : TPre B L w p q en st n mN t m) : Calls Tryz.prog 236 #[ptr q] w (EPost B p en st (exprP (t.vars.map Prod.fst)) w) := by
  obtain ⟨d0, d15, -, -, ql, pl⟩ := h.cells
  have hal : Below w.heap.size w (w.alloc (.cells #[.int .i64 0, .int .i64 0, .slice none 0 0] 40)) := (Below.refl _ _).alloc (Nat.le_refl _) _
  have H1 := h.below hal.drew
  have CL : Hid (Calls Tryz.prog 48 #[.agg #[.pointer (some ⟨p, 0, none⟩), .map (some m.mv)]] (w.alloc (.cells #[.int .i64 0, .int .i64 0, .slice none 0 0] 40)).drew (EPost B p en st (exprP (t.vars.map Prod.fst)) (w.alloc (.cells #[.int .i64 0, .int .i64 0, .slice none 0 0] 40)).drew)) :=
    whole_any (f := m.fv) h.2.2.2.2.1.1 (by rw [List.length_map]; have := h.2.2.2.2.2.2.1.1; omega) h.mv_ne _ st H1.1 H1.2.1.2.2.1
  have HR0 : Hid (RCh p w (w.alloc (.cells #[.int .i64 0, .int .i64 0, .slice none 0 0] 40)).drew) := (RCh.of_below pl hal).drew
  have HZ : Hid (Bx (w.alloc (.cells #[.int .i64 0, .int .i64 0, .slice none 0 0] 40)).drew w.heap.size [.int .i64 0, .int .i64 0, .slice none 0 0]) := (Bx.new w #[.int .i64 0, .int .i64 0, .slice none 0 0] _).below (Below.refl _ _).drew
  have hz : (w.alloc (.cells #[.int .i64 0, .int .i64 0, .slice none 0 0] 40)).drew.heap.size = w.heap.size + 1 := by simp
  have HZS : Hid ((w.alloc (.cells #[.int .i64 0, .int .i64 0, .slice none 0 0] 40)).drew.heap.size = w.heap.size + 1) := hz
  clear h H1 hal hz
  unfold ptr
  go_enter Tryz.func236, Tryz.ntmps236
  go_wp2_with fail
  go_region_law (first
    | (go_simp; go_at_call 48; refine CL.out.mono ?_; rintro e w1 ⟨t1, a1, c1, s1, he, hx1, h1, hr1, R1⟩; subst he; have K1 : Hid (RS B w1 p en s1 ∧ RCh p w w1 ∧ XG (fun b _ => w.heap.size + 1 ≤ b) w1 t1 a1 ∧ Res en st (exprP (t.vars.map Prod.fst)) s1 fun u => u = t1) := ⟨h1, HR0.out.trans hr1, (by rw [HZS.out] at hx1; exact hx1), R1⟩; have hbx := HZ.out.ch hr1.1 (by show ¬ w.heap.size = p; omega); obtain ⟨g0, g1, g2, gl⟩ := hbx.three; obtain ⟨f0, f1, f2⟩ := hbx.fr; clear hx1 h1 hr1 R1 hbx))
  all_goals
    have FN : Hid (∀ v0 v1 v2 : Value, _) := fun v0 v1 v2 => fin3 pl K1.out.1 K1.out.2.1 K1.out.2.2.1 v0 v1 v2
    have RR : Hid (Res en st (exprP (t.vars.map Prod.fst)) s1 fun u => u = t1) := K1.out.2.2.2
    clear K1
    go_wp2_with fail
    refine bodyPost_ret (v := xV t1 a1 c1) ?_ rfl ⟨t1, a1, c1, s1, rfl, (FN.out _ _ _).2.2, (FN.out _ _ _).1, (FN.out _ _ _).2.1, RR.out⟩
    simp [results, Tryz.results236, go_sem, g0, g1, g2]
end Go.Proofs.YtjcanodnlnodpaaGreatDoor.Parse
/- Clauses of a task that are no rows: contracts of the calls, over the turned program. -/
namespace Go.Proofs.YtjcanodnlnodpaaGreatDoor.Parse
open Go.RowKit Go.Maps Go.Proofs.YtjcanodnlnodpaaGreatDoor.Frame Go.Proofs.YtjcanodnlnodpaaGreatDoor.Token Go.Proofs.YtjcanodnlnodpaaGreatDoor.Expr Go.Proofs.YtjcanodnlnodpaaGreatDoor.Calc
set_option linter.unusedVariables false
set_option linter.unusedSimpArgs false

def TLen (t t' : PTask) : Prop := t'.vars.length ≤ t.vars.length + 1 ∧ t'.ins.length ≤ t.ins.length + 1 ∧ t'.outs.length ≤ t.outs.length + 1 ∧ t'.cancel.length ≤ t.cancel.length + 1 ∧ t'.name = t.name
def TPost (B L p q : Nat) (en : Int) (st : St) (n : PNet) (t : PTask) (m : TM) (x : List KT → PR PTask) (w : World) (e : Ending) (w' : World) : Prop := e = .returned (.tuple #[]) ∧ ∃ (t' : PTask) (m' : TM) (st' : St), RS B w' p en st' ∧ TK L w' q p t' m' ∧ TCh p L w w' ∧ Res en st x st' (fun u => u = t') ∧ (∀ z, st' = .ok z → TA t' m') ∧ TLen t t' ∧ TB m m' q p w w'
theorem map_post {α : Type} {en : Int} {st s1 : St} {x : List KT → PR α} {f : α → PTask} {z : α} (h : Res en st x s1 fun u => u = z) : Res en st (fun r => (x r).bind fun v => .ok (f v.1, v.2)) s1 fun u => u = f z := Res.map h (fun u hu => by rw [hu])
theorem tput {B L p q : Nat} {en : Int} {st st' : St} {n : PNet} {mN : NM} {t t' : PTask} {m : TM} {x : List KT → PR PTask} {w w1 : World} (h : TPre B L w p q en st n mN t m) (hR : RS B w1 p en st') (hr : RCh p w w1) (j : Nat) (v : Value) (hj : j < 16) (hc : taskC p t' m = (taskC p t m).set j v) (h1 : t'.vars = t.vars ∧ t'.guard = t.guard ∧ t'.ins = t.ins ∧ t'.outs = t.outs ∧ t'.cancel = t.cancel) (hn : t'.name = t.name) (hres : Res en st x st' fun u => u = t') : TPost B L p q en st n t m x w (.returned (.tuple #[])) (w1.setCell ⟨q, j, none⟩ v) := by
  obtain ⟨k1, k2, k3⟩ := (h.2.1.on hr).put j v hj hc h1
  have hBL := h.2.2.2.2.2.2.2
  have hqL := (h.2.1.2.2.2.1.2.1 q TK.q_in).1
  have hpL := h.2.1.2.2.2.1.2.2.1
  have hRS : RS B (w1.setCell ⟨q, j, none⟩ v) p en st' := hR.ch ((Ch.refl (fun b => b = q) w1).setCell (b := q) (o := j) (.inl rfl) v) (fun b hb => by have hb : b = q := hb; omega) (by show ¬ p = q; omega)
  refine ⟨rfl, t', m, st', hRS, k1, (TCh.of hr).trans k2, hres, fun _ _ => ?_, ?_, TB.pre hr k3⟩
  · unfold TA
    rw [h1.1]; exact h.2.2.2.2.1
  · unfold TLen
    rw [h1.1, h1.2.2.1, h1.2.2.2.1, h1.2.2.2.2]
    exact ⟨Nat.le_succ _, Nat.le_succ _, Nat.le_succ _, Nat.le_succ _, hn⟩
theorem TPre.trp {B L : Nat} {w : World} {p q : Nat} {en : Int} {st : St} {n : PNet} {mN : NM} {t : PTask} {m : TM} (h : TPre B L w p q en st n mN t m) : TRp w q p := ⟨h.cells.1, h.cells.2.2.2.2.1, h.2.1.ne _ TK.q_in⟩

set_option maxRecDepth 100000 in
set_option maxHeartbeats 4000000 in
theorem join_any (B L p q : Nat) (en : Int) (st : St) (n : PNet) (mN : NM) (t : PTask) (m : TM) (w : World) (h : TPre B L w p q en st n mN t m) : Calls Tryz.prog 220 #[ptr q] w (TPost B L p q en st n t m (joinB n t) w) := by
  have H0 : Hid (TPre B L w p q en st n mN t m) := h
  have ql := h.cells.2.2.2.2.1
  clear h
  unfold ptr
  go_enter Tryz.func220, Tryz.ntmps220
  go_wp2_with fail
  refine (kind_any B p q en st w H0.out.1 H0.out.trp).mono ?_
  rintro e w1 ⟨z, s1, he, h1, hr1, R1, -⟩
  subst he
  have FN : Hid (TPost B L p q en st n t m (joinB n t) w (.returned (.tuple #[])) (w1.setCell ⟨q, 6, none⟩ (.int .i64 z))) := tput H0.out h1 hr1 6 _ (by decide) (t' := { t with join := z }) rfl ⟨rfl, rfl, rfl, rfl, rfl⟩ rfl (map_post (f := fun z => ({ t with join := z } : PTask)) R1)
  have hb := ((H0.out.2.1.on hr1).1)
  have g0 : w1.cell? ⟨q, 6, none⟩ = some (.int .i64 t.join) := hb.1 6
  have f0 : w1.frozen? ⟨q, 6, none⟩ = false := hb.2.1 6
  have gl : q < w1.heap.size := hb.2.2
  clear hb h1 hr1 R1 H0
  go_wp2_with fail
  go_end0
  exact FN.out

set_option maxRecDepth 100000 in
set_option maxHeartbeats 4000000 in
theorem split_any (B L p q : Nat) (en : Int) (st : St) (n : PNet) (mN : NM) (t : PTask) (m : TM) (w : World) (h : TPre B L w p q en st n mN t m) : Calls Tryz.prog 221 #[ptr q] w (TPost B L p q en st n t m (splitB n t) w) := by
  have H0 : Hid (TPre B L w p q en st n mN t m) := h
  have ql := h.cells.2.2.2.2.1
  clear h
  unfold ptr
  go_enter Tryz.func221, Tryz.ntmps221
  go_wp2_with fail
  refine (kind_any B p q en st w H0.out.1 H0.out.trp).mono ?_
  rintro e w1 ⟨z, s1, he, h1, hr1, R1, -⟩
  subst he
  have FN : Hid (TPost B L p q en st n t m (splitB n t) w (.returned (.tuple #[])) (w1.setCell ⟨q, 7, none⟩ (.int .i64 z))) := tput H0.out h1 hr1 7 _ (by decide) (t' := { t with split := z }) rfl ⟨rfl, rfl, rfl, rfl, rfl⟩ rfl (map_post (f := fun z => ({ t with split := z } : PTask)) R1)
  have hb := ((H0.out.2.1.on hr1).1)
  have g0 : w1.cell? ⟨q, 7, none⟩ = some (.int .i64 t.split) := hb.1 7
  have f0 : w1.frozen? ⟨q, 7, none⟩ = false := hb.2.1 7
  have gl : q < w1.heap.size := hb.2.2
  clear hb h1 hr1 R1 H0
  go_wp2_with fail
  go_end0
  exact FN.out

set_option maxRecDepth 100000 in
set_option maxHeartbeats 4000000 in
theorem after_any (B L p q : Nat) (en : Int) (st : St) (n : PNet) (mN : NM) (t : PTask) (m : TM) (w : World) (h : TPre B L w p q en st n mN t m) : Calls Tryz.prog 225 #[ptr q] w (TPost B L p q en st n t m (afterB n t) w) := by
  have H0 : Hid (TPre B L w p q en st n mN t m) := h
  obtain ⟨d0, -, -, -, ql, pl⟩ := h.cells
  clear h
  unfold ptr
  go_enter Tryz.func225, Tryz.ntmps225
  go_wp2_with fail
  refine (number_post B p en st w H0.out.1).mono ?_
  rintro e w1 ⟨z, s1, he, h1, hr1, R1⟩
  subst he
  have FN : Hid (TPost B L p q en st n t m (afterB n t) w (.returned (.tuple #[])) (w1.setCell ⟨q, 11, none⟩ (.int .i64 z))) := tput H0.out h1 hr1 11 _ (by decide) (t' := { t with after := z }) rfl ⟨rfl, rfl, rfl, rfl, rfl⟩ rfl (map_post (f := fun z => ({ t with after := z } : PTask)) R1)
  have hb := ((H0.out.2.1.on hr1).1)
  have g0 : w1.cell? ⟨q, 11, none⟩ = some (.int .i64 t.after) := hb.1 11
  have f0 : w1.frozen? ⟨q, 11, none⟩ = false := hb.2.1 11
  have gl : q < w1.heap.size := hb.2.2
  clear hb h1 hr1 R1 H0 d0
  go_wp2_with fail
  go_end0
  exact FN.out

set_option maxRecDepth 100000 in
set_option maxHeartbeats 4000000 in
theorem when_any (B L p q : Nat) (en : Int) (st : St) (n : PNet) (mN : NM) (t : PTask) (m : TM) (w : World) (h : TPre B L w p q en st n mN t m) : Calls Tryz.prog 219 #[ptr q] w (TPost B L p q en st n t m (whenB n t) w) := by
  have H0 : Hid (TPre B L w p q en st n mN t m) := h
  obtain ⟨d0, -, -, -, ql, pl⟩ := h.cells
  clear h
  unfold ptr
  go_enter Tryz.func219, Tryz.ntmps219
  go_wp2_with fail
  refine (texpr_any B L p q en st n mN t m w H0.out).mono ?_
  rintro e w1 ⟨t1, a1, c1, s1, he, hx1, h1, hr1, R1⟩
  subst he
  have FN : Hid (TPost B L p q en st n t m (whenB n t) w (.returned (.tuple #[])) (((w1.setCell ⟨q, 3, none⟩ (.int .i64 t1.kind)).setCell ⟨q, 4, none⟩ (.int .i64 t1.num)).setCell ⟨q, 5, none⟩ (.slice a1 t1.kids.length c1))) := by
    have hT := H0.out.2.1.on hr1
    have hBL := H0.out.2.2.2.2.2.2.2
    have hqL := (H0.out.2.1.2.2.2.1.2.1 q TK.q_in).1
    have hpL := H0.out.2.1.2.2.2.1.2.2.1
    have hc : Ch (fun b => b = q) w1 (((w1.setCell ⟨q, 3, none⟩ (.int .i64 t1.kind)).setCell ⟨q, 4, none⟩ (.int .i64 t1.num)).setCell ⟨q, 5, none⟩ (.slice a1 t1.kids.length c1)) := (((Ch.refl (fun b => b = q) w1).setCell (b := q) (o := 3) (.inl rfl) _).setCell (b := q) (o := 4) (.inl rfl) _).setCell (b := q) (o := 5) (.inl rfl) _
    have hRS := h1.ch hc (fun b hb => by have hb : b = q := hb; omega) (by show ¬ p = q; omega)
    have hMw : ∀ b, m.M q L b → b < w.heap.size := fun b hb => by
      rcases hb with hb | hb
      · exact (H0.out.2.1.2.2.2.1.2.1 b hb).2
      · have := (H0.out.2.1.2.2.2.1.2.1 q TK.q_in); omega
    have hX : Held (m.M q L) w1 fun W => X W t1 a1 := fun W hW => (xg_ch hx1 hW hMw).x
    obtain ⟨hb, ⟨r1, r2, r3, r4⟩, hs, ⟨hA, hM, hpL', hpw⟩, hH, hz⟩ := hT
    have row : ∀ (i : Nat) (a : Option Addr), i ≠ 0 → (m.bs q)[i]? = some (a.map Addr.block) → ∀ (l c k : Nat), (Value.slice a l c).ownBlock = some k → ¬ k = q := fun i a hi ha l c k hk e => by
      rw [own_block] at hk
      rw [hk] at ha
      exact hA.ne ha (j := 0) rfl hi e
    have hsz : (((w1.setCell ⟨q, 3, none⟩ (.int .i64 t1.kind)).setCell ⟨q, 4, none⟩ (.int .i64 t1.num)).setCell ⟨q, 5, none⟩ (.slice a1 t1.kids.length c1)).heap.size = w1.heap.size := by simp [World.setCell]
    refine ⟨rfl, { t with guard := t1 }, { m with ag := a1, cg := c1 }, s1, hRS, ⟨?_, ⟨own_ch2 r1 hc (row 2 _ (by decide) rfl _ _), own_ch2 r2 hc (row 3 _ (by decide) rfl _ _), own_ch2 r3 hc (row 4 _ (by decide) rfl _ _), own_ch2 r4 hc (row 5 _ (by decide) rfl _ _)⟩, hs.ch hc (hA.ne (i := 1) (j := 0) rfl rfl (by decide)), ⟨hA, fun b hb => by rw [hsz]; exact hM b hb, hpL', by rw [hsz]; exact hpw⟩, ?_, hz⟩, (TCh.of hr1).trans (TCh.own (hc.mono fun b _ e => by have e : b = q := e; omega) hpL hpw), map_post (f := fun e => ({ t with guard := e } : PTask)) R1, fun _ _ => H0.out.2.2.2.2.1, ⟨Nat.le_succ _, Nat.le_succ _, Nat.le_succ _, Nat.le_succ _, rfl⟩, TB.pre hr1 ⟨hc.mono fun b _ e => by subst e; exact .inr ⟨TK.q_in, hA.ne (i := 0) (j := 6) rfl rfl (by decide)⟩, fun _ hk => .inl hk, rfl⟩⟩
    · exact ((hb.put 3 (.int .i64 t1.kind) (by simp [taskC])).put 4 (.int .i64 t1.num) (by simp [taskC])).put 5 (.slice a1 t1.kids.length c1) (by simp [taskC])
    · refine ((hH.and hX).on (hc.mono fun b _ e => by subst e; exact .inl TK.q_in)).mono fun W hW => ?_
      obtain ⟨⟨g1, g2, g3, g4⟩, g5⟩ := hW
      exact ⟨g1, g5, g3, g4⟩
  have hb := ((H0.out.2.1.on hr1).1)
  have g3 : w1.cell? ⟨q, 3, none⟩ = some (.int .i64 t.guard.kind) := hb.1 3
  have g4 : w1.cell? ⟨q, 4, none⟩ = some (.int .i64 t.guard.num) := hb.1 4
  have g5 : w1.cell? ⟨q, 5, none⟩ = some (.slice m.ag t.guard.kids.length m.cg) := hb.1 5
  have f3 : w1.frozen? ⟨q, 3, none⟩ = false := hb.2.1 3
  have f4 : w1.frozen? ⟨q, 4, none⟩ = false := hb.2.1 4
  have f5 : w1.frozen? ⟨q, 5, none⟩ = false := hb.2.1 5
  have gl : q < w1.heap.size := hb.2.2
  clear hb h1 hr1 R1 H0 d0 hx1
  go_wp2_with fail
  go_end0
  exact FN.out
end Go.Proofs.YtjcanodnlnodpaaGreatDoor.Parse
/- The clauses var and many of a task: contracts of the calls, over the turned program. -/
namespace Go.Proofs.YtjcanodnlnodpaaGreatDoor.Parse
open Go.RowKit Go.Maps Go.Proofs.YtjcanodnlnodpaaGreatDoor.Frame Go.Proofs.YtjcanodnlnodpaaGreatDoor.Token Go.Proofs.YtjcanodnlnodpaaGreatDoor.Expr Go.Proofs.YtjcanodnlnodpaaGreatDoor.Calc
set_option linter.unusedVariables false
set_option linter.unusedSimpArgs false

theorem infoVar : (Tryz.prog.info? 149).map (fun i => (i.zero, i.size, i.bytes)) = some (some (.agg #[.string ByteArray.empty, .int .i64 0]), 2, 24) := by kernel_rfl
theorem new_partV (w : World) (us : List Value) (t : TypeId) {q : Nat} (hq : q = w.heap.size) : ∀ (j : Nat) (u : Value), us[j]? = some u → (w.alloc (.cells us.toArray t)).cell? ⟨q, j, none⟩ = some u := by subst hq; exact new_part w us t
theorem var_res {en : Int} {n : PNet} {t : PTask} {s0 s1 s2 s3 : St} {s : List UInt8} {z : Int} (h1 : Res en s0 (freshP (t.vars.map Prod.fst)) s1 fun u => u = s) (h2 : Res en s1 (wantP [58]) s2 fun _ => True) (h3 : Res en s2 (findP (n.colours.map PCol.name)) s3 fun u => u = z) : Res en s0 (varB n t) s3 fun u => u = { t with vars := t.vars ++ [(s, z)] } := by
  unfold varB
  refine Res.bindp h1 ?_
  dsimp only
  refine Res.want h2 (Res.bindp h3 ?_)
  dsimp only
  exact Res.pure rfl

set_option maxRecDepth 100000 in
set_option maxHeartbeats 8000000 in
theorem variable_any (B L p q : Nat) (en : Int) (st : St) (n : PNet) (mN : NM) (t : PTask) (m : TM) (w : World) (h : TPre B L w p q en st n mN t m) : Calls Tryz.prog 218 #[ptr q] w (TPost B L p q en st n t m (varB n t) w) := by
  have H0 : Hid (TPre B L w p q en st n mN t m) := h
  have HNE : Hid (m.mv ≠ p ∧ mN.mc ≠ p) := ⟨h.mv_ne, h.2.2.1.now.ne.1⟩
  obtain ⟨d0, d15, -, -, ql, pl⟩ := h.cells
  have hlen : t.vars.length ≤ 1000000 := h.2.2.2.2.2.2.1.1
  have CL : Hid (Calls Tryz.prog 190 #[.pointer (some ⟨p, 0, none⟩), .map (some m.mv)] w.drew (FreshPost B p en m.fv (t.vars.map Prod.fst) st w.drew)) := fresh_post B p m.mv _ _ m.fv _ h.2.2.2.2.1.1 en st w.drew (h.below (Below.refl _ _).drew).1 (h.below (Below.refl _ _).drew).2.1.2.2.1 h.mv_ne
  clear h
  unfold ptr
  go_enter Tryz.func218, Tryz.ntmps218
  go_upto_region 0 with fail
  go_cut [2] from 4 (fun s wr => ∃ nm s1, s = .string (str nm) ∧ Hid (RS B wr p en s1 ∧ RCh p w wr ∧ nm.length ≤ 140737488355328 ∧ Res en st (freshP (t.vars.map Prod.fst)) s1 (fun u => u = nm) ∧ ∀ r, s1 = .ok r → m.fv nm = none))
  case first =>
    go_region_law (first
      | (go_simp; go_at_call 190; refine CL.out.mono ?_; rintro e w1 ⟨nm, s1, he, h1, hr1, hl1, R1, al1⟩; subst he; have KA : Hid (RS B w1 p en s1 ∧ RCh p w w1 ∧ nm.length ≤ 140737488355328 ∧ Res en st (freshP (t.vars.map Prod.fst)) s1 (fun u => u = nm) ∧ ∀ r, s1 = .ok r → m.fv nm = none) := ⟨h1, (RCh.refl p w).drew.trans hr1, hl1, R1, al1⟩; clear h1 hr1 hl1 R1 al1))
    all_goals
      go_wp2_with fail
      go_meet
      case rel => exact ⟨nm, s1, rfl, KA.out⟩
  case rest =>
    obtain ⟨nm, s1, rfl, HC⟩ := hcut
    generalize hwx : wc = w1 at *
    clear hwx wc CL
    have T1 : Hid (TPre B L w1 p q en s1 n mN t m) := H0.out.on HC.out.1 HC.out.2.1
    have e0 : w1.cell? ⟨q, 0, none⟩ = some (.pointer (some ⟨p, 0, none⟩)) := T1.out.cells.1
    have e1 : q < w1.heap.size := T1.out.cells.2.2.2.2.1
    go_wp2_with fail
    refine (must_l B p en s1 _ [58] w1 HC.out.1 rfl (by decide)).mono ?_
    rintro e w2 ⟨he, s2, h2, hr2, R2⟩
    subst he
    have T2 : Hid (TPre B L w2 p q en s2 n mN t m ∧ RCh p w w2 ∧ Res en s1 (wantP [58]) s2 fun _ => True) := ⟨T1.out.on h2 hr2, HC.out.2.1.trans hr2, R2⟩
    clear e0 e1 T1 h2 hr2 R2
    have e0 : w2.cell? ⟨q, 0, none⟩ = some (.pointer (some ⟨p, 0, none⟩)) := T2.out.1.cells.1
    have e9 : w2.cell? ⟨p, 9, none⟩ = some (.map (some mN.mc)) := T2.out.1.cells.2.2.1
    have e1 : q < w2.heap.size := T2.out.1.cells.2.2.2.2.1
    have e2 : p < w2.heap.size := T2.out.1.cells.2.2.2.2.2
    have CL : Hid (Calls Tryz.prog 82 #[.pointer (some ⟨p, 0, none⟩), .map (some mN.mc)] w2.drew (KnownPost B p en (n.colours.map PCol.name) s2 w2.drew)) := known_post B p mN.mc _ _ mN.fc _ H0.out.2.2.2.1.1.1 (by rw [List.length_map]; have := H0.out.2.2.2.2.2.1.1; omega) en s2 w2.drew (T2.out.1.below (Below.refl _ _).drew).1 (T2.out.1.below (Below.refl _ _).drew).2.2.1.now.2.2.1.1 HNE.out.2
    go_upto_region 2 with fail
    go_cut [3] from 4 (fun s wr => ∃ z s3, s = .int .i64 z ∧ Hid (RS B wr p en s3 ∧ RCh p w wr ∧ Res en s2 (findP (n.colours.map PCol.name)) s3 fun u => u = z))
    case first =>
      go_region_law (first
        | (go_simp; go_at_call 82; refine CL.out.mono ?_; rintro e w3 ⟨z, s3, he, h3, hr3, R3, -⟩; subst he; have KA : Hid (RS B w3 p en s3 ∧ RCh p w w3 ∧ Res en s2 (findP (n.colours.map PCol.name)) s3 fun u => u = z) := ⟨h3, T2.out.2.1.trans ((RCh.refl p w2).drew.trans hr3), R3⟩; clear h3 hr3 R3))
      all_goals
        go_wp2_with fail
        go_meet
        case rel => exact ⟨z, s3, rfl, KA.out⟩
    case rest =>
      obtain ⟨z, s3, rfl, HD⟩ := hcut
      generalize hwx : wc = w3 at *
      clear hwx wc CL e0 e1 e2 e9
      have T3 : Hid (TPre B L w3 p q en s3 n mN t m) := H0.out.on HD.out.1 HD.out.2.1
      have e15 : w3.cell? ⟨q, 15, none⟩ = some (.map (some m.mv)) := T3.out.cells.2.1
      have e1 : q < w3.heap.size := T3.out.cells.2.2.2.2.1
      have RR : Hid (Res en st (varB n t) s3 fun u => u = { t with vars := t.vars ++ [(nm, z)] }) := var_res HC.out.2.2.2.1 T2.out.2.2 HD.out.2.2
      have AL : Hid (∀ r, s3 = .ok r → m.fv nm = none) := fun r hr => by
        obtain ⟨z2, e2, _⟩ := alive_back HD.out.2.2 hr
        obtain ⟨z1, e1, _⟩ := alive_back T2.out.2.2 e2
        exact HC.out.2.2.2.2 z1 e1
      have HL : Hid (nm.length ≤ 140737488355328 ∧ RCh p w w3) := ⟨HC.out.2.2.1, HD.out.2.1⟩
      clear HC T2 HD
      go_wp2_with fail
      refine (add_any m.mv t.vars.length m.kv m.fv (str nm) w3 T3.out.2.1.2.2.1 (by omega) (by rw [str_size]; have h1 := HL.out.1; have h2 : (140737488355328 : Nat) ≤ maxLen := (by decide); omega)).mono ?_
      rintro e w4 ⟨he, h4, hc4⟩
      subst he
      rw [str_data] at h4
      have K4 : Hid (SMp w4 m.mv (t.vars.length + 1) (addK m.fv nm m.kv) (addF m.fv nm m.kv) ∧ Ch (· = m.mv) w3 w4) := ⟨h4, hc4⟩
      have hA := T3.out.2.1.2.2.2.1.1
      have hqv : ¬ q = m.mv := hA.ne (i := 0) (j := 1) rfl rfl (by decide)
      have OWN : Hid (∀ W, Below w4.heap.size w4 W → W.ownsRow L 149 2 (.slice m.av t.vars.length m.cv) t.vars.length m.vv ∧ L ≤ W.heap.size) := fun W hW => by
        have hk : ∀ k, (Value.slice m.av t.vars.length m.cv).ownBlock = some k → ¬ k = m.mv := fun k hk e => by
          rw [own_block] at hk
          exact hA.ne (i := 2) (j := 1) (show (m.bs q)[2]? = some (some k) by show some (m.av.map Addr.block) = _; rw [hk]) rfl (by decide) e
        have h1 := (T3.out.2.1.2.2.2.1.2.1 q TK.q_in)
        have h2 := K4.out.2.size
        have h3 := hW.size
        exact ⟨own_ch2 (own_ch2 T3.out.2.1.2.1.1 K4.out.2 hk) (Ch.of_below (M := fun _ => False) hW) (fun _ _ h => h), by omega⟩
      have QG : Hid (∀ W w' : World, Below w4.heap.size w4 W → W.grownBy w' (m.av.map Addr.block) → w'.cell? ⟨q, 2, none⟩ = some (.slice m.av t.vars.length m.cv) ∧ w'.frozen? ⟨q, 2, none⟩ = false ∧ q < w'.heap.size) := fun W w' hW hg => by
        have hb4 := T3.out.2.1.1.ch K4.out.2 hqv
        have hne : some q ≠ m.av.map Addr.block := fun e => absurd (hA 0 2 q rfl (show (m.bs q)[2]? = some (some q) by show some (m.av.map Addr.block) = _; rw [← e])) (by decide)
        have hb : w'.heap[q]? = w4.heap[q]? := (hg.block q (Nat.lt_of_lt_of_le hb4.2.2 hW.size) hne).trans (hW.block q hb4.2.2)
        exact ⟨(cell_of_block hb 2).trans (hb4.1 2), (frozen_of_block hb 2).trans (hb4.2.1 2), Nat.lt_of_lt_of_le hb4.2.2 (Nat.le_trans hW.size hg.size)⟩
      have FIN : Hid (∀ (W w' : World) (a' : Option Addr) (c' : Nat), Below w4.heap.size w4 W → w'.ownsRow L 149 2 (.slice a' (t.vars.length + 1) c') (t.vars.length + 1) (m.vv ++ [.string (str nm), .int .i64 z]) → W.grownBy w' (m.av.map Addr.block) → (a'.map Addr.block = m.av.map Addr.block ∨ a'.map Addr.block = some W.heap.size) → TPost B L p q en st n t m (varB n t) w (.returned (.tuple #[])) (w'.setCell ⟨q, 2, none⟩ (.slice a' (t.vars.length + 1) c'))) := fun W w' a' c' hW hown hg hat => by
        obtain ⟨k1, k2, k3⟩ := T3.out.2.1.add_vars (x := (nm, z)) (us := [.string (str nm), .int .i64 z]) rfl K4.out.1 K4.out.2 hW hown hg hat
        have hBL := H0.out.2.2.2.2.2.2.2
        have hM := H0.out.2.1.2.2.2.1.2.1
        have hpL := H0.out.2.1.2.2.2.1.2.2.1
        have hc : Ch (fun b => L ≤ b) w3 (w'.setCell ⟨q, 2, none⟩ (.slice a' (t.vars.length + 1) c')) := (((K4.out.2.mono fun b _ e => by subst e; exact (hM _ TK.v_in).1).trans (Ch.of_below hW)).trans (Ch.grown hg fun b hb => (hM b (by rw [← hb]; exact List.mem_of_getElem? (i := 2) rfl)).1)).setCell (b := q) (o := 2) (.inl (hM q TK.q_in).1) _
        refine ⟨rfl, _, _, s3, T3.out.1.ch hc (fun b hb => by omega) (by omega), k1, (TCh.of HL.out.2).trans k2, RR.out, fun r hr => ?_, ⟨by show (t.vars ++ [(nm, z)]).length ≤ _; simp, Nat.le_succ _, Nat.le_succ _, Nat.le_succ _, rfl⟩, TB.pre HL.out.2 k3⟩
        obtain ⟨f1, k1'⟩ := H0.out.2.2.2.2.1
        obtain ⟨q1, q2⟩ := nameAt_add (k := m.kv) f1 (k1'.trans (List.length_map _).symm) (AL.out r hr)
        refine ⟨?_, ?_⟩
        · show addF m.fv nm m.kv = nameAt ((t.vars ++ [(nm, z)]).map Prod.fst)
          rw [q1, List.map_append]; rfl
        · show addK m.fv nm m.kv = (t.vars ++ [(nm, z)]).length
          rw [q2, List.length_map]; simp
      have e2 : w4.cell? ⟨q, 2, none⟩ = some (.slice m.av t.vars.length m.cv) := (T3.out.2.1.1.ch K4.out.2 hqv).1 2
      have e3 : q < w4.heap.size := (T3.out.2.1.1.ch K4.out.2 hqv).2.2
      clear h4 hc4 hA hqv K4 T3 RR AL HL H0 HNE e15 e1
      go_wp2_with (first
        | (at_builtin; refine wp_own (B := L) rfl _ _ rfl rfl rfl Tryz.underlying58 infoVar rfl (by decide) (by decide) (OWN.out _ (by repeat (first | exact Below.refl _ _ | refine Below.drew ?_ | refine Below.alloc ?_ (by simp) _))).1 rfl (new_partV _ [.string (str nm), .int .i64 z] _ (by simp)) (by simp [Value.oneCell']) (by omega) (OWN.out _ (by repeat (first | exact Below.refl _ _ | refine Below.drew ?_ | refine Below.alloc ?_ (by simp) _))).2 ?_; intro a' c' w' hown hg hat; have FN : Hid (∀ v, v = Value.slice a' (t.vars.length + 1) c' → TPost B L p q en st n t m (varB n t) w (.returned (.tuple #[])) (w'.setCell ⟨q, 2, none⟩ v)) := (fun v hv => by subst hv; exact FIN.out _ w' a' c' (by repeat (first | exact Below.refl _ _ | refine Below.drew ?_ | refine Below.alloc ?_ (by simp) _)) hown hg hat); obtain ⟨u2, u2f, u3⟩ := QG.out _ w' (by repeat (first | exact Below.refl _ _ | refine Below.drew ?_ | refine Below.alloc ?_ (by simp) _)) hg; clear hown hg hat)
        | go_in)
      go_end0
      exact FN.out _ rfl
end Go.Proofs.YtjcanodnlnodpaaGreatDoor.Parse
/- The clause many of a task: a contract of the call, over the turned program. -/
namespace Go.Proofs.YtjcanodnlnodpaaGreatDoor.Parse
open Go.RowKit Go.Maps Go.Proofs.YtjcanodnlnodpaaGreatDoor.Frame Go.Proofs.YtjcanodnlnodpaaGreatDoor.Token Go.Proofs.YtjcanodnlnodpaaGreatDoor.Expr Go.Proofs.YtjcanodnlnodpaaGreatDoor.Calc
set_option linter.unusedVariables false
set_option linter.unusedSimpArgs false

theorem many_res {en : Int} {n : PNet} {t : PTask} {s0 s1 s2 s3 s4 s5 : St} {a b c : Int} (h1 : Res en s0 numP s1 fun u => u = a) (h2 : Res en s1 (wantP [44]) s2 fun _ => True) (h3 : Res en s2 numP s3 fun u => u = b) (h4 : Res en s3 (wantP [44]) s4 fun _ => True) (h5 : Res en s4 numP s5 fun u => u = c) : Res en s0 (manyB n t) s5 fun u => u = { t with m0 := a, m1 := b, m2 := c } := by
  unfold manyB
  refine Res.bindp h1 ?_
  dsimp only
  refine Res.want h2 (Res.bindp h3 ?_)
  dsimp only
  refine Res.want h4 (Res.bindp h5 ?_)
  dsimp only
  exact Res.pure rfl
theorem tnext {B L p q : Nat} {en : Int} {st st' : St} {n : PNet} {mN : NM} {t t' : PTask} {m : TM} {w w1 : World} (h : TPre B L w p q en st n mN t m) (hR : RS B w1 p en st') (hr : RCh p w w1) (j : Nat) (v : Value) (hj : j < 16) (hc : taskC p t' m = (taskC p t m).set j v) (h1 : t'.vars = t.vars ∧ t'.guard = t.guard ∧ t'.ins = t.ins ∧ t'.outs = t.outs ∧ t'.cancel = t.cancel) : TPre B L (w1.setCell ⟨q, j, none⟩ v) p q en st' n mN t' m ∧ TCh p L w (w1.setCell ⟨q, j, none⟩ v) ∧ TB m m q p w (w1.setCell ⟨q, j, none⟩ v) := by
  obtain ⟨k1, k2, k3⟩ := (h.2.1.on hr).put j v hj hc h1
  have hBL := h.2.2.2.2.2.2.2
  have hqL := (h.2.1.2.2.2.1.2.1 q TK.q_in).1
  have hpL := h.2.1.2.2.2.1.2.2.1
  have hRS : RS B (w1.setCell ⟨q, j, none⟩ v) p en st' := hR.ch ((Ch.refl (fun b => b = q) w1).setCell (b := q) (o := j) (.inl rfl) v) (fun b hb => by have hb : b = q := hb; omega) (by show ¬ p = q; omega)
  have hT := (TCh.of (L := L) hr).trans k2
  refine ⟨⟨hRS, k1, h.2.2.1.go hT, h.2.2.2.1, ?_, h.2.2.2.2.2.1, ?_, hBL⟩, hT, TB.pre hr k3⟩
  · unfold TA; rw [h1.1]; exact h.2.2.2.2.1
  · rw [h1.1, h1.2.2.1, h1.2.2.2.1, h1.2.2.2.2]; exact h.2.2.2.2.2.2.1

set_option maxRecDepth 100000 in
set_option maxHeartbeats 8000000 in
theorem many_any (B L p q : Nat) (en : Int) (st : St) (n : PNet) (mN : NM) (t : PTask) (m : TM) (w : World) (h : TPre B L w p q en st n mN t m) : Calls Tryz.prog 226 #[ptr q] w (TPost B L p q en st n t m (manyB n t) w) := by
  have P0 : Hid (TPre B L w p q en st n mN t m) := h
  clear h
  unfold ptr
  go_enter Tryz.func226, Tryz.ntmps226
  go_wp2_with fail
  refine wp_loop_rounds 4 ?_
  rw [rounds_succ]
  have d0 : w.cell? ⟨q, 0, none⟩ = some (.pointer (some ⟨p, 0, none⟩)) := P0.out.cells.1
  have ql : q < w.heap.size := P0.out.cells.2.2.2.2.1
  have pl : p < w.heap.size := P0.out.cells.2.2.2.2.2
  have CL0 : Hid (Calls Tryz.prog 200 #[.pointer (some ⟨p, 0, none⟩)] w.drew (IntPost B p en numP st w.drew)) := number_post B p en st w.drew (P0.out.below (Below.refl _ _).drew).1
  go_wp2_with fail
  go_region_law (first
    | (go_simp; go_at_call 200; refine CL0.out.mono ?_; rintro e u0 ⟨z0, s0, he, h, hr, R⟩; subst he; have P1 : Hid (TPre B L (u0.setCell ⟨q, 12, none⟩ (.int .i64 z0)) p q en s0 n mN { t with m0 := z0 } m) := (tnext P0.out h ((RCh.refl p w).drew.trans hr) 12 _ (by decide) (t' := { t with m0 := z0 }) rfl ⟨rfl, rfl, rfl, rfl, rfl⟩).1; have TC0 : Hid (TCh p L w (u0.setCell ⟨q, 12, none⟩ (.int .i64 z0)) ∧ TB m m q p w (u0.setCell ⟨q, 12, none⟩ (.int .i64 z0))) := (tnext P0.out h ((RCh.refl p w).drew.trans hr) 12 _ (by decide) (t' := { t with m0 := z0 }) rfl ⟨rfl, rfl, rfl, rfl, rfl⟩).2; have R0 : Hid (Res en st numP s0 fun u => u = z0) := R; have hb := (P0.out.2.1.on ((RCh.refl p w).drew.trans hr)).1; have g0 : u0.cell? ⟨q, 12, none⟩ = some (.int .i64 t.m0) := hb.1 12; have f0 : u0.frozen? ⟨q, 12, none⟩ = false := hb.2.1 12; have gl0 : q < u0.heap.size := hb.2.2; clear h hr R hb))
  obtain ⟨U0, hU0⟩ : ∃ U, U = u0.setCell ⟨q, 12, none⟩ (.int .i64 z0) := ⟨_, rfl⟩
  rw [← hU0] at P1 TC0 ⊢
  clear d0 ql pl CL0 P0 g0 f0 gl0 hU0
  go_wp2_with fail
  rw [rounds_succ]
  have d0 : U0.cell? ⟨q, 0, none⟩ = some (.pointer (some ⟨p, 0, none⟩)) := P1.out.cells.1
  have ql : q < U0.heap.size := P1.out.cells.2.2.2.2.1
  have pl : p < U0.heap.size := P1.out.cells.2.2.2.2.2
  go_wp2_with fail
  refine (must_l B p en s0 _ [44] U0 P1.out.1 rfl (by decide)).mono ?_
  rintro e v1 ⟨he, r1, h1, hr1, M1⟩
  subst he
  have Q1 : Hid (TPre B L v1 p q en r1 n mN { t with m0 := z0 } m) := P1.out.on h1 hr1
  have C1 : Hid (TCh p L w v1 ∧ TB m m q p w v1) := ⟨TC0.out.1.trans (TCh.of hr1), TC0.out.2.trans ⟨hr1.1.mono fun b _ e => .inl e, fun _ hk => .inl hk, rfl⟩⟩
  have N1 : Hid (Res en s0 (wantP [44]) r1 fun _ => True) := M1
  clear d0 ql pl h1 hr1 M1 P1
  have d0 : v1.cell? ⟨q, 0, none⟩ = some (.pointer (some ⟨p, 0, none⟩)) := Q1.out.cells.1
  have ql : q < v1.heap.size := Q1.out.cells.2.2.2.2.1
  have pl : p < v1.heap.size := Q1.out.cells.2.2.2.2.2
  have CL1 : Hid (Calls Tryz.prog 200 #[.pointer (some ⟨p, 0, none⟩)] v1.drew (IntPost B p en numP r1 v1.drew)) := number_post B p en r1 v1.drew (Q1.out.below (Below.refl _ _).drew).1
  go_wp2_with fail
  go_region_law (first
    | (go_simp; go_at_call 200; refine CL1.out.mono ?_; rintro e u1 ⟨z1, s1, he, h, hr, R⟩; subst he; have P2 : Hid (TPre B L (u1.setCell ⟨q, 13, none⟩ (.int .i64 z1)) p q en s1 n mN { t with m0 := z0, m1 := z1 } m) := (tnext Q1.out h ((RCh.refl p v1).drew.trans hr) 13 _ (by decide) (t' := { t with m0 := z0, m1 := z1 }) rfl ⟨rfl, rfl, rfl, rfl, rfl⟩).1; have TC1 : Hid (TCh p L w (u1.setCell ⟨q, 13, none⟩ (.int .i64 z1)) ∧ TB m m q p w (u1.setCell ⟨q, 13, none⟩ (.int .i64 z1))) := ⟨C1.out.1.trans (tnext Q1.out h ((RCh.refl p v1).drew.trans hr) 13 _ (by decide) (t' := { t with m0 := z0, m1 := z1 }) rfl ⟨rfl, rfl, rfl, rfl, rfl⟩).2.1, C1.out.2.trans (tnext Q1.out h ((RCh.refl p v1).drew.trans hr) 13 _ (by decide) (t' := { t with m0 := z0, m1 := z1 }) rfl ⟨rfl, rfl, rfl, rfl, rfl⟩).2.2⟩; have R1 : Hid (Res en r1 numP s1 fun u => u = z1) := R; have hb := (Q1.out.2.1.on ((RCh.refl p v1).drew.trans hr)).1; have g1 : u1.cell? ⟨q, 13, none⟩ = some (.int .i64 t.m1) := hb.1 13; have f1 : u1.frozen? ⟨q, 13, none⟩ = false := hb.2.1 13; have gl1 : q < u1.heap.size := hb.2.2; clear h hr R hb))
  obtain ⟨U1, hU1⟩ : ∃ U, U = u1.setCell ⟨q, 13, none⟩ (.int .i64 z1) := ⟨_, rfl⟩
  rw [← hU1] at P2 TC1 ⊢
  clear d0 ql pl CL1 Q1 g1 f1 gl1 hU1
  go_wp2_with fail
  rw [rounds_succ]
  have d0 : U1.cell? ⟨q, 0, none⟩ = some (.pointer (some ⟨p, 0, none⟩)) := P2.out.cells.1
  have ql : q < U1.heap.size := P2.out.cells.2.2.2.2.1
  have pl : p < U1.heap.size := P2.out.cells.2.2.2.2.2
  go_wp2_with fail
  refine (must_l B p en s1 _ [44] U1 P2.out.1 rfl (by decide)).mono ?_
  rintro e v2 ⟨he, r2, h2, hr2, M2⟩
  subst he
  have Q2 : Hid (TPre B L v2 p q en r2 n mN { t with m0 := z0, m1 := z1 } m) := P2.out.on h2 hr2
  have C2 : Hid (TCh p L w v2 ∧ TB m m q p w v2) := ⟨TC1.out.1.trans (TCh.of hr2), TC1.out.2.trans ⟨hr2.1.mono fun b _ e => .inl e, fun _ hk => .inl hk, rfl⟩⟩
  have N2 : Hid (Res en s1 (wantP [44]) r2 fun _ => True) := M2
  clear d0 ql pl h2 hr2 M2 P2
  have d0 : v2.cell? ⟨q, 0, none⟩ = some (.pointer (some ⟨p, 0, none⟩)) := Q2.out.cells.1
  have ql : q < v2.heap.size := Q2.out.cells.2.2.2.2.1
  have pl : p < v2.heap.size := Q2.out.cells.2.2.2.2.2
  have CL2 : Hid (Calls Tryz.prog 200 #[.pointer (some ⟨p, 0, none⟩)] v2.drew (IntPost B p en numP r2 v2.drew)) := number_post B p en r2 v2.drew (Q2.out.below (Below.refl _ _).drew).1
  go_wp2_with fail
  go_region_law (first
    | (go_simp; go_at_call 200; refine CL2.out.mono ?_; rintro e u2 ⟨z2, s2, he, h, hr, R⟩; subst he; have P3 : Hid (TPre B L (u2.setCell ⟨q, 14, none⟩ (.int .i64 z2)) p q en s2 n mN { t with m0 := z0, m1 := z1, m2 := z2 } m) := (tnext Q2.out h ((RCh.refl p v2).drew.trans hr) 14 _ (by decide) (t' := { t with m0 := z0, m1 := z1, m2 := z2 }) rfl ⟨rfl, rfl, rfl, rfl, rfl⟩).1; have TC2 : Hid (TCh p L w (u2.setCell ⟨q, 14, none⟩ (.int .i64 z2)) ∧ TB m m q p w (u2.setCell ⟨q, 14, none⟩ (.int .i64 z2))) := ⟨C2.out.1.trans (tnext Q2.out h ((RCh.refl p v2).drew.trans hr) 14 _ (by decide) (t' := { t with m0 := z0, m1 := z1, m2 := z2 }) rfl ⟨rfl, rfl, rfl, rfl, rfl⟩).2.1, C2.out.2.trans (tnext Q2.out h ((RCh.refl p v2).drew.trans hr) 14 _ (by decide) (t' := { t with m0 := z0, m1 := z1, m2 := z2 }) rfl ⟨rfl, rfl, rfl, rfl, rfl⟩).2.2⟩; have R2 : Hid (Res en r2 numP s2 fun u => u = z2) := R; have hb := (Q2.out.2.1.on ((RCh.refl p v2).drew.trans hr)).1; have g2 : u2.cell? ⟨q, 14, none⟩ = some (.int .i64 t.m2) := hb.1 14; have f2 : u2.frozen? ⟨q, 14, none⟩ = false := hb.2.1 14; have gl2 : q < u2.heap.size := hb.2.2; clear h hr R hb))
  obtain ⟨U2, hU2⟩ : ∃ U, U = u2.setCell ⟨q, 14, none⟩ (.int .i64 z2) := ⟨_, rfl⟩
  rw [← hU2] at P3 TC2 ⊢
  clear d0 ql pl CL2 Q2 g2 f2 gl2 hU2
  go_wp2_with fail
  rw [rounds_succ]
  go_wp2_with fail
  go_end0
  exact ⟨rfl, _, m, s2, P3.out.1, P3.out.2.1, TC2.out.1, many_res R0.out N1.out R1.out N2.out R2.out, fun _ _ => P3.out.2.2.2.2.1, ⟨Nat.le_succ _, Nat.le_succ _, Nat.le_succ _, Nat.le_succ _, rfl⟩, TC2.out.2⟩
end Go.Proofs.YtjcanodnlnodpaaGreatDoor.Parse
