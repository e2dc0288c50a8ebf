/- Nets that are asked about: what they are, in plain Lean, and how they lie in memory. -/
import Derived.Test.YtnjpblmplneojaaGreatDoorMaF
import Derived.Test.YtnjpblmplneojaaGreatDoorBagRight
import Derived.Test.YtnjpblmplneojaaGreatDoorExMem
namespace Go.Proofs.YtnjpblmplneojaaGreatDoor.Check
open Go.RowKit Go.Proofs.YtnjpblmplneojaaGreatDoor.Frame Go.Proofs.YtnjpblmplneojaaGreatDoor.Colour Go.Proofs.YtnjpblmplneojaaGreatDoor.Expr
set_option linter.unusedVariables false

structure Va where
  name : ByteArray
  colour : Int
structure Ar where
  place : Int
  ex : Ex
  ka : Option Addr
  kc : Nat
structure Pl where
  name : ByteArray
  colour : Int
  first : List Bag.Row
  fa : Option Addr
  fc : Nat
structure Ta where
  name : ByteArray
  vars : List Va
  va : Option Addr
  vc : Nat
  guard : Ex
  ga : Option Addr
  gc : Nat
  join : Int
  split : Int
  ins : List Ar
  ia : Option Addr
  ic : Nat
  outs : List Ar
  oa : Option Addr
  oc : Nat
  cancel : List Int
  ca : Option Addr
  cc : Nat
  after : Int
  m0 : Int
  m1 : Int
  m2 : Int
structure Ne where
  cols : List Col
  ca : Option Addr
  cc : Nat
  places : List Pl
  pa : Option Addr
  pc : Nat
  tasks : List Ta
  ta : Option Addr
  tc : Nat
  frm : Int
  too : Int
def nilVa : Va := ⟨ByteArray.empty, 0⟩
def nilAr : Ar := ⟨0, nilEx, none, 0⟩
def nilPl : Pl := ⟨ByteArray.empty, 0, [], none, 0⟩
def nilTa : Ta := ⟨ByteArray.empty, [], none, 0, nilEx, none, 0, 0, 0, [], none, 0, [], none, 0, [], none, 0, 0, 0, 0, 0⟩
def Va.cells (v : Va) : List Value := [.string v.name, .int .i64 v.colour]
def Ar.cells (x : Ar) : List Value := [.int .i64 x.place, .int .i64 x.ex.kind, .int .i64 x.ex.num, .slice x.ka x.ex.kids.length x.kc]
def Pl.cells (p : Pl) : List Value := [.string p.name, .int .i64 p.colour, .slice p.fa p.first.length p.fc]
def Ta.cells (t : Ta) : List Value := [.string t.name, .slice t.va t.vars.length t.vc, .int .i64 t.guard.kind, .int .i64 t.guard.num, .slice t.ga t.guard.kids.length t.gc, .int .i64 t.join, .int .i64 t.split, .slice t.ia t.ins.length t.ic, .slice t.oa t.outs.length t.oc, .slice t.ca t.cancel.length t.cc, .int .i64 t.after, .int .i64 t.m0, .int .i64 t.m1, .int .i64 t.m2]
def Ne.cells (n : Ne) : List Value := [.slice n.ca n.cols.length n.cc, .slice n.pa n.places.length n.pc, .slice n.ta n.tasks.length n.tc, .int .i64 n.frm, .int .i64 n.too]

theorem wrap_id {x : Int} (h1 : -9223372036854775808 ≤ x) (h2 : x ≤ 9223372036854775807) : IntKind.i64.wrap x = x := by
  simp [IntKind.wrap, IntKind.signed, IntKind.bits]
  omega
/-- values that lie one behind the other -/
def Run (w : World) (b o : Nat) (vs : List Value) : Prop := ∀ (j : Nat) (v : Value), vs[j]? = some v → w.cell? ⟨b, o + j, none⟩ = some v
theorem Run.below {w w' : World} {b o : Nat} {vs : List Value} (h : Run w b o vs) (hb : Below w.heap.size w w') : Run w' b o vs := fun j v hv =>
  (hb.cell (p := ⟨b, o + j, none⟩) (World.block_lt_of_cell? w _ (h j v hv))).trans (h j v hv)
/-- a row of parts in memory: k cells of each, and what lies behind these -/
def RowM {α : Type} (k : Nat) (cells : α → List Value) (ok : World → α → Prop) (nil : α) (w : World) (a : Option Addr) (l : List α) : Prop :=
  l.length = 0 ∨ ∃ b off, a = some ⟨b, off, none⟩ ∧ ∀ i, i < l.length → Run w b (off + i * k) (cells (l.getD i nil)) ∧ ok w (l.getD i nil)
theorem RowM.below {α : Type} {k : Nat} {cells : α → List Value} {ok : World → α → Prop} {nil : α} {w w' : World} {a : Option Addr} {l : List α} (hok : ∀ x, ok w x → ok w' x) (h : RowM k cells ok nil w a l) (hb : Below w.heap.size w w') : RowM k cells ok nil w' a l := by
  rcases h with h | ⟨b, off, ha, h⟩
  · exact .inl h
  · exact .inr ⟨b, off, ha, fun i hi => ⟨(h i hi).1.below hb, hok _ (h i hi).2⟩⟩
theorem RowM.at {α : Type} {k : Nat} {cells : α → List Value} {ok : World → α → Prop} {nil : α} {w : World} {a : Option Addr} {l : List α} (h : RowM k cells ok nil w a l) {i : Nat} (hi : i < l.length) : ∃ b off, a = some ⟨b, off, none⟩ ∧ Run w b (off + i * k) (cells (l.getD i nil)) ∧ ok w (l.getD i nil) := by
  rcases h with h | ⟨b, off, ha, h⟩
  · omega
  · exact ⟨b, off, ha, h i hi⟩
def VaOk (w : World) (v : Va) : Prop := In64 v.colour
def ArOk (w : World) (x : Ar) : Prop := In64 x.place ∧ X w x.ex x.ka
def PlOk (w : World) (p : Pl) : Prop := In64 p.colour ∧ Bag.Bags w p.fa p.first.length p.first
def Is (w : World) (z : Int) : Prop := In64 z
def TaOk (w : World) (t : Ta) : Prop := ((In64 t.join ∧ In64 t.split ∧ In64 t.after ∧ In64 t.m0 ∧ In64 t.m1 ∧ In64 t.m2) ∧ t.cancel.length ≤ t.cc) ∧ X w t.guard t.ga ∧
  RowM 2 Va.cells VaOk nilVa w t.va t.vars ∧ RowM 4 Ar.cells ArOk nilAr w t.ia t.ins ∧ RowM 4 Ar.cells ArOk nilAr w t.oa t.outs ∧ RowM 1 (fun z => [.int .i64 z]) Is 0 w t.ca t.cancel
def NeOk (w : World) (n : Ne) : Prop := ((In64 n.frm ∧ In64 n.too) ∧ n.cols.length ≤ n.cc ∧ n.tasks.length ≤ n.tc) ∧ Cols w n.ca n.cols.length n.cols ∧ RowM 3 Pl.cells PlOk nilPl w n.pa n.places ∧ RowM 14 Ta.cells TaOk nilTa w n.ta n.tasks
theorem VaOk.below {w w' : World} {v : Va} (h : VaOk w v) : VaOk w' v := (h : In64 v.colour)
theorem ArOk.below {w w' : World} {x : Ar} (h : ArOk w x) (hb : Below w.heap.size w w') : ArOk w' x := ⟨h.1, XG.below h.2 hb⟩
theorem PlOk.below {w w' : World} {p : Pl} (h : PlOk w p) (hb : Below w.heap.size w w') : PlOk w' p := ⟨h.1, h.2.below hb⟩
theorem TaOk.below {w w' : World} {t : Ta} (h : TaOk w t) (hb : Below w.heap.size w w') : TaOk w' t :=
  ⟨h.1, XG.below h.2.1 hb, RowM.below (ok := VaOk) (fun _ g => VaOk.below g) h.2.2.1 hb, h.2.2.2.1.below (fun _ g => g.below hb) hb, h.2.2.2.2.1.below (fun _ g => g.below hb) hb, RowM.below (ok := Is) (w := w) (w' := w') (fun x (g : In64 x) => g) h.2.2.2.2.2 hb⟩
theorem NeOk.below {w w' : World} {n : Ne} (h : NeOk w n) (hb : Below w.heap.size w w') : NeOk w' n :=
  ⟨h.1, h.2.1.below hb, h.2.2.1.below (fun _ g => g.below hb) hb, h.2.2.2.below (fun _ g => g.below hb) hb⟩

/-- a Go function with a body: a call of it enters it -/
def Goes (K : FuncId) : Prop := ∀ (args : Array Value) (W : World), Sem.run Tryz.prog (callFunc K args) W = .ok (.enter K args) W
/-- a closure of no arguments that answers a number, whatever is made in the meantime -/
def Ask (w : World) (v : Value) (e : Int) : Prop := ∃ K caps, v = .func (.func K) #[] caps ∧ Goes K ∧ ∀ W, Below w.heap.size w W → Calls Tryz.prog K caps W fun en W' => en = .returned (.int .i64 e) ∧ Below W.heap.size W W'
def AskB (w : World) (v : Value) (b : Bool) : Prop := ∃ K caps, v = .func (.func K) #[] caps ∧ Goes K ∧ ∀ W, Below w.heap.size w W → Calls Tryz.prog K caps W fun en W' => en = .returned (.bool b) ∧ Below W.heap.size W W'
theorem Ask.below {w w' : World} {v : Value} {e : Int} (h : Ask w v e) (hb : Below w.heap.size w w') : Ask w' v e := by
  obtain ⟨K, caps, hv, hg, h⟩ := h
  exact ⟨K, caps, hv, hg, fun W hW => h W (then_ hb hW)⟩
theorem AskB.below {w w' : World} {v : Value} {e : Bool} (h : AskB w v e) (hb : Below w.heap.size w w') : AskB w' v e := by
  obtain ⟨K, caps, hv, hg, h⟩ := h
  exact ⟨K, caps, hv, hg, fun W hW => h W (then_ hb hW)⟩
/-- the first that is not 0 -/
def firstNZ : List Int → Int
  | [] => 0
  | e :: r => if e = 0 then firstNZ r else e
theorem firstNZ_at {es : List Int} {k : Nat} (hk : k < es.length) (h0 : ∀ j, j < k → es.getD j 0 = 0) (h : es.getD k 0 ≠ 0) : firstNZ es = es.getD k 0 := by
  induction es generalizing k with
  | nil => simp at hk
  | cons e r ih =>
    cases k with
    | zero => simp at h ⊢; unfold firstNZ; rw [if_neg h]
    | succ k =>
      have e0 : e = 0 := by have := h0 0 (by omega); simpa using this
      unfold firstNZ
      rw [if_pos e0]
      simpa using ih (k := k) (by simpa using hk) (fun j hj => by have := h0 (j + 1) (by omega); simpa using this) (by simpa using h)
theorem firstNZ_none {es : List Int} (h0 : ∀ j, j < es.length → es.getD j 0 = 0) : firstNZ es = 0 := by
  induction es with
  | nil => rfl
  | cons e r ih =>
    have e0 : e = 0 := by have := h0 0 (by simp); simpa using this
    unfold firstNZ
    rw [if_pos e0]
    exact ih fun j hj => by have := h0 (j + 1) (by simpa using hj); simpa using this
theorem firstNZ_eq {es : List Int} (h : firstNZ es = 0) : ∀ e, e ∈ es → e = 0 := by
  induction es with
  | nil => intro e he; cases he
  | cons x r ih =>
    unfold firstNZ at h
    split at h
    · rename_i hx
      intro e he
      rcases List.mem_cons.1 he with rfl | he
      · exact hx
      · exact ih h e he
    · rename_i hx; exact absurd h hx
end Go.Proofs.YtnjpblmplneojaaGreatDoor.Check
