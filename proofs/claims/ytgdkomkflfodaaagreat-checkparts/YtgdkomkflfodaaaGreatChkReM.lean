/- A walk's memory: as it is made, as a place is taken from it. -/
import Derived.Test.YtgdkomkflfodaaaGreatChkReP
import Derived.WalkSmall
namespace Go.Proofs.YtgdkomkflfodaaaGreat.Check
open Go.Proofs.YtgdkomkflfodaaaGreat.Dag Go.RowKit Go.Proofs.YtgdkomkflfodaaaGreat.Frame Go.Proofs.YtgdkomkflfodaaaGreat.Colour Go.Proofs.YtgdkomkflfodaaaGreat.Expr
set_option linter.unusedVariables false
set_option linter.unusedSimpArgs false

theorem WM.rebase {B : Nat} {H : World} {M : Nat → Prop} {q gp gt np nt : Nat} {P T : Nat → Bool} {O : List Int} {a : Option Addr} {c : Nat} {wr : World} (h : WM B H M q gp gt np nt P T O a c wr) : WM B wr (fun b => b = q ∨ b = gp ∨ b = gt ∨ a.map Addr.block = some b) q gp gt np nt P T O a c wr :=
  ⟨h.1, h.2.1, Ch.refl _ _, fun b hb => .inl hb, h.2.2.2.2⟩
theorem WM.own_le {B : Nat} {H : World} {M : Nat → Prop} {q gp gt np nt : Nat} {P T : Nat → Bool} {O : List Int} {a : Option Addr} {c : Nat} {wr : World} (h : WM B H M q gp gt np nt P T O a c wr) : ∀ b, (b = q ∨ b = gp ∨ b = gt ∨ a.map Addr.block = some b) → B ≤ b ∧ b < wr.heap.size := fun b hb => by
  rcases hb with e | e | e | e
  · subst e; exact ⟨h.2.1.1.1, h.1.1.lt⟩
  · subst e; exact ⟨h.2.1.1.2.1, h.1.2.1.lt⟩
  · subst e; exact ⟨h.2.1.1.2.2.1, h.1.2.2.1.lt⟩
  · exact own_lt h.1.2.2.2 e
/-- the last of the open places -/
theorem WM.last {B : Nat} {H : World} {M : Nat → Prop} {q gp gt np nt : Nat} {P T : Nat → Bool} {O : List Int} {a : Option Addr} {c m : Nat} {wr : World} (h : WM B H M q gp gt np nt P T O a c wr) (hm : O.length = m + 1) :
    ∃ (l : List Int) (g p : Nat), O = l ++ [(p : Int)] ∧ l.length = m ∧ a = some ⟨g, 0, none⟩ ∧ p < np ∧ P p = true ∧ wr.cell? ⟨g, m, none⟩ = some (.int .i64 (p : Int)) ∧ m + 1 ≤ c ∧ c ≤ maxLen := by
  have hne : O ≠ [] := by intro e; subst e; simp at hm
  obtain ⟨l, z, rfl⟩ : ∃ l z, O = l ++ [z] := ⟨O.dropLast, O.getLast hne, (List.dropLast_concat_getLast hne).symm⟩
  obtain ⟨k, rfl, hk, hp⟩ := h.2.2.2.2.2 z (by simp)
  have hl : l.length = m := by simpa using hm
  have ho := h.1.2.2.2
  rcases ho.2 with ⟨_, h0⟩ | ⟨g, cap, cur, hv, hb, hg, hn, hcm, hs, ht⟩
  · omega
  · injection hv with h1 h2 h3
    subst h1 h3
    refine ⟨l, g, k, rfl, hl, rfl, hk, hp, ?_, by rw [← hm]; exact hn, hcm⟩
    have e := World.ownsRow.cellAt ho m (by omega)
    rw [e]
    unfold ints
    rw [List.getElem?_map, List.getElem?_append_right (by omega), hl]
    simp
theorem WM.pop {B : Nat} {H : World} {M : Nat → Prop} {q gp gt np nt : Nat} {P T : Nat → Bool} {l : List Int} {p : Int} {g c m : Nat} {wr : World} (h : WM B H M q gp gt np nt P T (l ++ [p]) (some ⟨g, 0, none⟩) c wr) (hm : l.length = m) :
    WM B H M q gp gt np nt P T l (some ⟨g, 0, none⟩) c (wr.setCell ⟨q, 2, none⟩ (.slice (some ⟨g, 0, none⟩) m c)) := by
  subst hm
  have hc : Ch (fun b => b = q) wr (wr.setCell ⟨q, 2, none⟩ (.slice (some ⟨g, 0, none⟩) l.length c)) := (Ch.refl (fun b => b = q) wr).setCell (b := q) (o := 2) (.inl rfl) _
  have hgq := h.2.1.2.2 g rfl
  have hown : wr.ownsRow B 3 1 (.slice (some ⟨g, 0, none⟩) l.length c) l.length (ints l) := by
    have := h.1.2.2.2
    rw [List.length_append] at this
    refine ownsRow_pop (last := ints [p]) (by unfold ints; simp) ?_
    have e : ints l ++ ints [p] = ints (l ++ [p]) := by unfold ints; simp
    rw [e]
    exact this
  refine ⟨⟨?_, rowIs_ch h.1.2.1 hc (fun e => h.2.1.2.1.1 e.symm), rowIs_ch h.1.2.2.1 hc (fun e => h.2.1.2.1.2.1 e.symm), own_ch2 hown hc (fun k hk e => by rw [own_block] at hk; exact (h.2.1.2.2 k hk).1 e)⟩, ⟨⟨h.2.1.1.1, h.2.1.1.2.1, h.2.1.1.2.2.1, Nat.le_trans h.2.1.1.2.2.2 hc.size⟩, h.2.1.2⟩, ?_, h.2.2.2.1, ?_⟩
  · refine (h.1.1.set 2 _).congr fun j hj => ?_
    match j, hj with
    | 0, _ => rfl
    | 1, _ => rfl
    | 2, _ => rfl
    | j + 3, hj => omega
  · exact Ch.up2 h.2.2.1 hc fun b e => h.2.2.2.1 b (.inl e)
  · have := h.2.2.2.2
    have e : (l ++ [p]).dropLast = l := by simp
    exact e ▸ this.pop
/-- how far it is from the end, read off memory -/
def farW (gp q np : Nat) (w : World) : Nat := far np (fun k => match w.cell? ⟨gp, k, none⟩ with | some (.bool b) => b | _ => false) (match w.cell? ⟨q, 2, none⟩ with | some (.slice _ n _) => List.replicate n 0 | _ => [])
theorem WM.farW {B : Nat} {H : World} {M : Nat → Prop} {q gp gt np nt : Nat} {P T : Nat → Bool} {O : List Int} {a : Option Addr} {c : Nat} {wr : World} (h : WM B H M q gp gt np nt P T O a c wr) : farW gp q np wr = far np P O := by
  unfold Check.farW far
  have x2 := (wk_at h).2.2.1
  rw [x2]
  have e : cnt np (fun k => match wr.cell? ⟨gp, k, none⟩ with | some (.bool b) => b | _ => false) = cnt np P := cnt_congr fun k hk => by
    have := h.1.2.1.cell hk
    simp only [this]
  rw [e]
  simp
theorem far_pop (np : Nat) (P : Nat → Bool) (l : List Int) (p : Int) : far np P (l ++ [p]) = far np P l + 1 := by
  unfold far; rw [List.length_append]; simp; omega

/- as it is made -/
def zero3 : Nat → Value := fun j => (#[.slice none 0 0, .slice none 0 0, .slice none 0 0] : Array Value).getD j undef
theorem box3 (W : World) : (W.alloc (.cells #[.slice none 0 0, .slice none 0 0, .slice none 0 0] 87)).rowIs W.heap.size 87 3 zero3 := World.rowIs_alloc W #[.slice none 0 0, .slice none 0 0, .slice none 0 0] _ zero3 fun i hi => by
  match i, hi with
  | 0, _ => rfl
  | 1, _ => rfl
  | 2, _ => rfl
  | i + 3, hi => exact absurd hi (by simp)
/-- a row of no; the walk's box -/
def Ro (wz : World) (np g : Nat) (W : World) : Prop := W.rowIs g 4 np (fun _ => .bool false) ∧ wz.heap.size ≤ g
def Bo (wz : World) (q : Nat) (W : World) : Prop := W.rowIs q 87 3 zero3 ∧ wz.heap.size ≤ q
theorem Ro.alloc {wz W : World} {np g : Nat} (h : Ro wz np g W) (o : Obj) : Ro wz np g (W.alloc o) := ⟨h.1.alloc o, h.2⟩
theorem Bo.alloc {wz W : World} {q : Nat} (h : Bo wz q W) (o : Obj) : Bo wz q (W.alloc o) := ⟨h.1.alloc o, h.2⟩
theorem Ro.of {wz W : World} (h : Below wz.heap.size wz W) (np : Nat) : Ro wz np W.heap.size (W.alloc (.cells (madeCells #[.bool false] np) 4)) := ⟨World.rowIs_made _ _ _ _, h.size⟩
theorem Bo.of {wz W : World} (h : Below wz.heap.size wz W) : Bo wz W.heap.size (W.alloc (.cells #[.slice none 0 0, .slice none 0 0, .slice none 0 0] 87)) := ⟨box3 W, h.size⟩
/-- three cells that are written -/
def put3 (W : World) (q : Nat) (v0 v1 v2 : Value) : World := ((W.setCell ⟨q, 0, none⟩ v0).setCell ⟨q, 1, none⟩ v1).setCell ⟨q, 2, none⟩ v2
theorem put3_row {W : World} {q : Nat} {t : TypeId} {f : Nat → Value} (h : W.rowIs q t 3 f) (v0 v1 v2 : Value) : (put3 W q v0 v1 v2).rowIs q t 3 (fun j => (#[v0, v1, v2] : Array Value).getD j undef) := by
  refine (((h.set 0 v0).set 1 v1).set 2 v2).congr fun i hi => ?_
  match i, hi with
  | 0, _ => rfl
  | 1, _ => rfl
  | 2, _ => rfl
  | i + 3, hi => omega
theorem put3_other {W : World} {q b n : Nat} {t : TypeId} {f : Nat → Value} (h : W.rowIs b t n f) (hq : b ≠ q) (v0 v1 v2 : Value) : (put3 W q v0 v1 v2).rowIs b t n f :=
  ((h.setOther (a := ⟨q, 0, none⟩) hq v0).setOther (a := ⟨q, 1, none⟩) hq v1).setOther (a := ⟨q, 2, none⟩) hq v2
theorem put3_below {B : Nat} {w W : World} {q : Nat} (h : Below B w W) (hq : B ≤ q) (v0 v1 v2 : Value) : Below B w (put3 W q v0 v1 v2) :=
  ((h.setCell (p := ⟨q, 0, none⟩) hq v0).setCell (p := ⟨q, 1, none⟩) hq v1).setCell (p := ⟨q, 2, none⟩) hq v2
/-- all three are there -/
def A3 (wz : World) (np nt gp gt q : Nat) (W : World) : Prop := Below wz.heap.size wz W ∧ Ro wz np gp W ∧ Ro wz nt gt W ∧ Bo wz q W ∧ q ≠ gp ∧ q ≠ gt ∧ gp ≠ gt
def F3 (wz : World) (np nt gp gt q : Nat) (W : World) : Prop := Below wz.heap.size wz W ∧ WM wz.heap.size W (fun b => b = q ∨ b = gp ∨ b = gt) q gp gt np nt (fun _ => false) (fun _ => false) [] none 0 W
theorem A3.fin {wz W : World} {np nt gp gt q : Nat} (h : A3 wz np nt gp gt q W) : F3 wz np nt gp gt q (put3 W q (.slice (some ⟨gp, 0, none⟩) np np) (.slice (some ⟨gt, 0, none⟩) nt nt) (.slice none 0 0)) := by
  obtain ⟨hb, ⟨h1, g1⟩, ⟨h2, g2⟩, ⟨h3, g3⟩, e1, e2, e3⟩ := h
  refine ⟨put3_below hb g3 _ _ _, ⟨⟨?_, put3_other h1 (fun e => e1 e.symm) _ _ _, put3_other h2 (fun e => e2 e.symm) _ _ _, World.ownsRow_nil _ _ _ _⟩, ⟨⟨g3, g1, g2, (put3_below hb g3 _ _ _).size⟩, ⟨e1, e2, e3⟩, fun k hk => by cases hk⟩, Ch.refl _ _, fun b hb => ?_, ⟨Nat.zero_le _, fun z hz => by cases hz⟩⟩⟩
  · exact put3_row h3 _ _ _
  · rcases hb with e | e | e | e
    · exact .inl (.inl e)
    · exact .inl (.inr (.inl e))
    · exact .inl (.inr (.inr e))
    · cases e
theorem A3.cells {wz W : World} {np nt gp gt q : Nat} (h : A3 wz np nt gp gt q W) : (W.cell? ⟨q, 0, none⟩ = some (.slice none 0 0) ∧ W.cell? ⟨q, 1, none⟩ = some (.slice none 0 0) ∧ W.cell? ⟨q, 2, none⟩ = some (.slice none 0 0)) ∧ (W.frozen? ⟨q, 0, none⟩ = false ∧ W.frozen? ⟨q, 1, none⟩ = false ∧ W.frozen? ⟨q, 2, none⟩ = false) ∧ q < W.heap.size :=
  ⟨⟨h.2.2.2.1.1.cell (by decide), h.2.2.2.1.1.cell (by decide), h.2.2.2.1.1.cell (by decide)⟩, ⟨h.2.2.2.1.1.frozen 0, h.2.2.2.1.1.frozen 1, h.2.2.2.1.1.frozen 2⟩, h.2.2.2.1.1.lt⟩
/- on the way there -/
def P1 (wz : World) (np gp : Nat) (W : World) : Prop := Below wz.heap.size wz W ∧ Ro wz np gp W
def B1 (wz : World) (q : Nat) (W : World) : Prop := Below wz.heap.size wz W ∧ Bo wz q W
def P2 (wz : World) (np nt gp gt : Nat) (W : World) : Prop := Below wz.heap.size wz W ∧ Ro wz np gp W ∧ Ro wz nt gt W ∧ gp ≠ gt
def PB (wz : World) (np gp q : Nat) (W : World) : Prop := Below wz.heap.size wz W ∧ Ro wz np gp W ∧ Bo wz q W ∧ q ≠ gp
abbrev mk (W : World) (np : Nat) : World := W.alloc (.cells (madeCells #[.bool false] np) 4)
abbrev mkB (W : World) : World := W.alloc (.cells #[.slice none 0 0, .slice none 0 0, .slice none 0 0] 87)
theorem P1.of {wz W : World} (h : Below wz.heap.size wz W) (np : Nat) : P1 wz np W.heap.size (mk W np) := ⟨al h _, Ro.of h np⟩
theorem B1.of {wz W : World} (h : Below wz.heap.size wz W) : B1 wz W.heap.size (mkB W) := ⟨al h _, Bo.of h⟩
theorem P1.row {wz W : World} {np gp : Nat} (h : P1 wz np gp W) (nt : Nat) : P2 wz np nt gp W.heap.size (mk W nt) := ⟨al h.1 _, h.2.alloc _, Ro.of h.1 nt, by have := h.2.1.lt; omega⟩
theorem P1.row' {wz W : World} {nt gt : Nat} (h : P1 wz nt gt W) (np : Nat) : P2 wz np nt W.heap.size gt (mk W np) := ⟨al h.1 _, Ro.of h.1 np, h.2.alloc _, by have := h.2.1.lt; omega⟩
theorem P1.box {wz W : World} {np gp : Nat} (h : P1 wz np gp W) : PB wz np gp W.heap.size (mkB W) := ⟨al h.1 _, h.2.alloc _, Bo.of h.1, by have := h.2.1.lt; omega⟩
theorem B1.row {wz W : World} {q : Nat} (h : B1 wz q W) (np : Nat) : PB wz np W.heap.size q (mk W np) := ⟨al h.1 _, Ro.of h.1 np, h.2.alloc _, by have := h.2.1.lt; omega⟩
theorem P2.box {wz W : World} {np nt gp gt : Nat} (h : P2 wz np nt gp gt W) : A3 wz np nt gp gt W.heap.size (mkB W) := ⟨al h.1 _, h.2.1.alloc _, h.2.2.1.alloc _, Bo.of h.1, by have := h.2.1.1.lt; omega, by have := h.2.2.1.1.lt; omega, h.2.2.2⟩
theorem PB.row {wz W : World} {np gp q : Nat} (h : PB wz np gp q W) (nt : Nat) : A3 wz np nt gp W.heap.size q (mk W nt) := ⟨al h.1 _, h.2.1.alloc _, Ro.of h.1 nt, h.2.2.1.alloc _, h.2.2.2, by have := h.2.2.1.1.lt; omega, by have := h.2.1.1.lt; omega⟩
theorem PB.row' {wz W : World} {nt gt q : Nat} (h : PB wz nt gt q W) (np : Nat) : A3 wz np nt W.heap.size gt q (mk W np) := ⟨al h.1 _, Ro.of h.1 np, h.2.1.alloc _, h.2.2.1.alloc _, by have := h.2.2.1.1.lt; omega, h.2.2.2, by have := h.2.1.1.lt; omega⟩
theorem infoBool : (Tryz.prog.info? 4).map (fun i => (i.zero, i.size, i.bytes)) = some (some (.bool false), 1, 1) := by kernel_rfl
end Go.Proofs.YtgdkomkflfodaaaGreat.Check
