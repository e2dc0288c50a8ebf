/- What ExprCopies leans on: calls between four boxes; in plain Lean: how great what was put in is. -/
import Derived.Test.YtligologdfgggaaDoorExSpoil
import Derived.Test.YtligologdfgggaaDoorExRPut2
namespace Go.Proofs.YtligologdfgggaaDoor.Expr
open Go.RowKit Go.Proofs.YtligologdfgggaaDoor.Frame Go.Proofs.YtligologdfgggaaDoor.Calc
set_option linter.unusedVariables false
set_option linter.unusedSimpArgs false

theorem size_put (v : Int) (y : Ex) : ∀ t, sizeF (putF v y t) ≤ sizeF t * sizeF y := by
  have hy := size_pos y
  refine Ex.ind fun k n ks ih => ?_
  rw [put_eq]
  split
  · have := size_pos ⟨k, n, ks⟩
    exact Nat.le_mul_of_pos_left _ (by omega)
  · rw [size_eq, size_eq, Nat.add_mul, Nat.one_mul, List.map_map]
    have : sm (ks.map (sizeF ∘ putF v y)) ≤ sm (ks.map sizeF) * sizeF y := by
      clear hy
      induction ks with
      | nil => simp [sm]
      | cons x l ihl =>
        have h1 := ih x (by simp)
        have h2 := ihl fun z hz => ih z (by simp [hz])
        simp only [List.map_cons, sm, Function.comp, Nat.add_mul] at h2 ⊢
        exact Nat.add_le_add h1 h2
    omega
theorem XO.below {B : Nat} {w w' : World} {t : Ex} {a : Option Addr} (h : XO B w t a) (hb : Below w.heap.size w w') : XO B w' t a :=
  ((XG.lt2 h).below hb).mono fun b off hok => ⟨hok.1.1, hok.1.2.1, hok.1.2.2.below hb hok.2⟩
theorem XO.le {B B' : Nat} {w : World} {t : Ex} {a : Option Addr} (h : XO B w t a) (hB : B' ≤ B) : XO B' w t a := XG.mono (fun b off hok => ⟨Nat.le_trans hB hok.1, hok.2⟩) h

/-- four boxes -/
def C4 (E Y C P : Nat) (t y p : Ex) (a b ac ap : Option Addr) (c d cc cp : Nat) (nc : Int) (w' : World) : Prop :=
  (w'.cell? ⟨E, 0, none⟩ = some (.int .i64 t.kind) ∧ w'.cell? ⟨E, 1, none⟩ = some (.int .i64 t.num) ∧ w'.cell? ⟨E, 2, none⟩ = some (.slice a t.kids.length c)) ∧ (w'.cell? ⟨Y, 0, none⟩ = some (.int .i64 y.kind) ∧ w'.cell? ⟨Y, 1, none⟩ = some (.int .i64 y.num) ∧ w'.cell? ⟨Y, 2, none⟩ = some (.slice b y.kids.length d)) ∧
  (w'.cell? ⟨C, 0, none⟩ = some (.int .i64 t.kind) ∧ w'.cell? ⟨C, 1, none⟩ = some (.int .i64 nc) ∧ w'.cell? ⟨C, 2, none⟩ = some (.slice ac t.kids.length cc)) ∧ (w'.cell? ⟨P, 0, none⟩ = some (.int .i64 p.kind) ∧ w'.cell? ⟨P, 1, none⟩ = some (.int .i64 p.num) ∧ w'.cell? ⟨P, 2, none⟩ = some (.slice ap p.kids.length cp))
theorem C4.below {E Y C P : Nat} {t y p : Ex} {a b ac ap : Option Addr} {c d cc cp : Nat} {nc : Int} {w w' : World} (h : C4 E Y C P t y p a b ac ap c d cc cp nc w) (hb : Below w.heap.size w w') : C4 E Y C P t y p a b ac ap c d cc cp nc w' :=
  ⟨(show Cell3 w E _ _ _ from h.1).below hb, (show Cell3 w Y _ _ _ from h.2.1).below hb, (show Cell3 w C _ _ _ from h.2.2.1).below hb, (show Cell3 w P _ _ _ from h.2.2.2).below hb⟩
/-- a call between them -/
theorem c4_call {U wx : World} {E Y C P : Nat} {t y p : Ex} {a b ac ap : Option Addr} {c d cc cp : Nat} {nc : Int} {f : Nat} {args : Array Value} {Q : Ending → World → Prop} (h : Below U.heap.size U wx) (h4 : C4 E Y C P t y p a b ac ap c d cc cp nc U)
    (hc : Below U.heap.size U wx → Calls Tryd.prog f args wx fun e w' => Q e w' ∧ Below wx.heap.size wx w') :
    Calls Tryd.prog f args wx fun e w' => Q e w' ∧ Hid (Below U.heap.size U w') ∧ C4 E Y C P t y p a b ac ap c d cc cp nc w' :=
  (hc h).mono fun e w' h' => ⟨h'.1, fstep h h'.2, h4.below (fstep h h'.2)⟩
theorem alike_call {x y : Ex} {w : World} {f : Nat} {args : Array Value} (h : Calls Tryd.prog f args w (AlikePost x y w)) : Calls Tryd.prog f args w fun e w' => (∃ bb : Bool, e = .returned (.bool bb) ∧ Hid (bb = true ↔ x = y)) ∧ Below w.heap.size w w' :=
  h.mono fun e w' h => by obtain ⟨bb, h1, h2, h3⟩ := h; exact ⟨⟨bb, h1, h2⟩, h3⟩
theorem rput_call {v : Int} {y t : Ex} {w : World} {a ay : Option Addr} {c cy : Nat} (hx : X w t a) (hy : X w y ay) (hs : sizeF t ≤ 1000000) :
    Calls Tryd.prog 13 #[exV t a c, .int .i64 v, exV y ay cy] w fun e w' => (∃ a' c', e = .returned (exV (putF v y t) a' c') ∧ Hid (X w' (putF v y t) a')) ∧ Below w.heap.size w w' :=
  (rput_any v y t w a ay c cy w.heap.size hx hy.lt (Nat.le_refl _) hs).mono fun e w' h => by
    obtain ⟨a', c', h1, h2, h3⟩ := h
    exact ⟨⟨a', c', h1, h2.x⟩, h3⟩
theorem put_call {v : Int} {y t : Ex} {w : World} {a ay : Option Addr} {c cy : Nat} (hx : X w t a) (hy : X w y ay) (hs : sizeF t ≤ 1000000) (hs2 : sizeF y ≤ 1000000) :
    Calls Tryd.prog 10 #[exV t a c, .int .i64 v, exV y ay cy] w fun e w' => (∃ a' c', e = .returned (exV (putF v y t) a' c') ∧ XO w.heap.size w' (putF v y t) a' ∧ Below w.heap.size w w') ∧ Below w.heap.size w w' :=
  (put_any v y t w a ay c cy hx hy hs hs2).mono fun e w' h => by
    obtain ⟨a', c', h1, h2, h3⟩ := h
    exact ⟨⟨a', c', h1, h2, h3⟩, h3⟩
theorem copy_call {t : Ex} {w : World} {a : Option Addr} {c : Nat} (hx : X w t a) (hs : sizeF t ≤ 1000000) :
    Calls Tryd.prog 9 #[exV t a c] w fun e w' => (∃ a' c', e = .returned (exV t a' c') ∧ XO w.heap.size w' t a') ∧ Below w.heap.size w w' :=
  (copy_any t w a c hx hs).mono fun e w' h => by
    obtain ⟨a', c', h1, h2, h3⟩ := h
    exact ⟨⟨a', c', h1, h2⟩, h3⟩
theorem bool_eq {a b : Bool} {p : Prop} (h : a = true ↔ p) (k : b = true ↔ p) : a = b := Bool.eq_iff_iff.2 (h.trans k.symm)
/-- Same of another one, of the same form -/
theorem same_as {x t : Ex} {w : World} {a b : Option Addr} {c d : Nat} {k n : Int} {l : Nat} (e1 : x.kind = k) (e2 : x.num = n) (e3 : x.kids.length = l) (hx : X w x a) (ht : X w t b) (hs : sizeF x ≤ 1000000) (hs2 : sizeF t ≤ 1000000) :
    Calls Tryd.prog 11 #[.agg #[.int .i64 k, .int .i64 n, .slice a l c], exV t b d] w fun e w' => (∃ bb : Bool, e = .returned (.bool bb) ∧ Hid (bb = true ↔ x = t)) ∧ Below w.heap.size w w' := by
  subst e1 e2 e3
  exact alike_call (same_any x t w a b c d hx ht hs hs2)
theorem rsame_as {x t : Ex} {w : World} {a b : Option Addr} {c d : Nat} {k n : Int} {l : Nat} (e1 : x.kind = k) (e2 : x.num = n) (e3 : x.kids.length = l) (hx : X w x a) (ht : X w t b) (hs : sizeF x ≤ 1000000) (hs2 : sizeF t ≤ 1000000) :
    Calls Tryd.prog 12 #[.agg #[.int .i64 k, .int .i64 n, .slice a l c], exV t b d] w fun e w' => (∃ bb : Bool, e = .returned (.bool bb) ∧ Hid (bb = true ↔ x = t)) ∧ Below w.heap.size w w' := by
  subst e1 e2 e3
  exact alike_call (rsame_any x t w a b c d hx ht hs hs2)
/-- a box behind what was spoiled: its number may be another -/
theorem box_sp {B b : Nat} {w w' : World} {k n : Int} {a : Option Addr} {l c : Nat} (h : Cell3 w b (.int .i64 k) (.int .i64 n) (.slice a l c)) (hn : In64 n) (hs : Sp B w w') : ∃ z, In64 z ∧ Cell3 w' b (.int .i64 k) (.int .i64 z) (.slice a l c) := by
  have h0 : w'.cell? ⟨b, 0, none⟩ = some (.int .i64 k) := by
    rcases hs.2.1 _ _ _ h.1 with e | ⟨_, e, _⟩
    · exact e
    · omega
  have h2 : w'.cell? ⟨b, 2, none⟩ = some (.slice a l c) := by
    rcases hs.2.1 _ _ _ h.2.2 with e | ⟨_, e, _⟩
    · exact e
    · omega
  rcases hs.2.1 _ _ _ h.2.1 with e | ⟨_, _, e⟩
  · exact ⟨n, hn, h0, e, h2⟩
  · exact ⟨-77, ⟨by decide, by decide⟩, h0, e, h2⟩
theorem bool_false {b : Bool} {p : Prop} (h : b = true ↔ p) (hp : ¬ p) : b = false := by
  cases b with
  | false => rfl
  | true => exact absurd (h.1 rfl) hp
end Go.Proofs.YtligologdfgggaaDoor.Expr
