/- Same of package expr: a contract of the call, over the turned program. -/
import Derived.Test.YtligologdfgggaaDoorExLaw
namespace Go.Proofs.YtligologdfgggaaDoor.Expr
open Go.RowKit Go.Proofs.YtligologdfgggaaDoor.Frame Go.Proofs.YtligologdfgggaaDoor.Calc
set_option linter.unusedVariables false
set_option linter.unusedSimpArgs false

/-- whether two are alike -/
def AlikePost {α : Type} (x y : α) (w : World) (e : Ending) (w' : World) : Prop := ∃ b : Bool, e = .returned (.bool b) ∧ Hid (b = true ↔ x = y) ∧ Below w.heap.size w w'
theorem ks_ext {ks ls : List Ex} (hl : ks.length = ls.length) (h : ∀ i, i < ks.length → ks.getD i nilEx = ls.getD i nilEx) : ks = ls := by
  refine List.ext_getElem hl fun j h1 h2 => ?_
  have := h j h1
  rwa [List.getD_eq_getElem?_getD, List.getElem?_eq_getElem h1, List.getD_eq_getElem?_getD, List.getElem?_eq_getElem h2] at this
theorem below_up {w wr w1 : World} {o p : Obj} (h : Below w.heap.size w wr) (hb : Below ((wr.alloc o).alloc p).heap.size ((wr.alloc o).alloc p) w1) : Below w.heap.size w w1 :=
  h.trans ((two_al wr o p).mono h.size |>.trans (hb.mono (by have := h.size; simp; omega)))

set_option maxRecDepth 100000 in
set_option maxHeartbeats 2000000 in
theorem equalFunc_same (k n k' n' : Int) (ks ls : List Ex) (w : World) (a b : Option Addr) (c d : Nat) (hx : X w ⟨k, n, ks⟩ a) (hy : X w ⟨k', n', ls⟩ b) (hl : ks.length ≤ 1000000) (hl2 : ls.length ≤ 1000000)
    (hK : ∀ (x : Ex), x ∈ ks → ∀ (y : Ex), y ∈ ls → ∀ (wx : World) (ax ay : Option Addr) (cx cy : Nat), X wx x ax → X wx y ay → Calls Tryd.prog 11 #[.agg #[.int .i64 x.kind, .int .i64 x.num, .slice ax x.kids.length cx], .agg #[.int .i64 y.kind, .int .i64 y.num, .slice ay y.kids.length cy]] wx (AlikePost x y wx)) :
    Calls Tryd.prog 27 #[.slice a ks.length c, .slice b ls.length d, .func (.func 11) #[] #[]] w (AlikePost ks ls w) := by
  have HX : Hid (X w ⟨k, n, ks⟩ a) := hx
  have HY : Hid (X w ⟨k', n', ls⟩ b) := hy
  have HK : Hid (∀ (x : Ex), x ∈ ks → ∀ (y : Ex), y ∈ ls → ∀ (wx : World) (ax ay : Option Addr) (cx cy : Nat), X wx x ax → X wx y ay → Calls Tryd.prog 11 #[.agg #[.int .i64 x.kind, .int .i64 x.num, .slice ax x.kids.length cx], .agg #[.int .i64 y.kind, .int .i64 y.num, .slice ay y.kids.length cy]] wx (AlikePost x y wx)) := hK
  clear hx hy hK
  obtain ⟨len, hlen⟩ : ∃ len, len = ks.length := ⟨_, rfl⟩
  obtain ⟨len2, hlen2⟩ : ∃ len2, len2 = ls.length := ⟨_, rfl⟩
  rw [← hlen] at hl ⊢
  rw [← hlen2] at hl2 ⊢
  have HL : Hid (len = ks.length) := hlen
  have HL2 : Hid (len2 = ls.length) := hlen2
  clear hlen hlen2
  by_cases he : len = len2
  · subst he
    go_enter Tryd.func27, Tryd.ntmps27
    go_wp2_with fail
    go_loopw [17] (fun i wr => ∃ j : Nat, j ≤ len ∧ i = .int .i64 j ∧ Hid (∀ i, i < j → ks.getD i nilEx = ls.getD i nilEx) ∧ Below w.heap.size w wr) (fun i _ => len - (intOf i).toNat)
    case atStart => exact ⟨0, by omega, rfl, fun i hi => (by omega), Below.refl _ _⟩
    case round =>
      obtain ⟨j, hj, rfl, hok, hnx⟩ := hrel
      by_cases hlt : j < len
      · have hlt' : (j : Int) < len := by omega
        obtain ⟨b1, o1, x, ax, cx, ha, hbl, hxm, hxe, c0, c1, c2, hxx⟩ := (HX.out.below hnx).kid (i := j) (by rw [← HL.out]; exact hlt)
        obtain ⟨b2, o2, y, ay, cy, ha2, hbl2, hym, hye, d0, d1, d2, hyy⟩ := (HY.out.below hnx).kid (i := j) (by rw [← HL2.out]; exact hlt)
        subst ha ha2
        have CL : Hid (∀ o p, Calls Tryd.prog 11 #[.agg #[.int .i64 x.kind, .int .i64 x.num, .slice ax x.kids.length cx], .agg #[.int .i64 y.kind, .int .i64 y.num, .slice ay y.kids.length cy]] ((wr.alloc o).alloc p) fun e w' => ∃ bb : Bool, e = .returned (.bool bb) ∧ Hid (bb = true ↔ x = y) ∧ Hid (Below w.heap.size w w')) := fun o p =>
          (HK.out x hxm y hym _ ax ay cx cy (hxx.below (two_al _ _ _)) (hyy.below (two_al _ _ _))).mono fun e w' h => by
            obtain ⟨bb, h1, h2, h3⟩ := h
            exact ⟨bb, h1, h2, below_up hnx h3⟩
        have XE : Hid (x = ks.getD j nilEx ∧ y = ls.getD j nilEx) := ⟨hxe, hye⟩
        clear hxx hyy hxm hym hxe hye
        go_wp2_with fail
        refine (CL.out _ _).mono ?_
        rintro e w1 ⟨bb, he, hbb, hb1⟩
        subst he
        cases bb with
        | true =>
          have hok' : Hid (∀ i, i < j + 1 → ks.getD i nilEx = ls.getD i nilEx) := fun i hi => by
            by_cases hij : i < j
            · exact hok.out i hij
            · obtain rfl : i = j := by omega
              rw [← XE.out.1, ← XE.out.2]; exact hbb.out.1 rfl
          clear hok hbb
          go_wp2_with fail
          go_roundw
          case rel => exact ⟨j + 1, by omega, by go_num, hok', hb1.out⟩
          case measure => simp [intOf]; omega
        | false =>
          have E : Hid (false = true ↔ ks = ls) := ⟨fun h => (by cases h), fun h => by
            have := hbb.out.2 (by rw [XE.out.1, XE.out.2, h])
            cases this⟩
          clear hok hbb
          go_wp2_with fail
          go_ret
          exact ⟨false, rfl, E, hb1.out⟩
      · have E : Hid (ks = ls) := ks_ext (by rw [← HL.out, ← HL2.out]) fun i hi => hok.out i (by rw [← HL.out] at hi; omega)
        have hlt' : ¬ (j : Int) < len := by omega
        clear hok
        go_wp2_with fail
        go_ret
        exact ⟨true, rfl, ⟨fun _ => E.out, fun _ => rfl⟩, hnx⟩
  · have he' : ¬ (len : Int) = len2 := by omega
    have E : Hid (false = true ↔ ks = ls) := ⟨fun h => (by cases h), fun h => absurd (by rw [HL.out, HL2.out, h]) he⟩
    go_enter Tryd.func27, Tryd.ntmps27
    go_wp2_with fail
    go_ret
    exact ⟨false, rfl, E, Below.refl _ _⟩

theorem ex_ext {k n k' n' : Int} {ks ls : List Ex} (h1 : k = k') (h2 : n = n') : (⟨k, n, ks⟩ : Ex) = ⟨k', n', ls⟩ ↔ ks = ls := by
  subst h1 h2
  constructor
  · intro h; injection h
  · intro h; rw [h]

set_option maxRecDepth 100000 in
set_option maxHeartbeats 2000000 in
theorem same_any : ∀ (t : Ex) (y : Ex) (w : World) (a b : Option Addr) (c d : Nat), X w t a → X w y b → sizeF t ≤ 1000000 → sizeF y ≤ 1000000 →
    Calls Tryd.prog 11 #[.agg #[.int .i64 t.kind, .int .i64 t.num, .slice a t.kids.length c], .agg #[.int .i64 y.kind, .int .i64 y.num, .slice b y.kids.length d]] w (AlikePost t y w) := by
  refine Ex.ind fun k n ks ih y w a b c d hx hy hs hs2 => ?_
  obtain ⟨k', n', ls⟩ := y
  show Calls Tryd.prog 11 #[.agg #[.int .i64 k, .int .i64 n, .slice a ks.length c], .agg #[.int .i64 k', .int .i64 n', .slice b ls.length d]] w _
  by_cases h1 : k = k'
  case neg =>
    have E : Hid (false = true ↔ (⟨k, n, ks⟩ : Ex) = ⟨k', n', ls⟩) := ⟨fun h => (by cases h), fun h => by injection h with e1 e2 e3; exact absurd e1 h1⟩
    clear ih hx hy hs hs2
    go_enter Tryd.func11, Tryd.ntmps11
    go_wp2_with fail
    go_ret
    exact ⟨false, rfl, E, two_al _ _ _⟩
  by_cases h2 : n = n'
  case neg =>
    have E : Hid (false = true ↔ (⟨k, n, ks⟩ : Ex) = ⟨k', n', ls⟩) := ⟨fun h => (by cases h), fun h => by injection h with e1 e2 e3; exact absurd e2 h2⟩
    subst h1
    clear ih hx hy hs hs2
    go_enter Tryd.func11, Tryd.ntmps11
    go_wp2_with fail
    go_ret
    exact ⟨false, rfl, E, two_al _ _ _⟩
  subst h1 h2
  have CL : Hid (∀ o p, Calls Tryd.prog 27 #[.slice a ks.length c, .slice b ls.length d, .func (.func 11) #[] #[]] ((w.alloc o).alloc p) fun e w' => ∃ bb : Bool, e = .returned (.bool bb) ∧ Hid (bb = true ↔ (⟨k, n, ks⟩ : Ex) = ⟨k, n, ls⟩) ∧ Hid (Below w.heap.size w w')) := fun o p =>
    (equalFunc_same k n k n ks ls _ a b c d (hx.below (two_al _ _ _)) (hy.below (two_al _ _ _)) (by have := len_size k n ks; omega) (by have := len_size k n ls; omega)
      (fun x hxm y hym wx ax ay cx cy hxx hyy => ih x hxm y wx ax ay cx cy hxx hyy (by have := size_kid (k := k) (n := n) hxm; omega) (by have := size_kid (k := k) (n := n) hym; omega))).mono fun e w' h => by
        obtain ⟨bb, h1, h2, h3⟩ := h
        exact ⟨bb, h1, h2.out.trans (ex_ext rfl rfl).symm, (two_al w o p).trans (h3.mono (by simp; omega))⟩
  clear ih hx hy hs hs2
  go_enter Tryd.func11, Tryd.ntmps11
  go_wp2_with (go_at_call 27; refine (CL.out _ _).mono ?_; rintro e w1 ⟨bb, he, hbb, hb1⟩; subst he)
  go_ret
  exact ⟨bb, rfl, hbb, hb1.out⟩
end Go.Proofs.YtligologdfgggaaDoor.Expr
