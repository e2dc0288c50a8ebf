/- The document's own Same: a contract of the call, over the turned program. -/
import Derived.Test.YtligologdfgggaaDoorExSame
namespace Go.Proofs.YtligologdfgggaaDoor.Expr
open Go.RowKit Go.Proofs.YtligologdfgggaaDoor.Frame Go.Proofs.YtligologdfgggaaDoor.Calc
set_option linter.unusedVariables false
set_option linter.unusedSimpArgs false

set_option maxRecDepth 100000 in
set_option maxHeartbeats 4000000 in
theorem rsame_any : ∀ (t : Ex) (y : Ex) (w : World) (a b : Option Addr) (c d : Nat), X w t a → X w y b → sizeF t ≤ 1000000 → sizeF y ≤ 1000000 →
    Calls Tryd.prog 12 #[.agg #[.int .i64 t.kind, .int .i64 t.num, .slice a t.kids.length c], .agg #[.int .i64 y.kind, .int .i64 y.num, .slice b y.kids.length d]] w (AlikePost t y w) := by
  refine Ex.ind fun k n ks ih y w a b c d hx hy hs hs2 => ?_
  obtain ⟨k', n', ls⟩ := y
  show Calls Tryd.prog 12 #[.agg #[.int .i64 k, .int .i64 n, .slice a ks.length c], .agg #[.int .i64 k', .int .i64 n', .slice b ls.length d]] w _
  have hl : ks.length ≤ 1000000 := by have := len_size k n ks; omega
  have hl2 : ls.length ≤ 1000000 := by have := len_size k' n' ls; omega
  by_cases h1 : k = k'
  case neg =>
    have E : Hid (false = true ↔ (⟨k, n, ks⟩ : Ex) = ⟨k', n', ls⟩) := ⟨fun h => (by cases h), fun h => by injection h with e1 e2 e3; exact absurd e1 h1⟩
    clear ih hx hy hs hs2
    go_enter Tryd.func12, Tryd.ntmps12
    go_wp2_with fail
    go_ret
    exact ⟨false, rfl, E, two_al _ _ _⟩
  subst h1
  by_cases h2 : n = n'
  case neg =>
    have E : Hid (false = true ↔ (⟨k, n, ks⟩ : Ex) = ⟨k, n', ls⟩) := ⟨fun h => (by cases h), fun h => by injection h with e1 e2 e3; exact absurd e2 h2⟩
    clear ih hx hy hs hs2
    go_enter Tryd.func12, Tryd.ntmps12
    go_wp2_with fail
    go_ret
    exact ⟨false, rfl, E, two_al _ _ _⟩
  subst h2
  have HX : Hid (X w ⟨k, n, ks⟩ a) := hx
  have HY : Hid (X w ⟨k, n, ls⟩ b) := hy
  have HI : Hid (∀ (x : Ex), x ∈ ks → ∀ (y : Ex), y ∈ ls → ∀ (w : World) (a b : Option Addr) (c d : Nat), X w x a → X w y b → Calls Tryd.prog 12 #[.agg #[.int .i64 x.kind, .int .i64 x.num, .slice a x.kids.length c], .agg #[.int .i64 y.kind, .int .i64 y.num, .slice b y.kids.length d]] w (AlikePost x y w)) := fun x hxm y hym w a b c d hxx hyy =>
    ih x hxm y w a b c d hxx hyy (by have := size_kid (k := k) (n := n) hxm; omega) (by have := size_kid (k := k) (n := n) hym; omega)
  clear ih hx hy hs hs2
  obtain ⟨len, hlen⟩ : ∃ len, len = ks.length := ⟨_, rfl⟩
  obtain ⟨len2, hlen2⟩ : ∃ len2, len2 = ls.length := ⟨_, rfl⟩
  rw [← hlen] at hl ⊢
  rw [← hlen2] at hl2 ⊢
  have HL : Hid (len = ks.length) := hlen
  have HL2 : Hid (len2 = ls.length) := hlen2
  clear hlen hlen2
  by_cases he : len = len2
  case neg =>
    have he' : ¬ (len : Int) = len2 := by omega
    have E : Hid (false = true ↔ (⟨k, n, ks⟩ : Ex) = ⟨k, n, ls⟩) := ⟨fun h => (by cases h), fun h => by injection h with e1 e2 e3; exact absurd (by rw [HL.out, HL2.out, e3]) he⟩
    go_enter Tryd.func12, Tryd.ntmps12
    go_wp2_with fail
    go_ret
    exact ⟨false, rfl, E, two_al _ _ _⟩
  subst he
  go_enter Tryd.func12, Tryd.ntmps12
  go_wp2_with fail
  go_loopw [5] (fun i wr => ∃ j : Nat, j ≤ len ∧ i = .int .i64 j ∧ Hid (∀ i, i < j → ks.getD i nilEx = ls.getD i nilEx) ∧ wr.cell? ⟨w.heap.size, 2, none⟩ = some (.slice a len c) ∧ wr.cell? ⟨w.heap.size + 1, 2, none⟩ = some (.slice b len d) ∧ Below w.heap.size w wr) (fun i _ => len - (intOf i).toNat)
  case atStart => exact ⟨0, by omega, rfl, fun i hi => (by omega), by simp, by simp, two_al _ _ _⟩
  case round =>
    obtain ⟨j, hj, rfl, hok, hc1, hc2, hnx⟩ := hrel
    by_cases hlt : j < len
    · have hlt' : (j : Int) < len := by omega
      obtain ⟨b1, o1, x, ax, cx, ha, hbl, hxm, hxe, c0, c1, c2, hxx⟩ := (HX.out.below hnx).kid (i := j) (by rw [← HL.out]; exact hlt)
      obtain ⟨b2, o2, y, ay, cy, ha2, hbl2, hym, hye, d0, d1, d2, hyy⟩ := (HY.out.below hnx).kid (i := j) (by rw [← HL2.out]; exact hlt)
      subst ha ha2
      have hz1 : w.heap.size < wr.heap.size := World.block_lt_of_cell? wr _ hc1
      have hz2 : w.heap.size + 1 < wr.heap.size := World.block_lt_of_cell? wr _ hc2
      have CL : Hid (Calls Tryd.prog 12 #[.agg #[.int .i64 x.kind, .int .i64 x.num, .slice ax x.kids.length cx], .agg #[.int .i64 y.kind, .int .i64 y.num, .slice ay y.kids.length cy]] wr.drew fun e w' => ∃ bb : Bool, e = .returned (.bool bb) ∧ Hid (bb = true ↔ x = y) ∧
          ((w'.cell? ⟨w.heap.size, 2, none⟩ = some (.slice (some ⟨b1, o1, none⟩) len c) ∧ w'.cell? ⟨w.heap.size + 1, 2, none⟩ = some (.slice (some ⟨b2, o2, none⟩) len d)) ∧ (w'.cell? ⟨b1, o1 + j * 3, none⟩ = some (.int .i64 x.kind) ∧ w'.cell? ⟨b1, o1 + j * 3 + 1, none⟩ = some (.int .i64 x.num) ∧ w'.cell? ⟨b1, o1 + j * 3 + 2, none⟩ = some (.slice ax x.kids.length cx)) ∧ (w'.cell? ⟨b2, o2 + j * 3, none⟩ = some (.int .i64 y.kind) ∧ w'.cell? ⟨b2, o2 + j * 3 + 1, none⟩ = some (.int .i64 y.num) ∧ w'.cell? ⟨b2, o2 + j * 3 + 2, none⟩ = some (.slice ay y.kids.length cy))) ∧ Hid (Below w.heap.size w w')) :=
        (HI.out x hxm y hym wr.drew ax ay cx cy (hxx.below ((Below.refl _ _).drew)) (hyy.below ((Below.refl _ _).drew))).mono fun e w' h => by
          obtain ⟨bb, h1, h2, h3⟩ := h
          replace h3 := cast_drew h3
          exact ⟨bb, h1, h2, ⟨⟨(h3.cell (p := ⟨w.heap.size, 2, none⟩) hz1).trans hc1, (h3.cell (p := ⟨w.heap.size + 1, 2, none⟩) hz2).trans hc2⟩, ⟨(h3.cell (p := ⟨b1, _, none⟩) hbl).trans c0, (h3.cell (p := ⟨b1, _, none⟩) hbl).trans c1, (h3.cell (p := ⟨b1, _, none⟩) hbl).trans c2⟩, (h3.cell (p := ⟨b2, _, none⟩) hbl2).trans d0, (h3.cell (p := ⟨b2, _, none⟩) hbl2).trans d1, (h3.cell (p := ⟨b2, _, none⟩) hbl2).trans d2⟩, fstep hnx h3⟩
      have XE : Hid (x = ks.getD j nilEx ∧ y = ls.getD j nilEx) := ⟨hxe, hye⟩
      clear hxx hyy hxm hym hxe hye
      go_wp2_with fail
      go_region_held3 (fun w' => (w'.cell? ⟨w.heap.size, 2, none⟩ = some (.slice (some ⟨b1, o1, none⟩) len c) ∧ w'.cell? ⟨w.heap.size + 1, 2, none⟩ = some (.slice (some ⟨b2, o2, none⟩) len d)) ∧ (w'.cell? ⟨b1, o1 + j * 3, none⟩ = some (.int .i64 x.kind) ∧ w'.cell? ⟨b1, o1 + j * 3 + 1, none⟩ = some (.int .i64 x.num) ∧ w'.cell? ⟨b1, o1 + j * 3 + 2, none⟩ = some (.slice ax x.kids.length cx)) ∧ (w'.cell? ⟨b2, o2 + j * 3, none⟩ = some (.int .i64 y.kind) ∧ w'.cell? ⟨b2, o2 + j * 3 + 1, none⟩ = some (.int .i64 y.num) ∧ w'.cell? ⟨b2, o2 + j * 3 + 2, none⟩ = some (.slice ay y.kids.length cy))) (go_keep)
        (first | (go_at_call 12; refine CL.out.mono ?_; rintro e w1 ⟨bb, he, hbb, ⟨⟨q1, q2⟩, ⟨q3, q4, q5⟩, q6, q7, q8⟩, hb1⟩; subst he))
      all_goals
        cases bb with
        | true =>
          have hok' : Hid (∀ i, i < j + 1 → ks.getD i nilEx = ls.getD i nilEx) := fun i hi => by
            by_cases hij : i < j
            · exact hok.out i hij
            · obtain rfl : i = j := by omega
              rw [← XE.out.1, ← XE.out.2]; exact hbb.out.1 rfl
          clear hok hbb
          go_wp2_with fail
          go_roundw
          case rel => exact ⟨j + 1, by omega, by go_num, hok', q1, q2, hb1.out⟩
          case measure => simp [intOf]; omega
        | false =>
          have E : Hid (false = true ↔ (⟨k, n, ks⟩ : Ex) = ⟨k, n, ls⟩) := ⟨fun h => (by cases h), fun h => by
            have := hbb.out.2 (by rw [XE.out.1, XE.out.2, (ex_ext rfl rfl).1 h])
            cases this⟩
          clear hok hbb
          go_wp2_with fail
          go_ret
          exact ⟨false, rfl, E, hb1.out⟩
    · have E : Hid ((⟨k, n, ks⟩ : Ex) = ⟨k, n, ls⟩) := (ex_ext rfl rfl).2 (ks_ext (by rw [← HL.out, ← HL2.out]) fun i hi => hok.out i (by rw [← HL.out] at hi; omega))
      have hlt' : ¬ (j : Int) < len := by omega
      clear hok
      go_wp2_with fail
      go_ret
      exact ⟨true, rfl, ⟨fun _ => E.out, fun _ => rfl⟩, hnx⟩
end Go.Proofs.YtligologdfgggaaDoor.Expr
