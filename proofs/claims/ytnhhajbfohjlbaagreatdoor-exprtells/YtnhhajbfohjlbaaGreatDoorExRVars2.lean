/- The document's own Vars: a contract of the call, over the turned program. -/
import Derived.Test.YtnhhajbfohjlbaaGreatDoorExRVars
import Derived.Test.YtnhhajbfohjlbaaGreatDoorExFreeP
namespace Go.Proofs.YtnhhajbfohjlbaaGreatDoor.Expr
open Go.RowKit Go.Proofs.YtnhhajbfohjlbaaGreatDoor.Frame Go.Proofs.YtnhhajbfohjlbaaGreatDoor.Calc
set_option linter.unusedVariables false
set_option linter.unusedSimpArgs false

set_option maxHeartbeats 2000000 in
theorem rVars_any (t : Ex) (w : World) (a : Option Addr) (c : Nat) (hx : X w t a) (hs : sizeF t ≤ 499) :
    Calls Tryz.prog 16 #[exV t a c] w (NumsPost (varsS t) w) := by
  have HX : Hid (X w t a) := hx
  have HS : Hid (sizeF t ≤ 499) := hs
  have CL : Hid (∀ wx, Below w.heap.size w wx → Calls Tryz.prog 33 #[.agg #[.int .i64 t.kind, .int .i64 t.num, .slice a t.kids.length c], .slice none 0 0] wx (NumsPost (varsS t) w)) := fun wx hb =>
    (rvars_any t wx a none c 0 [] (HX.out.below hb) ⟨fun i hi => (by cases hi), .inl ⟨rfl, rfl, rfl⟩⟩ List.Pairwise.nil (by have := HS.out; simp; omega)).mono fun e w' h => by
      obtain ⟨la', lc', L', he, hv, hm, hl, hb'⟩ := h
      have e : L' = varsS t := srt_uniq hm.out.1 (srt_varsS t) fun z => by rw [hm.out.2, mem_varsS]; simp
      subst e
      exact ⟨la', lc', he, hv.nm, then_ hb hb'⟩
  clear hx hs
  go_enter Tryz.func16, Tryz.ntmps16
  go_wp2_with (go_at_call 33; refine (CL.out _ (by repeat (first | exact Below.refl _ _ | refine Below.drew ?_ | refine Below.alloc ?_ (by simp) _))).mono ?_; rintro e w1 ⟨a', c', he, h1, h2⟩; subst he)
  go_ret
  exact ⟨a', c', rfl, h1, h2⟩
end Go.Proofs.YtnhhajbfohjlbaaGreatDoor.Expr
