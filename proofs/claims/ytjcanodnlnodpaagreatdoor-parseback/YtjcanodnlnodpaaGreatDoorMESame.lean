/- Same of package expr, of expressions that were read and are one: contracts of the calls, over the turned program. -/
import Derived.Test.YtjcanodnlnodpaaGreatDoorMSame
namespace Go.Proofs.YtjcanodnlnodpaaGreatDoor.Parse
open Go.RowKit Go.Maps Go.Proofs.YtjcanodnlnodpaaGreatDoor.Frame Go.Proofs.YtjcanodnlnodpaaGreatDoor.Token Go.Proofs.YtjcanodnlnodpaaGreatDoor.Expr Go.Proofs.YtjcanodnlnodpaaGreatDoor.Calc
set_option linter.unusedVariables false
set_option linter.unusedSimpArgs false

/-- .. of two values of one expression -/
def SameAt (x : Ex) : Prop := ∀ (w : World) (a b : Option Addr) (c d : Nat), X w x a → X w x b → Calls Tryz.prog 28 #[.agg #[.int .i64 x.kind, .int .i64 x.num, .slice a x.kids.length c], .agg #[.int .i64 x.kind, .int .i64 x.num, .slice b x.kids.length d]] w fun e w' => e = .returned (.bool true) ∧ Below w.heap.size w w'
set_option maxRecDepth 100000 in
set_option maxHeartbeats 2000000 in
theorem equalFunc_yes (k n : Int) (ks : List Ex) (w : World) (a b : Option Addr) (c d : Nat) (hx : X w ⟨k, n, ks⟩ a) (hy : X w ⟨k, n, ks⟩ b) (hl : ks.length ≤ 1000000) (hK : ∀ (x : Ex), x ∈ ks → SameAt x) :
    Calls Tryz.prog 61 #[.slice a ks.length c, .slice b ks.length d, .func (.func 28) #[] #[]] w fun e w' => e = .returned (.bool true) ∧ Below w.heap.size w w' := by
  have HX : Hid (X w ⟨k, n, ks⟩ a) := hx
  have HY : Hid (X w ⟨k, n, ks⟩ b) := hy
  have HK : Hid (∀ (x : Ex), x ∈ ks → SameAt x) := hK
  clear hx hy hK
  obtain ⟨len, hlen⟩ : ∃ len, len = ks.length := ⟨_, rfl⟩
  rw [← hlen] at hl ⊢
  have HL : Hid (len = ks.length) := hlen
  clear hlen
  go_enter Tryz.func61, Tryz.ntmps61
  go_wp2_with fail
  go_loopw [17] (fun i wr => ∃ j : Nat, j ≤ len ∧ i = .int .i64 j ∧ Below w.heap.size w wr) (fun i _ => len - (intOf i).toNat)
  case atStart => exact ⟨0, by omega, rfl, Below.refl _ _⟩
  case round =>
    obtain ⟨j, hj, rfl, hnx⟩ := hrel
    by_cases hlt : j < len
    · have hlt' : (j : Int) < len := by omega
      obtain ⟨b1, o1, x, ax, cx, ha, hbl, hxm, hxe, c0, c1, c2, hxx⟩ := (HX.out.below hnx).kid (i := j) (by rw [← HL.out]; exact hlt)
      obtain ⟨b2, o2, y, ay, cy, ha2, hbl2, hym, hye, d0, d1, d2, hyy⟩ := (HY.out.below hnx).kid (i := j) (by rw [← HL.out]; exact hlt)
      obtain rfl : y = x := hye.trans hxe.symm
      subst ha ha2
      have CL : Hid (∀ o p, Calls Tryz.prog 28 #[.agg #[.int .i64 y.kind, .int .i64 y.num, .slice ax y.kids.length cx], .agg #[.int .i64 y.kind, .int .i64 y.num, .slice ay y.kids.length cy]] ((wr.alloc o).alloc p) fun e w' => e = .returned (.bool true) ∧ Hid (Below w.heap.size w w')) := fun o p =>
        (HK.out y hxm _ ax ay cx cy (hxx.below (two_al' _ _ _)) (hyy.below (two_al' _ _ _))).mono fun e w' h => ⟨h.1, then_ hnx (then_ (two_al' _ _ _) h.2)⟩
      clear hxx hyy hxm hym hxe hye
      go_wp2_with fail
      refine (CL.out _ _).mono ?_
      rintro e w1 ⟨he, hb1⟩
      subst he
      clear c0 c1 c2 d0 d1 d2
      go_wp2_with fail
      go_roundw
      case rel => exact ⟨j + 1, by omega, by go_num, hb1.out⟩
      case measure => simp [intOf]; omega
    · have hlt' : ¬ (j : Int) < len := by omega
      go_wp2_with fail
      go_ret
      exact ⟨rfl, hnx⟩

set_option maxRecDepth 100000 in
set_option maxHeartbeats 2000000 in
theorem esame_yes : ∀ (t : Ex), RdE t → SameAt t := by
  refine Ex.ind fun k n ks ih hr => ?_
  intro w a b c d hx hy
  show Calls Tryz.prog 28 #[.agg #[.int .i64 k, .int .i64 n, .slice a ks.length c], .agg #[.int .i64 k, .int .i64 n, .slice b ks.length d]] w _
  have hl := hr.len
  have CL : Hid (∀ o p, Calls Tryz.prog 61 #[.slice a ks.length c, .slice b ks.length d, .func (.func 28) #[] #[]] ((w.alloc o).alloc p) fun e w' => e = .returned (.bool true) ∧ Hid (Below w.heap.size w w')) := fun o p =>
    (equalFunc_yes k n ks _ a b c d (hx.below (two_al' _ _ _)) (hy.below (two_al' _ _ _)) (by omega) (fun x hxm => ih x hxm (hl.2 x hxm))).mono fun e w' h => ⟨h.1, then_ (two_al' _ _ _) h.2⟩
  clear ih hx hy hr hl
  go_enter Tryz.func28, Tryz.ntmps28
  go_wp2_with (go_at_call 61; refine (CL.out _ _).mono ?_; rintro e w1 ⟨he, hb1⟩; subst he)
  go_ret
  exact ⟨rfl, hb1.out⟩
end Go.Proofs.YtjcanodnlnodpaaGreatDoor.Parse
