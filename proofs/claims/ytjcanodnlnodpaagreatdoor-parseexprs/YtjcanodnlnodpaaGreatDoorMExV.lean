/- The ways through ParseExprs, over the turned program. -/
import Derived.Test.YtjcanodnlnodpaaGreatDoorMSmall
import Derived.Test.YtjcanodnlnodpaaGreatDoorMQc
import Derived.Test.YtjcanodnlnodpaaGreatDoorMExO
namespace Go.Proofs.YtjcanodnlnodpaaGreatDoor.Parse
open Go.RowKit Go.Maps Go.Proofs.YtjcanodnlnodpaaGreatDoor.Frame Go.Proofs.YtjcanodnlnodpaaGreatDoor.Token Go.Proofs.YtjcanodnlnodpaaGreatDoor.Expr Go.Proofs.YtjcanodnlnodpaaGreatDoor.Calc
set_option linter.unusedVariables false
set_option linter.unusedSimpArgs false

theorem tis_up {B B' : Nat} {w : World} {a : Option Addr} {l : List TI} (h : TIs B w a l) (hB : B ≤ B') : TIs B' w a l := by
  rcases h with h | ⟨b, off, ha, hb, hc⟩
  · exact .inl h
  · exact .inr ⟨b, off, ha, Nat.lt_of_lt_of_le hb hB, hc⟩
theorem nms_up {B : Nat} {w w' : World} {a : Option Addr} {l : List (List UInt8)} (h : NMs B w a l) (hb : Below B w w') (hB : B ≤ w'.heap.size) : NMs w'.heap.size w' a l := by
  refine ⟨?_, h.2⟩
  rcases h.1 with h | ⟨b, off, ha, hbl, hc⟩
  · exact .inl h
  · exact .inr ⟨b, off, ha, Nat.lt_of_lt_of_le hbl hB, fun i hi => (hb.cell (p := ⟨b, off + i, none⟩) hbl).trans (hc i hi)⟩
set_option maxRecDepth 100000 in
theorem rsame_zero (w : World) (a b : Option Addr) (c d : Nat) :
    Calls Tryz.prog 20 #[.agg #[.int .i64 0, .int .i64 0, .slice a 0 c], .agg #[.int .i64 0, .int .i64 0, .slice b 0 d]] w fun e w' => e = .returned (.bool true) ∧ Below w.heap.size w w' := by
  go_enter Tryz.func20, Tryz.ntmps20
  go_wp2_with fail
  go_loopw [5] (fun i wr => i = .int .i64 0 ∧ wr.cell? ⟨w.heap.size, 2, none⟩ = some (.slice a 0 c) ∧ wr.cell? ⟨w.heap.size + 1, 2, none⟩ = some (.slice b 0 d) ∧ Below w.heap.size w wr) (fun _ _ => 0)
  case atStart => exact ⟨rfl, by simp, by simp, two_al' _ _ _⟩
  case round =>
    obtain ⟨rfl, hc1, hc2, hnx⟩ := hrel
    go_wp2_with fail
    go_ret
    exact ⟨rfl, hnx⟩
theorem same_F (t : Ex) (h : RdE t ∨ t = ⟨0, 0, []⟩) (w : World) (a b : Option Addr) (c d : Nat) (hx : X w t a) (hy : X w t b) :
    Calls Tryz.prog 20 #[.agg #[.int .i64 t.kind, .int .i64 t.num, .slice a t.kids.length c], .agg #[.int .i64 t.kind, .int .i64 t.num, .slice b t.kids.length d]] w fun e w' => e = .returned (.bool true) ∧ Below w.heap.size w w' := by
  rcases h with h | h
  · exact rsame_yes t w a b c d h hx hy
  · subst h; exact rsame_zero w a b c d
theorem exF_rd (en : Int) (names : List (List UInt8)) (r : List TI) : RdE (exprF en names r).1 ∨ (exprF en names r).1 = ⟨0, 0, []⟩ := by
  unfold exprF
  cases h : exprI names (r.map ktI) with
  | error e => exact .inr rfl
  | ok t => exact .inl ⟨_, exprI_ok h⟩

set_option maxRecDepth 100000 in
set_option maxHeartbeats 4000000 in
theorem exv_1 (a : Option Addr) (len cap : Nat) (en : Int) (na : Option Addr) (nlen ncap : Nat) (w : World) (hF : Fx w) (hT : Tb w) (h : 300 < len) :
    Calls Tryz.prog 5 #[.slice a len cap, .int .i64 en, .slice na nlen ncap] w fun e w' => e = .returned (.bool true) ∧ Below w.heap.size w w' := by
  have HF : Hid (Fx w ∧ Tb w) := ⟨hF, hT⟩
  have h' : (300 : Int) < len := by omega
  clear hF hT h
  go_enter Tryz.func5, Tryz.ntmps5
  go_wp2_with fail
  refine (small_any _ HF.out.1 HF.out.2).mono ?_
  rintro e w1 ⟨he, b1⟩
  subst he
  go_wp2_with fail
  go_ret
  exact ⟨rfl, b1⟩
set_option maxRecDepth 100000 in
set_option maxHeartbeats 4000000 in
theorem exv_2 (a : Option Addr) (len cap : Nat) (en : Int) (na : Option Addr) (nlen ncap : Nat) (w : World) (hF : Fx w) (hT : Tb w) (h : ¬ 300 < len) (hn : 20 < nlen) :
    Calls Tryz.prog 5 #[.slice a len cap, .int .i64 en, .slice na nlen ncap] w fun e w' => e = .returned (.bool true) ∧ Below w.heap.size w w' := by
  have HF : Hid (Fx w ∧ Tb w) := ⟨hF, hT⟩
  have h' : ¬ (300 : Int) < len := by omega
  have hn' : (20 : Int) < nlen := by omega
  clear hF hT h hn
  go_enter Tryz.func5, Tryz.ntmps5
  go_wp2_with fail
  refine (small_any _ HF.out.1 HF.out.2).mono ?_
  rintro e w1 ⟨he, b1⟩
  subst he
  go_wp2_with fail
  go_ret
  exact ⟨rfl, b1⟩
set_option maxRecDepth 100000 in
set_option maxHeartbeats 4000000 in
theorem exv_3 (a : Option Addr) (len cap : Nat) (l : List TI) (en : Int) (na : Option Addr) (nlen ncap : Nat) (names : List (List UInt8)) (w : World) (hl : TksIn w a len cap l) (hn : NmsIn w na nlen ncap names) (hF : Fx w) (hT : Tb w) (h : ¬ 300 < len) (hnl : ¬ 20 < nlen) :
    Calls Tryz.prog 5 #[.slice a len cap, .int .i64 en, .slice na nlen ncap] w fun e w' => e = .returned (.bool true) ∧ Below w.heap.size w w' := by
  obtain ⟨l1, l2, l3, l4, l5⟩ := hl
  obtain ⟨n1, n2⟩ := hn
  subst l1 n1
  have HF : Hid (Fx w ∧ Tb w) := ⟨hF, hT⟩
  have PX : Hid (∀ W, Below w.heap.size w W → Calls Tryz.prog 18 #[.slice a l.length cap, .int .i64 en, .slice na names.length ncap] W (ExPost (exprF en names l) W)) := fun W hb =>
    pex_any a cap l en na ncap names W (tis_up (l4.below hb) hb.size) l2 l3 l5 (nms_up n2 hb hb.size) (by omega) (hF.below hb) (fx_lt (hF.below hb))
  have QX : Hid (∀ W, Below w.heap.size w W → Calls Tryz.prog 19 #[.slice a l.length cap, .int .i64 en, .slice na names.length ncap] W (ExPost (exprF en names l) W)) := fun W hb =>
    rex_any a cap l en na ncap names W (tis_up (l4.below hb) hb.size) l2 l3 l5 (by omega) (nms_up n2 hb hb.size) (by omega)
  have RX : Hid (RdE (exprF en names l).1 ∨ (exprF en names l).1 = ⟨0, 0, []⟩) := exF_rd en names l
  have h' : ¬ (300 : Int) < ((l.length : Nat) : Int) := by omega
  have hn' : ¬ (20 : Int) < ((names.length : Nat) : Int) := by omega
  generalize exprF en names l = x at *
  obtain ⟨t, pl, er⟩ := x
  generalize l.length = len at *
  generalize names.length = nlen at *
  clear hF hT h hnl l2 l3 l4 l5 n2
  go_enter Tryz.func5, Tryz.ntmps5
  go_wp2_with fail
  refine (small_any _ HF.out.1 HF.out.2).mono ?_
  rintro e w1 ⟨he, b1⟩
  subst he
  have B1 : Hid (Below w.heap.size w w1) := b1
  clear b1
  go_wp2_with fail
  refine (PX.out w1 B1.out).mono ?_
  rintro e w2 ⟨ax, cx, he, hx, hb⟩
  replace he : e = .returned (.tuple #[.agg #[.int .i64 t.kind, .int .i64 t.num, .slice ax t.kids.length cx], .int .i64 pl, .int .i64 er]) := he
  subst he
  have hal : Below w2.heap.size w2 (w2.alloc (.cells #[.int .i64 t.kind, .int .i64 t.num, .slice ax t.kids.length cx] 40)) := (Below.refl _ _).alloc (Nat.le_refl _) _
  have H2 : Hid (Below w.heap.size w (w2.alloc (.cells #[.int .i64 t.kind, .int .i64 t.num, .slice ax t.kids.length cx] 40)) ∧ Bx (w2.alloc (.cells #[.int .i64 t.kind, .int .i64 t.num, .slice ax t.kids.length cx] 40)) w2.heap.size [.int .i64 t.kind, .int .i64 t.num, .slice ax t.kids.length cx] ∧ X (w2.alloc (.cells #[.int .i64 t.kind, .int .i64 t.num, .slice ax t.kids.length cx] 40)) t ax) := ⟨then_ (then_ B1.out hb) hal, Bx.mk _ rfl rfl, (show X w2 t ax from hx).below hal⟩
  clear hx hb hal B1 PX
  go_wp2_with fail
  refine (QX.out _ H2.out.1).mono ?_
  rintro e w3 ⟨ay, cy, he, hy, hb⟩
  replace he : e = .returned (.tuple #[.agg #[.int .i64 t.kind, .int .i64 t.num, .slice ay t.kids.length cy], .int .i64 pl, .int .i64 er]) := he
  subst he
  have hal : Below w3.heap.size w3 (w3.alloc (.cells #[.int .i64 t.kind, .int .i64 t.num, .slice ay t.kids.length cy] 40)) := (Below.refl _ _).alloc (Nat.le_refl _) _
  have H3 : Hid (Below w.heap.size w (w3.alloc (.cells #[.int .i64 t.kind, .int .i64 t.num, .slice ay t.kids.length cy] 40)) ∧ X (w3.alloc (.cells #[.int .i64 t.kind, .int .i64 t.num, .slice ay t.kids.length cy] 40)) t ax ∧ X (w3.alloc (.cells #[.int .i64 t.kind, .int .i64 t.num, .slice ay t.kids.length cy] 40)) t ay) := ⟨then_ (then_ H2.out.1 hb) hal, (H2.out.2.2.below hb).below hal, (show X w3 t ay from hy).below hal⟩
  obtain ⟨g0, g1, g2, gl⟩ := (H2.out.2.1.below hb).three
  clear hy hb hal H2 QX
  go_wp2_with fail
  refine (same_F t RX.out _ ax ay cx cy H3.out.2.1 H3.out.2.2).mono ?_
  rintro e w4 ⟨he, hb⟩
  subst he
  have B4 : Hid (Below w.heap.size w w4) := then_ H3.out.1 hb
  clear hb H3
  go_wp2_with fail
  go_ret
  exact ⟨rfl, B4.out⟩
end Go.Proofs.YtjcanodnlnodpaaGreatDoor.Parse
