/- The small case of the laws of layer 6: over the turned program. -/
import Derived.Test.YtjcanodnlnodpaaGreatDoorMNetA
import Derived.Test.YtjcanodnlnodpaaGreatDoorMSame
import Derived.Test.YtjcanodnlnodpaaGreatDoorMPlaP
import Derived.Test.YtjcanodnlnodpaaGreatDoorMText6
import Derived.Test.YtjcanodnlnodpaaGreatDoorMExRow
namespace Go.Proofs.YtjcanodnlnodpaaGreatDoor.Parse
open Go.RowKit Go.Maps Go.Proofs.YtjcanodnlnodpaaGreatDoor.Frame Go.Proofs.YtjcanodnlnodpaaGreatDoor.Token Go.Proofs.YtjcanodnlnodpaaGreatDoor.Expr Go.Proofs.YtjcanodnlnodpaaGreatDoor.Calc
set_option linter.unusedVariables false
set_option linter.unusedSimpArgs false

/-- the table of the powers of ten lies there, and stays -/
def Tb (w : World) : Prop := Lib.TabBelow Tryz.prog w.heap.size w tabName .u64 Lib.pow10Tab
theorem Tb.below {w w' : World} (h : Tb w) (hb : Below w.heap.size w w') : Tb w' := Lib.tabBelow_of_tabIs (h _ hb)
def e1 : Ex := ⟨5, 1, [⟨2, 0, []⟩, ⟨1, 1, []⟩]⟩
def x1 : List ByteArray := [⟨#[120]⟩]
theorem it1' : Lib.itoa 1 = [49] := by decide +kernel
theorem e1_text : Expr.textF x1 e1 = [120, 32, 43, 32, 49] := by
  simp [e1, Expr.text_eq, textN, x1, it1']
  decide
theorem e1_size : sizeF e1 = 3 := by simp [e1, Expr.size_eq, sm]
theorem xtext_any (W : World) (ae : Option Addr) (ce q nc : Nat) (hx : X W e1 ae) (hs : W.cell? ⟨q, 0, none⟩ = some (.string ⟨#[120]⟩)) (hT : Tb W) :
    Calls Tryz.prog 27 #[.agg #[.int .i64 5, .int .i64 1, .slice ae 2 ce], .slice (some ⟨q, 0, none⟩) 1 nc] W fun e w' => e = .returned (.string ⟨#[120, 32, 43, 32, 49]⟩) ∧ Below W.heap.size W w' := by
  have hE : Env W.heap.size (some ⟨q, 0, none⟩) x1 W := ⟨.inr ⟨q, 0, rfl, World.block_lt_of_cell? W _ hs, fun i hi => by
    obtain rfl : i = 0 := by simp [x1] at hi; omega
    exact hs⟩, hT⟩
  have := Expr.text_any x1 e1 W ae (some ⟨q, 0, none⟩) ce nc 1 rfl hx hE (by rw [e1_size]; decide) (by rw [e1_text]; decide)
  rw [e1_text] at this
  exact this
theorem text_is {s : ByteArray} {x : PNet × Int × Int} (w : World) (hs : s.size ≤ 1000000) (hF : Fx w) (h : textF s.data.toList = x) : Calls Tryz.prog 16 #[.string s] w (NetPost x w) := h ▸ text_any s w hs hF

set_option maxRecDepth 100000 in
theorem text0_any (w : World) : Calls Tryz.prog 33 #[] w fun e w' => e = .returned (.string (str tx1)) ∧ w' = w := by
  go_enter Tryz.func33, Tryz.ntmps33
  go_wp2
  go_ret
  exact ⟨rfl, rfl⟩

set_option maxRecDepth 100000 in
set_option maxHeartbeats 8000000 in
theorem small_any (w : World) (hF : Fx w) (hT : Tb w) : Calls Tryz.prog 11 #[] w fun e w' => e = .returned (.bool true) ∧ Below w.heap.size w w' := by
  have HF : Hid (Fx w ∧ Tb w) := ⟨hF, hT⟩
  have he3 := eq3_run
  clear hF hT
  go_enter Tryz.func11, Tryz.ntmps11
  go_wp2_with fail
  refine (text0_any w).mono ?_
  rintro e w' ⟨he, hw⟩
  subst he
  have hw := hw.symm
  subst hw
  go_wp2_with fail
  refine (text_is (s := str tx1) (x := (nt1, 166, 0)) w (by rw [str_size]; decide) HF.out.1 (by rw [str_data]; exact tx1_is)).mono ?_
  rintro e w1 ⟨v, he, hn, hb⟩
  have hn := hn.now
  obtain ⟨ac, cc, ap, cp, at_, ct, rfl, hR⟩ := hn
  replace he : e = .returned (.tuple #[.agg #[.slice ac 1 cc, .slice ap 2 cp, .slice at_ 1 ct, .int .i64 0, .int .i64 1], .int .i64 166, .int .i64 0]) := he
  subst he
  have HN : Hid (RwsAt PlaceR w1 ap nt1.places ∧ RwsAt TaskR w1 at_ nt1.tasks) := ⟨hR.2.1, hR.2.2.1⟩
  have B1 : Hid (Below w.heap.size w w1) := hb
  clear hR hb
  have HX : Hid (∀ t, Bx (w1.alloc (.cells #[.slice ac 1 cc, .slice ap 2 cp, .slice at_ 1 ct, .int .i64 0, .int .i64 1] t)) w1.heap.size [.slice ac 1 cc, .slice ap 2 cp, .slice at_ 1 ct, .int .i64 0, .int .i64 1]) := fun t => Bx.new w1 #[.slice ac 1 cc, .slice ap 2 cp, .slice at_ 1 ct, .int .i64 0, .int .i64 1] t
  go_wp2_with fail
  refine (text_is _ (by decide) (HF.out.1.below (B1.out.alloc B1.out.size _)) tx2_is).mono ?_
  rintro e w2 ⟨v, he, hn, hb⟩
  obtain ⟨a1, c1, a2, c2, a3, c3, rfl, -⟩ := hn.now
  replace he : e = .returned (.tuple #[.agg #[.slice a1 0 c1, .slice a2 0 c2, .slice a3 0 c3, .int .i64 0, .int .i64 0], .int .i64 9, .int .i64 3]) := he
  subst he
  have X2 : Hid (Bx w2 w1.heap.size [.slice ac 1 cc, .slice ap 2 cp, .slice at_ 1 ct, .int .i64 0, .int .i64 1] ∧ Below w1.heap.size w1 w2) := ⟨(HX.out _).below hb, then_ ((Below.refl _ _).alloc (Nat.le_refl _) _) hb⟩
  clear hn hb HX
  have B2 : Hid (Below w.heap.size w w2) := then_ B1.out X2.out.2
  go_wp2_with fail
  refine (text_is _ (by decide) (HF.out.1.below (B2.out.alloc B2.out.size _)) tx3_is).mono ?_
  rintro e w3 ⟨v, he, hn, hb⟩
  obtain ⟨a4, c4, a5, c5, a6, c6, rfl, -⟩ := hn.now
  replace he : e = .returned (.tuple #[.agg #[.slice a4 0 c4, .slice a5 0 c5, .slice a6 0 c6, .int .i64 0, .int .i64 0], .int .i64 30, .int .i64 5]) := he
  subst he
  have hb' : Below w2.heap.size w2 w3 := then_ ((Below.refl _ _).alloc (Nat.le_refl _) _) hb
  have X3 : Hid (Bx w3 w1.heap.size [.slice ac 1 cc, .slice ap 2 cp, .slice at_ 1 ct, .int .i64 0, .int .i64 1] ∧ Below w1.heap.size w1 w3) := ⟨X2.out.1.below hb', then_ X2.out.2 hb'⟩
  clear hn hb hb' X2 B2
  have B3 : Hid (Below w.heap.size w w3) := then_ B1.out X3.out.2
  go_wp2_with fail
  refine (text_is _ (by decide) (HF.out.1.below (B3.out.alloc B3.out.size _)) tx4_is).mono ?_
  rintro e w4 ⟨v, he, hn, hb⟩
  obtain ⟨a7, c7, a8, c8, a9, c9, rfl, -⟩ := hn.now
  replace he : e = .returned (.tuple #[.agg #[.slice a7 0 c7, .slice a8 0 c8, .slice a9 0 c9, .int .i64 0, .int .i64 0], .int .i64 4, .int .i64 4]) := he
  subst he
  have hb' : Below w3.heap.size w3 w4 := then_ ((Below.refl _ _).alloc (Nat.le_refl _) _) hb
  have hbx := X3.out.1.below hb'
  have h14 : Below w1.heap.size w1 w4 := then_ X3.out.2 hb'
  have B4 : Hid (Below w.heap.size w w4) := then_ B1.out h14
  obtain ⟨q0, q1, q2, q3, q4, ql⟩ := hbx.five
  obtain ⟨d1, o1, us, ha, y1, hu, t1⟩ := (HN.out.1.below (fun _ _ h => h.below h14) h14).at place_len (by decide) (i := 0) rfl
  obtain ⟨af, cf, rfl, hpf, -⟩ := hu
  subst ha
  have p2 : w4.cell? ⟨d1, o1 + 2, none⟩ = some (.slice af 1 cf) := by have := t1 2 _ rfl; simpa using this
  clear t1
  obtain ⟨d2, o2, us, ha, y2, hu, t2⟩ := (HN.out.2.below (fun _ _ h => h.below h14) h14).at task_len (by decide) (i := 0) rfl
  obtain ⟨av, cv, ag, cg, ai, ci, ao, co, acc, ccc, rfl, -, -, -, ho, -⟩ := hu
  subst ha
  have k0 : w4.cell? ⟨d2, o2, none⟩ = some (.string (str [116])) := by have := t2 0 _ rfl; simpa using this
  have k1 : w4.cell? ⟨d2, o2 + 1, none⟩ = some (.slice av 1 cv) := by have := t2 1 _ rfl; simpa using this
  have k2 : w4.cell? ⟨d2, o2 + 2, none⟩ = some (.int .i64 5) := by have := t2 2 _ rfl; simpa using this
  have k3 : w4.cell? ⟨d2, o2 + 3, none⟩ = some (.int .i64 8) := by have := t2 3 _ rfl; simpa using this
  have k4 : w4.cell? ⟨d2, o2 + 4, none⟩ = some (.slice ag 2 cg) := by have := t2 4 _ rfl; simpa using this
  have k5 : w4.cell? ⟨d2, o2 + 5, none⟩ = some (.int .i64 1) := by have := t2 5 _ rfl; simpa using this
  have k6 : w4.cell? ⟨d2, o2 + 6, none⟩ = some (.int .i64 2) := by have := t2 6 _ rfl; simpa using this
  have k7 : w4.cell? ⟨d2, o2 + 7, none⟩ = some (.slice ai 1 ci) := by have := t2 7 _ rfl; simpa using this
  have k8 : w4.cell? ⟨d2, o2 + 8, none⟩ = some (.slice ao 1 co) := by have := t2 8 _ rfl; simpa using this
  have k9 : w4.cell? ⟨d2, o2 + 9, none⟩ = some (.slice acc 1 ccc) := by have := t2 9 _ rfl; simpa using this
  have k10 : w4.cell? ⟨d2, o2 + 10, none⟩ = some (.int .i64 5) := by have := t2 10 _ rfl; simpa using this
  have k11 : w4.cell? ⟨d2, o2 + 11, none⟩ = some (.int .i64 1) := by have := t2 11 _ rfl; simpa using this
  have k12 : w4.cell? ⟨d2, o2 + 12, none⟩ = some (.int .i64 2) := by have := t2 12 _ rfl; simpa using this
  have k13 : w4.cell? ⟨d2, o2 + 13, none⟩ = some (.int .i64 1) := by have := t2 13 _ rfl; simpa using this
  clear t2
  obtain ⟨d3, o3, us, ha, y3, hu, t3⟩ := ho.at arc_len (by decide) (i := 0) rfl
  obtain ⟨ae, ce, rfl, hxe⟩ := hu
  subst ha
  have r1 : w4.cell? ⟨d3, o3 + 1, none⟩ = some (.int .i64 5) := by have := t3 1 _ rfl; simpa using this
  have r2 : w4.cell? ⟨d3, o3 + 2, none⟩ = some (.int .i64 1) := by have := t3 2 _ rfl; simpa using this
  have r3 : w4.cell? ⟨d3, o3 + 3, none⟩ = some (.slice ae 2 ce) := by have := t3 3 _ rfl; simpa using this
  have HE : Hid (X w4 Parse.e1 ae ∧ Cs w4 af (prs [(0, 2)]) ∧ Tb w4) := ⟨hxe, hpf, HF.out.2.below B4.out⟩
  generalize str [116] = s0 at *
  clear t3 ho hn hb hb' X3 B3 HN hbx h14 hxe hpf HF B1
  go_wp2_with fail
  obtain ⟨WZ, hWZ⟩ : ∃ WZ, WZ = ((w4.alloc (.cells #[.slice a7 0 c7, .slice a8 0 c8, .slice a9 0 c9, .int .i64 0, .int .i64 0] 28)).alloc (.cells #[.string s0, .slice av 1 cv, .int .i64 5, .int .i64 8, .slice ag 2 cg, .int .i64 1, .int .i64 2, .slice ai 1 ci, .slice (some ⟨d3, o3, none⟩) 1 co, .slice acc 1 ccc, .int .i64 5, .int .i64 1, .int .i64 2, .int .i64 1] 63)).alloc (.cells #[.string ⟨#[120]⟩] 9) := ⟨_, rfl⟩
  rw [← hWZ]
  have hz : Below w4.heap.size w4 WZ := by rw [hWZ]; exact (((Below.refl _ _).alloc (Nat.le_refl _) _).alloc (by simp) _).alloc (by simp; omega) _
  have hs0 : WZ.cell? ⟨w4.heap.size + 1 + 1, 0, none⟩ = some (.string ⟨#[120]⟩) := by rw [hWZ, World.cell?_alloc_at _ _ _ _ (by simp)]; rfl
  refine (xtext_any WZ ae ce _ _ (HE.out.1.below hz) hs0 (HE.out.2.2.below hz)).mono ?_
  rintro e w5 ⟨he, hb5⟩
  subst he
  have h45 : Below w4.heap.size w4 w5 := then_ hz hb5
  have z0 : w5.cell? ⟨w1.heap.size, 1, none⟩ = some (.slice (some ⟨d1, o1, none⟩) 2 cp) := (h45.cell (p := ⟨w1.heap.size, 1, none⟩) ql).trans q1
  have z1 : w5.cell? ⟨w1.heap.size, 4, none⟩ = some (.int .i64 1) := (h45.cell (p := ⟨w1.heap.size, 4, none⟩) ql).trans q4
  have z2 : w5.cell? ⟨d1, o1 + 2, none⟩ = some (.slice af 1 cf) := (h45.cell (p := ⟨d1, o1 + 2, none⟩) y1).trans p2
  have zl : w1.heap.size < w5.heap.size := Nat.lt_of_lt_of_le ql h45.size
  have zl1 : d1 < w5.heap.size := Nat.lt_of_lt_of_le y1 h45.size
  have HE5 : Hid (Cs w5 af (prs [(0, 2)]) ∧ Below w.heap.size w w5) := ⟨HE.out.2.1.below h45, then_ B4.out h45⟩
  clear h45 hb5 hz hs0 hWZ HE B4 q0 q1 q2 q3 q4 ql y1 y2 y3 p2 k0 k1 k2 k3 k4 k5 k6 k7 k8 k9 k10 k11 k12 k13 r1 r2 r3
  go_wp2_with fail
  have hal : Below w5.heap.size w5 (w5.alloc (.cells #[.int .i64 0, .int .i64 2] 71)) := (Below.refl _ _).alloc (Nat.le_refl _) _
  refine (rrows_yes af (some ⟨w5.heap.size, 0, none⟩) cf 1 [(0, 2)] _ (HE5.out.1.below hal) (.inr ⟨w5.heap.size, 0, rfl, fun j v hj => by rw [World.cell?_alloc_at _ _ _ _ rfl]; simpa [prs] using hj⟩) (by decide)).mono ?_
  rintro e w6 ⟨he, hb6⟩
  subst he
  have z3 : w6.cell? ⟨w1.heap.size, 4, none⟩ = some (.int .i64 1) := ((then_ hal hb6).cell (p := ⟨w1.heap.size, 4, none⟩) zl).trans z1
  have zl2 : w1.heap.size < w6.heap.size := Nat.lt_of_lt_of_le zl (then_ hal hb6).size
  have HE6 : Hid (Below w.heap.size w w6) := then_ HE5.out.2 (then_ hal hb6)
  clear hal hb6 HE5 z0 z1 z2 zl zl1
  go_wp2_with fail
  go_ret
  exact ⟨rfl, HE6.out⟩
end Go.Proofs.YtjcanodnlnodpaaGreatDoor.Parse
