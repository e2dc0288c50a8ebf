/- The small case of the laws of layer 4: over the turned program. -/
import Derived.Test.YtnhhajbfohjlbaaGreatDoorExSmallB
import Derived.Test.YtnhhajbfohjlbaaGreatDoorExDepth
import Derived.Test.YtnhhajbfohjlbaaGreatDoorExInts
namespace Go.Proofs.YtnhhajbfohjlbaaGreatDoor.Expr
open Go.RowKit Go.Proofs.YtnhhajbfohjlbaaGreatDoor.Frame Go.Proofs.YtnhhajbfohjlbaaGreatDoor.Calc
set_option linter.unusedVariables false
set_option linter.unusedSimpArgs false

/-- what is kept behind the first expression -/
def Kp (B p : Nat) (ae : Option Addr) (wc wx : World) : Prop := Below wc.heap.size wc wx ∧ (Cell3 wx p (.int .i64 6) (.int .i64 0) (.slice ae 3 3) ∧ p < wx.heap.size) ∧ (Cell3 wx B (.int .i64 2) (.int .i64 0) (.slice none 0 0) ∧ B < wx.heap.size) ∧ X wx smE ae
theorem Kp.on {B p : Nat} {ae : Option Addr} {wc wx w' : World} (h : Kp B p ae wc wx) (hb : Below wx.heap.size wx w') : Kp B p ae wc w' :=
  ⟨h.1.trans (hb.mono h.1.size), ⟨h.2.1.1.below hb, Nat.lt_of_lt_of_le h.2.1.2 hb.size⟩, ⟨h.2.2.1.1.below hb, Nat.lt_of_lt_of_le h.2.2.1.2 hb.size⟩, h.2.2.2.below hb⟩
theorem Kp.al {B p : Nat} {ae : Option Addr} {wc wx : World} (h : Kp B p ae wc wx) (o : Obj) : Kp B p ae wc (wx.alloc o) := h.on ((Below.refl _ _).alloc (Nat.le_refl _) _)
theorem Kp.dr {B p : Nat} {ae : Option Addr} {wc wx : World} (h : Kp B p ae wc wx) : Kp B p ae wc wx.drew := h.on ((Below.refl _ _).drew)
theorem eval_sm (B p : Nat) (ae : Option Addr) (wc wx : World) (zs : List Int) (r : Int × Int) (ea : Option Addr) (elen ec : Nat) (h : Kp B p ae wc wx) (hz : Nm wx ea elen zs) (hr : evalF zs smE = r) :
    Calls Tryz.prog 19 #[.agg #[.int .i64 6, .int .i64 0, .slice ae 3 3], .slice ea elen ec] wx fun e w' => e = .returned (.tuple #[.int .i64 r.1, .int .i64 r.2]) ∧ Hid (Kp B p ae wc w') ∧ (w'.cell? ⟨p, 0, none⟩ = some (.int .i64 6) ∧ w'.cell? ⟨p, 1, none⟩ = some (.int .i64 0) ∧ w'.cell? ⟨p, 2, none⟩ = some (.slice ae 3 3)) ∧ p < w'.heap.size := by
  subst hr
  refine (eval_any zs smE wx ae ea 3 elen ec h.2.2.2 hz).mono ?_
  rintro e w' ⟨he, hb⟩
  exact ⟨he, h.on hb, (h.on hb).2.1.1, (h.on hb).2.1.2⟩
theorem num_kp (B p : Nat) (ae : Option Addr) (wc wx : World) (n : Int) (h : Kp B p ae wc wx) :
    Calls Tryz.prog 18 #[.int .i64 n] wx fun e w' => e = .returned (.agg #[.int .i64 1, .int .i64 n, .slice none 0 0]) ∧ Hid (Kp B p ae wc w') ∧ (w'.cell? ⟨p, 0, none⟩ = some (.int .i64 6) ∧ w'.cell? ⟨p, 1, none⟩ = some (.int .i64 0) ∧ w'.cell? ⟨p, 2, none⟩ = some (.slice ae 3 3)) ∧ p < w'.heap.size := by
  refine (num_exact n wx).mono ?_
  rintro e w' ⟨he, hw⟩
  have hb : Below wx.heap.size wx w' := by rw [hw]; exact (Below.refl _ _).alloc (Nat.le_refl _) _
  exact ⟨he, h.on hb, (h.on hb).2.1.1, (h.on hb).2.1.2⟩
theorem put_kp (B p : Nat) (ae a1 : Option Addr) (c1 : Nat) (wc wx : World) (h : Kp B p ae wc wx) :
    Calls Tryz.prog 20 #[.agg #[.int .i64 6, .int .i64 0, .slice ae 3 3], .int .i64 0, .agg #[.int .i64 1, .int .i64 9, .slice a1 0 c1]] wx fun e w' => ∃ a' c', e = .returned (.agg #[.int .i64 smP.kind, .int .i64 smP.num, .slice a' smP.kids.length c']) ∧ Hid (Kp B p ae wc w' ∧ X w' smP a') ∧ (w'.cell? ⟨p, 0, none⟩ = some (.int .i64 6) ∧ w'.cell? ⟨p, 1, none⟩ = some (.int .i64 0) ∧ w'.cell? ⟨p, 2, none⟩ = some (.slice ae 3 3)) ∧ p < w'.heap.size := by
  refine (put_any 0 (leafE 1 9) smE wx ae a1 3 c1 h.2.2.2 (x_leaf _ _ _ _ _ (in_small _ (by decide)) (in_small _ (by decide))) (by rw [size_smE]; omega) (by simp [leafE, size_eq, sm])).mono ?_
  rintro e w' ⟨a', c', he, hx, hb⟩
  exact ⟨a', c', he, ⟨h.on hb, hx.x⟩, (h.on hb).2.1.1, (h.on hb).2.1.2⟩
theorem Kp.drX {B p : Nat} {ae a' : Option Addr} {wc wx : World} (h : Kp B p ae wc wx ∧ X wx smP a') : Kp B p ae wc wx.drew ∧ X wx.drew smP a' := ⟨h.1.dr, h.2.below ((Below.refl _ _).drew)⟩
theorem eval_kp (B p : Nat) (ae a' : Option Addr) (c' : Nat) (wc wx : World) (h : Kp B p ae wc wx ∧ X wx smP a') :
    Calls Tryz.prog 19 #[.agg #[.int .i64 smP.kind, .int .i64 smP.num, .slice a' smP.kids.length c'], .slice none 0 0] wx fun e w' => e = .returned (.tuple #[.int .i64 2, .int .i64 0]) ∧ Hid (Kp B p ae wc w') ∧ (w'.cell? ⟨p, 0, none⟩ = some (.int .i64 6) ∧ w'.cell? ⟨p, 1, none⟩ = some (.int .i64 0) ∧ w'.cell? ⟨p, 2, none⟩ = some (.slice ae 3 3)) ∧ p < w'.heap.size := by
  have hq := eval_any [] smP wx a' none c' 0 0 h.2 (nm_nil _)
  rw [eval_p] at hq
  refine hq.mono ?_
  rintro e w' ⟨he, hb⟩
  exact ⟨he, h.1.on hb, (h.1.on hb).2.1.1, (h.1.on hb).2.1.2⟩
theorem Acc.kp {B p : Nat} {ae : Option Addr} {wc wx : World} (h : Kp B p ae wc wx) : Acc B wx [] [] wx := Acc.start (Below.refl _ _) h.2.2.1.1
def oneStr (w : World) (a : Option Addr) (n : Nat) : Prop := n = 1 ∧ ∃ b, a = some ⟨b, 0, none⟩ ∧ w.cell? ⟨b, 0, none⟩ = some (.string ⟨#[120]⟩)
theorem env_one {w : World} {a : Option Addr} (h : oneStr w a 1) (hT : Lib.TabIs Tryz.prog w tabName .u64 Lib.pow10Tab) : Env w.heap.size a xN w := by
  obtain ⟨_, b, rfl, hc⟩ := h
  refine ⟨.inr ⟨b, 0, rfl, World.block_lt_of_cell? w _ hc, fun i hi => ?_⟩, Lib.tabBelow_of_tabIs hT⟩
  obtain rfl : i = 0 := by simp [xN] at hi; omega
  exact hc
/-- what is kept behind both expressions -/
def Kq (p q : Nat) (ae at_ : Option Addr) (w wx : World) : Prop := Below w.heap.size w wx ∧ (Cell3 wx p (.int .i64 6) (.int .i64 0) (.slice ae 3 3) ∧ p < wx.heap.size) ∧ (Cell3 wx q (.int .i64 5) (.int .i64 3) (.slice at_ 2 2) ∧ q < wx.heap.size) ∧ X wx smE ae ∧ X wx smT at_
theorem Kq.on {p q : Nat} {ae at_ : Option Addr} {w wx w' : World} (h : Kq p q ae at_ w wx) (hb : Below wx.heap.size wx w') : Kq p q ae at_ w w' :=
  ⟨h.1.trans (hb.mono h.1.size), ⟨h.2.1.1.below hb, Nat.lt_of_lt_of_le h.2.1.2 hb.size⟩, ⟨h.2.2.1.1.below hb, Nat.lt_of_lt_of_le h.2.2.1.2 hb.size⟩, h.2.2.2.1.below hb, h.2.2.2.2.below hb⟩
theorem Kq.al {p q : Nat} {ae at_ : Option Addr} {w wx : World} (h : Kq p q ae at_ w wx) (o : Obj) : Kq p q ae at_ w (wx.alloc o) := h.on ((Below.refl _ _).alloc (Nat.le_refl _) _)
def QCells (p q : Nat) (ae at_ : Option Addr) (w' : World) : Prop := ((w'.cell? ⟨p, 0, none⟩ = some (.int .i64 6) ∧ w'.cell? ⟨p, 1, none⟩ = some (.int .i64 0) ∧ w'.cell? ⟨p, 2, none⟩ = some (.slice ae 3 3)) ∧ p < w'.heap.size) ∧ (w'.cell? ⟨q, 0, none⟩ = some (.int .i64 5) ∧ w'.cell? ⟨q, 1, none⟩ = some (.int .i64 3) ∧ w'.cell? ⟨q, 2, none⟩ = some (.slice at_ 2 2)) ∧ q < w'.heap.size
theorem Kq.cells {p q : Nat} {ae at_ : Option Addr} {w wx : World} (h : Kq p q ae at_ w wx) : QCells p q ae at_ wx := ⟨⟨h.2.1.1, h.2.1.2⟩, h.2.2.1.1, h.2.2.1.2⟩
theorem text1 (p q : Nat) (ae at_ : Option Addr) (w wx : World) (nc : Nat) (na : Option Addr) (hT : Lib.TabBelow Tryz.prog w.heap.size w tabName .u64 Lib.pow10Tab) (h : Kq p q ae at_ w wx) (hn : oneStr wx na 1) :
    Calls Tryz.prog 12 #[.agg #[.int .i64 6, .int .i64 0, .slice ae 3 3], .slice na 1 nc] wx fun e w' => e = .returned (.string ⟨#[105, 102, 40, 120, 32, 61, 61, 32, 48, 44, 32, 49, 32, 47, 32, 120, 44, 32, 120, 32, 45, 32, 55, 41]⟩) ∧ Hid (Kq p q ae at_ w w') ∧ QCells p q ae at_ w' := by
  have hq := text_any xN smE wx ae na 3 nc 1 rfl h.2.2.2.1 (env_one hn (hT _ h.1)) (by rw [size_smE]; omega) (by rw [text_smE]; decide)
  rw [text_smE] at hq
  refine hq.mono ?_
  rintro e w' ⟨he, hb⟩
  exact ⟨he, h.on hb, (h.on hb).cells⟩
theorem text2 (p q : Nat) (ae at_ : Option Addr) (w wx : World) (nc : Nat) (na : Option Addr) (hT : Lib.TabBelow Tryz.prog w.heap.size w tabName .u64 Lib.pow10Tab) (h : Kq p q ae at_ w wx) (hn : oneStr wx na 1) :
    Calls Tryz.prog 12 #[.agg #[.int .i64 5, .int .i64 3, .slice at_ 2 2], .slice na 1 nc] wx fun e w' => e = .returned (.string ⟨#[40, 120, 32, 43, 32, 40, 45, 49, 41, 41, 32, 42, 32, 50]⟩) ∧ Hid (Kq p q ae at_ w w') ∧ QCells p q ae at_ w' := by
  have hq := text_any xN smT wx at_ na 2 nc 1 rfl h.2.2.2.2 (env_one hn (hT _ h.1)) (by rw [size_smT]; omega) (by rw [text_smT]; decide)
  rw [text_smT] at hq
  refine hq.mono ?_
  rintro e w' ⟨he, hb⟩
  exact ⟨he, h.on hb, (h.on hb).cells⟩
theorem depth1 (p q : Nat) (ae at_ : Option Addr) (w wx : World) (h : Kq p q ae at_ w wx) :
    Calls Tryz.prog 8 #[.agg #[.int .i64 6, .int .i64 0, .slice ae 3 3]] wx fun e w' => e = .returned (.int .i64 3) ∧ Hid (Kq p q ae at_ w w') ∧ QCells p q ae at_ w' := by
  have hq := depth_any smE wx ae 3 h.2.2.2.1 (by rw [size_smE]; omega)
  rw [depth_smE] at hq
  refine hq.mono ?_
  rintro e w' ⟨he, hb⟩
  exact ⟨he, h.on hb, (h.on hb).cells⟩
theorem size1 (p q : Nat) (ae at_ : Option Addr) (w wx : World) (h : Kq p q ae at_ w wx) :
    Calls Tryz.prog 10 #[.agg #[.int .i64 6, .int .i64 0, .slice ae 3 3]] wx fun e w' => e = .returned (.int .i64 10) ∧ Hid (Kq p q ae at_ w w') ∧ QCells p q ae at_ w' := by
  have hq := size_any smE wx ae 3 h.2.2.2.1 (by rw [size_smE]; omega)
  rw [size_smE] at hq
  refine hq.mono ?_
  rintro e w' ⟨he, hb⟩
  exact ⟨he, h.on hb, (h.on hb).cells⟩
theorem vars1 (p q : Nat) (ae at_ : Option Addr) (w wx : World) (h : Kq p q ae at_ w wx) :
    Calls Tryz.prog 15 #[.agg #[.int .i64 6, .int .i64 0, .slice ae 3 3]] wx fun e w' => ∃ a' c', e = .returned (.slice a' 1 c') ∧ Hid (Kq p q ae at_ w w' ∧ Nm w' a' 1 [0]) ∧ QCells p q ae at_ w' := by
  have hq := vars_any smE wx ae 3 h.2.2.2.1 (by rw [size_smE]; omega)
  rw [vars_smE] at hq
  refine hq.mono ?_
  rintro e w' ⟨a', c', he, hn, hb⟩
  exact ⟨a', c', he, ⟨h.on hb, hn⟩, (h.on hb).cells⟩

theorem kq_of {B p q : Nat} {ae : Option Addr} {w wx wd : World} (h : Kp B p ae w wx) (k : Sm smT B wx wd q) : ∃ at_, Kq p q ae at_ w wd := by
  obtain ⟨_, ⟨at_, hc, hx⟩, hb⟩ := k
  have h1 := h.on hb
  exact ⟨at_, h1.1, h1.2.1, ⟨hc, World.block_lt_of_cell? _ _ hc.1⟩, h1.2.2.2, hx⟩

set_option maxRecDepth 100000 in
set_option maxHeartbeats 4000000 in
theorem small_any (w : World) (hT : Lib.TabBelow Tryz.prog w.heap.size w tabName .u64 Lib.pow10Tab) :
    Calls Tryz.prog 4 #[] w fun e w' => e = .returned (.bool true) ∧ Below w.heap.size w w' := by
  have HT : Hid (Lib.TabBelow Tryz.prog w.heap.size w tabName .u64 Lib.pow10Tab) := hT
  clear hT
  go_enter Tryz.func4, Tryz.ntmps4
  go_upto_region 2 with (fail)
  go_cut [2] from 13 (fun q2 wc => ∃ p2 : Nat, q2 = .pointer (some ⟨p2, 0, none⟩) ∧ Hid (Sm smE w.heap.size w wc p2))
  case first =>
    have K : Hid (Acc w.heap.size w [] [] (w.alloc (.cells #[.int .i64 2, .int .i64 0, .slice none 0 0] 24))) := Acc.start ((Below.refl _ _).alloc (Nat.le_refl _) _) (cell3_new _ _ _ _ _)
    go_region_held3 (fun w' => w'.cell? ⟨w.heap.size, 0, none⟩ = some (.int .i64 2) ∧ w'.cell? ⟨w.heap.size, 1, none⟩ = some (.int .i64 0) ∧ w'.cell? ⟨w.heap.size, 2, none⟩ = some (.slice none 0 0)) (go_keep)
      (first
        | (go_at_call 18; refine (num_from w.heap.size w _ _ _ _ (by first | exact K.out | exact K.out.drew | exact K.out.alloc _ | exact (K.out.alloc _).drew | exact K.out.drew.alloc _)).mono ?_; clear K; rintro e w1 ⟨he, K, ⟨g0, g1, g2⟩⟩; subst he; try (obtain ⟨⟨r0, r1, r2⟩, ⟨f0, f1, f2⟩, n0, n1, n2, n3, n4⟩ := K.out.one; try simp only [sD, sZ] at K r0 r1 r2 f0 f1 f2 n0 n1 n2 n3 n4))
        | (go_at_call 17; refine (bin_from w.heap.size w _ _ _ _ _ _ _ _ _ _ _ _ _ _ _ _ (by first | exact K.out | exact K.out.drew | exact K.out.alloc _ | exact (K.out.alloc _).drew | exact K.out.drew.alloc _) (by decide) (at_leaf (by decide) (by decide)) (at_leaf (by decide) (by decide))).mono ?_; clear K; rintro e w2 ⟨a2, he, K, ⟨g0, g1, g2⟩⟩; subst he; try (obtain ⟨⟨r0, r1, r2⟩, ⟨f0, f1, f2⟩, n0, n1, n2, n3, n4⟩ := K.out.one; try simp only [sD, sZ] at K r0 r1 r2 f0 f1 f2 n0 n1 n2 n3 n4)))
    all_goals
      go_wp2_with fail
      go_meet
      refine ⟨_, rfl, ?_⟩
      unfold Hid
      first | with_reducible exact fin1 K.out | with_reducible exact fin2 K.out | with_reducible exact fin3 K.out
  case rest =>
  obtain ⟨p2, rfl, SM⟩ := hcut
  obtain ⟨ae, K, e0, e1, e2, pl⟩ : ∃ ae, Hid (Kp w.heap.size p2 ae w wc) ∧ wc.cell? ⟨p2, 0, none⟩ = some (.int .i64 6) ∧ wc.cell? ⟨p2, 1, none⟩ = some (.int .i64 0) ∧ wc.cell? ⟨p2, 2, none⟩ = some (.slice ae 3 3) ∧ p2 < wc.heap.size := by
    obtain ⟨⟨hB, hb⟩, ⟨ae, hc, hx⟩, hbel⟩ := SM.out
    exact ⟨ae, ⟨hbel, ⟨hc, World.block_lt_of_cell? _ _ hc.1⟩, ⟨hb, hB⟩, hx⟩, hc.1, hc.2.1, hc.2.2, World.block_lt_of_cell? _ _ hc.1⟩
  clear SM
  go_wp2_with fail
  refine (eval_sm w.heap.size p2 ae w _ [5] (-2, 0) _ _ _ (K.out.al _) (nm_one _ _ _ ⟨by decide, by decide⟩) eval_5).mono ?_
  clear K e0 e1 e2 pl
  rintro e w3 ⟨he, K, ⟨e0, e1, e2⟩, pl⟩
  subst he
  go_wp2_with fail
  refine (eval_sm w.heap.size p2 ae w _ [0] (0, 7) _ _ _ (K.out.al _) (nm_one _ _ _ ⟨by decide, by decide⟩) eval_0).mono ?_
  clear K e0 e1 e2 pl
  rintro e w4 ⟨he, K, ⟨e0, e1, e2⟩, pl⟩
  subst he
  go_wp2_with fail
  refine (eval_sm w.heap.size p2 ae w _ [] (0, 1) _ _ _ K.out (nm_nil _) eval_n).mono ?_
  clear K e0 e1 e2 pl
  rintro e w5 ⟨he, K, ⟨e0, e1, e2⟩, pl⟩
  subst he
  go_upto_region 6 with (fail)
  go_cut [9, 10] from 13 (fun q9 q10 wd => q9 = .int .i64 2 ∧ q10 = .int .i64 0 ∧ Hid (Kp w.heap.size p2 ae w wd))
  case first =>
    go_region_held3 (fun w' => w'.cell? ⟨p2, 0, none⟩ = some (.int .i64 6) ∧ w'.cell? ⟨p2, 1, none⟩ = some (.int .i64 0) ∧ w'.cell? ⟨p2, 2, none⟩ = some (.slice ae 3 3)) (go_keep)
      (first
        | (go_at_call 18; refine (num_kp w.heap.size p2 ae w _ _ (by first | exact K.out | exact K.out.dr)).mono ?_; clear K e0 e1 e2 pl; rintro e w6 ⟨he, K, ⟨e0, e1, e2⟩, pl⟩; subst he)
        | (go_at_call 20; refine (put_kp w.heap.size p2 ae _ _ w _ (by first | exact K.out | exact K.out.dr)).mono ?_; clear K e0 e1 e2 pl; rintro e w7 ⟨a7, c7, he, K, ⟨e0, e1, e2⟩, pl⟩; subst he)
        | (go_at_call 19; refine (eval_kp w.heap.size p2 ae _ _ w _ (by first | exact K.out | exact Kp.drX K.out)).mono ?_; clear K e0 e1 e2 pl; rintro e w8 ⟨he, K, ⟨e0, e1, e2⟩, pl⟩; subst he))
    all_goals
      go_wp2_with fail
      go_meet
      exact ⟨rfl, rfl, K⟩
  case rest =>
  clear K e0 e1 e2 pl w3 w4 w5
  obtain ⟨rfl, rfl, K⟩ := hcut
  go_upto_region 7 with (fail)
  go_cut [11] from 13 (fun q11 wd => ∃ p11 : Nat, q11 = .pointer (some ⟨p11, 0, none⟩) ∧ Hid (∃ at_, Kq p2 p11 ae at_ w wd))
  case first =>
    have KK : Hid (Kp w.heap.size p2 ae w wc) := K
    clear K
    have K : Hid (Acc w.heap.size wc [] [] wc) := Acc.kp KK.out
    obtain ⟨b0, b1, b2⟩ := KK.out.2.2.1.1
    have bl := KK.out.2.2.1.2
    go_region_held3 (fun w' => w'.cell? ⟨w.heap.size, 0, none⟩ = some (.int .i64 2) ∧ w'.cell? ⟨w.heap.size, 1, none⟩ = some (.int .i64 0) ∧ w'.cell? ⟨w.heap.size, 2, none⟩ = some (.slice none 0 0)) (go_keep)
      (first
        | (go_at_call 18; refine (num_from w.heap.size wc _ _ _ _ (by first | exact K.out | exact K.out.drew | exact K.out.alloc _ | exact (K.out.alloc _).drew | exact K.out.drew.alloc _)).mono ?_; clear K; rintro e w1 ⟨he, K, ⟨g0, g1, g2⟩⟩; subst he; try (obtain ⟨⟨r0, r1, r2⟩, ⟨f0, f1, f2⟩, n0, n1, n2, n3, n4⟩ := K.out.one; try simp only [sD, sZ] at K r0 r1 r2 f0 f1 f2 n0 n1 n2 n3 n4))
        | (go_at_call 17; refine (bin_from w.heap.size wc _ _ _ _ _ _ _ _ _ _ _ _ _ _ _ _ (by first | exact K.out | exact K.out.drew | exact K.out.alloc _ | exact (K.out.alloc _).drew | exact K.out.drew.alloc _) (by decide) (by first | exact at_leaf (by decide) (by decide) | exact K.out.head | exact K.out.drew.head | exact (K.out.alloc _).head | exact (K.out.alloc _).drew.head | exact (K.out.drew.alloc _).head) (at_leaf (by decide) (by decide))).mono ?_; clear K; rintro e w2 ⟨a2, he, K, ⟨g0, g1, g2⟩⟩; subst he; try (obtain ⟨⟨r0, r1, r2⟩, ⟨f0, f1, f2⟩, n0, n1, n2, n3, n4⟩ := K.out.one; try simp only [sD, sZ] at K r0 r1 r2 f0 f1 f2 n0 n1 n2 n3 n4)))
    all_goals
      go_wp2_with fail
      go_meet
      refine ⟨_, rfl, ?_⟩
      unfold Hid
      refine kq_of KK.out ?_
      unfold smT
      first | with_reducible exact fin4 K.out | with_reducible exact fin5 K.out
  case rest =>
  clear K
  obtain ⟨p11, rfl, KE⟩ := hcut
  obtain ⟨at_, K, ⟨⟨e0, e1, e2⟩, pl⟩, ⟨t0, t1, t2⟩, ql⟩ : ∃ at_, Hid (Kq p2 p11 ae at_ w wc) ∧ QCells p2 p11 ae at_ wc := by
    obtain ⟨at_, h⟩ := KE.out
    exact ⟨at_, h, h.cells⟩
  clear KE
  go_wp2_with fail
  refine (text1 p2 p11 ae at_ w _ _ _ HT.out (K.out.al _) ⟨rfl, _, rfl, by simp⟩).mono ?_
  clear K e0 e1 e2 pl t0 t1 t2 ql
  rintro e w3 ⟨he, K, ⟨⟨e0, e1, e2⟩, pl⟩, ⟨t0, t1, t2⟩, ql⟩
  subst he
  go_wp2_with fail
  refine (text2 p2 p11 ae at_ w _ _ _ HT.out (K.out.al _) ⟨rfl, _, rfl, by simp⟩).mono ?_
  clear K e0 e1 e2 pl t0 t1 t2 ql
  rintro e w4 ⟨he, K, ⟨⟨e0, e1, e2⟩, pl⟩, ⟨t0, t1, t2⟩, ql⟩
  subst he
  go_wp2_with fail
  refine (depth1 p2 p11 ae at_ w _ K.out).mono ?_
  clear K e0 e1 e2 pl t0 t1 t2 ql
  rintro e w5 ⟨he, K, ⟨⟨e0, e1, e2⟩, pl⟩, ⟨t0, t1, t2⟩, ql⟩
  subst he
  go_wp2_with fail
  refine (size1 p2 p11 ae at_ w _ K.out).mono ?_
  clear K e0 e1 e2 pl t0 t1 t2 ql
  rintro e w6 ⟨he, K, ⟨⟨e0, e1, e2⟩, pl⟩, ⟨t0, t1, t2⟩, ql⟩
  subst he
  go_wp2_with fail
  refine (vars1 p2 p11 ae at_ w _ K.out).mono ?_
  clear K e0 e1 e2 pl t0 t1 t2 ql
  rintro e w7 ⟨a7, c7, he, K, -⟩
  subst he
  go_wp2_with fail
  refine (ints_any _ _ _ _ _ _ [0] [0] _ (K.out.2.below (al1 _ _)) (nm_one _ _ _ ⟨by decide, by decide⟩) (by omega) (by omega)).mono ?_
  rintro e w8 ⟨he, hb⟩
  have E : eqI [0] [0] = true := by decide
  rw [E] at he
  subst he
  have KZ : Hid (Below w.heap.size w w8) := by
    have := K.out.1.al (.cells #[.int .i64 0] 3)
    exact this.1.trans (hb.mono this.1.size)
  clear hb E
  go_wp2_with fail
  go_ret
  exact ⟨rfl, KZ.out⟩
end Go.Proofs.YtnhhajbfohjlbaaGreatDoor.Expr
