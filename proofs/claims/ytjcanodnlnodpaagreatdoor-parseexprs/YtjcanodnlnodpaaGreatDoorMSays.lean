/- A clause that is read: a contract of the call, over the turned program. -/
import Derived.Test.YtjcanodnlnodpaaGreatDoorMTC2
import Derived.Test.YtjcanodnlnodpaaGreatDoorMTK
import Derived.Test.YtjcanodnlnodpaaGreatDoorMIdx
namespace Go.Proofs.YtjcanodnlnodpaaGreatDoor.Parse
open Go.RowKit Go.Maps Go.Proofs.YtjcanodnlnodpaaGreatDoor.Frame Go.Proofs.YtjcanodnlnodpaaGreatDoor.Token Go.Proofs.YtjcanodnlnodpaaGreatDoor.Expr Go.Proofs.YtjcanodnlnodpaaGreatDoor.Calc
set_option linter.unusedVariables false
set_option linter.unusedSimpArgs false

theorem clause_call (B L p q : Nat) (en : Int) (st : St) (n : PNet) (mN : NM) (t : PTask) (m : TM) (w : World) (h : TPre B L w p q en st n mN t m) (i : Nat) (hi : i < 9) : Calls Tryz.prog (fnN i) #[ptr q] w (TPost B L p q en st n t m (bodyN n t i) w) := by
  have : i = 0 ∨ i = 1 ∨ i = 2 ∨ i = 3 ∨ i = 4 ∨ i = 5 ∨ i = 6 ∨ i = 7 ∨ i = 8 := by omega
  rcases this with rfl | rfl | rfl | rfl | rfl | rfl | rfl | rfl | rfl
  · exact variable_any B L p q en st n mN t m w h
  · exact when_any B L p q en st n mN t m w h
  · exact join_any B L p q en st n mN t m w h
  · exact split_any B L p q en st n mN t m w h
  · exact ins_any B L p q en st n mN t m w h
  · exact outs_any B L p q en st n mN t m w h
  · exact cancel_any B L p q en st n mN t m w h
  · exact after_any B L p q en st n mN t m w h
  · exact many_any B L p q en st n mN t m w h
def SP (B L : Nat) (w : World) (p q : Nat) (en : Int) (st : St) (n : PNet) (mN : NM) (t : PTask) (m : TM) (b : Nat) (stood : Nat → Bool) (had : List (List UInt8)) (N : Nat) : Prop :=
  (RS B w p en st ∧ TK L w q p t m ∧ NB B L w p n mN ∧ NA n mN ∧ (∀ z, st = .ok z → TA t m) ∧ (n.colours.length ≤ 1000000 ∧ n.places.length ≤ 1000000) ∧ B ≤ L) ∧ (t.vars.length + restLen w p ≤ N ∧ t.ins.length + restLen w p ≤ N ∧ t.outs.length + restLen w p ≤ N ∧ t.cancel.length + restLen w p ≤ N) ∧ N ≤ 1000000 ∧
  ClAt w b q stood ∧ m.xb = b ∧ ∀ i, i < 9 → stood i = decide (wordN i ∈ had)
theorem SP.pre {B L : Nat} {w : World} {p q : Nat} {en : Int} {st : St} {n : PNet} {mN : NM} {t : PTask} {m : TM} {b : Nat} {stood : Nat → Bool} {had : List (List UInt8)} {N : Nat} (h : SP B L w p q en st n mN t m b stood had N) {r : List TI} (hr : st = .ok r) : TPre B L w p q en st n mN t m :=
  ⟨h.1.1, h.1.2.1, h.1.2.2.1, h.1.2.2.2.1, h.1.2.2.2.2.1 r hr, h.1.2.2.2.2.2.1, ⟨by have := h.2.1.1; have := h.2.2.1; omega, by have := h.2.1.2.1; have := h.2.2.1; omega, by have := h.2.1.2.2.1; have := h.2.2.1; omega, by have := h.2.1.2.2.2; have := h.2.2.1; omega⟩, h.1.2.2.2.2.2.2⟩
def SaysPost (B L : Nat) (p q : Nat) (en : Int) (st : St) (n : PNet) (mN : NM) (t : PTask) (m : TM) (b : Nat) (had : List (List UInt8)) (N : Nat) (w : World) (e : Ending) (w' : World) : Prop :=
  (e = .returned (.bool true) ∧ TCh p L w w' ∧ ∃ (t' : PTask) (m' : TM) (st' : St) (stood' : Nat → Bool) (i : Nat), i < 9 ∧ tookB st (wordN i) = true ∧ SP B L w' p q en st' n mN t' m' b stood' (wordN i :: had) N ∧ Res en st (clauseP n had t) st' (fun u => u = t') ∧ restLen w' p + 1 ≤ restLen w p ∧ t'.name = t.name) ∨
  (e = .returned (.bool false) ∧ TCh p L w w' ∧ ∃ st', RS B w' p en st' ∧ TK L w' q p t m ∧ ((st' = st ∧ ∀ i, i < 9 → tookB st (wordN i) = false) ∨ ∃ i, i < 9 ∧ tookB st (wordN i) = true ∧ (onceN i = true ∧ wordN i ∈ had) ∧ st' = failS st (hereF en st).at_ 5))
def standF (stood : Nat → Bool) (i : Nat) : Nat → Bool := fun j => if j = i then true else stood j
theorem ClAt.stand {W : World} {b q : Nat} {stood : Nat → Bool} (h : ClAt W b q stood) {i : Nat} (hi : i < 9) : ClAt (W.setCell ⟨b, i * 4 + 3, none⟩ (.bool true)) b q (standF stood i) := by
  refine ⟨fun j hj => ?_, fun o => by simpa using h.2.1 o, by simpa [World.setCell] using h.2.2⟩
  obtain ⟨h0, h1, h2, h3⟩ := h.1 j hj
  refine ⟨(cell_set_ne (by omega)).trans h0, (cell_set_ne (by omega)).trans h1, (cell_set_ne (by omega)).trans h2, ?_⟩
  by_cases e : j = i
  · subst e
    rw [cell_set_eq h3]; simp [standF]
  · rw [cell_set_ne (by omega), h3]; simp [standF, e]
theorem SP.tch {B L : Nat} {w w' : World} {p q : Nat} {en : Int} {st : St} {n : PNet} {mN : NM} {t : PTask} {m : TM} {b : Nat} {stood : Nat → Bool} {had : List (List UInt8)} {N : Nat} (h : SP B L w p q en st n mN t m b stood had N) (hb : Below w.heap.size w w') : RS B w' p en st ∧ TK L w' q p t m ∧ ClAt w' b q stood ∧ RCh p w w' ∧ TCh p L w w' :=
  have hr := RCh.of_below h.1.1.lt hb
  ⟨h.1.1.below hb, h.1.2.1.on hr, h.2.2.2.1.below hb, hr, TCh.of hr⟩

set_option maxRecDepth 100000 in
set_option maxHeartbeats 8000000 in
theorem says_any (B L p q : Nat) (en : Int) (st : St) (n : PNet) (mN : NM) (t : PTask) (m : TM) (b : Nat) (stood : Nat → Bool) (had : List (List UInt8)) (N : Nat) (w : World) (h : SP B L w p q en st n mN t m b stood had N) : Calls Tryz.prog 197 #[ptr q, .slice (some ⟨b, 0, none⟩) 9 9] w (SaysPost B L p q en st n mN t m b had N w) := by
  have H0 : Hid (SP B L w p q en st n mN t m b stood had N) := h
  have hql := h.1.2.1.1.2.2
  have hbl := h.2.2.2.1.2.2
  have hpl := h.1.1.lt
  have TR0 : Hid (TRp w q p) := ⟨h.1.2.1.1.1 0, hql, h.1.2.1.ne _ TK.q_in⟩
  clear h
  unfold ptr
  obtain ⟨wz, hwz⟩ : ∃ wz, wz = w.alloc (.cells #[.pointer (some ⟨q, 0, none⟩)] 221) := ⟨_, rfl⟩
  have hz : Below w.heap.size w wz := by rw [hwz]; exact (Below.refl _ _).alloc (Nat.le_refl _) _
  have hzc : Bx wz w.heap.size [.pointer (some ⟨q, 0, none⟩)] := by rw [hwz]; exact Bx.new w #[.pointer (some ⟨q, 0, none⟩)] _
  have HW : Hid (wz = w.alloc (.cells #[.pointer (some ⟨q, 0, none⟩)] 221)) := hwz
  have HZ : Hid (Below w.heap.size w wz ∧ Bx wz w.heap.size [.pointer (some ⟨q, 0, none⟩)]) := ⟨hz, hzc⟩
  have IX : Hid (Calls Tryz.prog 227 #[.slice (some ⟨b, 0, none⟩) 9 9, .func (.func 228) #[] #[.pointer (some ⟨w.heap.size, 0, none⟩)]] wz (IdxPost st wz)) := index_any B p q w.heap.size b stood en st wz (H0.out.1.1.below hz) (TR0.out.on (RCh.of_below hpl hz)) (hzc.1 0) (H0.out.2.2.2.1.below hz)
  clear hwz hz hzc
  go_enter Tryz.func197, Tryz.ntmps197
  go_wp2_with fail
  rw [← HW.out]
  refine IX.out.mono ?_
  rintro e w1 ⟨⟨k, he, hk⟩, hb1⟩
  subst he
  have hw1 : Below w.heap.size w w1 := then_ HZ.out.1 hb1
  have K1 : Hid (Below w.heap.size w w1 ∧ Bx w1 w.heap.size [.pointer (some ⟨q, 0, none⟩)]) := ⟨hw1, HZ.out.2.below hb1⟩
  clear IX HW HZ hb1 hw1
  rcases hk with ⟨rfl, hno⟩ | ⟨i, hi, rfl, hyes⟩
  · have FN : Hid (SaysPost B L p q en st n mN t m b had N w (.returned (.bool false)) w1) := .inr ⟨rfl, (H0.out.tch K1.out.1).2.2.2.2, st, (H0.out.tch K1.out.1).1, (H0.out.tch K1.out.1).2.1, .inl ⟨rfl, hno⟩⟩
    clear hno K1 H0
    go_wp2_with fail
    go_ret
    exact FN.out
  · have HY : Hid (tookB st (wordN i) = true) := hyes
    obtain ⟨t0, r0, hst, -, hS⟩ := took_yes hyes (word_ne hi)
    have HS : Hid (st = .ok (t0 :: r0) ∧ tookS st (wordN i) = .ok r0) := ⟨hst, hS⟩
    have HST : Hid (stood i = decide (wordN i ∈ had)) := H0.out.2.2.2.2.2 i hi
    obtain ⟨c0, c1, c2, c3⟩ := (H0.out.tch K1.out.1).2.2.1.1 i hi
    have cf : w1.frozen? ⟨b, i * 4 + 3, none⟩ = false := (H0.out.tch K1.out.1).2.2.1.2.1 _
    have cl : b < w1.heap.size := (H0.out.tch K1.out.1).2.2.1.2.2
    have tb0 : w1.cell? ⟨w.heap.size, 0, none⟩ = some (.pointer (some ⟨q, 0, none⟩)) := K1.out.2.1 0
    have tbl : w.heap.size < w1.heap.size := K1.out.2.2.2
    have q0 : w1.cell? ⟨q, 0, none⟩ = some (.pointer (some ⟨p, 0, none⟩)) := (H0.out.tch K1.out.1).2.1.1.1 0
    have ql1 : q < w1.heap.size := by omega
    have hi' : (i : Int) < 9 := by omega
    have hi0 : ¬ (i : Int) < 0 := by omega
    clear hyes hst hS
    by_cases htw : onceN i = true ∧ stood i = true
    · rw [htw.1] at c2
      rw [htw.2] at c3
      have HT : Hid (onceN i = true ∧ wordN i ∈ had) := ⟨htw.1, of_decide_eq_true (HST.out.symm.trans htw.2)⟩
      obtain ⟨kk, TT, pl, hv, -, -, hpl2⟩ := here_parts en st
      have HV : Hid (tokV (hereF en st) = .agg #[.int .i64 kk, .string TT, .int .i64 pl]) := hv
      have HPL : Hid (pl = (hereF en st).at_) := hpl2
      have hfd := field_at kk TT pl
      have HE : Hid (∀ W, Below w1.heap.size w1 W → Calls Tryz.prog 142 #[.pointer (some ⟨p, 0, none⟩)] W fun e w' => e = .returned (.agg #[.int .i64 kk, .string TT, .int .i64 pl]) ∧ Below W.heap.size W w') := fun W hW => by
        have := here_any B p en st W ((H0.out.tch K1.out.1).1.below hW)
        rw [HV.out] at this
        exact this
      have FA : Hid (∀ W, Below w1.heap.size w1 W → Calls Tryz.prog 144 #[.pointer (some ⟨p, 0, none⟩), .int .i64 pl, .int .i64 5] W fun e w' => e = .returned (.tuple #[]) ∧ SaysPost B L p q en st n mN t m b had N w (.returned (.bool false)) w') := fun W hW => by
        have hWw : Below w.heap.size w W := then_ K1.out.1 hW
        refine (fail_any B p en st pl 5 W (H0.out.tch hWw).1 (by decide)).mono ?_
        rintro e w' ⟨he, h1, hr⟩
        refine ⟨he, .inr ⟨rfl, (H0.out.tch hWw).2.2.2.2.trans (TCh.of hr), _, h1, (H0.out.tch hWw).2.1.on hr, .inr ⟨i, hi, HY.out, HT.out, by rw [HPL.out]⟩⟩⟩
      clear htw hv hpl2 HST HV HPL K1 H0 cf c0 c1 TR0
      go_wp2_with fail
      go_region_law (first
        | (go_simp; go_at_call 142; refine (HE.out _ (by first | exact (Below.refl _ _).drew | exact Below.refl _ _)).mono ?_; rintro e w2 ⟨he, hb2⟩; subst he; have K2 : Hid (Below w1.heap.size w1 w2) := then_ (Below.refl _ _).drew hb2; have x0 := (hb2.cell (p := ⟨w.heap.size, 0, none⟩) tbl).trans tb0; have x1 := (hb2.cell (p := ⟨q, 0, none⟩) ql1).trans q0; have x2 : w.heap.size < w2.heap.size := Nat.lt_of_lt_of_le tbl hb2.size; have x3 : q < w2.heap.size := Nat.lt_of_lt_of_le ql1 hb2.size; clear hb2)
        | (go_simp; go_at_call 144; refine (FA.out _ K2.out).mono ?_; rintro e w3 ⟨he, h3⟩; subst he; have FN : Hid (SaysPost B L p q en st n mN t m b had N w (.returned (.bool false)) w3) := h3; clear h3))
      all_goals
        go_wp2_with fail
        go_ret
        exact FN.out
    · have hL := H0.out.1.2.1.2.2.2.1
      have hxin : some m.xb ∈ m.bs q := by unfold TM.bs; simp
      have hxb := H0.out.2.2.2.2.1
      have hbL : L ≤ b := by rw [← hxb]; exact (hL.2.1 _ hxin).1
      have hbp : b ≠ p := by rw [← hxb]; exact H0.out.1.2.1.ne _ hxin
      have hBL := H0.out.1.2.2.2.2.2.2
      have hcb : Ch (fun k => k = b) w1 (w1.setCell ⟨b, i * 4 + 3, none⟩ (.bool true)) := (Ch.refl (fun k => k = b) w1).setCell (b := b) (o := i * 4 + 3) (.inl rfl) _
      have P2 : Hid (RS B (w1.setCell ⟨b, i * 4 + 3, none⟩ (.bool true)) p en (.ok (t0 :: r0)) ∧ TK L (w1.setCell ⟨b, i * 4 + 3, none⟩ (.bool true)) q p t m ∧ ClAt (w1.setCell ⟨b, i * 4 + 3, none⟩ (.bool true)) b q (standF stood i) ∧ TCh p L w (w1.setCell ⟨b, i * 4 + 3, none⟩ (.bool true)) ∧ Bx (w1.setCell ⟨b, i * 4 + 3, none⟩ (.bool true)) w.heap.size [.pointer (some ⟨q, 0, none⟩)]) := by
        have h1 := H0.out.tch K1.out.1
        refine ⟨?_, ?_, h1.2.2.1.stand hi, h1.2.2.2.2.trans (TCh.own (hcb.mono fun k _ e => by have e : k = b := e; omega) hL.2.2.1 h1.1.lt), K1.out.2.set (by omega)⟩
        · have := h1.1
          rw [HS.out.1] at this
          exact this.ch hcb (fun k hk => by have hk : k = b := hk; omega) (fun e => hbp (show p = b from e).symm)
        · have := h1.2.1.stand (i * 4 + 3) (.bool true)
          rw [hxb] at this
          exact this
      have nbz : ¬ b = w.heap.size := by omega
      have nzb : ¬ w.heap.size = b := by omega
      have nbq : ¬ b = q := fun e => by rw [← hxb] at e; exact H0.out.1.2.1.2.2.2.1.1.ne (i := 6) (j := 0) rfl rfl (by decide) e
      have nqb : ¬ q = b := fun e => nbq e.symm
      have HN : Hid (¬ (onceN i = true ∧ wordN i ∈ had)) := fun g => htw ⟨g.1, HST.out.trans (decide_eq_true g.2)⟩
      have HBB : Hid (m.xb = b ∧ L ≤ b ∧ b ≠ p ∧ B ≤ L) := ⟨hxb, hbL, hbp, hBL⟩
      clear hL hxin hxb hbL hbp hBL hcb K1 TR0
      have main : ∀ (oo ss : Bool), (oo && ss) = false → w1.cell? ⟨b, i * 4 + 2, none⟩ = some (.bool oo) → w1.cell? ⟨b, i * 4 + 3, none⟩ = some (.bool ss) → True := fun _ _ _ _ _ => trivial
      clear main
      rcases (show onceN i = false ∨ (onceN i = true ∧ stood i = false) by cases h1 : onceN i <;> cases h2 : stood i <;> simp_all) with ho | ⟨ho, hs⟩
      · rw [ho] at c2
        clear htw
        go_wp2_with fail
        refine (step_any B p en t0 r0 _ P2.out.1).mono ?_
        rintro e w3 ⟨he, h3, hr3⟩
        subst he
        have T3 : Hid (RS B w3 p en (.ok r0) ∧ TK L w3 q p t m ∧ ClAt w3 b q (standF stood i) ∧ TCh p L w w3 ∧ Bx w3 w.heap.size [.pointer (some ⟨q, 0, none⟩)]) := ⟨h3, P2.out.2.1.on hr3, P2.out.2.2.1.keep (hr3.1.block b P2.out.2.2.1.2.2 HBB.out.2.2.1) hr3.1.size, P2.out.2.2.2.1.trans (TCh.of hr3), P2.out.2.2.2.2.ch hr3.1 (by show ¬ w.heap.size = p; omega)⟩
        have PR : Hid (TPre B L w3 p q en (.ok r0) n mN t m) := by
          have h0 := H0.out.pre HS.out.1
          exact ⟨T3.out.1, T3.out.2.1, h0.2.2.1.go T3.out.2.2.2.1, h0.2.2.2⟩
        have y1 : w3.cell? ⟨b, i * 4 + 1, none⟩ = some (fnV q i) := (T3.out.2.2.1.1 i hi).2.1
        have yl : b < w3.heap.size := T3.out.2.2.1.2.2
        clear h3 hr3 P2 c0 c1 c2 c3 cf cl tb0 tbl q0 ql1
        go_upto_region 9 with fail
        go_cut [] from 6 (fun wr => Hid (TPost B L p q en (.ok r0) n t m (bodyN n t i) w3 (.returned (.tuple #[])) wr))
        case first =>
          have CC : Hid (Calls Tryz.prog (fnN i) #[.pointer (some ⟨q, 0, none⟩)] w3 (TPost B L p q en (.ok r0) n t m (bodyN n t i) w3)) := clause_call B L p q en (.ok r0) n mN t m w3 PR.out i hi
          clear PR T3 H0 HY HS HST HN HBB
          have h9 : i = 0 ∨ i = 1 ∨ i = 2 ∨ i = 3 ∨ i = 4 ∨ i = 5 ∨ i = 6 ∨ i = 7 ∨ i = 8 := by omega
          rcases h9 with rfl | rfl | rfl | rfl | rfl | rfl | rfl | rfl | rfl
          all_goals
            simp only [Nat.reduceMul, Nat.reduceAdd, fnV, fnN] at y1
            go_wp2_with fail
            refine CC.out.mono ?_
            rintro e w4 h4
            obtain ⟨he, h4'⟩ := h4
            subst he
            have FN : Hid (TPost B L p q en (.ok r0) n t m _ w3 (.returned (.tuple #[])) w4) := ⟨rfl, h4'⟩
            clear h4' CC
            go_wp2_with fail
            go_meet
            case rel => exact FN
        case rest =>
          generalize hwx : wc = w4 at *
          clear hwx wc y1 yl PR
          obtain ⟨-, t', m', s4, h4, k4, tc4, R4, ta4, tl4, tb4⟩ := hcut.out
          have hcl4 : ClAt w4 b q (standF stood i) := by
            refine T3.out.2.2.1.keep (tb4.1.block b T3.out.2.2.1.2.2 fun e => ?_) tb4.1.size
            rcases e with e | e
            · exact HBB.out.2.2.1 e
            · exact e.2 HBB.out.1.symm
          have hbz4 : Bx w4 w.heap.size [.pointer (some ⟨q, 0, none⟩)] := T3.out.2.2.2.2.ch tb4.1 (fun e => by
            rcases e with e | e
            · omega
            · have := (H0.out.1.2.1.2.2.2.1.2.1 _ e.1).2; omega)
          have K4 : Hid (RS B w4 p en s4 ∧ TK L w4 q p t' m' ∧ ClAt w4 b q (standF stood i) ∧ TCh p L w w4 ∧ Res en (.ok r0) (bodyN n t i) s4 (fun u => u = t') ∧ (∀ z, s4 = .ok z → TA t' m') ∧ TLen t t' ∧ m'.xb = b) := ⟨h4, k4, hcl4, T3.out.2.2.2.1.trans tc4, R4, ta4, tl4, tb4.2.2.trans HBB.out.1⟩
          have x0 : w4.cell? ⟨w.heap.size, 0, none⟩ = some (.pointer (some ⟨q, 0, none⟩)) := hbz4.1 0
          have xl : w.heap.size < w4.heap.size := hbz4.2.2
          have x1 : w4.cell? ⟨q, 0, none⟩ = some (.pointer (some ⟨p, 0, none⟩)) := k4.1.1 0
          have xq : q < w4.heap.size := k4.1.2.2
          clear h4 k4 tc4 R4 ta4 tl4 tb4 hcl4 hbz4 hcut T3
          go_wp2_with fail
          refine (must_l B p en s4 _ [59] w4 K4.out.1 rfl (by decide)).mono ?_
          rintro e w5 ⟨he, s5, h5, hr5, R5⟩
          subst he
          have FN : Hid (SaysPost B L p q en st n mN t m b had N w (.returned (.bool true)) w5) := by
            obtain ⟨j1, j2, j3, j4, j5, j6, j7, j8⟩ := K4.out
            have hres : Res en st (clauseP n had t) s5 fun u => u = t' := clause_res hi HY.out HN.out (by rw [HS.out.2]; exact j5) R5
            have hrl0 : restLen w p = r0.length + 1 := by have := restLen_ok (HS.out.1 ▸ H0.out.1.1); simpa using this
            have hrl : restLen w5 p ≤ r0.length := rest_of h5 fun z hz => by
              obtain ⟨z1, e1, l1⟩ := alive_back R5 hz
              obtain ⟨z2, e2, l2⟩ := alive_back j5 e1
              injection e2 with e2
              subst e2
              omega
            have tc := j4.trans (TCh.of hr5)
            obtain ⟨b1, b2, b3, b4⟩ := H0.out.2.1
            obtain ⟨l1, l2, l3, l4, l5⟩ := j7
            refine .inl ⟨rfl, tc, t', m', s5, standF stood i, i, hi, HY.out, ⟨⟨h5, j2.on hr5, H0.out.1.2.2.1.go tc, H0.out.1.2.2.2.1, fun z hz => ?_, H0.out.1.2.2.2.2.2⟩, ⟨by omega, by omega, by omega, by omega⟩, H0.out.2.2.1, j3.keep (hr5.1.block b j3.2.2 HBB.out.2.2.1) hr5.1.size, j8, fun j hj => ?_⟩, hres, by omega, l5⟩
            · obtain ⟨z1, e1, _⟩ := alive_back R5 hz
              exact j6 z1 e1
            · unfold standF
              by_cases e : j = i
              · subst e; rw [if_pos rfl]; exact (decide_eq_true (by simp)).symm
              · rw [if_neg e, H0.out.2.2.2.2.2 j hj]
                have : (wordN j ∈ wordN i :: had) ↔ (wordN j ∈ had) := by
                  rw [List.mem_cons]
                  exact ⟨fun g => by rcases g with g | g; exact absurd (word_inj j hj i hi g) e; exact g, .inr⟩
                exact decide_eq_decide.2 this.symm
          clear h5 hr5 R5 K4 H0 HY HS HST HN HBB
          go_wp2_with fail
          go_ret
          exact FN.out
      · rw [ho] at c2
        rw [hs] at c3
        clear htw
        go_wp2_with fail
        refine (step_any B p en t0 r0 _ P2.out.1).mono ?_
        rintro e w3 ⟨he, h3, hr3⟩
        subst he
        have T3 : Hid (RS B w3 p en (.ok r0) ∧ TK L w3 q p t m ∧ ClAt w3 b q (standF stood i) ∧ TCh p L w w3 ∧ Bx w3 w.heap.size [.pointer (some ⟨q, 0, none⟩)]) := ⟨h3, P2.out.2.1.on hr3, P2.out.2.2.1.keep (hr3.1.block b P2.out.2.2.1.2.2 HBB.out.2.2.1) hr3.1.size, P2.out.2.2.2.1.trans (TCh.of hr3), P2.out.2.2.2.2.ch hr3.1 (by show ¬ w.heap.size = p; omega)⟩
        have PR : Hid (TPre B L w3 p q en (.ok r0) n mN t m) := by
          have h0 := H0.out.pre HS.out.1
          exact ⟨T3.out.1, T3.out.2.1, h0.2.2.1.go T3.out.2.2.2.1, h0.2.2.2⟩
        have y1 : w3.cell? ⟨b, i * 4 + 1, none⟩ = some (fnV q i) := (T3.out.2.2.1.1 i hi).2.1
        have yl : b < w3.heap.size := T3.out.2.2.1.2.2
        clear h3 hr3 P2 c0 c1 c2 c3 cf cl tb0 tbl q0 ql1
        go_upto_region 9 with fail
        go_cut [] from 6 (fun wr => Hid (TPost B L p q en (.ok r0) n t m (bodyN n t i) w3 (.returned (.tuple #[])) wr))
        case first =>
          have CC : Hid (Calls Tryz.prog (fnN i) #[.pointer (some ⟨q, 0, none⟩)] w3 (TPost B L p q en (.ok r0) n t m (bodyN n t i) w3)) := clause_call B L p q en (.ok r0) n mN t m w3 PR.out i hi
          clear PR T3 H0 HY HS HST HN HBB
          have h9 : i = 0 ∨ i = 1 ∨ i = 2 ∨ i = 3 ∨ i = 4 ∨ i = 5 ∨ i = 6 ∨ i = 7 ∨ i = 8 := by omega
          rcases h9 with rfl | rfl | rfl | rfl | rfl | rfl | rfl | rfl | rfl
          all_goals
            simp only [Nat.reduceMul, Nat.reduceAdd, fnV, fnN] at y1
            go_wp2_with fail
            refine CC.out.mono ?_
            rintro e w4 h4
            obtain ⟨he, h4'⟩ := h4
            subst he
            have FN : Hid (TPost B L p q en (.ok r0) n t m _ w3 (.returned (.tuple #[])) w4) := ⟨rfl, h4'⟩
            clear h4' CC
            go_wp2_with fail
            go_meet
            case rel => exact FN
        case rest =>
          generalize hwx : wc = w4 at *
          clear hwx wc y1 yl PR
          obtain ⟨-, t', m', s4, h4, k4, tc4, R4, ta4, tl4, tb4⟩ := hcut.out
          have hcl4 : ClAt w4 b q (standF stood i) := by
            refine T3.out.2.2.1.keep (tb4.1.block b T3.out.2.2.1.2.2 fun e => ?_) tb4.1.size
            rcases e with e | e
            · exact HBB.out.2.2.1 e
            · exact e.2 HBB.out.1.symm
          have hbz4 : Bx w4 w.heap.size [.pointer (some ⟨q, 0, none⟩)] := T3.out.2.2.2.2.ch tb4.1 (fun e => by
            rcases e with e | e
            · omega
            · have := (H0.out.1.2.1.2.2.2.1.2.1 _ e.1).2; omega)
          have K4 : Hid (RS B w4 p en s4 ∧ TK L w4 q p t' m' ∧ ClAt w4 b q (standF stood i) ∧ TCh p L w w4 ∧ Res en (.ok r0) (bodyN n t i) s4 (fun u => u = t') ∧ (∀ z, s4 = .ok z → TA t' m') ∧ TLen t t' ∧ m'.xb = b) := ⟨h4, k4, hcl4, T3.out.2.2.2.1.trans tc4, R4, ta4, tl4, tb4.2.2.trans HBB.out.1⟩
          have x0 : w4.cell? ⟨w.heap.size, 0, none⟩ = some (.pointer (some ⟨q, 0, none⟩)) := hbz4.1 0
          have xl : w.heap.size < w4.heap.size := hbz4.2.2
          have x1 : w4.cell? ⟨q, 0, none⟩ = some (.pointer (some ⟨p, 0, none⟩)) := k4.1.1 0
          have xq : q < w4.heap.size := k4.1.2.2
          clear h4 k4 tc4 R4 ta4 tl4 tb4 hcl4 hbz4 hcut T3
          go_wp2_with fail
          refine (must_l B p en s4 _ [59] w4 K4.out.1 rfl (by decide)).mono ?_
          rintro e w5 ⟨he, s5, h5, hr5, R5⟩
          subst he
          have FN : Hid (SaysPost B L p q en st n mN t m b had N w (.returned (.bool true)) w5) := by
            obtain ⟨j1, j2, j3, j4, j5, j6, j7, j8⟩ := K4.out
            have hres : Res en st (clauseP n had t) s5 fun u => u = t' := clause_res hi HY.out HN.out (by rw [HS.out.2]; exact j5) R5
            have hrl0 : restLen w p = r0.length + 1 := by have := restLen_ok (HS.out.1 ▸ H0.out.1.1); simpa using this
            have hrl : restLen w5 p ≤ r0.length := rest_of h5 fun z hz => by
              obtain ⟨z1, e1, l1⟩ := alive_back R5 hz
              obtain ⟨z2, e2, l2⟩ := alive_back j5 e1
              injection e2 with e2
              subst e2
              omega
            have tc := j4.trans (TCh.of hr5)
            obtain ⟨b1, b2, b3, b4⟩ := H0.out.2.1
            obtain ⟨l1, l2, l3, l4, l5⟩ := j7
            refine .inl ⟨rfl, tc, t', m', s5, standF stood i, i, hi, HY.out, ⟨⟨h5, j2.on hr5, H0.out.1.2.2.1.go tc, H0.out.1.2.2.2.1, fun z hz => ?_, H0.out.1.2.2.2.2.2⟩, ⟨by omega, by omega, by omega, by omega⟩, H0.out.2.2.1, j3.keep (hr5.1.block b j3.2.2 HBB.out.2.2.1) hr5.1.size, j8, fun j hj => ?_⟩, hres, by omega, l5⟩
            · obtain ⟨z1, e1, _⟩ := alive_back R5 hz
              exact j6 z1 e1
            · unfold standF
              by_cases e : j = i
              · subst e; rw [if_pos rfl]; exact (decide_eq_true (by simp)).symm
              · rw [if_neg e, H0.out.2.2.2.2.2 j hj]
                have : (wordN j ∈ wordN i :: had) ↔ (wordN j ∈ had) := by
                  rw [List.mem_cons]
                  exact ⟨fun g => by rcases g with g | g; exact absurd (word_inj j hj i hi g) e; exact g, .inr⟩
                exact decide_eq_decide.2 this.symm
          clear h5 hr5 R5 K4 H0 HY HS HST HN HBB
          go_wp2_with fail
          go_ret
          exact FN.out
end Go.Proofs.YtjcanodnlnodpaaGreatDoor.Parse
