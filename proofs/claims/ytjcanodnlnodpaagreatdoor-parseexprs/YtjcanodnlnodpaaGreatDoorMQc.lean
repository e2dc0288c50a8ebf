/- Contracts and plain mathematics, together: ParQ11, ParQ12. -/
import Derived.Test.YtjcanodnlnodpaaGreatDoorMQb
import Derived.Test.YtjcanodnlnodpaaGreatDoorMCalc
import Derived.Test.YtjcanodnlnodpaaGreatDoorMGroP
/- The document's own parser: expressions, of any depth: contracts of the calls, over the turned program. -/
namespace Go.Proofs.YtjcanodnlnodpaaGreatDoor.Parse
open Go.RowKit Go.Maps Go.Proofs.YtjcanodnlnodpaaGreatDoor.Frame Go.Proofs.YtjcanodnlnodpaaGreatDoor.Token Go.Proofs.YtjcanodnlnodpaaGreatDoor.Expr Go.Proofs.YtjcanodnlnodpaaGreatDoor.Calc
set_option linter.unusedVariables false
set_option linter.unusedSimpArgs false

def remQ (w : World) (p n : Nat) : Nat := match w.cell? ⟨p, 3, none⟩, w.cell? ⟨p, 1, none⟩ with | some (.int _ e), some (.int _ k) => if e = 0 then 1 + (n - k.toNat) else 0 | _, _ => 0
theorem remQ_ok {B : Nat} {w : World} {p : Nat} {en : Int} {l r : List TI} (h : QS B w p en l (.ok r)) : remQ w p l.length = 1 + r.length := by
  obtain ⟨_, a, c, k, er, pl, hq, hT, hz, e1, e2⟩ := h
  unfold remQ
  rw [hq.2.2.2.1, hq.2.1]
  show (if er = 0 then 1 + (l.length - (k : Int).toNat) else 0) = _
  rw [if_pos e1, e2, List.length_drop, Int.toNat_natCast]
theorem remQ_dead {B : Nat} {w : World} {p : Nat} {en : Int} {l : List TI} {e : Int × Int} (h : QS B w p en l (.error e)) : remQ w p l.length = 0 := by
  obtain ⟨_, a, c, k, er, pl, hq, hT, hz, e1, e2, e3⟩ := h
  unfold remQ
  rw [hq.2.2.2.1, hq.2.1]
  show (if er = 0 then _ else 0) = _
  rw [if_neg (by rw [e1]; exact e3)]
theorem qch_up {p : Nat} {w W W' : World} {M : Nat → Prop} (h1 : QCh p w W) (hc : Ch M W W') (hM : ∀ b, M b → w.heap.size ≤ b) (hp : p < w.heap.size) : QCh p w W' := by
  have hpb := hc.block p (Nat.lt_of_lt_of_le hp h1.1.size) (fun g => by have := hM p g; omega)
  exact ⟨⟨hc.os.trans h1.1.os, hc.tape.trans h1.1.tape, hc.output.trans h1.1.output, Nat.le_trans h1.1.size hc.size, fun k hk hm => (hc.block k (Nat.lt_of_lt_of_le hk h1.1.size) (fun g => by have := hM k g; omega)).trans (h1.1.block k hk hm)⟩, fun o => ⟨fun ho => (cell_of_block hpb o).trans ((h1.2 o).1 ho), (frozen_of_block hpb o).trans (h1.2 o).2⟩⟩
theorem Cq.ch {B p : Nat} {en : Int} {l : List TI} {st : St} {names : List (List UInt8)} {w W W' : World} {M : Nat → Prop} (h : Cq B p en l st names w W) (hn : QN p w names) (hc : Ch M W W') (hM : ∀ b, M b → w.heap.size + 1 ≤ b) : Cq B p en l st names w W' := by
  have hp := h.1.2.2.2.1
  have hB := h.1.1.1.1
  have hq := qch_up h.1.2.2.1 hc (fun b g => by have := hM b g; omega) hp
  exact ⟨⟨h.1.1.ch hc (fun b g => by have := hM b g; omega) (fun g => by have := hM _ g; omega), hn.on hq, hq, hp, Nat.le_trans h.1.2.2.2.2 hc.size⟩, h.2.1.ch hc (fun g => by have := hM _ g; omega), Nat.le_trans h.2.2 hc.size⟩
def LQ (B p d Q : Nat) (en : Int) (l : List TI) (names : List (List UInt8)) (s : Int) (e0 : Ex) (st : St) (w wr : World) (t : Ex) (a : Option Addr) (c : Nat) (st' : St) : Prop :=
  Cq B p en l st' names w wr ∧ XG (fun b _ => w.heap.size + 1 ≤ b ∧ b ≠ Q) wr t a ∧ Bx wr Q [.int .i64 t.kind, .int .i64 t.num, .slice a t.kids.length c] ∧
    (∀ stf tf, Res en st' (peR names 2 s d t) stf (fun u => u = tf) → Res en st (peR names 1 s d e0) stf (fun u => u = tf)) ∧ ∀ r, st' = .ok r → ¬ 40 < d
def L4Q (B p d Q : Nat) (en : Int) (l : List TI) (names : List (List UInt8)) (op : Int) (t : Ex) (a : Option Addr) (c : Nat) (r0 : List TI) (w w4 : World) (t2 : Ex) (a2 : Option Addr) (c2 : Nat) (s2 : St) : Prop :=
  Cq B p en l s2 names w w4 ∧ XG (fun b _ => w.heap.size + 1 ≤ b ∧ b ≠ Q) w4 t a ∧ XG (fun b _ => w.heap.size + 1 ≤ b ∧ b ≠ Q) w4 t2 a2 ∧ Bx w4 Q [.int .i64 t.kind, .int .i64 t.num, .slice a t.kids.length c] ∧ Res en (.ok r0) (peR names 1 (strengthF op) (d + 1) t) s2 fun u => u = t2
theorem lq_next {B p d Q : Nat} {l : List TI} {names : List (List UInt8)} {s en op : Int} {e0 t t2 : Ex} {a a2 : Option Addr} {c c2 : Nat} {st s2 : St} {t0 : TI} {r0 : List TI} {w w4 : World}
    (h4 : L4Q B p d Q en l names op t a c r0 w w4 t2 a2 c2 s2) (hn : QN p w names) (hQ : w.heap.size + 1 ≤ Q) (ho : op = signS (.ok (t0 :: r0))) (ho0 : op ≠ 0) (hs : s < strengthF op) (hi : In64 op) (hd : ¬ 40 < d)
    (hch : ∀ stf tf, Res en (.ok (t0 :: r0)) (peR names 2 s d t) stf (fun u => u = tf) → Res en st (peR names 1 s d e0) stf (fun u => u = tf)) (o2 : Obj) (W' : World)
    (hW' : W' = ((((w4.setCell ⟨Q, 0, none⟩ (.int .i64 5)).setCell ⟨Q, 1, none⟩ (.int .i64 op)).setCell ⟨Q, 2, none⟩ (.slice (some ⟨w4.heap.size + 1, 0, none⟩) 2 2)).alloc o2).alloc (kids2 t t2 a a2 c c2)) :
    LQ B p d Q en l names s e0 st w W' ⟨5, op, [t, t2]⟩ (some ⟨w4.heap.size + 1, 0, none⟩) 2 s2 ∧ remQ W' p l.length < 1 + (r0.length + 1) := by
  obtain ⟨g1, g3, g4, g5, g6⟩ := h4
  have hQ4 : Q < w4.heap.size := g5.2.2
  obtain ⟨w5, hw5⟩ : ∃ w5, w5 = ((w4.setCell ⟨Q, 0, none⟩ (.int .i64 5)).setCell ⟨Q, 1, none⟩ (.int .i64 op)).setCell ⟨Q, 2, none⟩ (.slice (some ⟨w4.heap.size + 1, 0, none⟩) 2 2) := ⟨_, rfl⟩
  have hz5 : w5.heap.size = w4.heap.size := by rw [hw5]; simp
  have hc : Ch (fun x => x = Q) w4 w5 := by
    rw [hw5]
    exact (((Ch.refl (fun x => x = Q) w4).setCell (b := Q) (o := 0) (.inl rfl) (.int .i64 5)).setCell (b := Q) (o := 1) (.inl rfl) (.int .i64 op)).setCell (b := Q) (o := 2) (.inl rfl) (.slice (some ⟨w4.heap.size + 1, 0, none⟩) 2 2)
  have hB5 : Bx w5 Q [.int .i64 5, .int .i64 op, .slice (some ⟨w4.heap.size + 1, 0, none⟩) 2 2] := by
    have q0 : (w4.setCell ⟨Q, 0, none⟩ (.int .i64 5)).cell? ⟨Q, 1, none⟩ = _ := (cell_set_ne (by omega)).trans (g5.1 1)
    have q1 : ((w4.setCell ⟨Q, 0, none⟩ (.int .i64 5)).setCell ⟨Q, 1, none⟩ (.int .i64 op)).cell? ⟨Q, 2, none⟩ = _ := (cell_set_ne (by omega)).trans ((cell_set_ne (by omega)).trans (g5.1 2))
    refine ⟨fun j => ?_, fun j => by rw [hw5]; simpa using g5.2.1 j, Nat.lt_of_lt_of_le g5.2.2 hc.size⟩
    rw [hw5]
    match j with
    | 0 => exact (cell_set_ne (by omega)).trans ((cell_set_ne (by omega)).trans (cell_set_eq (g5.1 0)))
    | 1 => exact (cell_set_ne (by omega)).trans (cell_set_eq q0)
    | 2 => exact cell_set_eq q1
    | j + 3 =>
      refine (cell_set_ne (by omega)).trans ((cell_set_ne (by omega)).trans ((cell_set_ne (by omega)).trans ((g5.1 (j + 3)).trans ?_)))
      simp
  rw [← hw5] at hW'
  have hal : Below w5.heap.size w5 W' := by rw [hW']; exact ((Below.refl _ _).alloc (Nat.le_refl _) _).alloc (by simp) _
  have hnew : Bx W' (w4.heap.size + 1) [.int .i64 t.kind, .int .i64 t.num, .slice a t.kids.length c, .int .i64 t2.kind, .int .i64 t2.num, .slice a2 t2.kids.length c2] := by
    have := Bx.new (w5.alloc o2) #[.int .i64 t.kind, .int .i64 t.num, .slice a t.kids.length c, .int .i64 t2.kind, .int .i64 t2.num, .slice a2 t2.kids.length c2] 40
    rw [hW']
    simpa [hz5] using this
  have hCq : Cq B p en l s2 names w W' := (g1.ch hn hc (fun b g => by subst g; exact hQ)).below hal
  have x3 : XG (fun b _ => w.heap.size + 1 ≤ b ∧ b ≠ Q) W' t a := XG.below (g3.carry fun b off o hb v hv => hc.cell (fun e => hb.2 e) hv) hal
  have x4 : XG (fun b _ => w.heap.size + 1 ≤ b ∧ b ≠ Q) W' t2 a2 := XG.below (g4.carry fun b off o hb v hv => hc.cell (fun e => hb.2 e) hv) hal
  have hx5 : XG (fun b _ => w.heap.size + 1 ≤ b ∧ b ≠ Q) W' ⟨5, op, [t, t2]⟩ (some ⟨w4.heap.size + 1, 0, none⟩) :=
    xg_two ⟨by decide, by decide⟩ hi ⟨by have := g1.2.2; omega, by omega⟩ x3 x4 hnew
  refine ⟨⟨hCq, hx5, hB5.below hal, fun stf tf hr => hch stf tf ?_, fun _ _ => hd⟩, ?_⟩
  · subst ho
    exact op_res ho0 hs g6 hr
  · cases s2 with
    | error e => rw [remQ_dead hCq.1.1]; omega
    | ok r => rw [remQ_ok hCq.1.1]; have := (res_suf g6).length_le; omega

set_option maxRecDepth 100000 in
set_option maxHeartbeats 8000000 in
theorem rexpr_step (B p d : Nat) (names : List (List UInt8)) (hN : names.length ≤ 3000000) (s : Int) (e0 : Ex) (en : Int) (l : List TI) (st : St) (w : World) (h : QS B w p en l st) (hn : QN p w names) (hd41 : d ≤ 41)
    (hU : ∀ W s', QS B W p en l s' → QN p W names → Calls Tryz.prog 102 #[ptr p, .int .i64 d] W (QPost B p en l s' (peR names 0 s d e0) W))
    (hE : ¬ 40 < d → ∀ W s' e' (o : Int), 1 ≤ o → o ≤ 11 → QS B W p en l s' → QN p W names → Calls Tryz.prog 51 #[ptr p, .int .i64 (strengthF o), .int .i64 ((d : Int) + 1)] W (QPost B p en l s' (peR names 1 (strengthF o) (d + 1) e') W)) :
    Calls Tryz.prog 51 #[ptr p, .int .i64 s, .int .i64 d] w (QPost B p en l st (peR names 1 s d e0) w) := by
  have hp := h.1.2
  have HU : Hid (∀ W s', QS B W p en l s' → QN p W names → Calls Tryz.prog 102 #[.pointer (some ⟨p, 0, none⟩), .int .i64 d] W (QPost B p en l s' (peR names 0 s d e0) W)) := hU
  have HE : Hid (¬ 40 < d → ∀ W s' e' (o : Int), 1 ≤ o → o ≤ 11 → QS B W p en l s' → QN p W names → Calls Tryz.prog 51 #[.pointer (some ⟨p, 0, none⟩), .int .i64 (strengthF o), .int .i64 ((d : Int) + 1)] W (QPost B p en l s' (peR names 1 (strengthF o) (d + 1) e') W)) := hE
  have HNw : Hid (QN p w names) := hn
  obtain ⟨W0, hW⟩ : ∃ W0, W0 = w.alloc (.cells #[.int .i64 0, .int .i64 0, .slice none 0 0] 40) := ⟨_, rfl⟩
  have H0 : Hid (Cq B p en l st names w W0) := by rw [hW]; exact Cq.start h hn
  have HW : Hid (W0 = _) := hW
  clear h hn hW hU hE
  unfold ptr
  go_enter Tryz.func51, Tryz.ntmps51
  go_wp2_with fail
  rw [← HW.out]
  clear HW
  refine (HU.out W0 st H0.out.1.1 H0.out.1.2.1).mono ?_
  rintro e w1 ⟨t1, a1, c1, s1, he, hx1, h1, hr1, r1⟩
  subst he
  have hC1 : Cq B p en l s1 names w w1 := H0.out.to h1 hr1
  have hsz := H0.out.2.2
  have I0 : Hid (LQ B p d w1.heap.size en l names s e0 st w (w1.alloc (.cells #[.int .i64 t1.kind, .int .i64 t1.num, .slice a1 t1.kids.length c1] 40)) t1 a1 c1 s1) := by
    refine ⟨hC1.below ((Below.refl _ _).alloc (Nat.le_refl _) _), ?_, Bx.new w1 #[.int .i64 t1.kind, .int .i64 t1.num, .slice a1 t1.kids.length c1] _, fun stf tf hr => ?_, fun r hr => ?_⟩
    · exact XG.below (hx1.lt2.mono fun b _ hb => ⟨by omega, by omega⟩) ((Below.refl _ _).alloc (Nat.le_refl _) _)
    · exact (Res.bind (g := fun u r => peR names 2 s d u r) r1 (fun u hu => by subst hu; exact hr) (fun e he => hr.dead he)).congr fun r => (peR_1 names s d e0 r).symm
    · subst hr; exact live_depth r1
  have hQ : w.heap.size + 1 ≤ w1.heap.size := hC1.2.2
  clear hC1 h1 hr1 r1 hx1 H0 HU
  go_wp2_with fail
  generalize hQw : w1.heap.size = Q at *
  go_loopw [] (fun wr => ∃ t a c st', Hid (LQ B p d Q en l names s e0 st w wr t a c st')) (fun wr => remQ wr p l.length)
  case atStart => exact ⟨t1, a1, c1, s1, I0⟩
  case round =>
    obtain ⟨t, a, c, st', hI⟩ := hrel
    clear I0
    obtain ⟨er, h3, hs3⟩ := hI.out.1.1.1.er
    have hpw := hI.out.1.1.1.1.2
    have n1 : ¬ Q = w.heap.size := by omega
    have n2 : ¬ w.heap.size = Q := by omega
    cases st' with
    | error x =>
      have hne : (er == 0) = false := by
        rcases hs3 with ⟨x, _, hx⟩ | ⟨r, hx, _⟩
        · simpa using hx
        · cases hx
      have RR : Hid (Res en st (peR names 1 s d e0) (.error x) fun u => u = t) := hI.out.2.2.2.1 _ t (op_end fun g => g.1 rfl)
      have hx2 : XG (fun b _ => w.heap.size + 1 ≤ b) wr t a := hI.out.2.1.mono fun b _ hb => hb.1
      have FN : Hid (∀ v0 v1 v2 : Value, _) := fun v0 v1 v2 => hI.out.1.fin hx2 v0 v1 v2
      obtain ⟨q0, q1, q2, ql⟩ := hI.out.2.2.1.three
      obtain ⟨g0, g1, g2, gl⟩ := hI.out.1.2.1.three
      obtain ⟨f0, f1, f2⟩ := hI.out.1.2.1.fr
      clear hs3 hx2 hI HE HNw
      go_wp2_with fail
      refine bodyPost_ret (v := xV t a c) ?_ rfl ⟨t, a, c, .error x, rfl, (FN.out _ _ _).1, (FN.out _ _ _).2.1, (FN.out _ _ _).2.2, RR.out⟩
      simp [results, Tryz.results51, go_sem, g0, g1, g2]
    | ok r =>
      have hne : er = 0 := by
        rcases hs3 with ⟨x, hx, _⟩ | ⟨r, _, hx⟩
        · cases hx
        · exact hx
      subst hne
      clear hs3
      obtain ⟨op, hop⟩ : ∃ op, op = signS (.ok r) := ⟨_, rfl⟩
      have HO : Hid (op = signS (.ok r)) := hop
      obtain ⟨o1, o2⟩ := sign_in (.ok r)
      rw [← hop] at o1 o2
      obtain ⟨z, hz⟩ : ∃ z, z = strengthF op := ⟨_, rfl⟩
      have HZ : Hid (strengthF op = z) := hz.symm
      obtain ⟨z1, z2⟩ := strength_in op
      rw [← hz] at z1 z2
      obtain ⟨T, hT⟩ : ∃ T, T = str (peekS (.ok r)) := ⟨_, rfl⟩
      have CP : Hid (∀ W, QS B W p en l (.ok r) → Calls Tryz.prog 37 #[.pointer (some ⟨p, 0, none⟩)] W fun e w' => e = .returned (.string T) ∧ Below W.heap.size W w') := fun W hW => by rw [hT]; exact rpeek_any B p en l (.ok r) W hW
      have CO : Hid (∀ W, Calls Tryz.prog 103 #[.string T] W fun e w' => e = .returned (.tuple #[.int .i64 op, .bool (decide (op ≠ 0))]) ∧ Below W.heap.size W w') := fun W => by
        have := rop_any T W
        rw [hT, opF_list] at this
        rw [hop, hT]
        exact this
      have CS : Hid (∀ W, Calls Tryz.prog 104 #[.int .i64 op] W fun e w' => e = .returned (.int .i64 z) ∧ Below W.heap.size W w') := fun W => by rw [hz]; exact rstrength_any op W
      clear hop hz hT
      by_cases hyes : op ≠ 0 ∧ s < z
      · obtain ⟨hy1, hy2⟩ := hyes
        have hbo : decide (op ≠ 0) = true := decide_eq_true hy1
        have hlt : ¬ z ≤ s := by omega
        rw [hbo] at CO
        have HY : Hid (op ≠ 0) := hy1
        have HY2 : Hid (s < z) := hy2
        clear hbo hy1 hy2
        go_wp2_with fail
        refine (CP.out wr hI.out.1.1.1).mono ?_
        rintro e w2 ⟨he, hb2⟩
        subst he
        go_wp2_with fail
        refine (CO.out w2).mono ?_
        rintro e w3 ⟨he, hb3⟩
        subst he
        go_wp2_with fail
        refine (CS.out w3).mono ?_
        rintro e w4 ⟨he, hb4⟩
        subst he
        have hbb : Below wr.heap.size wr w4 := then_ (then_ hb2 hb3) hb4
        obtain ⟨t0, r0, hst⟩ := sign_live (st := .ok r) (by rw [← HO.out]; exact HY.out)
        have hst : r = t0 :: r0 := by injection hst
        subst hst
        have hd40 : ¬ 40 < d := hI.out.2.2.2.2 _ rfl
        have H4 : Hid (Cq B p en l (.ok (t0 :: r0)) names w w4) := hI.out.1.below hbb
        have X4 : Hid (XG (fun b _ => w.heap.size + 1 ≤ b ∧ b ≠ Q) w4 t a) := XG.below hI.out.2.1 hbb
        have B4 : Hid (Bx w4 Q [.int .i64 t.kind, .int .i64 t.num, .slice a t.kids.length c]) := hI.out.2.2.1.below hbb
        have HI : Hid (remQ wr p l.length = 1 + (r0.length + 1) ∧ ∀ stf tf, Res en (.ok (t0 :: r0)) (peR names 2 s d t) stf (fun u => u = tf) → Res en st (peR names 1 s d e0) stf (fun u => u = tf)) := ⟨remQ_ok hI.out.1.1.1, hI.out.2.2.2.1⟩
        have o3 : 1 ≤ op := by have := HY.out; omega
        have hd4 : ¬ (40 : Int) < d := by omega
        clear hb2 hb3 hb4 hbb hI CP CO CS h3 hpw
        obtain ⟨k, ⟨k0, k1, k2, k3⟩, hC5⟩ := H4.out.on1
        obtain ⟨W5, hW5⟩ : ∃ W5, W5 = w4.setCell ⟨p, 1, none⟩ (.int .i64 ((k : Int) + 1)) := ⟨_, rfl⟩
        have H5 : Hid (Cq B p en l (.ok r0) names w W5) := by rw [hW5]; exact hC5
        have hCh5 : Ch (fun x => x = p) w4 W5 := by rw [hW5]; exact (Ch.refl (fun x => x = p) w4).setCell (b := p) (o := 1) (.inl rfl) _
        have X5 : Hid (XG (fun b _ => w.heap.size + 1 ≤ b ∧ b ≠ Q) W5 t a) := X4.out.carry fun b off o hb v hv => hCh5.cell (by show ¬ b = p; omega) hv
        have B5 : Hid (Bx W5 Q [.int .i64 t.kind, .int .i64 t.num, .slice a t.kids.length c]) := B4.out.ch hCh5 (by show ¬ Q = p; omega)
        have HW5 : Hid (W5 = _) := hW5
        have OO : Hid ((0 ≤ op ∧ op ≤ 11) ∧ 0 ≤ z ∧ z ≤ 5 ∧ 1 ≤ op) := ⟨⟨o1, o2⟩, z1, z2, o3⟩
        have k4 : k ≤ 9223372036854775806 := by omega
        clear hC5 hW5 hCh5 X4 B4 H4 o1 o2 o3 z1 z2 n1 n2 k3
        go_wp2_with fail
        rw [← HW5.out]
        clear HW5 k0 k1 k2 k4
        have CE := HE.out hd40 W5 (.ok r0) t op OO.out.2.2.2 OO.out.1.2 H5.out.1.1 H5.out.1.2.1
        rw [HZ.out] at CE
        refine CE.mono ?_
        rintro e w6 ⟨t2, a2, c2, s2, he, hx6, h6, hr6, r6⟩
        subst he
        have hQ5 : Q < W5.heap.size := B5.out.2.2
        have H6 : Hid (L4Q B p d Q en l names op t a c r0 w w6 t2 a2 c2 s2) := by
          refine ⟨H5.out.to h6 hr6, X5.out.carry fun b off o hb v hv => hr6.1.cell (by show ¬ b = p; omega) hv, hx6.mono fun b _ hb => ⟨by omega, by omega⟩, B5.out.ch hr6.1 (by show ¬ Q = p; omega), ?_⟩
          rw [HZ.out]; exact r6
        have END : Hid (∀ (o2 : Obj) (W' : World), W' = _ → _) := fun o2 W' hW' => lq_next (c2 := c2) H6.out HNw.out hQ HO.out HY.out (by rw [HZ.out]; exact HY2.out) ⟨by have := OO.out.1; omega, by have := OO.out.1; omega⟩ hd40 HI.out.2 o2 W' hW'
        obtain ⟨q0, q1, q2, ql⟩ := H6.out.2.2.2.1.three
        obtain ⟨f0, f1, f2⟩ := H6.out.2.2.2.1.fr
        clear CE hx6 h6 hr6 r6 H5 X5 B5 hQ5 HE HNw
        go_wp2_with fail
        have NX : Hid (_ ∧ _) := END.out (.cells #[.int .i64 t2.kind, .int .i64 t2.num, .slice a2 t2.kids.length c2] 40) _ rfl
        go_roundw
        case rel => exact ⟨⟨5, op, [t, t2]⟩, some ⟨w6.heap.size + 1, 0, none⟩, 2, s2, NX.out.1⟩
        case measure => rw [HI.out.1]; exact NX.out.2
      · have RR : Hid (Res en st (peR names 1 s d e0) (.ok r) fun u => u = t) := hI.out.2.2.2.1 (.ok r) t (op_end fun g => hyes (by
          rw [← HO.out] at g
          rw [HZ.out] at g
          exact g))
        have hx2 : Hid (XG (fun b _ => w.heap.size + 1 ≤ b) wr t a) := hI.out.2.1.mono fun b _ hb => hb.1
        by_cases h0 : op = 0
        · have hbo : decide (op ≠ 0) = false := decide_eq_false (fun g => g h0)
          rw [hbo] at CO
          clear hbo hyes h0 HE HNw
          go_wp2_with fail
          refine (CP.out wr hI.out.1.1.1).mono ?_
          rintro e w2 ⟨he, hb2⟩
          subst he
          go_wp2_with fail
          refine (CO.out w2).mono ?_
          rintro e w3 ⟨he, hb3⟩
          subst he
          go_wp2_with fail
          refine (CS.out w3).mono ?_
          rintro e w4 ⟨he, hb4⟩
          subst he
          have hbb : Below wr.heap.size wr w4 := then_ (then_ hb2 hb3) hb4
          have H4 : Hid (Cq B p en l (.ok r) names w w4) := hI.out.1.below hbb
          have FN : Hid (∀ v0 v1 v2 : Value, _) := fun v0 v1 v2 => H4.out.fin (XG.below hx2.out hbb) v0 v1 v2
          obtain ⟨q0, q1, q2, ql⟩ := (hI.out.2.2.1.below hbb).three
          obtain ⟨g0, g1, g2, gl⟩ := H4.out.2.1.three
          obtain ⟨f0, f1, f2⟩ := H4.out.2.1.fr
          clear hb2 hb3 hb4 hbb hx2 hI CP CO CS h3 hpw
          go_wp2_with fail
          refine bodyPost_ret (v := xV t a c) ?_ rfl ⟨t, a, c, .ok r, rfl, (FN.out _ _ _).1, (FN.out _ _ _).2.1, (FN.out _ _ _).2.2, RR.out⟩
          simp [results, Tryz.results51, go_sem, g0, g1, g2]
        · have hbo : decide (op ≠ 0) = true := decide_eq_true h0
          have hlt : z ≤ s := by rcases Int.lt_or_le s z with g | g; exact absurd ⟨h0, g⟩ hyes; exact g
          rw [hbo] at CO
          clear hbo hyes h0 HE HNw
          go_wp2_with fail
          refine (CP.out wr hI.out.1.1.1).mono ?_
          rintro e w2 ⟨he, hb2⟩
          subst he
          go_wp2_with fail
          refine (CO.out w2).mono ?_
          rintro e w3 ⟨he, hb3⟩
          subst he
          go_wp2_with fail
          refine (CS.out w3).mono ?_
          rintro e w4 ⟨he, hb4⟩
          subst he
          have hbb : Below wr.heap.size wr w4 := then_ (then_ hb2 hb3) hb4
          have H4 : Hid (Cq B p en l (.ok r) names w w4) := hI.out.1.below hbb
          have FN : Hid (∀ v0 v1 v2 : Value, _) := fun v0 v1 v2 => H4.out.fin (XG.below hx2.out hbb) v0 v1 v2
          obtain ⟨q0, q1, q2, ql⟩ := (hI.out.2.2.1.below hbb).three
          obtain ⟨g0, g1, g2, gl⟩ := H4.out.2.1.three
          obtain ⟨f0, f1, f2⟩ := H4.out.2.1.fr
          clear hb2 hb3 hb4 hbb hx2 hI CP CO CS h3 hpw
          go_wp2_with fail
          refine bodyPost_ret (v := xV t a c) ?_ rfl ⟨t, a, c, .ok r, rfl, (FN.out _ _ _).1, (FN.out _ _ _).2.1, (FN.out _ _ _).2.2, RR.out⟩
          simp [results, Tryz.results51, go_sem, g0, g1, g2]

theorem rboth_any {B p : Nat} {names : List (List UInt8)} (hN : names.length ≤ 3000000) {en : Int} {l : List TI} : ∀ k d : Nat, d + k = 41 →
    (∀ (s : Int) (e0 : Ex) (W : World) (st : St), QS B W p en l st → QN p W names → Calls Tryz.prog 102 #[ptr p, .int .i64 d] W (QPost B p en l st (peR names 0 s d e0) W)) ∧
    (∀ (s : Int) (e0 : Ex) (W : World) (st : St), QS B W p en l st → QN p W names → Calls Tryz.prog 51 #[ptr p, .int .i64 s, .int .i64 d] W (QPost B p en l st (peR names 1 s d e0) W)) := by
  intro k
  induction k with
  | zero =>
    intro d hd
    have h40 : 40 < d := by omega
    have hU : ∀ (s : Int) (e0 : Ex) (W : World) (st : St), QS B W p en l st → QN p W names → Calls Tryz.prog 102 #[ptr p, .int .i64 d] W (QPost B p en l st (peR names 0 s d e0) W) :=
      fun s e0 W st h hm => runary_all B p d names hN s e0 en l st W h hm (fun g => absurd h40 g) (fun g => absurd h40 g)
    exact ⟨hU, fun s e0 W st h hm => rexpr_step B p d names hN s e0 en l st W h hm (by omega) (fun W s' => hU s e0 W s') (fun g => absurd h40 g)⟩
  | succ k ih =>
    intro d hd
    obtain ⟨iU, iE⟩ := ih (d + 1) (by omega)
    have c1 : ((d + 1 : Nat) : Int) = (d : Int) + 1 := by omega
    rw [c1] at iU iE
    have hU : ∀ (s : Int) (e0 : Ex) (W : World) (st : St), QS B W p en l st → QN p W names → Calls Tryz.prog 102 #[ptr p, .int .i64 d] W (QPost B p en l st (peR names 0 s d e0) W) :=
      fun s e0 W st h hm => runary_all B p d names hN s e0 en l st W h hm (fun _ W s' => iU s e0 W s') (fun _ W s' => iE 0 e0 W s')
    exact ⟨hU, fun s e0 W st h hm => rexpr_step B p d names hN s e0 en l st W h hm (by omega) (fun W s' => hU s e0 W s') (fun _ W s' e' o h1 h2 => iE (strengthF o) e' W s')⟩
theorem rtop_any {B p : Nat} {names : List (List UInt8)} (hN : names.length ≤ 3000000) {en : Int} {l : List TI} (W : World) (st : St) (h : QS B W p en l st) (hm : QN p W names) :
    Calls Tryz.prog 51 #[ptr p, .int .i64 0, .int .i64 1] W (QPost B p en l st (exprP names) W) :=
  (rboth_any hN 40 1 rfl).2 0 ⟨0, 0, []⟩ W st h hm
end Go.Proofs.YtjcanodnlnodpaaGreatDoor.Parse
/- The document's own Expr: a contract of the call, over the turned program. -/
namespace Go.Proofs.YtjcanodnlnodpaaGreatDoor.Parse
open Go.RowKit Go.Maps Go.Proofs.YtjcanodnlnodpaaGreatDoor.Frame Go.Proofs.YtjcanodnlnodpaaGreatDoor.Token Go.Proofs.YtjcanodnlnodpaaGreatDoor.Expr Go.Proofs.YtjcanodnlnodpaaGreatDoor.Calc
set_option linter.unusedVariables false
set_option linter.unusedSimpArgs false

theorem over_yes {en : Int} {t : TI} {r : List TI} : Res en (.ok (t :: r)) overP (.error (t.at_, 4)) fun _ => True :=
  Res.of_err (s := t :: r) (z := (t :: r).map ktI) rfl List.suffix_rfl rfl
theorem over_no {en : Int} : Res en (.ok []) overP (.ok []) fun _ => True := Res.of_ok (s := []) (z := []) rfl List.suffix_rfl rfl trivial
theorem exO_res {en : Int} {r : List TI} {names : List (List UInt8)} {s2 s3 : St} {t : Ex} (h : Res en (.ok r) (exprP names) s2 fun u => u = t) (k : Res en s2 overP s3 fun _ => True) : Res en (.ok r) (exprO names) s3 fun u => u = t := by
  unfold exprO
  refine Res.bindp h ?_
  exact Res.bind (g := fun _ z => .ok (t, z)) k (fun _ _ => Res.pure rfl) (fun e he => he)
theorem ex_of_pe {en : Int} {r : List TI} {names : List (List UInt8)} {w : World} {e : Ending} {w' : World} (h : PEPost en r names w e w') : ExPost (exprF en names r) w e w' := by
  obtain ⟨t, ax, cx, st, he, hx, hb, hr⟩ := h
  unfold exprF
  rw [exprO_I]
  cases hy : exprO names (r.map ktI) with
  | ok v =>
    obtain ⟨⟨s, h1, h2, rfl⟩, h4⟩ := hr.ok hy
    refine ⟨ax, cx, ?_, ?_, hb⟩
    · rw [he]
      show _ = Ending.returned (.tuple #[.agg #[.int .i64 v.1.kind, .int .i64 v.1.num, .slice ax v.1.kids.length cx], .int .i64 en, .int .i64 0])
      rw [h4]; rfl
    · show X w' v.1 ax
      rw [h4]; exact hx.x
  | error x =>
    obtain ⟨z, er⟩ := x
    obtain ⟨s, h1, h2, rfl⟩ := hr.err hy
    refine ⟨none, 0, ?_, ?_, hb⟩
    · rw [he]
      show _ = Ending.returned (.tuple #[.agg #[.int .i64 0, .int .i64 0, .slice none 0 0], .int .i64 (plcOf en r z), .int .i64 er])
      rw [suf_drop h1 h2]; rfl
    · exact (xg_leaf (by constructor <;> decide) (by constructor <;> decide) none : XG _ w' ⟨0, 0, []⟩ none)
def KQ (B : Nat) (w : World) (p : Nat) (en : Int) (l : List TI) (s3 : St) : Prop := QS B w p en l s3
def Top (w : World) (p : Nat) (W : World) (t : Ex) (ax : Option Addr) (cx q : Nat) : Prop :=
  Below w.heap.size w W ∧ Bx W w.heap.size [.int .i64 0, .int .i64 0, .slice none 0 0] ∧ XG (fun b _ => w.heap.size + 1 + 1 ≤ b) W t ax ∧ Bx W q [.int .i64 t.kind, .int .i64 t.num, .slice ax t.kids.length cx] ∧ w.heap.size + 1 + 1 ≤ q
theorem Top.below {w : World} {p : Nat} {W W' : World} {t : Ex} {ax : Option Addr} {cx q : Nat} (h : Top w p W t ax cx q) (hb : Below W.heap.size W W') : Top w p W' t ax cx q :=
  ⟨then_ h.1 hb, h.2.1.below hb, XG.below h.2.2.1 hb, h.2.2.2.1.below hb, h.2.2.2.2⟩
theorem Top.on {w : World} {W W' : World} {t : Ex} {ax : Option Addr} {cx q : Nat} (h : Top w (w.heap.size + 1) W t ax cx q) (hc : QCh (w.heap.size + 1) W W') : Top w (w.heap.size + 1) W' t ax cx q :=
  ⟨h.1.trans (hc.1.below h.1.size (fun b hb => by omega)), h.2.1.ch hc.1 (by omega), xg_ch h.2.2.1 hc.1 (fun b hb => by omega), h.2.2.2.1.ch hc.1 (by have := h.2.2.2.2; omega), h.2.2.2.2⟩
theorem Top.fin {w : World} {W : World} {t : Ex} {ax : Option Addr} {cx q : Nat} (h : Top w (w.heap.size + 1) W t ax cx q) (v0 v1 v2 : Value) :
    XG (fun b _ => w.heap.size ≤ b) (((W.setCell ⟨w.heap.size, 0, none⟩ v0).setCell ⟨w.heap.size, 1, none⟩ v1).setCell ⟨w.heap.size, 2, none⟩ v2) t ax ∧ Below w.heap.size w (((W.setCell ⟨w.heap.size, 0, none⟩ v0).setCell ⟨w.heap.size, 1, none⟩ v1).setCell ⟨w.heap.size, 2, none⟩ v2) := by
  have hch : Ch (fun x => x = w.heap.size) W (((W.setCell ⟨w.heap.size, 0, none⟩ v0).setCell ⟨w.heap.size, 1, none⟩ v1).setCell ⟨w.heap.size, 2, none⟩ v2) :=
    (((Ch.refl (fun x => x = w.heap.size) W).setCell (b := w.heap.size) (o := 0) (.inl rfl) v0).setCell (b := w.heap.size) (o := 1) (.inl rfl) v1).setCell (b := w.heap.size) (o := 2) (.inl rfl) v2
  exact ⟨xg_up (h.2.2.1.carry fun b off o hb v hv => hch.cell (by show ¬ b = _; omega) hv) (by omega), below_part (below_part (below_part h.1 (Nat.le_refl _) 0 _) (Nat.le_refl _) 1 _) (Nat.le_refl _) 2 _⟩

set_option maxRecDepth 100000 in
set_option maxHeartbeats 8000000 in
theorem rexpr_any (a : Option Addr) (c : Nat) (r : List TI) (en : Int) (na : Option Addr) (nc : Nat) (names : List (List UInt8)) (w : World) (hT : TIs w.heap.size w a r) (hrc : r.length ≤ c) (hc : c ≤ maxLen) (hP : Pk r) (hr9 : r.length ≤ 1000000000) (hN : NMs w.heap.size w na names) (hNl : names.length ≤ 1000000) :
    Calls Tryz.prog 19 #[.slice a r.length c, .int .i64 en, .slice na names.length nc] w (PEPost en r names w) := by
  obtain ⟨W0, hW⟩ : ∃ W0, W0 = (w.alloc (.cells #[.int .i64 0, .int .i64 0, .slice none 0 0] 40)).alloc (.cells #[.slice a r.length c, .int .i64 0, .int .i64 en, .int .i64 0, .int .i64 0, .slice none 0 0, .slice none 0 0, .slice none 0 0, .int .i64 0, .int .i64 0, .slice na names.length nc] 82) := ⟨_, rfl⟩
  have hB0 : Below w.heap.size w W0 := by rw [hW]; exact ((Below.refl _ _).alloc (Nat.le_refl _) _).alloc (by simp) _
  have hs0 : W0.heap.size = w.heap.size + 1 + 1 := by rw [hW]; simp
  have hbx : Bx W0 (w.heap.size + 1) [.slice a r.length c, .int .i64 0, .int .i64 en, .int .i64 0, .int .i64 0, .slice none 0 0, .slice none 0 0, .slice none 0 0, .int .i64 0, .int .i64 0, .slice na names.length nc] := by
    rw [hW]
    have := Bx.new (w.alloc (.cells #[.int .i64 0, .int .i64 0, .slice none 0 0] 40)) #[.slice a r.length c, .int .i64 0, .int .i64 en, .int .i64 0, .int .i64 0, .slice none 0 0, .slice none 0 0, .slice none 0 0, .int .i64 0, .int .i64 0, .slice na names.length nc] 82
    simpa using this
  have hrx : Bx W0 w.heap.size [.int .i64 0, .int .i64 0, .slice none 0 0] := by
    rw [hW]
    exact (Bx.new w #[.int .i64 0, .int .i64 0, .slice none 0 0] 40).below ((Below.refl _ _).alloc (Nat.le_refl _) _)
  have hQS : QS w.heap.size W0 (w.heap.size + 1) en r (.ok r) := ⟨⟨by omega, by omega⟩, a, c, 0, 0, 0, ⟨hbx.1 0, hbx.1 1, hbx.1 2, hbx.1 3, hbx.1 4, hbx.2.1⟩, hT.below hB0, ⟨hrc, hc, hr9, Nat.zero_le _, hP⟩, rfl, rfl⟩
  have hQN : QN (w.heap.size + 1) W0 names := by
    refine ⟨na, nc, hbx.1 10, ?_⟩
    rcases hN.1 with h0 | ⟨b, off, ha, hb, hcc⟩
    · exact .inl (by rw [h0]; rfl)
    · exact .inr ⟨b, off, ha, by omega, fun i hi => (hB0.cell (p := ⟨b, off + i, none⟩) hb).trans (hcc i hi)⟩
  have H0 : Hid (QS w.heap.size W0 (w.heap.size + 1) en r (.ok r) ∧ QN (w.heap.size + 1) W0 names ∧ Bx W0 w.heap.size [.int .i64 0, .int .i64 0, .slice none 0 0] ∧ Below w.heap.size w W0 ∧ W0.heap.size = w.heap.size + 1 + 1) := ⟨hQS, hQN, hrx, hB0, hs0⟩
  have HW : Hid (W0 = _) := hW
  have HNL : Hid (names.length ≤ 1000000) := hNl
  clear hW hB0 hbx hrx hQS hQN hT hP hN hrc hc hr9 hNl hs0
  go_enter Tryz.func19, Tryz.ntmps19
  go_wp2_with fail
  rw [← HW.out]
  clear HW
  refine (rtop_any (by have := HNL.out; omega) W0 (.ok r) H0.out.1 H0.out.2.1).mono ?_
  rintro e w1 ⟨t, ax, cx, s2, he, hx, h1, hr1, R1⟩
  subst he
  have R2 : Hid (Res en (.ok r) (exprP names) s2 fun u => u = t) := R1
  have hs0 := H0.out.2.2.2.2
  have hs1 := hr1.1.size
  rw [hs0] at hx hs1
  have hal : Below w1.heap.size w1 (w1.alloc (.cells #[.int .i64 t.kind, .int .i64 t.num, .slice ax t.kids.length cx] 40)) := (Below.refl _ _).alloc (Nat.le_refl _) _
  have T2 : Hid (Top w (w.heap.size + 1) (w1.alloc (.cells #[.int .i64 t.kind, .int .i64 t.num, .slice ax t.kids.length cx] 40)) t ax cx w1.heap.size) :=
    ⟨then_ (H0.out.2.2.2.1.trans (hr1.1.below (by omega) (fun b hb => by omega))) hal, (H0.out.2.2.1.ch hr1.1 (by omega)).below hal, XG.below hx hal, Bx.new w1 #[.int .i64 t.kind, .int .i64 t.num, .slice ax t.kids.length cx] 40, hs1⟩
  have Q2 : Hid (QS w.heap.size (w1.alloc (.cells #[.int .i64 t.kind, .int .i64 t.num, .slice ax t.kids.length cx] 40)) (w.heap.size + 1) en r s2) := h1.below hal
  clear hx h1 hr1 R1 hal hs0 H0
  obtain ⟨W2, hW2⟩ : ∃ W2, W2 = w1.alloc (.cells #[.int .i64 t.kind, .int .i64 t.num, .slice ax t.kids.length cx] 40) := ⟨_, rfl⟩
  rw [← hW2] at T2 Q2
  have HW2 : Hid (W2 = _) := hW2
  clear hW2
  obtain ⟨a', c', k, er, pl, ⟨h0, h1, -, h3, h4, -⟩, -, ⟨-, -, z3, z4, -⟩, hs⟩ := q_live Q2.out
  have hpw := Q2.out.1.2
  have HS : Hid (_ ∨ _) := hs
  have hkk : k ≤ 1000000000 := by omega
  clear hs
  -- what is left over
  by_cases hlt : k < r.length
  · have hlt' : (k : Int) < ((r.length : Nat) : Int) := by omega
    have R3 : Hid (Res en (.ok r) (exprO names) (failS s2 (hereF en s2).at_ 4) fun u => u = t) := by
      refine exO_res R2.out ?_
      rcases HS.out with ⟨x, hx, _⟩ | ⟨hx, _⟩
      · rw [hx]; exact Res.of_dead x
      · rw [hx, List.drop_eq_getElem_cons hlt]; exact over_yes
    have HX : Hid (∃ x, failS s2 (hereF en s2).at_ 4 = .error x) := fail_dead _ _ _
    rw [HW2.out] at h0 h1 h3 h4 hpw
    go_wp2_with fail
    rw [← HW2.out]
    rw [← HW2.out] at h0 h1 h3 h4 hpw
    clear HW2
    go_quiet (fail)
    go_wp2_with fail
    generalize hwq : W2.drewN _ = wq
    have hb : Below W2.heap.size W2 wq := by rw [← hwq]; exact below_drewN (Below.refl _ _) _
    have T3 : Hid (Top w (w.heap.size + 1) wq t ax cx w1.heap.size) := T2.out.below hb
    have Q3 : Hid (QS w.heap.size wq (w.heap.size + 1) en r s2) := Q2.out.below hb
    clear hb hwq h0 h1 h3 h4 hpw T2 Q2
    refine (rfail_any w.heap.size (w.heap.size + 1) en r s2 4 wq Q3.out (by decide)).mono ?_
    rintro e w3 ⟨he, h5, hr5⟩
    subst he
    have T4 : Hid (Top w (w.heap.size + 1) w3 t ax cx w1.heap.size) := T3.out.on hr5
    obtain ⟨x, hx⟩ := HX.out
    rw [hx] at h5
    have R4 : Hid (Res en (.ok r) (exprO names) (.error x) fun u => u = t) := by rw [← hx]; exact R3.out
    obtain ⟨⟨_, hpw⟩, a2, c2, k2, er2, pl2, ⟨-, -, -, h3, h4, -⟩, -, -, e1, e2, e3⟩ := h5
    subst e1 e2
    have hne : (x.2 != 0) = true := by simpa using e3
    obtain ⟨x1, x2⟩ := x
    dsimp only at hne h3 h4
    obtain ⟨g0, g1, g2, gl⟩ := T4.out.2.1.three
    obtain ⟨f0, f1, f2⟩ := T4.out.2.1.fr
    have n1 : ¬ w.heap.size = w.heap.size + 1 := by omega
    have n2 : ¬ w.heap.size + 1 = w.heap.size := by omega
    clear hr5 hx e3 Q3 T3 HX R3 hlt' hlt hkk
    go_wp2_with fail
    go_region
    all_goals
      go_wp2_with fail
      have FN := T4.out.fin (.int .i64 0) (.int .i64 0) (.slice none 0 0)
      refine bodyPost_ret (v := .tuple #[xV ⟨0, 0, []⟩ none 0, .int .i64 x1, .int .i64 x2]) ?_ rfl ⟨t, ax, cx, .error (x1, x2), rfl, XG.below FN.1 ((Below.refl _ _).drew), FN.2.drew, R4.out⟩
      simp [results, Tryz.results19, go_sem, g0, g1, g2]
  · have hge : ¬ (k : Int) < ((r.length : Nat) : Int) := by omega
    have hdn : r.drop k = [] := List.drop_of_length_le (by omega)
    rw [HW2.out] at h0 h1 h3 h4 hpw
    go_wp2_with fail
    rw [← HW2.out]
    rw [← HW2.out] at h0 h1 h3 h4 hpw
    clear HW2
    go_quiet (fail)
    generalize hwq : W2.drewN _ = wq
    have hb : Below W2.heap.size W2 wq := by rw [← hwq]; exact below_drewN (Below.refl _ _) _
    have T4 : Hid (Top w (w.heap.size + 1) wq t ax cx w1.heap.size) := T2.out.below hb
    have Q3 : Hid (QS w.heap.size wq (w.heap.size + 1) en r s2) := Q2.out.below hb
    clear hb hwq h0 h1 h3 h4 hpw T2 Q2 hge
    obtain ⟨g0, g1, g2, gl⟩ := T4.out.2.1.three
    obtain ⟨f0, f1, f2⟩ := T4.out.2.1.fr
    have n1 : ¬ w.heap.size = w.heap.size + 1 := by omega
    have n2 : ¬ w.heap.size + 1 = w.heap.size := by omega
    cases s2 with
    | error x =>
      have R4 : Hid (Res en (.ok r) (exprO names) (.error x) fun u => u = t) := exO_res R2.out (Res.of_dead x)
      obtain ⟨⟨_, hpw⟩, a2, c2, k2, er2, pl2, ⟨-, -, -, h3, h4, -⟩, -, -, e1, e2, e3⟩ := Q3.out
      subst e1 e2
      have hne : (x.2 != 0) = true := by simpa using e3
      obtain ⟨x1, x2⟩ := x
      dsimp only at hne h3 h4
      clear e3 Q3 hlt hkk hdn
      go_wp2_with fail
      go_region
      all_goals
        go_wp2_with fail
        have FN := T4.out.fin (.int .i64 0) (.int .i64 0) (.slice none 0 0)
        refine bodyPost_ret (v := .tuple #[xV ⟨0, 0, []⟩ none 0, .int .i64 x1, .int .i64 x2]) ?_ rfl ⟨t, ax, cx, .error (x1, x2), rfl, XG.below FN.1 ((Below.refl _ _).drew), FN.2.drew, R4.out⟩
        simp [results, Tryz.results19, go_sem, g0, g1, g2]
    | ok r2 =>
      have hr2 : r2 = [] := by
        rcases HS.out with ⟨x, hx, _⟩ | ⟨hx, _⟩
        · cases hx
        · injection hx with hx; rw [hx, hdn]
      have R4 : Hid (Res en (.ok r) (exprO names) (.ok r2) fun u => u = t) := exO_res R2.out (by rw [hr2]; exact over_no)
      obtain ⟨⟨_, hpw⟩, a2, c2, k2, er2, pl2, ⟨-, -, -, h3, h4, -⟩, -, -, e1, -⟩ := Q3.out
      subst e1
      obtain ⟨y0, y1, y2, yl⟩ := T4.out.2.2.2.1.three
      have m1 : ¬ w1.heap.size = w.heap.size := by have := T4.out.2.2.2.2; omega
      have m2 : ¬ w.heap.size = w1.heap.size := by have := T4.out.2.2.2.2; omega
      clear Q3 hlt hkk hdn hr2
      go_wp2_with fail
      have FN : Hid (∀ v0 v1 v2 : Value, _) := fun v0 v1 v2 => T4.out.fin v0 v1 v2
      refine bodyPost_ret (v := .tuple #[xV t ax cx, .int .i64 en, .int .i64 0]) ?_ rfl ⟨t, ax, cx, .ok r2, rfl, (FN.out _ _ _).1, (FN.out _ _ _).2, R4.out⟩
      simp [results, Tryz.results19, go_sem, g0, g1, g2]
theorem rex_any (a : Option Addr) (c : Nat) (r : List TI) (en : Int) (na : Option Addr) (nc : Nat) (names : List (List UInt8)) (w : World) (hT : TIs w.heap.size w a r) (hrc : r.length ≤ c) (hc : c ≤ maxLen) (hP : Pk r) (hr9 : r.length ≤ 1000000000) (hN : NMs w.heap.size w na names) (hNl : names.length ≤ 1000000) :
    Calls Tryz.prog 19 #[.slice a r.length c, .int .i64 en, .slice na names.length nc] w (ExPost (exprF en names r) w) :=
  (rexpr_any a c r en na nc names w hT hrc hc hP hr9 hN hNl).mono fun e w' h => ex_of_pe h
end Go.Proofs.YtjcanodnlnodpaaGreatDoor.Parse
