/- plain and clean of the laws of layer 6: contracts of the calls, over the turned program. -/
import Derived.Test.YtjcanodnlnodpaaGreatDoorMBackP
import Derived.Test.YtjcanodnlnodpaaGreatDoorMPInv
import Derived.Test.YtjcanodnlnodpaaGreatDoorMSame
namespace Go.Proofs.YtjcanodnlnodpaaGreatDoor.Parse
open Go.RowKit Go.Proofs.YtjcanodnlnodpaaGreatDoor.Frame Go.Proofs.YtjcanodnlnodpaaGreatDoor.Token Go.Proofs.YtjcanodnlnodpaaGreatDoor.Expr Go.Proofs.YtjcanodnlnodpaaGreatDoor.Calc
set_option linter.unusedVariables false
set_option linter.unusedSimpArgs false

set_option maxRecDepth 100000 in
set_option maxHeartbeats 4000000 in
theorem lplain_any : ∀ (t : Ex) (w : World) (a : Option Addr) (c : Nat), X w t a → sizeF t ≤ 1000000 →
    Calls Tryz.prog 26 #[.agg #[.int .i64 t.kind, .int .i64 t.num, .slice a t.kids.length c]] w fun e w' => e = .returned (.bool (plainB t)) ∧ Below w.heap.size w w' := by
  refine Ex.ind fun k n ks ih w a c hx hs => ?_
  show Calls Tryz.prog 26 #[.agg #[.int .i64 k, .int .i64 n, .slice a ks.length c]] w _
  have hl : ks.length ≤ 1000000 := by have := len_size k n ks; omega
  have HX : Hid (X w ⟨k, n, ks⟩ a) := hx
  have HI : Hid (∀ (x : Ex), x ∈ ks → ∀ (w : World) (a : Option Addr) (c : Nat), X w x a → Calls Tryz.prog 26 #[.agg #[.int .i64 x.kind, .int .i64 x.num, .slice a x.kids.length c]] w fun e w' => e = .returned (.bool (plainB x)) ∧ Below w.heap.size w w') := fun x hxm w a c hxx => ih x hxm w a c hxx (by have := size_kid (k := k) (n := n) hxm; omega)
  have PE : Hid (plainB ⟨k, n, ks⟩ = (ks.all plainB && (!(k == 1) || decide (0 ≤ n)))) := plain_eq k n ks
  clear ih hx hs
  obtain ⟨len, hlen⟩ : ∃ len, len = ks.length := ⟨_, rfl⟩
  rw [← hlen] at hl ⊢
  have HL : Hid (len = ks.length) := hlen
  have HB0 : Hid (∀ t, Bx (w.alloc (.cells #[.int .i64 k, .int .i64 n, .slice a len c] t)) w.heap.size [.int .i64 k, .int .i64 n, .slice a len c]) := fun t => Bx.new w #[.int .i64 k, .int .i64 n, .slice a len c] t
  clear hlen
  generalize plainB ⟨k, n, ks⟩ = pb at *
  go_enter Tryz.func26, Tryz.ntmps26
  go_wp2_with fail
  go_loopw [3] (fun i wr => ∃ j : Nat, j ≤ len ∧ i = .int .i64 j ∧ Hid (Bx wr w.heap.size [.int .i64 k, .int .i64 n, .slice a len c] ∧ Below w.heap.size w wr ∧ ∀ i, i < j → plainB (ks.getD i nilEx) = true)) (fun i _ => len - (intOf i).toNat)
  case atStart => exact ⟨0, by omega, rfl, HB0.out _, (Below.refl _ _).alloc (Nat.le_refl _) _, fun i hi => by omega⟩
  case round =>
    obtain ⟨j, hj, rfl, HJ⟩ := hrel
    clear HB0
    obtain ⟨g0, g1, g2, gl⟩ := HJ.out.1.three
    by_cases hlt : j < len
    · have hlt' : (j : Int) < len := by omega
      obtain ⟨b1, o1, x, ax, cx, ha, hbl, hxm, hxe, c0, c1, c2, hxx⟩ := (HX.out.below HJ.out.2.1).kid (i := j) (by rw [← HL.out]; exact hlt)
      subst ha
      have CL : Hid (Calls Tryz.prog 26 #[.agg #[.int .i64 x.kind, .int .i64 x.num, .slice ax x.kids.length cx]] wr fun e w' => e = .returned (.bool (plainB x)) ∧ Below wr.heap.size wr w') := HI.out x hxm wr ax cx hxx
      have XE : Hid (x = ks.getD j nilEx ∧ x ∈ ks) := ⟨hxe, hxm⟩
      clear hxx hxm hxe
      cases hb : plainB x with
      | true =>
        rw [hb] at CL
        have NX : Hid (∀ i, i < j + 1 → plainB (ks.getD i nilEx) = true) := fun i hi => by
          by_cases e : i = j
          · subst e; rw [← XE.out.1]; exact hb
          · exact HJ.out.2.2 i (by omega)
        clear hb
        go_wp2_with fail
        refine CL.out.mono ?_
        rintro e w1 ⟨he, hb1⟩
        subst he
        have HJ2 : Hid (Bx w1 w.heap.size [.int .i64 k, .int .i64 n, .slice (some ⟨b1, o1, none⟩) len c] ∧ Below w.heap.size w w1 ∧ ∀ i, i < j + 1 → plainB (ks.getD i nilEx) = true) := ⟨HJ.out.1.below hb1, then_ HJ.out.2.1 hb1, NX.out⟩
        clear hb1 HJ g0 g1 g2 gl c0 c1 c2
        go_wp2_with fail
        go_roundw
        case rel => exact ⟨j + 1, by omega, by go_num, HJ2⟩
        case measure => simp [intOf]; omega
      | false =>
        rw [hb] at CL
        have E : Hid (pb = false) := by
          show pb = false
          rw [PE.out, Bool.and_eq_false_iff]
          exact .inl (List.all_eq_false.2 ⟨x, XE.out.2, by rw [hb]; simp⟩)
        clear hb
        go_wp2_with fail
        refine CL.out.mono ?_
        rintro e w1 ⟨he, hb1⟩
        subst he
        have HJ2 : Hid (Below w.heap.size w w1) := then_ HJ.out.2.1 hb1
        clear hb1 HJ g0 g1 g2 gl c0 c1 c2
        go_wp2_with fail
        go_ret
        exact ⟨by rw [E.out]; rfl, HJ2.out⟩
    · have hlt' : ¬ (j : Int) < len := by omega
      have hall : ks.all plainB = true := List.all_eq_true.2 fun x hx => by
        obtain ⟨i, hi, rfl⟩ := List.getElem_of_mem hx
        have := HJ.out.2.2 i (by rw [← HL.out] at hi; omega)
        rwa [List.getD_eq_getElem?_getD, List.getElem?_eq_getElem hi] at this
      have E : Hid (pb = (!(k == 1) || decide (0 ≤ n))) := by show _ = _; rw [PE.out, hall, Bool.true_and]
      have HB : Hid (Below w.heap.size w wr) := HJ.out.2.1
      clear hall HJ
      by_cases hk : k = 1
      · subst hk
        by_cases hn : 0 ≤ n
        · go_wp2_with fail
          go_ret
          exact ⟨by rw [E.out]; simp [hn], HB.out⟩
        · have hn' : n < 0 := by omega
          go_wp2_with fail
          go_ret
          exact ⟨by rw [E.out]; simp; omega, HB.out⟩
      · have hk' : (k != 1) = true := by simpa using hk
        have hk2 : (k == 1) = false := by simpa using hk
        go_wp2_with fail
        go_ret
        exact ⟨by rw [E.out, hk2]; simp, HB.out⟩

theorem Bx.mk' {w : World} {q : Nat} {vs : List Value} (cs : Array Value) {t : TypeId} (hq : q = w.heap.size) (hc : cs.toList = vs) : Bx (w.alloc (.cells cs t)) q vs := by subst hq hc; exact Bx.new w cs t
theorem Bx.al' {w : World} {q : Nat} {vs : List Value} (h : Bx w q vs) (ob : Obj) : Bx (w.alloc ob) q vs := h.below ((Below.refl _ _).alloc (Nat.le_refl _) _)
theorem _root_.Go.Proofs.YtjcanodnlnodpaaGreatDoor.Expr.PInv.slice' {F : Ex → Ex} {B R0 : Nat} {ks : List Ex} {j : Nat} {v : Value} {wr : World} (h : PInv F B R0 ks j v wr) : ∃ p l m, v = .slice p l m := by
  obtain ⟨ys, _, h2, _⟩ := h
  rcases h2.2 with ⟨h, _⟩ | ⟨g, cap, cur, e1, _⟩
  · exact ⟨_, _, _, h⟩
  · exact ⟨_, _, _, e1⟩
/-- the boxes of clean -/
abbrev cleanW (w : World) (k n m : Int) (a : Option Addr) (len c : Nat) : World :=
  ((w.alloc (.cells #[.int .i64 k, .int .i64 n, .slice a len c] 40)).alloc (.cells #[.int .i64 0, .int .i64 0, .slice none 0 0] 40)).alloc (.cells #[.int .i64 k, .int .i64 m, .slice none 0 0] 40)
theorem cleanW_facts (w : World) (k n m : Int) (a : Option Addr) (len c : Nat) :
    (cleanW w k n m a len c).heap.size = w.heap.size + 3 ∧ Below w.heap.size w (cleanW w k n m a len c) ∧ Bx (cleanW w k n m a len c) w.heap.size [.int .i64 k, .int .i64 n, .slice a len c] ∧ Bx (cleanW w k n m a len c) (w.heap.size + 1) [.int .i64 0, .int .i64 0, .slice none 0 0] ∧ Bx (cleanW w k n m a len c) (w.heap.size + 1 + 1) [.int .i64 k, .int .i64 m, .slice none 0 0] :=
  ⟨by simp, (((Below.refl _ _).alloc (Nat.le_refl _) _).alloc (by simp) _).alloc (by simp; omega) _, ((Bx.mk' _ rfl rfl).al' _).al' _, (Bx.mk' _ (by simp) rfl).al' _, Bx.mk' _ (by simp) rfl⟩
/-- what is told, and where it lies -/
def ClPost (t' : Ex) (w : World) (e : Ending) (w' : World) : Prop :=
  ∃ a' c', e = .returned (.agg #[.int .i64 t'.kind, .int .i64 t'.num, .slice a' t'.kids.length c']) ∧ XG (fun b _ => w.heap.size ≤ b) w' t' a' ∧ Below w.heap.size w w'
/-- what is read in a round -/
def ClS (w : World) (a : Option Addr) (len c b1 o1 : Nat) (x : Ex) (ax : Option Addr) (cx : Nat) (w' : World) : Prop :=
  w'.cell? ⟨w.heap.size, 2, none⟩ = some (.slice a len c) ∧ (w'.cell? ⟨b1, o1, none⟩ = some (.int .i64 x.kind) ∧ w'.cell? ⟨b1, o1 + 1, none⟩ = some (.int .i64 x.num) ∧ w'.cell? ⟨b1, o1 + 2, none⟩ = some (.slice ax x.kids.length cx))
theorem ClS.below {w : World} {a : Option Addr} {len c b1 o1 : Nat} {x : Ex} {ax : Option Addr} {cx : Nat} {w1 w2 : World} {R : Nat} (h : ClS w a len c b1 o1 x ax cx w1) (hR : w.heap.size < R) (hb1 : b1 < R) (hb : Below R w1 w2) : ClS w a len c b1 o1 x ax cx w2 :=
  ⟨(hb.cell (p := ⟨w.heap.size, 2, none⟩) hR).trans h.1, (hb.cell (p := ⟨b1, _, none⟩) hb1).trans h.2.1, (hb.cell (p := ⟨b1, _, none⟩) hb1).trans h.2.2.1, (hb.cell (p := ⟨b1, _, none⟩) hb1).trans h.2.2.2⟩
theorem carry3' {ok : Nat → Nat → Prop} {w : World} {Z : Nat} {t : Ex} {a : Option Addr} (u0 u1 u2 : Value) (h : XG ok w t a) (hz : ∀ b off, ok b off → b ≠ Z) : XG ok (((w.setCell ⟨Z, 0, none⟩ u0).setCell ⟨Z, 1, none⟩ u1).setCell ⟨Z, 2, none⟩ u2) t a :=
  h.carry fun b off o hok v hv => by
    have hne : ∀ j, (⟨Z, j, none⟩ : Addr) ≠ ⟨b, o, none⟩ := fun j e => hz b off hok (congrArg Addr.block e).symm
    rw [World.cell?_setCell_other _ _ _ _ (hne 2), World.cell?_setCell_other _ _ _ _ (hne 1), World.cell?_setCell_other _ _ _ _ (hne 0)]
    exact hv

set_option maxRecDepth 100000 in
set_option maxHeartbeats 4000000 in
theorem clean_yes (k n : Int) (ks : List Ex) (w : World) (a : Option Addr) (c : Nat) (hk : k = 1 ∨ k = 2 ∨ k = 5) (hx : X w ⟨k, n, ks⟩ a) (hl : ks.length ≤ 1000000)
    (hK : ∀ (x : Ex), x ∈ ks → ∀ (wx : World) (ax : Option Addr) (cx : Nat), X wx x ax → Calls Tryz.prog 29 #[.agg #[.int .i64 x.kind, .int .i64 x.num, .slice ax x.kids.length cx]] wx (ClPost (cleanF x) wx)) :
    Calls Tryz.prog 29 #[.agg #[.int .i64 k, .int .i64 n, .slice a ks.length c]] w (ClPost ⟨k, n, ks.map cleanF⟩ w) := by
  have HX : Hid (X w ⟨k, n, ks⟩ a) := hx
  have HK : Hid (∀ (x : Ex), x ∈ ks → ∀ (wx : World) (ax : Option Addr) (cx : Nat), X wx x ax → Calls Tryz.prog 29 #[.agg #[.int .i64 x.kind, .int .i64 x.num, .slice ax x.kids.length cx]] wx (ClPost (cleanF x) wx)) := hK
  have HN : Hid (In64 k ∧ In64 (n : Int)) := ⟨hx.node.1, hx.node.2⟩
  clear hx hK
  obtain ⟨len, hlen⟩ : ∃ len, len = ks.length := ⟨_, rfl⟩
  rw [← hlen] at hl ⊢
  have HL : Hid (len = ks.length) := hlen
  clear hlen
  obtain ⟨W0, hW⟩ : ∃ W0, W0 = cleanW w k n n a len c := ⟨_, rfl⟩
  obtain ⟨p1, p2, p3, p4, p5⟩ := cleanW_facts w k n n a len c
  rw [← hW] at p1 p2 p3 p4 p5
  have HF : Hid (Bx W0 w.heap.size [.int .i64 k, .int .i64 n, .slice a len c] ∧ Bx W0 (w.heap.size + 1) [.int .i64 0, .int .i64 0, .slice none 0 0] ∧ Bx W0 (w.heap.size + 1 + 1) [.int .i64 k, .int .i64 n, .slice none 0 0]) := ⟨p3, p4, p5⟩
  have P0 : Hid (PInv cleanF 0 (w.heap.size + 3) ks 0 (.slice none 0 0) W0) := ⟨[], rfl, World.ownsRow_nil _ _ _ _, fun i hi => (by omega)⟩
  have K0 : Hid (KO W0 (w.heap.size + 3) (w.heap.size + 1 + 1) (.slice none 0 0) W0) := ⟨fun _ _ _ _ => rfl, fun _ _ _ => rfl, p5.1 2, by omega⟩
  have HB0 : Hid (Below w.heap.size w W0) := p2
  have HW : Hid (W0 = cleanW w k n n a len c) := hW
  clear p1 p2 p3 p4 p5 hW
  have hc : (k == 1) = true ∨ ((k == 1) = false ∧ (k == 2) = true) ∨ ((k == 1) = false ∧ (k == 2) = false ∧ (k == 5) = true) := by
    rcases hk with rfl | rfl | rfl
    · exact .inl rfl
    · exact .inr (.inl ⟨rfl, rfl⟩)
    · exact .inr (.inr ⟨rfl, rfl, rfl⟩)
  clear hk
  rcases hc with k1 | ⟨k1, k2⟩ | ⟨k1, k2, k5⟩
  all_goals
    go_enter Tryz.func29, Tryz.ntmps29
    go_wp2_with fail
    go_loopw [4] (fun i wr => ∃ (j : Nat) (vv : Value), j ≤ len ∧ i = .int .i64 j ∧ wr.cell? ⟨w.heap.size, 2, none⟩ = some (.slice a len c) ∧ Hid (PInv cleanF 0 (w.heap.size + 3) ks j vv wr) ∧ Hid (KO W0 (w.heap.size + 3) (w.heap.size + 1 + 1) vv wr) ∧ Hid (Below w.heap.size w wr)) (fun i _ => len - (intOf i).toNat)
    case atStart =>
      refine ⟨0, .slice none 0 0, by omega, rfl, ?_, ?_, ?_, ?_⟩
      · show (cleanW w _ n _ a len c).cell? _ = _
        rw [← HW.out]; exact HF.out.1.1 2
      · show Hid (PInv _ _ _ _ _ _ (cleanW w _ n _ a len c))
        rw [← HW.out]; exact P0
      · show Hid (KO W0 _ _ _ (cleanW w _ n _ a len c))
        rw [← HW.out]; exact K0
      · show Hid (Below _ _ (cleanW w _ n _ a len c))
        rw [← HW.out]; exact HB0
    case round =>
      obtain ⟨j, vv, hj, rfl, hcE, HP, HKO, HBr⟩ := hrel
      have hR : w.heap.size + 3 ≤ wr.heap.size := HKO.out.2.2.2
      by_cases hlt : j < len
      · have hlt' : (j : Int) < len := by omega
        obtain ⟨vp, vl, vm, rfl⟩ := HP.out.slice'
        obtain ⟨b1, o1, x, ax, cx, ha, hbl, hxm, hxe, c0, c1, c2, hxx⟩ := (HX.out.below HBr.out).kid (i := j) (by rw [← HL.out]; exact hlt)
        subst ha
        have hb1 : b1 < w.heap.size := by
          obtain ⟨b1', o1', _, _, _, ha', hbl', _⟩ := HX.out.kid (i := j) (by rw [← HL.out]; exact hlt)
          cases ha'
          exact hbl'
        have hO : wr.cell? ⟨w.heap.size + 1 + 1, 2, none⟩ = some (.slice vp vl vm) := HKO.out.2.2.1
        have hfO : wr.frozen? ⟨w.heap.size + 1 + 1, 2, none⟩ = false := (HKO.out.2.1 _ _ (by omega)).trans (HF.out.2.2.2.1 2)
        have hS0 : ClS w (some ⟨b1, o1, none⟩) len c b1 (o1 + j * 3) x ax cx wr := ⟨hcE, c0, c1, c2⟩
        have CL : Hid (Calls Tryz.prog 29 #[.agg #[.int .i64 x.kind, .int .i64 x.num, .slice ax x.kids.length cx]] wr.drew fun e w1 => ∃ a' c' p' l' m' w2, e = .returned (.agg #[.int .i64 (cleanF x).kind, .int .i64 (cleanF x).num, .slice a' (cleanF x).kids.length c']) ∧
            Hid ((Builtin.append_ #[38, 38] 38 #[.slice vp vl vm, .slice (some ⟨w1.heap.size, 0, none⟩) 1 1]).run Tryz.prog (w1.alloc (.cells #[.int .i64 (cleanF x).kind, .int .i64 (cleanF x).num, .slice a' (cleanF x).kids.length c'] 40)) = .ok (.slice p' l' m') w2) ∧ Hid (PInv cleanF 0 (w.heap.size + 3) ks (j + 1) (.slice p' l' m') w2 ∧ KO W0 (w.heap.size + 3) (w.heap.size + 1 + 1) (.slice vp vl vm) w2 ∧ Below w.heap.size w w2) ∧
            ClS w (some ⟨b1, o1, none⟩) len c b1 (o1 + j * 3) x ax cx w1 ∧ (w1.cell? ⟨w.heap.size + 1 + 1, 2, none⟩ = some (.slice vp vl vm) ∧ w.heap.size + 1 + 1 < w1.heap.size) ∧ ClS w (some ⟨b1, o1, none⟩) len c b1 (o1 + j * 3) x ax cx w2 ∧ w2.cell? ⟨w.heap.size + 1 + 1, 2, none⟩ = some (.slice vp vl vm) ∧ w2.frozen? ⟨w.heap.size + 1 + 1, 2, none⟩ = false) :=
          (HK.out x hxm wr.drew ax cx (hxx.below ((Below.refl _ _).drew))).mono fun e w1 h => by
            obtain ⟨a', c', he, hxa, hb⟩ := h
            replace hb := cast_drew' hb
            have hb' : Below wr.heap.size wr w1 := hb
            have hbR : Below (w.heap.size + 3) wr w1 := hb'.mono hR
            obtain ⟨v', w2, hr, hp, hb2⟩ := pinv_step (c' := c') HP.out (by omega) hR (by omega) (show cleanF x = cleanF (ks.getD j nilEx) by rw [hxe]) hb' (hxa.mono fun b _ h => .inr h) 38
            obtain ⟨p', l', m', rfl⟩ := hp.slice'
            have hk1 := HKO.out.below (by omega) hbR
            have hk2 := hk1.below (by omega) hb2
            have hs1 := hS0.below (by omega) (by omega) hbR
            have hs2 := hs1.below (by omega) (by omega) hb2
            exact ⟨a', c', p', l', m', w2, he, hr, ⟨hp, hk2, HBr.out.trans ((hbR.trans hb2).mono (by omega))⟩, hs1, ⟨hk1.2.2.1, by have := hk1.2.2.2; omega⟩, hs2, hk2.2.2.1, (hk2.2.1 _ _ (by omega)).trans (HF.out.2.2.2.1 2)⟩
        obtain ⟨s1, s5, s6, s7⟩ := hS0
        have hn1 : ¬ b1 = w.heap.size + 1 + 1 := by omega
        have hn2 : ¬ w.heap.size + 1 + 1 = b1 := by omega
        have hz0 : w.heap.size + 1 + 1 < wr.heap.size := by omega
        generalize cleanF x = t' at *
        clear hxx hxm hxe HP HX HK P0 K0 HB0 HW c0 c1 c2 hcE
        go_wp2_with fail
        go_region_law (first | (refine step_append_run rfl _ _ _ _ rfl rfl rfl HR.out ?_) | (go_simp; refine CL.out.mono ?_; rintro e w1 ⟨a', c', p', l', m', w2, he, HR, HP2, ⟨q1, q5, q6, q7⟩, ⟨q8, q9⟩, ⟨r1, r5, r6, r7⟩, r8, r9⟩; subst he))
        all_goals
          go_wp2_with fail
          go_roundw
          case rel => exact ⟨j + 1, .slice p' l' m', by omega, by go_num, (HP2.out.2.1.set.1 _ _ (by omega) (by omega)).trans ((HKO.out.1 _ _ (by omega) (by omega)).symm.trans s1), HP2.out.1.set (by omega) (by omega), HP2.out.2.1.set, HP2.out.2.2.setCell (p := ⟨w.heap.size + 1 + 1, 2, none⟩) (by show w.heap.size ≤ w.heap.size + 1 + 1; omega) _⟩
          case measure => simp [intOf]; omega
      · obtain rfl : j = len := by omega
        obtain ⟨a', c', hv, hxg⟩ := pinv_done (k := k) (n := n) (show PInv cleanF 0 (w.heap.size + 3) ks ks.length vv wr by rw [← HL.out]; exact HP.out) HN.out.1 HN.out.2
        rw [← HL.out] at hv
        subst hv
        have HG : Hid (XG (fun b _ => b < 0 ∨ w.heap.size + 3 ≤ b) wr ⟨k, n, ks.map cleanF⟩ a') := hxg
        have o0 := (HKO.out.1 (w.heap.size + 1 + 1) 0 (by omega) (by omega)).trans (HF.out.2.2.1 0)
        have o1 := (HKO.out.1 (w.heap.size + 1 + 1) 1 (by omega) (by omega)).trans (HF.out.2.2.1 1)
        have o2 := HKO.out.2.2.1
        have z0 := (HKO.out.1 (w.heap.size + 1) 0 (by omega) (by omega)).trans (HF.out.2.1.1 0)
        have z1 := (HKO.out.1 (w.heap.size + 1) 1 (by omega) (by omega)).trans (HF.out.2.1.1 1)
        have z2 := (HKO.out.1 (w.heap.size + 1) 2 (by omega) (by omega)).trans (HF.out.2.1.1 2)
        have f0 := (HKO.out.2.1 (w.heap.size + 1) 0 (by omega)).trans (HF.out.2.1.2.1 0)
        have f1 := (HKO.out.2.1 (w.heap.size + 1) 1 (by omega)).trans (HF.out.2.1.2.1 1)
        have f2 := (HKO.out.2.1 (w.heap.size + 1) 2 (by omega)).trans (HF.out.2.1.2.1 2)
        simp only [List.getElem?_cons_zero, List.getElem?_cons_succ] at o0 o1 z0 z1 z2
        have hlt' : ¬ (j : Int) < j := by omega
        have hzs : w.heap.size + 1 < wr.heap.size := by omega
        clear hxg HP HX HK P0 K0 HB0 HW
        go_wp2_with fail
        refine bodyPost_ret (v := .agg #[.int .i64 k, .int .i64 n, .slice a' j c']) ?_ rfl ⟨a', c', ?_, ?_, ?_⟩
        rotate_left
        · show _ = Ending.returned (.agg #[.int .i64 k, .int .i64 n, .slice a' (ks.map cleanF).length c'])
          rw [List.length_map, ← HL.out]
        · exact (carry3' _ _ _ HG.out (fun b off hok => by rcases hok with h | h <;> omega)).mono fun b _ h => by rcases h with h | h <;> omega
        · exact ((HBr.out.setCell (p := ⟨w.heap.size + 1, 0, none⟩) (by show w.heap.size ≤ w.heap.size + 1; omega) _).setCell (p := ⟨w.heap.size + 1, 1, none⟩) (by show w.heap.size ≤ w.heap.size + 1; omega) _).setCell (p := ⟨w.heap.size + 1, 2, none⟩) (by show w.heap.size ≤ w.heap.size + 1; omega) _
        · simp [results, Tryz.results29, go_sem, z0, z1, z2]
set_option maxRecDepth 100000 in
set_option maxHeartbeats 4000000 in
theorem clean_no (k n : Int) (ks : List Ex) (w : World) (a : Option Addr) (c : Nat) (hk : ¬ (k = 1 ∨ k = 2 ∨ k = 5)) (hx : X w ⟨k, n, ks⟩ a) (hl : ks.length ≤ 1000000)
    (hK : ∀ (x : Ex), x ∈ ks → ∀ (wx : World) (ax : Option Addr) (cx : Nat), X wx x ax → Calls Tryz.prog 29 #[.agg #[.int .i64 x.kind, .int .i64 x.num, .slice ax x.kids.length cx]] wx (ClPost (cleanF x) wx)) :
    Calls Tryz.prog 29 #[.agg #[.int .i64 k, .int .i64 n, .slice a ks.length c]] w (ClPost ⟨k, 0, ks.map cleanF⟩ w) := by
  have HX : Hid (X w ⟨k, n, ks⟩ a) := hx
  have HK : Hid (∀ (x : Ex), x ∈ ks → ∀ (wx : World) (ax : Option Addr) (cx : Nat), X wx x ax → Calls Tryz.prog 29 #[.agg #[.int .i64 x.kind, .int .i64 x.num, .slice ax x.kids.length cx]] wx (ClPost (cleanF x) wx)) := hK
  have HN : Hid (In64 k ∧ In64 (0 : Int)) := ⟨hx.node.1, ⟨by decide, by decide⟩⟩
  clear hx hK
  obtain ⟨len, hlen⟩ : ∃ len, len = ks.length := ⟨_, rfl⟩
  rw [← hlen] at hl ⊢
  have HL : Hid (len = ks.length) := hlen
  clear hlen
  obtain ⟨W0, hW⟩ : ∃ W0, W0 = cleanW w k n 0 a len c := ⟨_, rfl⟩
  obtain ⟨p1, p2, p3, p4, p5⟩ := cleanW_facts w k n 0 a len c
  rw [← hW] at p1 p2 p3 p4 p5
  have HF : Hid (Bx W0 w.heap.size [.int .i64 k, .int .i64 n, .slice a len c] ∧ Bx W0 (w.heap.size + 1) [.int .i64 0, .int .i64 0, .slice none 0 0] ∧ Bx W0 (w.heap.size + 1 + 1) [.int .i64 k, .int .i64 0, .slice none 0 0]) := ⟨p3, p4, p5⟩
  have P0 : Hid (PInv cleanF 0 (w.heap.size + 3) ks 0 (.slice none 0 0) W0) := ⟨[], rfl, World.ownsRow_nil _ _ _ _, fun i hi => (by omega)⟩
  have K0 : Hid (KO W0 (w.heap.size + 3) (w.heap.size + 1 + 1) (.slice none 0 0) W0) := ⟨fun _ _ _ _ => rfl, fun _ _ _ => rfl, p5.1 2, by omega⟩
  have HB0 : Hid (Below w.heap.size w W0) := p2
  have HW : Hid (W0 = cleanW w k n 0 a len c) := hW
  clear p1 p2 p3 p4 p5 hW
  have k1 : (k == 1) = false := by simp; omega
  have k2 : (k == 2) = false := by simp; omega
  have k5 : (k == 5) = false := by simp; omega
  clear hk
  go_enter Tryz.func29, Tryz.ntmps29
  go_wp2_with fail
  go_loopw [4] (fun i wr => ∃ (j : Nat) (vv : Value), j ≤ len ∧ i = .int .i64 j ∧ wr.cell? ⟨w.heap.size, 2, none⟩ = some (.slice a len c) ∧ Hid (PInv cleanF 0 (w.heap.size + 3) ks j vv wr) ∧ Hid (KO W0 (w.heap.size + 3) (w.heap.size + 1 + 1) vv wr) ∧ Hid (Below w.heap.size w wr)) (fun i _ => len - (intOf i).toNat)
  case atStart =>
    refine ⟨0, .slice none 0 0, by omega, rfl, ?_, ?_, ?_, ?_⟩
    · show (cleanW w _ n _ a len c).cell? _ = _
      rw [← HW.out]; exact HF.out.1.1 2
    · show Hid (PInv _ _ _ _ _ _ (cleanW w _ n _ a len c))
      rw [← HW.out]; exact P0
    · show Hid (KO W0 _ _ _ (cleanW w _ n _ a len c))
      rw [← HW.out]; exact K0
    · show Hid (Below _ _ (cleanW w _ n _ a len c))
      rw [← HW.out]; exact HB0
  case round =>
    obtain ⟨j, vv, hj, rfl, hcE, HP, HKO, HBr⟩ := hrel
    have hR : w.heap.size + 3 ≤ wr.heap.size := HKO.out.2.2.2
    by_cases hlt : j < len
    · have hlt' : (j : Int) < len := by omega
      obtain ⟨vp, vl, vm, rfl⟩ := HP.out.slice'
      obtain ⟨b1, o1, x, ax, cx, ha, hbl, hxm, hxe, c0, c1, c2, hxx⟩ := (HX.out.below HBr.out).kid (i := j) (by rw [← HL.out]; exact hlt)
      subst ha
      have hb1 : b1 < w.heap.size := by
        obtain ⟨b1', o1', _, _, _, ha', hbl', _⟩ := HX.out.kid (i := j) (by rw [← HL.out]; exact hlt)
        cases ha'
        exact hbl'
      have hO : wr.cell? ⟨w.heap.size + 1 + 1, 2, none⟩ = some (.slice vp vl vm) := HKO.out.2.2.1
      have hfO : wr.frozen? ⟨w.heap.size + 1 + 1, 2, none⟩ = false := (HKO.out.2.1 _ _ (by omega)).trans (HF.out.2.2.2.1 2)
      have hS0 : ClS w (some ⟨b1, o1, none⟩) len c b1 (o1 + j * 3) x ax cx wr := ⟨hcE, c0, c1, c2⟩
      have CL : Hid (Calls Tryz.prog 29 #[.agg #[.int .i64 x.kind, .int .i64 x.num, .slice ax x.kids.length cx]] wr.drew fun e w1 => ∃ a' c' p' l' m' w2, e = .returned (.agg #[.int .i64 (cleanF x).kind, .int .i64 (cleanF x).num, .slice a' (cleanF x).kids.length c']) ∧
          Hid ((Builtin.append_ #[38, 38] 38 #[.slice vp vl vm, .slice (some ⟨w1.heap.size, 0, none⟩) 1 1]).run Tryz.prog (w1.alloc (.cells #[.int .i64 (cleanF x).kind, .int .i64 (cleanF x).num, .slice a' (cleanF x).kids.length c'] 40)) = .ok (.slice p' l' m') w2) ∧ Hid (PInv cleanF 0 (w.heap.size + 3) ks (j + 1) (.slice p' l' m') w2 ∧ KO W0 (w.heap.size + 3) (w.heap.size + 1 + 1) (.slice vp vl vm) w2 ∧ Below w.heap.size w w2) ∧
          ClS w (some ⟨b1, o1, none⟩) len c b1 (o1 + j * 3) x ax cx w1 ∧ (w1.cell? ⟨w.heap.size + 1 + 1, 2, none⟩ = some (.slice vp vl vm) ∧ w.heap.size + 1 + 1 < w1.heap.size) ∧ ClS w (some ⟨b1, o1, none⟩) len c b1 (o1 + j * 3) x ax cx w2 ∧ w2.cell? ⟨w.heap.size + 1 + 1, 2, none⟩ = some (.slice vp vl vm) ∧ w2.frozen? ⟨w.heap.size + 1 + 1, 2, none⟩ = false) :=
        (HK.out x hxm wr.drew ax cx (hxx.below ((Below.refl _ _).drew))).mono fun e w1 h => by
          obtain ⟨a', c', he, hxa, hb⟩ := h
          replace hb := cast_drew' hb
          have hb' : Below wr.heap.size wr w1 := hb
          have hbR : Below (w.heap.size + 3) wr w1 := hb'.mono hR
          obtain ⟨v', w2, hr, hp, hb2⟩ := pinv_step (c' := c') HP.out (by omega) hR (by omega) (show cleanF x = cleanF (ks.getD j nilEx) by rw [hxe]) hb' (hxa.mono fun b _ h => .inr h) 38
          obtain ⟨p', l', m', rfl⟩ := hp.slice'
          have hk1 := HKO.out.below (by omega) hbR
          have hk2 := hk1.below (by omega) hb2
          have hs1 := hS0.below (by omega) (by omega) hbR
          have hs2 := hs1.below (by omega) (by omega) hb2
          exact ⟨a', c', p', l', m', w2, he, hr, ⟨hp, hk2, HBr.out.trans ((hbR.trans hb2).mono (by omega))⟩, hs1, ⟨hk1.2.2.1, by have := hk1.2.2.2; omega⟩, hs2, hk2.2.2.1, (hk2.2.1 _ _ (by omega)).trans (HF.out.2.2.2.1 2)⟩
      obtain ⟨s1, s5, s6, s7⟩ := hS0
      have hn1 : ¬ b1 = w.heap.size + 1 + 1 := by omega
      have hn2 : ¬ w.heap.size + 1 + 1 = b1 := by omega
      have hz0 : w.heap.size + 1 + 1 < wr.heap.size := by omega
      generalize cleanF x = t' at *
      clear hxx hxm hxe HP HX HK P0 K0 HB0 HW c0 c1 c2 hcE
      go_wp2_with fail
      go_region_law (first | (refine step_append_run rfl _ _ _ _ rfl rfl rfl HR.out ?_) | (go_simp; refine CL.out.mono ?_; rintro e w1 ⟨a', c', p', l', m', w2, he, HR, HP2, ⟨q1, q5, q6, q7⟩, ⟨q8, q9⟩, ⟨r1, r5, r6, r7⟩, r8, r9⟩; subst he))
      all_goals
        go_wp2_with fail
        go_roundw
        case rel => exact ⟨j + 1, .slice p' l' m', by omega, by go_num, (HP2.out.2.1.set.1 _ _ (by omega) (by omega)).trans ((HKO.out.1 _ _ (by omega) (by omega)).symm.trans s1), HP2.out.1.set (by omega) (by omega), HP2.out.2.1.set, HP2.out.2.2.setCell (p := ⟨w.heap.size + 1 + 1, 2, none⟩) (by show w.heap.size ≤ w.heap.size + 1 + 1; omega) _⟩
        case measure => simp [intOf]; omega
    · obtain rfl : j = len := by omega
      obtain ⟨a', c', hv, hxg⟩ := pinv_done (k := k) (n := 0) (show PInv cleanF 0 (w.heap.size + 3) ks ks.length vv wr by rw [← HL.out]; exact HP.out) HN.out.1 HN.out.2
      rw [← HL.out] at hv
      subst hv
      have HG : Hid (XG (fun b _ => b < 0 ∨ w.heap.size + 3 ≤ b) wr ⟨k, 0, ks.map cleanF⟩ a') := hxg
      have o0 := (HKO.out.1 (w.heap.size + 1 + 1) 0 (by omega) (by omega)).trans (HF.out.2.2.1 0)
      have o1 := (HKO.out.1 (w.heap.size + 1 + 1) 1 (by omega) (by omega)).trans (HF.out.2.2.1 1)
      have o2 := HKO.out.2.2.1
      have z0 := (HKO.out.1 (w.heap.size + 1) 0 (by omega) (by omega)).trans (HF.out.2.1.1 0)
      have z1 := (HKO.out.1 (w.heap.size + 1) 1 (by omega) (by omega)).trans (HF.out.2.1.1 1)
      have z2 := (HKO.out.1 (w.heap.size + 1) 2 (by omega) (by omega)).trans (HF.out.2.1.1 2)
      have f0 := (HKO.out.2.1 (w.heap.size + 1) 0 (by omega)).trans (HF.out.2.1.2.1 0)
      have f1 := (HKO.out.2.1 (w.heap.size + 1) 1 (by omega)).trans (HF.out.2.1.2.1 1)
      have f2 := (HKO.out.2.1 (w.heap.size + 1) 2 (by omega)).trans (HF.out.2.1.2.1 2)
      simp only [List.getElem?_cons_zero, List.getElem?_cons_succ] at o0 o1 z0 z1 z2
      have hlt' : ¬ (j : Int) < j := by omega
      have hzs : w.heap.size + 1 < wr.heap.size := by omega
      clear hxg HP HX HK P0 K0 HB0 HW
      go_wp2_with fail
      refine bodyPost_ret (v := .agg #[.int .i64 k, .int .i64 0, .slice a' j c']) ?_ rfl ⟨a', c', ?_, ?_, ?_⟩
      rotate_left
      · show _ = Ending.returned (.agg #[.int .i64 k, .int .i64 0, .slice a' (ks.map cleanF).length c'])
        rw [List.length_map, ← HL.out]
      · exact (carry3' _ _ _ HG.out (fun b off hok => by rcases hok with h | h <;> omega)).mono fun b _ h => by rcases h with h | h <;> omega
      · exact ((HBr.out.setCell (p := ⟨w.heap.size + 1, 0, none⟩) (by show w.heap.size ≤ w.heap.size + 1; omega) _).setCell (p := ⟨w.heap.size + 1, 1, none⟩) (by show w.heap.size ≤ w.heap.size + 1; omega) _).setCell (p := ⟨w.heap.size + 1, 2, none⟩) (by show w.heap.size ≤ w.heap.size + 1; omega) _
      · simp [results, Tryz.results29, go_sem, z0, z1, z2]

theorem clean_any : ∀ (t : Ex) (w : World) (a : Option Addr) (c : Nat), X w t a → sizeF t ≤ 1000000 →
    Calls Tryz.prog 29 #[.agg #[.int .i64 t.kind, .int .i64 t.num, .slice a t.kids.length c]] w (ClPost (cleanF t) w) := by
  refine Ex.ind fun k n ks ih w a c hx hs => ?_
  show Calls Tryz.prog 29 #[.agg #[.int .i64 k, .int .i64 n, .slice a ks.length c]] w _
  have hl : ks.length ≤ 1000000 := by have := len_size k n ks; omega
  have hK : ∀ (x : Ex), x ∈ ks → ∀ (wx : World) (ax : Option Addr) (cx : Nat), X wx x ax → Calls Tryz.prog 29 #[.agg #[.int .i64 x.kind, .int .i64 x.num, .slice ax x.kids.length cx]] wx (ClPost (cleanF x) wx) := fun x hxm wx ax cx hxx => ih x hxm wx ax cx hxx (by have := size_kid (k := k) (n := n) hxm; omega)
  rw [clean_eq]
  by_cases hk : k = 1 ∨ k = 2 ∨ k = 5
  · rw [if_pos hk]; exact clean_yes k n ks w a c hk hx hl hK
  · rw [if_neg hk]; exact clean_no k n ks w a c hk hx hl hK
end Go.Proofs.YtjcanodnlnodpaaGreatDoor.Parse
