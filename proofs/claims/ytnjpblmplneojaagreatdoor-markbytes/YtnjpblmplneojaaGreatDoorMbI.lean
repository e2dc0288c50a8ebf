/- Right of package mark: a contract of the call, over the turned program. -/
import Derived.Test.YtnjpblmplneojaaGreatDoorMbH
import Derived.Deep.RegionLaw
namespace Go.Proofs.YtnjpblmplneojaaGreatDoor.Mark
open Go.RowKit Go.Proofs.YtnjpblmplneojaaGreatDoor.Frame Go.Proofs.YtnjpblmplneojaaGreatDoor.Bag Go.Proofs.YtnjpblmplneojaaGreatDoor.Check
set_option linter.unusedVariables false
set_option linter.unusedSimpArgs false

/-- the bag may lie there -/
def fitB (cs : List Colour.Col) (colour : Int) (rs : List Row) : Bool := decide (rs.length = 0) || (rightB rs && decide ((rs.getD (rs.length - 1) zr).1 < Colour.sizeF cs colour))

set_option maxRecDepth 100000 in
theorem greatest_any (a : Option Addr) (len cap : Nat) (rs : List Row) (w : World) (h : Bags w a len rs) (h0 : 0 < len) (hl : len ≤ 1000000) :
    Calls Tryz.prog 57 #[.slice a len cap] w fun e w' => e = .returned (.int .i64 (rs.getD (len - 1) zr).1) ∧ w' = w := by
  obtain ⟨b, off, hae, hbl, hat⟩ := h.row (k := len - 1) (by omega)
  obtain ⟨c0, c1⟩ := hat (len - 1) (by rw [h.1.1]; omega)
  subst hae
  generalize (rs.getD (len - 1) zr).1 = m at *
  have hlk : (len : Int) - 1 < len := by omega
  have hlk0 : ¬ (len : Int) - 1 < 0 := by omega
  have h2 : (0 : Int) < len := by omega
  clear hat c1 h
  go_enter Tryz.func57, Tryz.ntmps57
  go_wp2
  go_ret
  exact ⟨rfl, rfl⟩

set_option maxRecDepth 100000 in
set_option maxHeartbeats 2000000 in
theorem fit_any (q : Nat) (n : Ne) (name : ByteArray) (colour : Int) (fa a : Option Addr) (fl fc len cap : Nat) (rs : List Row) (w : World) (hN : Colour.Cols w n.ca n.cols.length n.cols) (hq : w.cell? ⟨q, 0, none⟩ = some (.slice n.ca n.cols.length n.cc)) (hb : Bags w a len rs) (hl : len ≤ 10000) (hright : rightB rs = true) :
    Calls Tryz.prog 56 #[.agg #[.string name, .int .i64 colour, .slice fa fl fc], .slice a len cap, .pointer (some ⟨q, 0, none⟩)] w (TwoPost (fitB n.cols colour rs) w) := by
  have LA : Hid (rs.length = len) := hb.1.1
  have RT : Hid (∀ w0, Below w.heap.size w w0 → ∀ W, Below w0.heap.size w0 W → Calls Tryz.prog 22 #[.slice a len cap] W fun e w' => e = .returned (.bool (rightB rs)) ∧ Below w0.heap.size w0 w') := fun w0 h0 W hW => (right_any a len cap rs W (hb.below (then_ h0 hW)) (by omega)).mono fun e w' h => ⟨h.1, then_ hW h.2⟩
  have GR : Hid (0 < len → ∀ w0, Below w.heap.size w w0 → ∀ W, Below w0.heap.size w0 W → Calls Tryz.prog 57 #[.slice a len cap] W fun e w' => e = .returned (.int .i64 (rs.getD (len - 1) zr).1) ∧ Below w0.heap.size w0 w') := fun hl0 w0 h0 W hW => (greatest_any a len cap rs W (hb.below (then_ h0 hW)) hl0 (by omega)).mono fun e w' h => ⟨h.1, by rw [h.2]; exact hW⟩
  have SZ : Hid (∀ w0, Below w.heap.size w w0 → ∀ W, Below w0.heap.size w0 W → Calls Tryz.prog 58 #[.slice n.ca n.cols.length n.cc, .int .i64 colour] W fun e w' => e = .returned (.int .i64 (Colour.sizeF n.cols colour)) ∧ Below w0.heap.size w0 w') := fun w0 h0 W hW => (Colour.size_any n.ca n.cols.length n.cc n.cols colour W (hN.below (then_ h0 hW))).mono fun e w' h => ⟨h.1, then_ hW h.2⟩
  have FB : Hid (fitB n.cols colour rs = (decide (len = 0) || (rightB rs && decide ((rs.getD (len - 1) zr).1 < Colour.sizeF n.cols colour)))) := by
    show fitB n.cols colour rs = _
    unfold fitB
    rw [LA.out]
  have hql := World.block_lt_of_cell? w _ hq
  have HQ : Hid (w.cell? ⟨q, 0, none⟩ = some (.slice n.ca n.cols.length n.cc)) := hq
  have HBb : Hid (Bags w a len rs) := hb
  clear hN hb
  by_cases h0 : len = 0
  · subst h0
    have E : Hid (fitB n.cols colour rs = true) := FB.out
    clear FB RT GR SZ
    go_enter Tryz.func56, Tryz.ntmps56
    go_wp2
    go_quiet (fail)
    go_wp2
    go_ret
    exact ⟨by rw [E.out]; rfl, below_drewN ((Below.refl _ _).alloc (Nat.le_refl _) _) _⟩
  have hpos : 0 < len := by omega
  have d0 : ((len : Int) == 0) = false := by simpa using h0
  have d1 : decide ((len : Int) = 0) = false := decide_eq_false (by omega)
  have GR2 : Hid (∀ w0, Below w.heap.size w w0 → ∀ W, Below w0.heap.size w0 W → Calls Tryz.prog 57 #[.slice a len cap] W fun e w' => e = .returned (.int .i64 (rs.getD (len - 1) zr).1) ∧ Below w0.heap.size w0 w') := GR.out hpos
  have E : Hid (fitB n.cols colour rs = decide ((rs.getD (len - 1) zr).1 < Colour.sizeF n.cols colour)) := by
    show fitB n.cols colour rs = _
    rw [FB.out, hright, decide_eq_false h0]; rfl
  rw [hright] at RT
  clear FB GR hright
  generalize (rs.getD (len - 1) zr).1 = m at *
  generalize Colour.sizeF n.cols colour = z at *
  go_enter Tryz.func56, Tryz.ntmps56
  go_wp2_with fail
  generalize hW : w.alloc (.cells #[.string name, .int .i64 colour, .slice fa fl fc] 80) = w0
  have F : (w0.cell? ⟨w.heap.size, 1, none⟩ = some (.int .i64 colour) ∧ w0.cell? ⟨q, 0, none⟩ = some (.slice n.ca n.cols.length n.cc)) ∧ Below w.heap.size w w0 := by
    have hb0 : Below w.heap.size w w0 := by subst hW; exact (Below.refl _ _).alloc (Nat.le_refl _) _
    refine ⟨⟨by subst hW; simp, rowB_call HQ.out hb0⟩, hb0⟩
  obtain ⟨⟨x1, x0⟩, hB0⟩ := F
  have X1 : Hid (w0.cell? ⟨w.heap.size, 1, none⟩ = some (.int .i64 colour)) := x1
  have X0 : Hid (w0.cell? ⟨q, 0, none⟩ = some (.slice n.ca n.cols.length n.cc)) := x0
  have B0 : Hid (Below w.heap.size w w0) := hB0
  clear hW hB0 hq
  have RT0 : Hid (∀ W, Below w0.heap.size w0 W → Calls Tryz.prog 22 #[.slice a len cap] W fun e w' => e = .returned (.bool true) ∧ Below w0.heap.size w0 w') := RT.out w0 B0.out
  have GR0 : Hid (∀ W, Below w0.heap.size w0 W → Calls Tryz.prog 57 #[.slice a len cap] W fun e w' => e = .returned (.int .i64 m) ∧ Below w0.heap.size w0 w') := GR2.out w0 B0.out
  have SZ0 : Hid (∀ W, Below w0.heap.size w0 W → Calls Tryz.prog 58 #[.slice n.ca n.cols.length n.cc, .int .i64 colour] W fun e w' => e = .returned (.int .i64 z) ∧ Below w0.heap.size w0 w') := SZ.out w0 B0.out
  go_region_held3 (fun w' => w'.cell? ⟨w.heap.size, 1, none⟩ = some (.int .i64 colour) ∧ w'.cell? ⟨q, 0, none⟩ = some (.slice n.ca n.cols.length n.cc)) (go_keep)
    (first
      | (go_at_call 22; refine (RT0.out _ (by first | exact (Below.refl _ _).drew | exact Below.refl _ _)).mono ?_; rintro e w1 ⟨he, hb1⟩; subst he; have g0 := rowB_call X1.out hb1; have g1 := rowB_call X0.out hb1)
      | (go_at_call 57; refine (GR0.out _ (by first | exact hb1.drew | exact hb1 | exact hb2.drew | exact hb2)).mono ?_; rintro e w3 ⟨he, hb3⟩; subst he; have g4 := rowB_call X1.out hb3; have g5 := rowB_call X0.out hb3)
      | (go_at_call 58; refine (SZ0.out _ (by first | exact hb3.drew | exact hb3 | exact hb1.drew | exact hb1)).mono ?_; rintro e w2 ⟨he, hb2⟩; subst he; have g2 := rowB_call X1.out hb2; have g3 := rowB_call X0.out hb2))
  have B2 : Hid (Below w.heap.size w w2) := then_ B0.out hb2
  clear g0 g1 g2 g3 g4 g5 hb1 hb2 hb3 RT0 GR0 SZ0 x0 x1
  go_wp2
  go_ret
  exact ⟨by rw [E.out]; rfl, B2.out⟩

/-- may the marking be one of the net: of right bags -/
def rightM (cs : List Colour.Col) (ps : List Pl) (m : Mk) : Bool := decide (ps.length = m.length) && (List.range ps.length).all fun i => fitB cs (ps.getD i nilPl).colour (at_ m i)

set_option maxRecDepth 100000 in
set_option maxHeartbeats 2000000 in
theorem equalR_m (q : Nat) (n : Ne) (a : Option Addr) (la ca : Nat) (xs : List Bg) (w : World) (hN : NeOk w n) (hq : w.cell? ⟨q, 0, none⟩ = some (.slice n.ca n.cols.length n.cc)) (ha : Mks w a la xs) (sx : Sm xs) (hR : RightM (mkOf xs)) (hl : n.places.length = la) (hf : rightM n.cols n.places (mkOf xs) = true) :
    Calls Tryz.prog 55 #[.slice n.pa la n.pc, .slice a la ca, .func (.func 56) #[] #[.pointer (some ⟨q, 0, none⟩)]] w (TwoPost true w) := by
  have HA : Hid (Mks w a la xs) := ha
  have SX : Hid (Sm xs) := sx
  have LA : Hid (xs.length = la) := ha.1
  have LP : Hid (n.places.length = la) := hl
  have HN : Hid (NeOk w n) := hN
  have HQ : Hid (w.cell? ⟨q, 0, none⟩ = some (.slice n.ca n.cols.length n.cc)) := hq
  have hla : la ≤ 1000 := by have := sx.1; rw [ha.1] at this; exact this
  have FT : Hid (∀ k, k < la → fitB n.cols (n.places.getD k nilPl).colour (xs.getD k nilBg).rows = true ∧ rightB (xs.getD k nilBg).rows = true) := fun k hk => by
    have hkx : k < xs.length := by rw [ha.1]; exact hk
    unfold rightM at hf
    rw [Bool.and_eq_true, List.all_eq_true] at hf
    have := hf.2 k (List.mem_range.2 (by rw [hl]; exact hk))
    rw [mkOf_at xs hkx] at this
    refine ⟨this, rightB_iff.2 ?_⟩
    rw [← mkOf_at xs hkx]
    exact hR _ (at_mem (by rw [mkOf_len]; exact hkx))
  clear ha sx hN hq hR hf hl
  go_enter Tryz.func55, Tryz.ntmps55
  go_wp2
  go_loopw [17] (fun i wr => ∃ k : Nat, k ≤ la ∧ i = .int .i64 k ∧ Below w.heap.size w wr) (fun i _ => la - (intOf i).toNat)
  case atStart => exact ⟨0, by omega, rfl, Below.refl _ _⟩
  case round =>
    obtain ⟨k, hk, rfl, hnx⟩ := hrel
    by_cases hlt : k < la
    · have hlt' : (k : Int) < la := by omega
      obtain ⟨ba, oa, hae, hal, ac, aok⟩ := (HA.out.below hnx).row (k := k) hlt
      obtain ⟨bp, op, hpa, hrun, hpl⟩ := (HN.out.below hnx).2.2.1.at (i := k) (by rw [LP.out]; exact hlt)
      have lx := SX.out.at (k := k) (by rw [LA.out]; exact hlt)
      have ft := FT.out k hlt
      subst hae
      generalize xs.getD k nilBg = gx at *
      generalize n.places.getD k nilPl = p at *
      have c0 : wr.cell? ⟨bp, op + k * 3, none⟩ = some (.string p.name) := hrun 0 _ rfl
      have c1 : wr.cell? ⟨bp, op + k * 3 + 1, none⟩ = some (.int .i64 p.colour) := hrun 1 _ rfl
      have c2 : wr.cell? ⟨bp, op + k * 3 + 2, none⟩ = some (.slice p.fa p.first.length p.fc) := hrun 2 _ rfl
      have hbl : bp < wr.heap.size := World.block_lt_of_cell? wr _ c0
      have KX : Hid (Bags wr gx.a gx.rows.length gx.rows) := aok.1
      have NK : Hid (NeOk wr n) := HN.out.below hnx
      have Q1 : Hid (wr.cell? ⟨q, 0, none⟩ = some (.slice n.ca n.cols.length n.cc)) := rowB_call HQ.out hnx
      have HX : Hid (Below w.heap.size w wr) := hnx
      have FK : Hid (fitB n.cols p.colour gx.rows = true ∧ rightB gx.rows = true) := ft
      clear aok hnx hrun hpl ft
      rw [hpa] at *
      go_wp2_with fail
      refine (fit_any q n p.name p.colour p.fa gx.a p.first.length p.fc gx.rows.length gx.c gx.rows _ (NK.out.2.1.below ((Below.refl _ _).alloc (Nat.le_refl _) _)) (rowB_call Q1.out ((Below.refl _ _).alloc (Nat.le_refl _) _)) (KX.out.below ((Below.refl _ _).alloc (Nat.le_refl _) _)) lx FK.out.2).mono ?_
      rintro e w1 ⟨he, hb1⟩
      subst he
      rw [FK.out.1]
      have H1 : Hid (Below w.heap.size w w1) := HX.out.trans ((((Below.refl _ _).alloc (Nat.le_refl _) _).trans (hb1.mono (by simp))).mono HX.out.size)
      clear hb1 c0 c1 c2 ac
      go_wp2
      go_roundw
      case rel => exact ⟨k + 1, by omega, by go_num, H1.out⟩
      case measure => simp [intOf]; omega
    · go_wp2
      go_ret
      exact ⟨rfl, hnx⟩

set_option maxRecDepth 100000 in
set_option maxHeartbeats 2000000 in
theorem right_m (n : Ne) (a : Option Addr) (la ca : Nat) (xs : List Bg) (w : World) (hN : NeOk w n) (ha : Mks w a la xs) (sx : Sm xs) (hR : RightM (mkOf xs)) (hl : n.places.length = la) (hf : rightM n.cols n.places (mkOf xs) = true) :
    Calls Tryz.prog 31 #[.agg #[.slice n.ca n.cols.length n.cc, .slice n.pa la n.pc, .slice n.ta n.tasks.length n.tc, .int .i64 n.frm, .int .i64 n.too], .slice a la ca] w (TwoPost true w) := by
  have CE : Hid (∀ W, Below w.heap.size w W → W.cell? ⟨w.heap.size, 0, none⟩ = some (.slice n.ca n.cols.length n.cc) → Calls Tryz.prog 55 #[.slice n.pa la n.pc, .slice a la ca, .func (.func 56) #[] #[.pointer (some ⟨w.heap.size, 0, none⟩)]] W (TwoPost true W)) :=
    fun W hW hq => equalR_m w.heap.size n a la ca xs W (hN.below hW) hq (ha.below hW) sx hR hl hf
  clear hN ha sx hR hf hl
  go_enter Tryz.func31, Tryz.ntmps31
  go_wp2_with fail
  refine (CE.out _ ((Below.refl _ _).alloc (Nat.le_refl _) _) (by simp)).mono ?_
  rintro e w1 ⟨he, hb1⟩
  subst he
  have H1 : Hid (Below w.heap.size w w1) := ((Below.refl _ w).alloc (Nat.le_refl _) _).trans (hb1.mono (by simp))
  clear hb1
  go_wp2
  go_ret
  exact ⟨rfl, H1.out⟩
end Go.Proofs.YtnjpblmplneojaaGreatDoor.Mark
