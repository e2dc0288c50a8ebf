/- Decode of markings, the document's own: a contract of the call, over the turned program. -/
import Derived.Test.YtnjpblmplneojaaGreatDoorMbQ
import Derived.Deep.RegionLaw
import Derived.Deep.RegionHeld3
import Derived.Deep.QuietTactic
import Derived.BigQuiet
namespace Go.Proofs.YtnjpblmplneojaaGreatDoor.Mark
open Go.RowKit Go.Maps Go.Proofs.YtnjpblmplneojaaGreatDoor.Frame Go.Proofs.YtnjpblmplneojaaGreatDoor.Bag
set_option linter.unusedVariables false
set_option linter.unusedSimpArgs false

theorem cellD {W w2 : World} {b o : Nat} {v : Value} (h : W.cell? ⟨b, o, none⟩ = some v) (hb : Below W.heap.size W w2) : w2.cell? ⟨b, o, none⟩ = some v :=
  (hb.cell (p := ⟨b, o, none⟩) (World.block_lt_of_cell? W _ h)).trans h
def NoPost (w : World) (e : Ending) (w' : World) : Prop := e = .returned (.tuple #[.slice none 0 0, .int .i64 4]) ∧ Below w.heap.size w w'
theorem no_dec {l : List UInt8} {w w' : World} {e : Ending} (h : decF l = none) (hp : NoPost w e w') : DecPost l w e w' := by
  obtain ⟨e1, e2⟩ := dec_none h
  exact ⟨none, 0, [], by rw [e1]; exact hp.1, ⟨mks_nil _ _, by rw [e2]; rfl, by decide, fun g hg => by cases hg⟩, hp.2⟩

set_option maxRecDepth 100000 in
set_option maxHeartbeats 8000000 in
theorem rdecode_m (a : Option Addr) (c : Nat) (l : List UInt8) (w : World) (h : Bts w a c l) (hl : l.length ≤ 80000) :
    Calls Tryz.prog 19 #[.slice a l.length c] w (DecPost l w) := by
  obtain ⟨ll, hll⟩ : ∃ ll, ll = l.length := ⟨_, rfl⟩
  have HL : Hid (ll = l.length) := hll
  rw [← hll] at hl
  rw [← hll]
  by_cases h0 : ll = 0
  · have E : Hid (decF l = none) := dec_short (by rw [← hll]; exact h0)
    subst h0
    clear h hl hll
    go_enter Tryz.func19, Tryz.ntmps19
    go_wp2
    go_ret2
    exact no_dec E.out ⟨rfl, Below.refl _ _⟩
  obtain ⟨b, off, hae, hbB, hbc⟩ : ∃ b off, a = some ⟨b, off, none⟩ ∧ b < w.heap.size ∧ ∀ i, i < l.length → w.cell? ⟨b, off + i, none⟩ = some (.int .u8 (byteAt l i : Nat)) := by
    rcases h.1 with h1 | ⟨b, off, ha, hB, hcc⟩
    · exact absurd (hll.trans h1) h0
    · exact ⟨b, off, ha, hB, hcc⟩
  subst hae
  have HC : Hid (∀ i, i < ll → w.cell? ⟨b, off + i, none⟩ = some (.int .u8 (byteAt l i : Nat))) := by rw [hll]; exact hbc
  have hpos : 0 < ll := by omega
  have hpos' : (0 : Int) < ll := by omega
  have hne : ¬ (ll : Int) = 0 := by omega
  have hc0 := HC.out 0 hpos
  rw [Nat.add_zero] at hc0
  have C0 : Hid (w.cell? ⟨b, off, none⟩ = some (.int .u8 (byteAt l 0 : Nat))) := hc0
  have HN0 : Hid (¬ l.length = 0) := by rw [← hll]; exact h0
  have BY : Hid (∀ k, byteAt l k < 256) := byteAt_lt l
  have hn8 := byteAt_lt l 0
  have MANY : Hid (64 < byteAt l 0 → decF l = none) := dec_many
  have NO : Hid (bagsD (byteAt l 0) (l.drop 1) = none → decF l = none) := dec_no
  have LEFT : Hid (∀ m q, bagsD (byteAt l 0) (l.drop 1) = some (m, q) → q.length ≠ 0 → decF l = none) := fun m q => dec_left
  have WHOLE : Hid (∀ m q, ¬ 64 < byteAt l 0 → bagsD (byteAt l 0) (l.drop 1) = some (m, q) → q.length = 0 → decE l = 0 ∧ decM l = m) := fun m q h1 => dec_whole HN0.out h1
  clear hbc h h0 hll
  obtain ⟨n, hn⟩ : ∃ n, n = byteAt l 0 := ⟨_, rfl⟩
  rw [← hn] at hc0 hn8 C0 MANY NO LEFT WHOLE
  by_cases h64 : (64 : Int) < n
  · have E : Hid (decF l = none) := MANY.out (by omega)
    clear hn
    go_enter Tryz.func19, Tryz.ntmps19
    go_wp2
    go_ret2
    exact no_dec E.out ⟨rfl, Below.refl _ _⟩
  have HN : Hid (n = byteAt l 0) := hn
  clear hn MANY
  go_enter Tryz.func19, Tryz.ntmps19
  go_wp2
  go_loopw [4, 5, 6] (fun at_ mv i wr => ∃ (k p : Nat) (ma : Option Addr) (mc : Nat) (gs : List Bg), k ≤ n ∧ p ≤ ll ∧ i = .int .i64 k ∧ at_ = .int .i64 p ∧ mv = .slice ma gs.length mc ∧ gs.length = k ∧ Hid (Mid l n k (mkOf gs) (l.drop p)) ∧ Hid (MG w.heap.size wr ma mc gs) ∧ Hid (∀ x, x ∈ gs → x.rows.length ≤ 10000) ∧ Hid (Below w.heap.size w wr)) (fun _ _ i _ => n - (intOf i).toNat)
  case atStart => exact ⟨0, 1, none, 0, [], by omega, by omega, rfl, rfl, rfl, rfl, mid_start l n, mg_nil _ _, (fun x hx => by cases hx), Below.refl _ _⟩
  case round =>
    obtain ⟨k, p, ma, mc, gs, hk, hp, rfl, rfl, rfl, hgl, hmid, hmg, hsm, hnx⟩ := hrel
    have hcr := cellD C0.out hnx.out
    have hbr : b < wr.heap.size := Nat.lt_of_lt_of_le hbB hnx.out.size
    by_cases hkn : k < n
    case neg =>
      obtain rfl : k = n := by omega
      have hend := mid_end hmid.out
      by_cases hpl : p = ll
      case neg =>
        have hpl' : ((p : Int) != ll) = true := by simp; omega
        have E : Hid (decF l = none) := LEFT.out _ _ hend (by rw [List.length_drop, ← HL.out]; omega)
        have H1 : Hid (Below w.heap.size w wr) := hnx.out
        clear hend hpl
        go_wp2
        go_ret2
        exact no_dec E.out ⟨rfl, H1.out⟩
      subst hpl
      obtain ⟨e1, e2⟩ := WHOLE.out _ _ (by omega) hend (by rw [List.length_drop, ← HL.out]; omega)
      have E1 : Hid (decE l = 0) := e1
      have E2 : Hid (decM l = mkOf gs) := e2
      clear hend e1 e2
      go_wp2
      go_ret2
      exact ⟨ma, mc, gs, by rw [E1.out]; rfl, ⟨hmg.out.mks fun x hx => by have := hsm.out x hx; omega, E2.out.symm, by omega, hsm.out⟩, hnx.out⟩
    have hkn' : (k : Int) < n := by omega
    by_cases h2 : (ll : Int) < p + 2
    · have E : Hid (decF l = none) := NO.out (mid_two hmid.out hkn (by rw [List.length_drop, ← HL.out]; omega))
      go_wp2
      go_ret2
      exact no_dec E.out ⟨rfl, hnx.out⟩
    have hc1 := cellD (HC.out p (by omega)) hnx.out
    have hc2 := cellD (HC.out (p + 1) (by omega)) hnx.out
    have hx0 := BY.out p
    have hx1 := BY.out (p + 1)
    have NR : Hid (numR (l.drop p) = byteAt l p * 256 + byteAt l (p + 1)) := by unfold numR; rw [byteAt_drop, byteAt_drop]; rfl
    generalize byteAt l p = x0 at *
    generalize byteAt l (p + 1) = x1 at *
    have hp1 : (p : Int) + 1 < ll := by omega
    obtain ⟨R, hR⟩ : ∃ R : Nat, R = x0 * 256 + x1 := ⟨_, rfl⟩
    have NRR : Hid (numR (l.drop p) = R) := NR.out.trans hR.symm
    have RI : Hid ((x0 : Int) * 256 + x1 = (R : Int)) := by show _ = _; omega
    have hRl : R ≤ 65535 := by omega
    have hRi := RI.out
    clear NR hR
    by_cases h3 : (ll : Int) < p + 2 + 8 * R
    · have h3' : (ll : Int) < p + 2 + 8 * ((x0 : Int) * 256 + x1) := by omega
      have E : Hid (decF l = none) := NO.out (mid_rows hmid.out hkn (by rw [List.length_drop, List.length_drop, ← HL.out, NRR.out]; omega))
      go_wp2_with fail
      go_quiet (fail)
      go_wp2
      go_ret2
      exact no_dec E.out ⟨rfl, below_drewN hnx.out _⟩
    have h3' : ¬ (ll : Int) < p + 2 + 8 * ((x0 : Int) * 256 + x1) := by omega
    go_wp2_with fail
    go_quiet (fail)
    go_wp2_with fail
    have NX : Hid (Below w.heap.size w (wr.drewN nq)) := below_drewN hnx.out _
    have MG0 : Hid (MG w.heap.size (wr.drewN nq) ma mc gs) := hmg.out.below (below_drewN (Below.refl _ _) _)
    have FIT : Hid (p + 2 + 8 * R ≤ ll) := by show _ ≤ _; omega
    have NTWO : Hid (¬ (l.drop p).length < 2) := by show ¬ _; rw [List.length_drop, ← HL.out]; omega
    clear hcr hbr hmg hnx hc1 hc2 hx0 hx1 hRi h3 h3' hp1 RI
    generalize wr.drewN nq = wi at *
    have XI : Hid (∀ j : Nat, j ≤ R → ∀ t : Nat, t < 8 → j < R → (p + 2 + 8 * j) + t < ll) := fun j hj t ht hjR => by have := FIT.out; omega
    go_loopw [4, 8, 9] (fun at_ xv kk ws => ∃ (j : Nat) (xa : Option Addr) (xc : Nat), j ≤ R ∧ kk = .int .i64 j ∧ at_ = .int .i64 (p + 2 + 8 * j : Nat) ∧ xv = .slice xa j xc ∧ Hid (Xr wi ws (rowsD j (l.drop (p + 2))) xa xc)) (fun _ _ kk _ => R - (intOf kk).toNat)
    case atStart => exact ⟨0, none, 0, by omega, rfl, by go_num, rfl, xr_nil wi⟩
    case round =>
      obtain ⟨j, xa, xc, hj, rfl, rfl, rfl, hX⟩ := hrel
      by_cases hjR : j < R
      · have hjR' : (j : Int) < R := by omega
        have IN : Hid (∀ t, t < 8 → (p + 2 + 8 * j) + t < ll) := fun t ht => XI.out j hj t ht hjR
        obtain ⟨pp, hpp⟩ : ∃ pp, pp = p + 2 + 8 * j := ⟨_, rfl⟩
        have PP : Hid (pp = p + 2 + 8 * j) := hpp
        rw [← hpp] at IN
        rw [← hpp]
        clear hpp
        have WW : Hid (Below w.heap.size w wr) := NX.out.trans (hX.out.2.mono NX.out.size)
        go_wp2_with fail
        have BX0 : Hid (Bx wr.heap.size 0 0 (wr.alloc (.cells #[.int .i64 0, .int .i64 0] 56))) := ⟨⟨by simp, by simp⟩, fun o => by simp⟩
        have BQ0 : Hid (Below wr.heap.size wr (wr.alloc (.cells #[.int .i64 0, .int .i64 0] 56))) := (Below.refl _ _).alloc (Nat.le_refl _) _
        obtain ⟨q, hq⟩ : ∃ q, q = wr.heap.size := ⟨_, rfl⟩
        have HQ : Hid (q = wr.heap.size) := hq
        rw [← hq] at BX0 BQ0
        rw [← hq]
        clear hq
        generalize wr.alloc (.cells #[.int .i64 0, .int .i64 0] 56) = wb at *
        go_loopw [11] (fun jj wt => ∃ (t : Nat), t ≤ 8 ∧ jj = .int .i64 t ∧ Hid (Bx q (nv (l.drop pp) (min t 4)) (nv (l.drop (pp + 4)) (t - 4)) wt) ∧ Hid (Below q wr wt)) (fun jj _ => 8 - (intOf jj).toNat)
        case atStart => exact ⟨0, by omega, rfl, BX0.out, BQ0.out⟩
        case round =>
          obtain ⟨t, ht, rfl, hbx, hbq⟩ := hrel
          have WT : Hid (Below w.heap.size w wr) := WW.out.trans (hbq.out.mono (by rw [HQ.out]; exact WW.out.size))
          have QL : Hid (w.heap.size ≤ q) := (show w.heap.size ≤ q by rw [HQ.out]; exact WW.out.size)
          by_cases ht8 : t < 8
          · have ht8' : (t : Int) < 8 := by omega
            have hbyt := cellD (HC.out (pp + t) (IN.out t ht8)) WT.out
            have hin := IN.out t ht8
            have hin' : (pp : Int) + t < ll := by omega
            have hbl : b < wr.heap.size := Nat.lt_of_lt_of_le hbB WT.out.size
            have hy := BY.out (pp + t)
            obtain ⟨⟨d0, d1⟩, fz⟩ := hbx.out
            have f0 := fz 0
            have f1 := fz 1
            have FZ : Hid (∀ o, wr.frozen? ⟨q, o, none⟩ = false) := fz
            have hql : q < wr.heap.size := World.block_lt_of_cell? wr _ d0
            clear fz hbx
            by_cases ht4 : t < 4
            · have hq4 : (t : Int) / 4 = 0 := by omega
              have em : min t 4 = t := by omega
              have em1 : min (t + 1) 4 = t + 1 := by omega
              have es : t - 4 = 0 := by omega
              have es1 : t + 1 - 4 = 0 := by omega
              rw [em] at d0
              rw [es] at d1
              have hn4 := nv_lt (l.drop pp) t
              have hn5 : 256 ^ t ≤ 256 ^ 3 := Nat.pow_le_pow_right (by omega) (by omega)
              have hn6 : (256 : Nat) ^ 3 = 16777216 := rfl
              have hxs : nv (l.drop pp) t < 16777216 := by omega
              have NX4 : Hid (nv (l.drop pp) (t + 1) = nv (l.drop pp) t * 256 + byteAt l (pp + t)) := by rw [← byteAt_drop]; rfl
              have EM : Hid (min (t + 1) 4 = t + 1 ∧ t + 1 - 4 = t - 4 ∧ t - 4 = 0) := ⟨em1, by omega, es⟩
              clear hn4 hn5 hn6 em em1 es es1
              obtain ⟨X, hX0⟩ : ∃ X, X = nv (l.drop pp) t := ⟨_, rfl⟩
              obtain ⟨Y, hY0⟩ : ∃ Y, Y = nv (l.drop (pp + 4)) 0 := ⟨_, rfl⟩
              obtain ⟨Z, hZ0⟩ : ∃ Z, Z = byteAt l (pp + t) := ⟨_, rfl⟩
              rw [← hX0, ← hZ0] at NX4
              rw [← hX0] at d0 hxs
              rw [← hY0] at d1
              rw [← hZ0] at hbyt hy
              have YE : Hid (nv (l.drop (pp + 4)) 0 = Y) := hY0.symm
              clear hX0 hY0 hZ0
              have hw0 : IntKind.i64.wrap 0 = 0 := by decide
              obtain ⟨V, hV⟩ : ∃ V : Nat, V = X * 256 + Z := ⟨_, rfl⟩
              have HV : Hid (V = X * 256 + Z) := hV
              obtain ⟨pt, hpt⟩ : ∃ pt : Nat, pt = pp + t := ⟨_, rfl⟩
              rw [← hpt] at hbyt hin
              have hw1 : IntKind.i64.wrap ((pp : Int) + t) = (pt : Int) := by simp [IntKind.wrap, IntKind.signed, IntKind.bits]; omega
              have hw4 : IntKind.i64.wrap (Z : Int) = Z := by simp [IntKind.wrap, IntKind.signed, IntKind.bits]; omega
              have hw2 : IntKind.i64.wrap (256 * (X : Int)) = 256 * (X : Int) := by simp [IntKind.wrap, IntKind.signed, IntKind.bits]; omega
              have hw3 : IntKind.i64.wrap (256 * (X : Int) + Z) = (V : Int) := by simp [IntKind.wrap, IntKind.signed, IntKind.bits]; omega
              have BX : Hid (Bx q X Y wr) := ⟨⟨d0, d1⟩, FZ.out⟩
              clear hV hpt
              go_wp2_with fail
              go_region_law (fail)
              all_goals
                go_wp2
                go_roundw
                case rel =>
                  refine ⟨t + 1, by omega, by go_num, ?_, below_put hbq.out _⟩
                  rw [EM.out.1, NX4.out, ← HV.out, EM.out.2.1, EM.out.2.2, YE.out]
                  exact BX.out.set0
                case measure => simp [intOf]; omega
            · have hq4 : (t : Int) / 4 = 1 := by omega
              have em : min t 4 = 4 := by omega
              have em1 : min (t + 1) 4 = 4 := by omega
              have es1 : t + 1 - 4 = (t - 4) + 1 := by omega
              rw [em] at d0
              have hn4 := nv_lt (l.drop (pp + 4)) (t - 4)
              have hn5 : 256 ^ (t - 4) ≤ 256 ^ 3 := Nat.pow_le_pow_right (by omega) (by omega)
              have hn6 : (256 : Nat) ^ 3 = 16777216 := rfl
              have hys : nv (l.drop (pp + 4)) (t - 4) < 16777216 := by omega
              have NX4 : Hid (nv (l.drop (pp + 4)) ((t - 4) + 1) = nv (l.drop (pp + 4)) (t - 4) * 256 + byteAt l (pp + t)) := by
                have : byteAt l (pp + t) = byteAt (l.drop (pp + 4)) (t - 4) := by rw [byteAt_drop]; congr 1; omega
                rw [this]; rfl
              have EM : Hid (min (t + 1) 4 = 4 ∧ t + 1 - 4 = (t - 4) + 1) := ⟨em1, es1⟩
              clear hn4 hn5 hn6 em em1 es1
              obtain ⟨X, hX0⟩ : ∃ X, X = nv (l.drop pp) 4 := ⟨_, rfl⟩
              obtain ⟨Y, hY0⟩ : ∃ Y, Y = nv (l.drop (pp + 4)) (t - 4) := ⟨_, rfl⟩
              obtain ⟨Z, hZ0⟩ : ∃ Z, Z = byteAt l (pp + t) := ⟨_, rfl⟩
              rw [← hY0, ← hZ0] at NX4
              rw [← hX0] at d0
              rw [← hY0] at d1 hys
              rw [← hZ0] at hbyt hy
              have XE : Hid (nv (l.drop pp) 4 = X) := hX0.symm
              clear hX0 hY0 hZ0
              have hw0 : IntKind.i64.wrap 1 = 1 := by decide
              obtain ⟨V, hV⟩ : ∃ V : Nat, V = Y * 256 + Z := ⟨_, rfl⟩
              have HV : Hid (V = Y * 256 + Z) := hV
              obtain ⟨pt, hpt⟩ : ∃ pt : Nat, pt = pp + t := ⟨_, rfl⟩
              rw [← hpt] at hbyt hin
              have hw1 : IntKind.i64.wrap ((pp : Int) + t) = (pt : Int) := by simp [IntKind.wrap, IntKind.signed, IntKind.bits]; omega
              have hw4 : IntKind.i64.wrap (Z : Int) = Z := by simp [IntKind.wrap, IntKind.signed, IntKind.bits]; omega
              have hw2 : IntKind.i64.wrap (256 * (Y : Int)) = 256 * (Y : Int) := by simp [IntKind.wrap, IntKind.signed, IntKind.bits]; omega
              have hw3 : IntKind.i64.wrap (256 * (Y : Int) + Z) = (V : Int) := by simp [IntKind.wrap, IntKind.signed, IntKind.bits]; omega
              have BX : Hid (Bx q X Y wr) := ⟨⟨d0, d1⟩, FZ.out⟩
              clear hV hpt
              go_wp2_with fail
              go_region_law (fail)
              all_goals
                go_wp2
                go_roundw
                case rel =>
                  refine ⟨t + 1, by omega, by go_num, ?_, below_put hbq.out _⟩
                  rw [EM.out.1, XE.out, EM.out.2, NX4.out, ← HV.out]
                  exact BX.out.set1
                case measure => simp [intOf]; omega
          · have ht8e : t = 8 := by omega
            subst ht8e
            have hb8 := hbx.out
            rw [show min 8 4 = 4 by rfl, show 8 - 4 = 4 by rfl, nv_four, nv_four] at hb8
            obtain ⟨⟨d0, d1⟩, fz⟩ := hb8
            have e1 : (l.drop (p + 2)).drop (8 * j) = l.drop pp := by rw [List.drop_drop]; congr 1; rw [PP.out]
            have e2 : (l.drop (p + 2)).drop (8 * j + 4) = l.drop (pp + 4) := by rw [List.drop_drop]; congr 1; rw [PP.out]; omega
            have ROW : Hid (rowsD (j + 1) (l.drop (p + 2)) = rowsD j (l.drop (p + 2)) ++ [((num4 (l.drop pp) : Int), (num4 (l.drop (pp + 4)) : Int))]) := by rw [rowsD_snoc, e1, e2]; exact (rfl : _ = _)
            have XR : Hid (Xr wi wr (rowsD j (l.drop (p + 2))) xa xc) := hX.out.up (by rw [← HQ.out]; exact hbq.out)
            have RL : Hid ((rowsD j (l.drop (p + 2))).length = j) := rowsD_len _ _
            have P8 : Hid (pp + 8 = p + 2 + 8 * (j + 1)) := by show _ = _; rw [PP.out]; omega
            obtain ⟨X, hX1⟩ : ∃ X, X = num4 (l.drop pp) := ⟨_, rfl⟩
            obtain ⟨Y, hY1⟩ : ∃ Y, Y = num4 (l.drop (pp + 4)) := ⟨_, rfl⟩
            rw [← hX1, ← hY1] at ROW
            rw [← hX1] at d0
            rw [← hY1] at d1
            have hpp8 : pp + 8 ≤ ll := by have := FIT.out; rw [P8.out]; omega
            clear hX1 hY1 fz e1 e2 hbx hbq hX WW WT BX0 BQ0
            go_wp2_with (first
              | (at_builtin; refine wp_own (B := wi.heap.size) (sa := xa) (n := j) (c := xc) (xs := cellsF (rowsD j (l.drop (p + 2)))) (news := [.int .i64 X, .int .i64 Y]) rfl _ _ rfl rfl rfl Tryz.underlying36 infoRow rfl (by decide) (by decide) (XR.out.own RL.out _).1 rfl (news_two _ _ _ _) (by simp [Value.oneCell']) (by omega) (XR.out.own RL.out _).2 ?_; intro a' c' w3 hown hg hat; have XN : Hid (Xr wi w3 (rowsD j (l.drop (p + 2)) ++ [((X : Int), (Y : Int))]) a' c') := XR.out.more RL.out hown hg; clear hown hg hat)
              | go_in)
            go_roundw
            case rel => exact ⟨j + 1, a', c', by omega, by go_num, by rw [← P8.out]; go_num, rfl, by rw [ROW.out]; exact XN.out⟩
            case measure => simp [intOf]; omega
      · obtain rfl : j = R := by omega
        have RL : Hid ((rowsD j (l.drop (p + 2))).length = j) := rowsD_len _ _
        have WW : Hid (Below w.heap.size w wr) := NX.out.trans (hX.out.2.mono NX.out.size)
        have MG1 : Hid (MG w.heap.size wr ma mc gs) := MG0.out.below hX.out.2
        have AP : Hid (Apt (ma.map Addr.block) wr ⟨rowsD j (l.drop (p + 2)), xa, xc⟩) := hX.out.apt (rowsD_wf _ _) fun k hk => (MG0.out.lt k hk).2
        have BG : Hid (Bags wr xa j (rowsD j (l.drop (p + 2)))) := by have := AP.out.1; rwa [RL.out] at this
        have D2 : Hid ((l.drop p).drop 2 = l.drop (p + 2)) := by show _ = _; rw [List.drop_drop]
        have WR0 : Hid (rightB (rowsD j (l.drop (p + 2))) = false → decF l = none) := fun h => NO.out (mid_wrong hmid.out hkn (by rw [NRR.out, D2.out]; exact h))
        have NEXT : Hid (rightB (rowsD j (l.drop (p + 2))) = true → Mid l n (k + 1) (mkOf gs ++ [rowsD j (l.drop (p + 2))]) (l.drop (p + 2 + 8 * j))) := fun h => by
          have := mid_next hmid.out hkn NTWO.out (by rw [D2.out, NRR.out, List.length_drop, ← HL.out]; have := FIT.out; omega) (by rw [NRR.out, D2.out]; exact h)
          rw [NRR.out, D2.out, List.drop_drop] at this
          exact this
        have LE : Hid (j ≤ 10000) := by have := FIT.out; show j ≤ 10000; omega
        clear hX MG0 NRR NTWO hmid NX XI
        go_wp2_with fail
        refine (rright_q _ _ _ (rowsD j (l.drop (p + 2))) _ BG.out (by omega)).mono ?_
        rintro e w1 ⟨he, nn, hw1⟩
        subst he
        have hb1 : Below wr.heap.size wr w1 := by rw [hw1]; exact below_drewN (Below.refl _ _) _
        have W1 : Hid (Below w.heap.size w w1) := then_ WW.out hb1
        have MG2 : Hid (MG w.heap.size w1 ma mc gs) := MG1.out.below hb1
        have hAP := AP.out
        have AP2 : Hid (Apt (ma.map Addr.block) w1 ⟨rowsD j (l.drop (p + 2)), xa, xc⟩) := ⟨hAP.1.below hb1, fun b off ha h0 => ⟨Nat.lt_of_lt_of_le (hAP.2 b off ha h0).1 hb1.size, (hAP.2 b off ha h0).2⟩⟩
        clear hw1 hb1 hAP AP BG MG1 WW
        cases hs : rightB (rowsD j (l.drop (p + 2))) with
        | false =>
          have E : Hid (decF l = none) := WR0.out hs
          clear hs NEXT WR0
          go_wp2
          go_ret2
          exact no_dec E.out ⟨rfl, W1.out⟩
        | true =>
          have NX2 : Hid (Mid l n (k + 1) (mkOf gs ++ [rowsD j (l.drop (p + 2))]) (l.drop (p + 2 + 8 * j))) := NEXT.out hs
          have GV : Hid (bgV ⟨rowsD j (l.drop (p + 2)), xa, xc⟩ = .slice xa j xc) := by show Value.slice xa (rowsD j (l.drop (p + 2))).length xc = _; rw [RL.out]
          have MK : Hid (mkOf (gs ++ [⟨rowsD j (l.drop (p + 2)), xa, xc⟩]) = mkOf gs ++ [rowsD j (l.drop (p + 2))]) := by unfold mkOf; show _ = _; rw [List.map_append]; rfl
          have GL : Hid (gs.length = k) := hgl
          have OWN : Hid (∀ o, (w1.alloc o).ownsRow w.heap.size 36 1 (.slice ma k mc) k (gs.map bgV)) := fun o => by have := MG2.out.1.alloc o; rwa [GL.out] at this
          have hfit : p + 2 + 8 * j ≤ ll := FIT.out
          clear hs NEXT WR0
          go_wp2_with (first
            | (at_builtin; refine wp_own (B := w.heap.size) (sa := ma) (n := k) (c := mc) (xs := gs.map bgV) (news := [.slice xa j xc]) rfl _ _ rfl rfl rfl Tryz.underlying23 infoBag rfl (by decide) (by decide) (OWN.out _) rfl (news_one _ _ _) (by simp [Value.oneCell']) (by omega) (by have := W1.out.size; simp; omega) ?_; intro a' c' w3 hown hg hat; have MN : Hid (MG w.heap.size w3 a' c' (gs ++ [⟨rowsD j (l.drop (p + 2)), xa, xc⟩])) := MG2.out.add AP2.out (by rw [GV.out, GL.out]; exact hown) hg hat; have W3 : Hid (Below w.heap.size w w3) := (W1.out.alloc W1.out.size _).grown hg (by have := W1.out.size; simp; omega) (fun k hk => (MG2.out.lt k hk).1); clear hown hg hat)
            | go_in)
          go_roundw
          case rel => exact ⟨k + 1, p + 2 + 8 * j, a', c', gs ++ [(⟨rowsD j (l.drop (p + 2)), xa, xc⟩ : Bg)], by omega, hfit, by go_num, rfl, by rw [List.length_append, GL.out]; rfl, by rw [List.length_append, GL.out]; rfl, by rw [MK.out]; exact NX2.out, MN, (fun x hx => by
            rcases List.mem_append.1 hx with hx | hx
            · exact hsm.out x hx
            · rw [List.mem_singleton.1 hx]; show (rowsD j (l.drop (p + 2))).length ≤ 10000; rw [RL.out]; exact LE.out), W3.out⟩
          case measure => simp [intOf]; omega
end Go.Proofs.YtnjpblmplneojaaGreatDoor.Mark
