/- Less and Most of package bag: contracts of the calls, over the turned program. -/
import Derived.Test.YtoinepmlbcnbgaaBagSum
namespace Go.Proofs.Ytoinepmlbcnbgaa.Bag
open Go.RowKit Go.Maps Go.Proofs.Ytoinepmlbcnbgaa.Frame
set_option linter.unusedVariables false

/-- does a row's count go out of a? -/
def coversB (xs ys : List Row) : Bool := ys.all fun r => decide (r.2 ≤ cntF xs r.1)
theorem coversB_bad {xs ys : List Row} {k : Nat} (hk : k < ys.length) (h : ¬ (ys.getD k zr).2 ≤ cntF xs (ys.getD k zr).1) : coversB xs ys = false := by
  unfold coversB
  rw [List.all_eq_false]
  exact ⟨_, getD_mem hk, by simpa using h⟩
theorem coversB_good {xs ys : List Row} (h : ∀ k, k < ys.length → (ys.getD k zr).2 ≤ cntF xs (ys.getD k zr).1) : coversB xs ys = true := by
  unfold coversB
  rw [List.all_eq_true]
  intro r hr
  obtain ⟨j, hj, rfl⟩ := List.getElem_of_mem hr
  have := h j hj
  rw [getD_get zr hj] at this
  exact decide_eq_true this
theorem covers_within {xs ys : List Row} (hx : RightP xs) (hy : RightP ys) : coversB xs ys = withinB ys xs := by
  unfold coversB withinB
  rw [rightB_iff.2 hx, rightB_iff.2 hy]; rfl
def lessC (xs ys : List Row) (m : Int) : Int := cntF xs m - cntF ys m
theorem coversB_all {xs ys : List Row} (hx : RightP xs) (hy : RightP ys) (h : coversB xs ys = true) (m : Int) (h0 : lessC xs ys m ≠ 0) : 0 ≤ m ∧ 1 ≤ lessC xs ys m ∧ lessC xs ys m ≤ 1048576 := by
  rw [covers_within hx hy] at h
  have h1 := (within_iff hy hx).1 h m
  have r1 := cntF_range hx m
  have r2 := cntF_range hy m
  unfold lessC at *
  have hm : 0 ≤ m := by
    apply Classical.byContradiction
    intro hn
    have := cntF_low hx (m := m) (by omega)
    omega
  omega
/-- Less's answers, of right bags -/
def LessPost (w : World) (xs ys : List Row) (n : Nat) (e : Ending) (w' : World) : Prop :=
  ((coversB xs ys = false ∧ e = .returned (.tuple #[.slice none 0 0, .int .i64 10])) ∨ (coversB xs ys = true ∧ ∃ a len cap, e = .returned (.tuple #[.slice a len cap, .int .i64 0]) ∧ Answer w w' n (lessC xs ys) a len cap)) ∧ Below w.heap.size w w'

theorem Cnts.del {w1 : World} {B n : Nat} {c c' : Int → Int} {m z : Int} (h : Mp w1 B n (fun i => i != m && (i == m || c i != 0)) (setC (setC c m z) m 0)) (e : ∀ x, setC c m 0 x = c' x) : Cnts w1 B n c' :=
  Mp.congr h (fun x => by
    rw [← e x]
    unfold setC
    by_cases hx : x = m
    · simp [hx]
    · have h1 : (x == m) = false := by simpa using hx
      simp [hx, h1, bne]) (fun x => by
    rw [← e x]
    unfold setC
    by_cases hx : x = m
    · simp [hx]
    · simp [hx])

set_option maxHeartbeats 2000000 in
theorem less_right (a b : Option Addr) (la ca lb cb : Nat) (xs ys : List Row) (w : World) (ha : Bags w a la xs) (hb : Bags w b lb ys) (hla : la ≤ 100000) (hlb : lb ≤ 100000) (hx : RightP xs) (hy : RightP ys) :
    Calls Try.prog 24 #[.slice a la ca, .slice b lb cb] w fun e w' => LessPost w xs ys (la + lb) e w' := by
  have HA : Hid (Bags w a la xs) := ha
  have HB : Hid (Bags w b lb ys) := hb
  have HX : Hid (RightP xs) := hx
  have HY : Hid (RightP ys) := hy
  have LB : Hid (ys.length = lb) := hb.1.1
  have R : Hid ((rightB xs && rightB ys) = true) := (show (rightB xs && rightB ys) = true by rw [rightB_iff.2 hx, rightB_iff.2 hy]; rfl)
  clear ha hb hx hy
  go_enter Try.func24, Try.ntmps24
  go_wp2_with (first
    | (go_at_call 38; refine (both_any _ _ _ _ _ _ xs ys _ HA.out HB.out (by omega) (by omega)).mono ?_; rintro e w1 ⟨he, hb1⟩; subst he; rw [R.out])
    | (go_at_call 39; refine (held_any _ _ _ xs _ (HA.out.below hb1) HX.out (by omega)).mono ?_; rintro e w2 ⟨B, he, hB, hb2⟩; subst he))
  have hBw : w.heap.size ≤ B := Nat.le_trans hb1.size hB.1
  have H0 : Hid (Cnts w2 B la (cntF xs)) := hB.2
  have hnx0 : Below w.heap.size w w2 := then_ hb1 hb2
  clear hB hb1 hb2
  go_loopw [18] (fun i wr => ∃ k : Nat, k ≤ lb ∧ i = .int .i64 k ∧ Hid (Cnts wr B (la + k) (lessC xs (ys.take k))) ∧ Hid (∀ j, j < k → (ys.getD j zr).2 ≤ cntF xs (ys.getD j zr).1) ∧ Below w.heap.size w wr) (fun i _ => lb - (intOf i).toNat)
  case atStart => exact ⟨0, by omega, rfl, (Cnts.congr H0.out (fun m => by simp [lessC, cntF]) : Cnts _ _ _ _), fun j h => by omega, hnx0⟩
  case round =>
    obtain ⟨k, hk, rfl, hM, hF, hnx⟩ := hrel
    clear H0 hnx0
    by_cases hlt : k < lb
    · have hlt' : (k : Int) < lb := by omega
      obtain ⟨bb, off, hbe, hbl, hat⟩ := (HB.out.below hnx).row (k := k) hlt
      subst hbe
      have hkl : k < ys.length := by rw [LB.out]; exact hlt
      obtain ⟨c0, c1⟩ := hat k hkl
      have hI := HB.out.1.2 k hkl
      have hG := (right_good HY.out hkl).1
      have hT := cnt_take HY.out hkl
      have hZ := cnt_take_new HY.out hkl
      have hBd := coversB_bad (xs := xs) hkl
      obtain ⟨m, hm⟩ : ∃ m, m = (ys.getD k zr).1 := ⟨_, rfl⟩
      obtain ⟨c, hc⟩ : ∃ c, c = (ys.getD k zr).2 := ⟨_, rfl⟩
      have EM : Hid (m = (ys.getD k zr).1) := hm
      have EC : Hid (c = (ys.getD k zr).2) := hc
      rw [← hm, ← hc] at hI hG
      simp only [← hm, ← hc] at hT hZ hBd
      rw [← hm] at c0
      rw [← hc] at c1
      have hxm := cntF_range HX.out m
      have I : Hid (In64 m) := hI.1
      have S : lessC xs (ys.take k) m = cntF xs m := by unfold lessC; rw [hZ]; omega
      obtain ⟨v, hv⟩ : ∃ v, v = lessC xs (ys.take k) m := ⟨_, rfl⟩
      have hv2 : v = cntF xs m := by rw [hv, S]
      have hvr : 0 ≤ v ∧ v ≤ 1048576 := by omega
      have hcr : 1 ≤ c ∧ c ≤ 1048576 := hG.2
      have EV : Hid (lessC xs (ys.take k) m = v) := hv.symm
      have EV2 : Hid (v = cntF xs m) := hv2
      have IV : Hid (In64 (v - c)) := (show In64 (v - c) by unfold In64; omega)
      have ST : Hid (∀ x, setC (lessC xs (ys.take k)) m (v - c) x = lessC xs (ys.take (k + 1)) x) := fun x => by
        unfold setC lessC
        rw [hT x]
        by_cases hxm : x = m
        · rw [if_pos hxm, if_pos hxm, hxm]; omega
        · rw [if_neg hxm, if_neg hxm]
      have BD : Hid (¬ c ≤ v → coversB xs ys = false) := fun h => hBd (by rw [← hv2]; exact h)
      clear hat hm hc hI hG hT hZ hBd hkl S hv hv2 hxm
      have hws := hnx.size
      have hBl := hM.out.lt
      have N3 : Hid (c ≤ v → ∀ j, j < k + 1 → (ys.getD j zr).2 ≤ cntF xs (ys.getD j zr).1) := fun hle j hj => by
        rcases Nat.lt_or_ge j k with h | h
        · exact hF.out j h
        · obtain rfl : j = k := by omega
          rw [← EM.out, ← EC.out, ← EV2.out]; omega
      by_cases hov : v - c < 0
      · have F : Hid (coversB xs ys = false) := BD.out (by omega)
        go_wp2_with (first
          | (at_lookup; refine wp_look _ rfl _ _ rfl B (la + k) _ _ rfl (hM.out.alloc _) m rfl I.out ?_; rw [EV.out])
          | go_in)
        go_ret2
        exact ⟨.inl ⟨F.out, rfl⟩, hnx.alloc hws _⟩
      by_cases hz : v - c = 0
      · have hz' : ((v - c) == 0) = true := by simp [hz]
        have I0 : Hid (In64 0) := (show In64 0 by unfold In64; omega)
        have ST0 : Hid (∀ x, setC (lessC xs (ys.take k)) m 0 x = lessC xs (ys.take (k + 1)) x) := by rw [← hz]; exact ST
        have hle : c ≤ v := by omega
        clear ST
        go_wp2_with (first
          | (at_lookup; refine wp_look _ rfl _ _ rfl B (la + k) _ _ rfl (hM.out.alloc _) m rfl I.out ?_; rw [EV.out])
          | (at_mapUpdate; refine wp_put _ rfl _ _ _ rfl B (la + k) _ _ rfl (hM.out.alloc _) (by omega) m 0 rfl I.out rfl I0.out ?_; intro w3 h1 hg1; obtain ⟨d0, d1⟩ := row_after hg1 hBl)
          | (at_delete; refine wp_del _ rfl _ _ rfl B (la + k + 1) _ _ rfl h1 m rfl I.out ?_; intro w4 h4 hg4; go_frame)
          | go_in)
        have N1 : Cnts w4 B (la + (k + 1)) (lessC xs (ys.take (k + 1))) := Cnts.del (z := 0) h4 ST0.out
        have N2 : Below w.heap.size w w3 := (hnx.alloc hws _).grown hg1 (by simp; omega) (fun i hi => by cases hi; exact hBw)
        have N4 : Below w.heap.size w w4 := N2.grown hg4 N2.size (fun i hi => by cases hi; exact hBw)
        go_roundw
        case rel => exact ⟨k + 1, by omega, by go_num, N1, N3.out hle, N4⟩
        case measure => simp [intOf]; omega
      · have hz' : ((v - c) == 0) = false := by simpa using hz
        have NZ : Hid (v - c ≠ 0) := hz
        have hle : c ≤ v := by omega
        clear hz
        go_wp2_with (first
          | (at_lookup; refine wp_look _ rfl _ _ rfl B (la + k) _ _ rfl (hM.out.alloc _) m rfl I.out ?_; rw [EV.out])
          | (at_mapUpdate; refine wp_put _ rfl _ _ _ rfl B (la + k) _ _ rfl (hM.out.alloc _) (by omega) m (v - c) rfl I.out rfl IV.out ?_; intro w3 h1 hg1; obtain ⟨d0, d1⟩ := row_after hg1 hBl)
          | go_in)
        have N1 : Cnts w3 B (la + (k + 1)) (lessC xs (ys.take (k + 1))) := Cnts.put (w := wr) h1 NZ.out ST.out
        have N2 : Below w.heap.size w w3 := (hnx.alloc hws _).grown hg1 (by simp; omega) (fun i hi => by cases hi; exact hBw)
        go_roundw
        case rel => exact ⟨k + 1, by omega, by go_num, N1, N3.out hle, N2⟩
        case measure => simp [intOf]; omega
    · obtain rfl : k = lb := by omega
      have E : Hid (ys.take k = ys) := List.take_of_length_le (by rw [LB.out]; omega)
      have F : Hid (coversB xs ys = true) := coversB_good fun j hj => hF.out j (by rw [LB.out] at hj; exact hj)
      have M2 : Hid (Cnts wr B (la + k) (lessC xs ys)) := (show Cnts wr B (la + k) (lessC xs ys) by have := hM.out; rw [E.out] at this; exact this)
      clear hM hF
      go_wp2_with (go_at_call 36; refine (bag_any B (la + k) (lessC xs ys) wr M2.out (by omega) (coversB_all HX.out HY.out F.out)).mono ?_; rintro e w5 ⟨ra, rl, rc, rs, he, h1, h2, hb5⟩; subst he)
      go_ret2
      exact ⟨.inr ⟨F.out, ra, rl, rc, rfl, rs, h1, h2.mono hnx.size⟩, then_ hnx hb5⟩

def mostC (xs ys : List Row) (m : Int) : Int := max (cntF xs m) (cntF ys m)
theorem mostC_all {xs ys : List Row} (hx : RightP xs) (hy : RightP ys) (m : Int) (h0 : mostC xs ys m ≠ 0) : 0 ≤ m ∧ 1 ≤ mostC xs ys m ∧ mostC xs ys m ≤ 1048576 := by
  have r1 := cntF_range hx m
  have r2 := cntF_range hy m
  unfold mostC at *
  have hm : 0 ≤ m := by
    apply Classical.byContradiction
    intro hn
    have := cntF_low hx (m := m) (by omega)
    have := cntF_low hy (m := m) (by omega)
    omega
  omega

set_option maxHeartbeats 2000000 in
theorem most_right (a b : Option Addr) (la ca lb cb : Nat) (xs ys : List Row) (w : World) (ha : Bags w a la xs) (hb : Bags w b lb ys) (hla : la ≤ 100000) (hlb : lb ≤ 100000) (hx : RightP xs) (hy : RightP ys) :
    Calls Try.prog 26 #[.slice a la ca, .slice b lb cb] w fun e w' => (∃ a len cap, e = .returned (.slice a len cap) ∧ Answer w w' (la + lb) (mostC xs ys) a len cap) ∧ Below w.heap.size w w' := by
  have HA : Hid (Bags w a la xs) := ha
  have HB : Hid (Bags w b lb ys) := hb
  have HX : Hid (RightP xs) := hx
  have HY : Hid (RightP ys) := hy
  have LB : Hid (ys.length = lb) := hb.1.1
  have R : Hid ((rightB xs && rightB ys) = true) := (show (rightB xs && rightB ys) = true by rw [rightB_iff.2 hx, rightB_iff.2 hy]; rfl)
  have Z0 : Hid (∀ m, mostC xs [] m = cntF xs m) := fun m => by have := cntF_range hx m; unfold mostC; simp only [cntF]; omega
  clear ha hb hx hy
  go_enter Try.func26, Try.ntmps26
  go_wp2_with (first
    | (go_at_call 38; refine (both_any _ _ _ _ _ _ xs ys _ HA.out HB.out (by omega) (by omega)).mono ?_; rintro e w1 ⟨he, hb1⟩; subst he; rw [R.out])
    | (go_at_call 39; refine (held_any _ _ _ xs _ (HA.out.below hb1) HX.out (by omega)).mono ?_; rintro e w2 ⟨B, he, hB, hb2⟩; subst he))
  have hBw : w.heap.size ≤ B := Nat.le_trans hb1.size hB.1
  have H0 : Hid (Cnts w2 B la (cntF xs)) := hB.2
  have hnx0 : Below w.heap.size w w2 := then_ hb1 hb2
  clear hB hb1 hb2
  go_loopw [16] (fun i wr => ∃ k : Nat, k ≤ lb ∧ i = .int .i64 k ∧ Hid (Cnts wr B (la + k) (mostC xs (ys.take k))) ∧ Below w.heap.size w wr) (fun i _ => lb - (intOf i).toNat)
  case atStart => exact ⟨0, by omega, rfl, (Cnts.congr H0.out (fun m => (Z0.out m).symm) : Cnts _ _ _ _), hnx0⟩
  case round =>
    obtain ⟨k, hk, rfl, hM, hnx⟩ := hrel
    clear H0 hnx0
    by_cases hlt : k < lb
    · have hlt' : (k : Int) < lb := by omega
      obtain ⟨bb, off, hbe, hbl, hat⟩ := (HB.out.below hnx).row (k := k) hlt
      subst hbe
      have hkl : k < ys.length := by rw [LB.out]; exact hlt
      obtain ⟨c0, c1⟩ := hat k hkl
      have hI := HB.out.1.2 k hkl
      have hG := (right_good HY.out hkl).1
      have hT := cnt_take HY.out hkl
      have hZ := cnt_take_new HY.out hkl
      obtain ⟨m, hm⟩ : ∃ m, m = (ys.getD k zr).1 := ⟨_, rfl⟩
      obtain ⟨c, hc⟩ : ∃ c, c = (ys.getD k zr).2 := ⟨_, rfl⟩
      rw [← hm, ← hc] at hI hG
      simp only [← hm, ← hc] at hT hZ
      rw [← hm] at c0
      rw [← hc] at c1
      have hxm := cntF_range HX.out m
      have I : Hid (In64 m) := hI.1
      have S : mostC xs (ys.take k) m = cntF xs m := by unfold mostC; rw [hZ]; omega
      obtain ⟨v, hv⟩ : ∃ v, v = mostC xs (ys.take k) m := ⟨_, rfl⟩
      have hv2 : v = cntF xs m := by rw [hv, S]
      have hcr : 1 ≤ c ∧ c ≤ 1048576 := hG.2
      have EV : Hid (mostC xs (ys.take k) m = v) := hv.symm
      have IV : Hid (In64 (max v c)) := (show In64 (max v c) by unfold In64; omega)
      have NZ : Hid (max v c ≠ 0) := (show max v c ≠ 0 by omega)
      have ST : Hid (∀ x, setC (mostC xs (ys.take k)) m (max v c) x = mostC xs (ys.take (k + 1)) x) := fun x => by
        unfold setC mostC
        rw [hT x]
        by_cases hxm : x = m
        · rw [if_pos hxm, if_pos hxm, hxm, hv2]
        · rw [if_neg hxm, if_neg hxm]
      clear hat hm hc hI hG hT hZ hkl S hv hv2 hxm
      have hws := hnx.size
      have hBl := hM.out.lt
      go_wp2_with (first
        | (at_lookup; refine wp_look _ rfl _ _ rfl B (la + k) _ _ rfl (hM.out.alloc _) m rfl I.out ?_; rw [EV.out])
        | (at_mapUpdate; refine wp_put _ rfl _ _ _ rfl B (la + k) _ _ rfl (hM.out.alloc _) (by omega) m (max v c) rfl I.out rfl IV.out ?_; intro w3 h1 hg1)
        | go_in)
      have N1 : Cnts w3 B (la + (k + 1)) (mostC xs (ys.take (k + 1))) := Cnts.put (w := wr) h1 NZ.out ST.out
      have N2 : Below w.heap.size w w3 := (hnx.alloc hws _).grown hg1 (by simp; omega) (fun i hi => by cases hi; exact hBw)
      go_roundw
      case rel => exact ⟨k + 1, by omega, by go_num, N1, N2⟩
      case measure => simp [intOf]; omega
    · obtain rfl : k = lb := by omega
      have E : Hid (ys.take k = ys) := List.take_of_length_le (by rw [LB.out]; omega)
      have M2 : Hid (Cnts wr B (la + k) (mostC xs ys)) := (show Cnts wr B (la + k) (mostC xs ys) by have := hM.out; rw [E.out] at this; exact this)
      clear hM
      go_wp2_with (go_at_call 36; refine (bag_any B (la + k) (mostC xs ys) wr M2.out (by omega) (mostC_all HX.out HY.out)).mono ?_; rintro e w5 ⟨ra, rl, rc, rs, he, h1, h2, hb5⟩; subst he)
      go_ret
      exact ⟨⟨ra, rl, rc, rfl, rs, h1, h2.mono hnx.size⟩, then_ hnx hb5⟩
end Go.Proofs.Ytoinepmlbcnbgaa.Bag
