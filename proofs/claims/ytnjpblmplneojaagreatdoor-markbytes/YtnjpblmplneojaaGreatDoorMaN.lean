/- Contracts and plain mathematics, together: BagSum, BagLess, BagOf. -/
import Derived.Test.YtnjpblmplneojaaGreatDoorMaM
/- Sum of package bag: a contract of the call, over the turned program. -/
namespace Go.Proofs.YtnjpblmplneojaaGreatDoor.Bag
open Go.RowKit Go.Maps Go.Proofs.YtnjpblmplneojaaGreatDoor.Frame
set_option linter.unusedVariables false

/-- a bag that is answered -/
def Answer (w : World) (w' : World) (n : Nat) (c : Int → Int) (a : Option Addr) (len cap : Nat) : Prop := ∃ rs, (Has c rs ∧ len ≤ n) ∧ Own w' w.heap.size a len cap rs

def fitsB (xs ys : List Row) : Bool := ys.all fun r => decide (cntF xs r.1 + r.2 ≤ 1048576)

theorem fitsB_bad {xs ys : List Row} {k : Nat} (hk : k < ys.length) (h : ¬ cntF xs (ys.getD k zr).1 + (ys.getD k zr).2 ≤ 1048576) : fitsB xs ys = false := by
  unfold fitsB
  rw [List.all_eq_false]
  exact ⟨_, getD_mem hk, by simpa using h⟩

theorem fitsB_good {xs ys : List Row} (h : ∀ k, k < ys.length → cntF xs (ys.getD k zr).1 + (ys.getD k zr).2 ≤ 1048576) : fitsB xs ys = true := by
  unfold fitsB
  rw [List.all_eq_true]
  intro r hr
  obtain ⟨j, hj, rfl⟩ := List.getElem_of_mem hr
  have := h j hj
  rw [getD_get zr hj] at this
  exact decide_eq_true this

theorem fitsB_all {xs ys : List Row} (hx : RightP xs) (hy : RightP ys) (h : fitsB xs ys = true) (m : Int) (h0 : cntF xs m + cntF ys m ≠ 0) : 0 ≤ m ∧ 1 ≤ cntF xs m + cntF ys m ∧ cntF xs m + cntF ys m ≤ 1048576 := by
  have r1 := cntF_range hx m
  have r2 := cntF_range hy m
  have hm : 0 ≤ m := by
    apply Classical.byContradiction
    intro hn
    have := cntF_low hx (m := m) (by omega)
    have := cntF_low hy (m := m) (by omega)
    omega
  refine ⟨hm, by omega, ?_⟩
  by_cases hz : cntF ys m = 0
  · omega
  · obtain ⟨r, hr, rfl⟩ := cntF_some hz
    rw [cntF_mem hy.1 hr]
    unfold fitsB at h
    exact of_decide_eq_true (List.all_eq_true.1 h r hr)

def sumC (xs ys : List Row) (m : Int) : Int := cntF xs m + cntF ys m

/-- Sum's answers, of right bags -/
def SumPost (w : World) (xs ys : List Row) (n : Nat) (e : Ending) (w' : World) : Prop :=
  ((fitsB xs ys = false ∧ e = .returned (.tuple #[.slice none 0 0, .int .i64 2])) ∨ (fitsB xs ys = true ∧ ∃ a len cap, e = .returned (.tuple #[.slice a len cap, .int .i64 0]) ∧ Answer w w' n (sumC xs ys) a len cap)) ∧ Below w.heap.size w w'

theorem row_after {wr w3 : World} {B : Nat} {x y : Value} {t : TypeId} (hg : (wr.alloc (.cells #[x, y] t)).grownBy w3 (some B)) (hB : B < wr.heap.size) : w3.cell? ⟨wr.heap.size, 0, none⟩ = some x ∧ w3.cell? ⟨wr.heap.size, 1, none⟩ = some y :=
  ⟨hg.cell (a := ⟨wr.heap.size, 0, none⟩) (by simp) (by simp; omega), hg.cell (a := ⟨wr.heap.size, 1, none⟩) (by simp) (by simp; omega)⟩

set_option maxHeartbeats 2000000 in
theorem sum_right (a b : Option Addr) (la ca lb cb : Nat) (xs ys : List Row) (w : World) (ha : Bags w a la xs) (hb : Bags w b lb ys) (hla : la ≤ 100000) (hlb : lb ≤ 100000) (hx : RightP xs) (hy : RightP ys) :
    Calls Tryz.prog 26 #[.slice a la ca, .slice b lb cb] w fun e w' => SumPost w xs ys (la + lb) e w' := by
  have HA : Hid (Bags w a la xs) := ha
  have HB : Hid (Bags w b lb ys) := hb
  have HX : Hid (RightP xs) := hx
  have HY : Hid (RightP ys) := hy
  have LB : Hid (ys.length = lb) := hb.1.1
  have R : Hid ((rightB xs && rightB ys) = true) := (show (rightB xs && rightB ys) = true by rw [rightB_iff.2 hx, rightB_iff.2 hy]; rfl)
  clear ha hb hx hy
  go_enter Tryz.func26, Tryz.ntmps26
  go_wp2_with (first
    | (go_at_call 50; refine (both_any _ _ _ _ _ _ xs ys _ HA.out HB.out (by omega) (by omega)).mono ?_; rintro e w1 ⟨he, hb1⟩; subst he; rw [R.out])
    | (go_at_call 51; refine (held_any _ _ _ xs _ (HA.out.below hb1) HX.out (by omega)).mono ?_; rintro e w2 ⟨B, he, hB, hb2⟩; subst he))
  have hBw : w.heap.size ≤ B := Nat.le_trans hb1.size hB.1
  have H0 : Hid (Cnts w2 B la (cntF xs)) := hB.2
  have hnx0 : Below w.heap.size w w2 := then_ hb1 hb2
  clear hB hb1 hb2
  go_loopw [17] (fun i wr => ∃ k : Nat, k ≤ lb ∧ i = .int .i64 k ∧ Hid (Cnts wr B (la + k) (sumC xs (ys.take k))) ∧ Hid (∀ j, j < k → cntF xs (ys.getD j zr).1 + (ys.getD j zr).2 ≤ 1048576) ∧ Below w.heap.size w wr) (fun i _ => lb - (intOf i).toNat)
  case atStart => exact ⟨0, by omega, rfl, (Cnts.congr H0.out (fun m => by simp [sumC, cntF]) : Cnts _ _ _ _), fun j h => by omega, hnx0⟩
  case round =>
    obtain ⟨k, hk, rfl, hM, hF, hnx⟩ := hrel
    clear H0 hnx0
    by_cases hlt : k < lb
    · have hlt' : (k : Int) < lb := by omega
      obtain ⟨bb, off, hbe, hbl, hat⟩ := (HB.out.below hnx).row (k := k) hlt
      subst hbe
      have hkl : k < ys.length := by rw [LB.out]; exact hlt
      obtain ⟨c0, c1⟩ := hat k hkl
      have hI := HB.out.1.2 k hkl
      have hG := (right_good HY.out hkl).1
      have hT := cnt_take HY.out hkl
      have hZ := cnt_take_new HY.out hkl
      have hBd := fitsB_bad (xs := xs) hkl
      obtain ⟨m, hm⟩ : ∃ m, m = (ys.getD k zr).1 := ⟨_, rfl⟩
      obtain ⟨c, hc⟩ : ∃ c, c = (ys.getD k zr).2 := ⟨_, rfl⟩
      have EM : Hid (m = (ys.getD k zr).1) := hm
      have EC : Hid (c = (ys.getD k zr).2) := hc
      rw [← hm, ← hc] at hI hG
      simp only [← hm, ← hc] at hT hZ hBd
      rw [← hm] at c0
      rw [← hc] at c1
      have hxm := cntF_range HX.out m
      have I : Hid (In64 m) := hI.1
      have S : sumC xs (ys.take k) m = cntF xs m := by unfold sumC; rw [hZ]; omega
      obtain ⟨v, hv⟩ : ∃ v, v = sumC xs (ys.take k) m := ⟨_, rfl⟩
      have hv2 : v = cntF xs m := by rw [hv, S]
      have hvr : 0 ≤ v ∧ v ≤ 1048576 := by omega
      have hcr : 1 ≤ c ∧ c ≤ 1048576 := hG.2
      have EV : Hid (sumC xs (ys.take k) m = v) := hv.symm
      have EV2 : Hid (v = cntF xs m) := hv2
      have IV : Hid (In64 (v + c)) := (show In64 (v + c) by unfold In64; omega)
      have NZ : Hid (v + c ≠ 0) := (show v + c ≠ 0 by omega)
      have ST : Hid (∀ x, setC (sumC xs (ys.take k)) m (v + c) x = sumC xs (ys.take (k + 1)) x) := fun x => by
        unfold setC sumC
        rw [hT x]
        by_cases hxm : x = m
        · rw [if_pos hxm, if_pos hxm, hxm]; omega
        · rw [if_neg hxm, if_neg hxm]
      have SV : Hid (setC (sumC xs (ys.take k)) m (v + c) m = v + c) := (if_pos rfl : _)
      have BD : Hid (¬ v + c ≤ 1048576 → fitsB xs ys = false) := fun h => hBd (by rw [← hv2]; exact h)
      clear hat hm hc hI hG hT hZ hBd hkl S hv hv2 hxm
      have hws := hnx.size
      have hBl := hM.out.lt
      by_cases hov : 1048576 < v + c
      · have F : Hid (fitsB xs ys = false) := BD.out (by omega)
        go_wp2_with (first
          | (at_lookup; first | (refine wp_look _ rfl _ _ rfl B (la + k) _ _ rfl (hM.out.alloc _) m rfl I.out ?_; rw [EV.out]) | (refine wp_look _ rfl _ _ rfl B (la + k + 1) _ _ rfl h1 m rfl I.out ?_; rw [SV.out]))
          | (at_mapUpdate; refine wp_put _ rfl _ _ _ rfl B (la + k) _ _ rfl (hM.out.alloc _) (by omega) m (v + c) rfl I.out rfl IV.out ?_; intro w3 h1 hg1; obtain ⟨d0, d1⟩ := row_after hg1 hBl)
          | go_in)
        go_ret2
        exact ⟨.inl ⟨F.out, rfl⟩, (hnx.alloc hws _).grown hg1 (by simp; omega) (fun i hi => by cases hi; exact hBw)⟩
      · go_wp2_with (first
          | (at_lookup; first | (refine wp_look _ rfl _ _ rfl B (la + k) _ _ rfl (hM.out.alloc _) m rfl I.out ?_; rw [EV.out]) | (refine wp_look _ rfl _ _ rfl B (la + k + 1) _ _ rfl h1 m rfl I.out ?_; rw [SV.out]))
          | (at_mapUpdate; refine wp_put _ rfl _ _ _ rfl B (la + k) _ _ rfl (hM.out.alloc _) (by omega) m (v + c) rfl I.out rfl IV.out ?_; intro w3 h1 hg1; obtain ⟨d0, d1⟩ := row_after hg1 hBl)
          | go_in)
        have N1 : Cnts w3 B (la + (k + 1)) (sumC xs (ys.take (k + 1))) := Cnts.put (w := wr) h1 NZ.out ST.out
        have N2 : Below w.heap.size w w3 := (hnx.alloc hws _).grown hg1 (by simp; omega) (fun i hi => by cases hi; exact hBw)
        have N3 : ∀ j, j < k + 1 → cntF xs (ys.getD j zr).1 + (ys.getD j zr).2 ≤ 1048576 := fun j hj => by
          rcases Nat.lt_or_ge j k with h | h
          · exact hF.out j h
          · obtain rfl : j = k := by omega
            rw [← EM.out, ← EC.out, ← EV2.out]; omega
        go_roundw
        case rel => exact ⟨k + 1, by omega, by go_num, N1, N3, N2⟩
        case measure => simp [intOf]; omega
    · obtain rfl : k = lb := by omega
      have E : Hid (ys.take k = ys) := List.take_of_length_le (by rw [LB.out]; omega)
      have F : Hid (fitsB xs ys = true) := fitsB_good fun j hj => hF.out j (by rw [LB.out] at hj; exact hj)
      have M2 : Hid (Cnts wr B (la + k) (sumC xs ys)) := (show Cnts wr B (la + k) (sumC xs ys) by have := hM.out; rw [E.out] at this; exact this)
      clear hM hF
      go_wp2_with (go_at_call 52; refine (bag_any B (la + k) (sumC xs ys) wr M2.out (by omega) (fitsB_all HX.out HY.out F.out)).mono ?_; rintro e w5 ⟨ra, rl, rc, rs, he, h1, h2, hb5⟩; subst he)
      go_ret2
      exact ⟨.inr ⟨F.out, ra, rl, rc, rfl, rs, h1, h2.mono hnx.size⟩, then_ hnx hb5⟩
end Go.Proofs.YtnjpblmplneojaaGreatDoor.Bag
/- Less and Most of package bag: contracts of the calls, over the turned program. -/
namespace Go.Proofs.YtnjpblmplneojaaGreatDoor.Bag
open Go.RowKit Go.Maps Go.Proofs.YtnjpblmplneojaaGreatDoor.Frame
set_option linter.unusedVariables false

/-- does a row's count go out of a? -/
def coversB (xs ys : List Row) : Bool := ys.all fun r => decide (r.2 ≤ cntF xs r.1)

theorem coversB_bad {xs ys : List Row} {k : Nat} (hk : k < ys.length) (h : ¬ (ys.getD k zr).2 ≤ cntF xs (ys.getD k zr).1) : coversB xs ys = false := by
  unfold coversB
  rw [List.all_eq_false]
  exact ⟨_, getD_mem hk, by simpa using h⟩

theorem coversB_good {xs ys : List Row} (h : ∀ k, k < ys.length → (ys.getD k zr).2 ≤ cntF xs (ys.getD k zr).1) : coversB xs ys = true := by
  unfold coversB
  rw [List.all_eq_true]
  intro r hr
  obtain ⟨j, hj, rfl⟩ := List.getElem_of_mem hr
  have := h j hj
  rw [getD_get zr hj] at this
  exact decide_eq_true this

theorem covers_within {xs ys : List Row} (hx : RightP xs) (hy : RightP ys) : coversB xs ys = withinB ys xs := by
  unfold coversB withinB
  rw [rightB_iff.2 hx, rightB_iff.2 hy]; rfl

def lessC (xs ys : List Row) (m : Int) : Int := cntF xs m - cntF ys m

theorem coversB_all {xs ys : List Row} (hx : RightP xs) (hy : RightP ys) (h : coversB xs ys = true) (m : Int) (h0 : lessC xs ys m ≠ 0) : 0 ≤ m ∧ 1 ≤ lessC xs ys m ∧ lessC xs ys m ≤ 1048576 := by
  rw [covers_within hx hy] at h
  have h1 := (within_iff hy hx).1 h m
  have r1 := cntF_range hx m
  have r2 := cntF_range hy m
  unfold lessC at *
  have hm : 0 ≤ m := by
    apply Classical.byContradiction
    intro hn
    have := cntF_low hx (m := m) (by omega)
    omega
  omega

/-- Less's answers, of right bags -/
def LessPost (w : World) (xs ys : List Row) (n : Nat) (e : Ending) (w' : World) : Prop :=
  ((coversB xs ys = false ∧ e = .returned (.tuple #[.slice none 0 0, .int .i64 10])) ∨ (coversB xs ys = true ∧ ∃ a len cap, e = .returned (.tuple #[.slice a len cap, .int .i64 0]) ∧ Answer w w' n (lessC xs ys) a len cap)) ∧ Below w.heap.size w w'

theorem Cnts.del {w1 : World} {B n : Nat} {c c' : Int → Int} {m z : Int} (h : Mp w1 B n (fun i => i != m && (i == m || c i != 0)) (setC (setC c m z) m 0)) (e : ∀ x, setC c m 0 x = c' x) : Cnts w1 B n c' :=
  Mp.congr h (fun x => by
    rw [← e x]
    unfold setC
    by_cases hx : x = m
    · simp [hx]
    · have h1 : (x == m) = false := by simpa using hx
      simp [hx, h1, bne]) (fun x => by
    rw [← e x]
    unfold setC
    by_cases hx : x = m
    · simp [hx]
    · simp [hx])

def mostC (xs ys : List Row) (m : Int) : Int := max (cntF xs m) (cntF ys m)

theorem mostC_all {xs ys : List Row} (hx : RightP xs) (hy : RightP ys) (m : Int) (h0 : mostC xs ys m ≠ 0) : 0 ≤ m ∧ 1 ≤ mostC xs ys m ∧ mostC xs ys m ≤ 1048576 := by
  have r1 := cntF_range hx m
  have r2 := cntF_range hy m
  unfold mostC at *
  have hm : 0 ≤ m := by
    apply Classical.byContradiction
    intro hn
    have := cntF_low hx (m := m) (by omega)
    have := cntF_low hy (m := m) (by omega)
    omega
  omega
end Go.Proofs.YtnjpblmplneojaaGreatDoor.Bag
/- Of of package bag, and its answers of bags that are not right: contracts of the calls, over the turned program. -/
namespace Go.Proofs.YtnjpblmplneojaaGreatDoor.Bag
open Go.RowKit Go.Maps Go.Proofs.YtnjpblmplneojaaGreatDoor.Frame
set_option linter.unusedVariables false

/-- numbers in memory -/
def Nums (w : World) (a : Option Addr) (len : Nat) (zs : List Int) : Prop :=
  (zs.length = len ∧ ∀ i, i < zs.length → In64 (zs.getD i 0)) ∧ (len = 0 ∨ ∃ b off, a = some ⟨b, off, none⟩ ∧ ∀ i, i < len → w.cell? ⟨b, off + i, none⟩ = some (.int .i64 (zs.getD i 0)))

theorem Nums.below {w w' : World} {a : Option Addr} {len : Nat} {zs : List Int} (h : Nums w a len zs) (hb : Below w.heap.size w w') : Nums w' a len zs := by
  refine ⟨h.1, ?_⟩
  rcases h.2 with h0 | ⟨b, off, ha, hc⟩
  · exact .inl h0
  · exact .inr ⟨b, off, ha, fun i hi => (hb.cell (p := ⟨b, off + i, none⟩) (World.block_lt_of_cell? w _ (hc i hi))).trans (hc i hi)⟩

theorem Nums.at {w : World} {a : Option Addr} {len : Nat} {zs : List Int} (h : Nums w a len zs) {k : Nat} (hk : k < len) : ∃ b off, a = some ⟨b, off, none⟩ ∧ b < w.heap.size ∧ w.cell? ⟨b, off + k, none⟩ = some (.int .i64 (zs.getD k 0)) := by
  rcases h.2 with h0 | ⟨b, off, ha, hc⟩
  · omega
  · exact ⟨b, off, ha, World.block_lt_of_cell? w _ (hc k hk), hc k hk⟩

theorem Mp.look_run {w : World} {B n : Nat} {h : Int → Bool} {c : Int → Int} (k : Mp w B n h c) {y : Int} (hy : In64 y) : (Instr.lookup 72 (.map (some B)) (.int .i64 y) false).run Tryz.prog w = .ok (.int .i64 (c y)) w := by
  obtain ⟨⟨D, hD, r⟩, r2⟩ := k
  obtain ⟨z, hz, hat, _⟩ := hD.lookup_int law Tryz.underlying72 Tryz.underlying3 (zeroI _) (key_of hy)
  have := (r y hy).2
  rw [hat] at this
  simp only [DataW.lit.injEq, Lit.int.injEq, true_and] at this
  rw [← this]
  exact hz

theorem take_snoc_z {zs : List Int} {k : Nat} (h : k < zs.length) : zs.take (k + 1) = zs.take k ++ [zs.getD k 0] := by
  rw [List.take_succ_eq_append_getElem h, getD_get 0 h]

set_option maxHeartbeats 2000000 in
theorem of_any (a : Option Addr) (len cap : Nat) (zs : List Int) (w : World) (h : Nums w a len zs) (hl : len ≤ 100000) :
    Calls Tryz.prog 27 #[.slice a len cap] w fun e w' => (∃ a len' cap, e = .returned (.slice a len' cap) ∧ Answer w w' len (ofC zs) a len' cap) ∧ Below w.heap.size w w' := by
  have HC : Hid (Nums w a len zs) := h
  have HL : Hid (zs.length = len) := h.1.1
  clear h
  have hmm := @run_makeMap Tryz.prog
  go_enter Tryz.func27, Tryz.ntmps27
  go_wp2
  go_loopw [9] (fun i wr => ∃ k : Nat, k ≤ len ∧ i = .int .i64 k ∧ Hid (Cnts wr w.heap.size k (ofC (zs.take k))) ∧ Below w.heap.size w wr) (fun i _ => len - (intOf i).toNat)
  case atStart => exact ⟨0, by omega, rfl, (Cnts.congr (Cnts.made w) (fun m => by rw [List.take_zero, ofC_nil]) : Cnts _ _ _ _), (Below.refl _ _).alloc (Nat.le_refl _) _⟩
  case round =>
    obtain ⟨k, hk, rfl, hM, hnx⟩ := hrel
    clear hmm
    by_cases hlt : k < len
    · have hlt' : (k : Int) < len := by omega
      obtain ⟨b, off, ha, hbl, c0⟩ := (HC.out.below hnx).at (k := k) hlt
      subst ha
      have hkl : k < zs.length := by rw [HL.out]; exact hlt
      have hI := HC.out.1.2 k hkl
      have hT : ∀ x, ofC (zs.take (k + 1)) x = _ := fun x => by rw [take_snoc_z hkl, ofC_snoc]
      obtain ⟨m, hm⟩ : ∃ m, m = zs.getD k 0 := ⟨_, rfl⟩
      rw [← hm] at hI c0
      simp only [← hm] at hT
      have T : Hid (∀ x, ofC (zs.take (k + 1)) x = _) := hT
      have I : Hid (In64 m) := hI
      have RG : Hid (_ ∧ _ ∧ _) := ofC_range (zs.take k) m
      clear hT hI hm hkl
      have hws := hnx.size
      have hBl := hM.out.lt
      by_cases h0 : m < 0
      · have N1 : Hid (Cnts wr w.heap.size (k + 1) (ofC (zs.take (k + 1)))) := (Cnts.congr (Mp.mono hM.out (Nat.le_succ k)) (fun x => by rw [T.out x, if_neg (by omega)]) : Cnts _ _ _ _)
        clear T
        go_wp2
        go_roundw
        case rel => exact ⟨k + 1, by omega, by go_num, N1, hnx⟩
        case measure => simp [intOf]; omega
      have h0' : (0 : Int) ≤ m := by omega
      have lk := hM.out.look_run I.out
      obtain ⟨v, hv⟩ : ∃ v, v = ofC (zs.take k) m := ⟨_, rfl⟩
      rw [← hv] at lk
      have hvr : 0 ≤ v ∧ v ≤ 1048576 := by rw [hv]; exact ⟨RG.out.2.2, RG.out.2.1⟩
      have EV : Hid (v = ofC (zs.take k) m) := hv
      clear hv
      by_cases h1 : v < 1048576
      · have I2 : Hid (In64 (v + 1)) := (show In64 (v + 1) by unfold In64; omega)
        have NZ : Hid (v + 1 ≠ 0) := (show v + 1 ≠ 0 by omega)
        have ST : Hid (∀ x, setC (ofC (zs.take k)) m (v + 1) x = ofC (zs.take (k + 1)) x) := fun x => by
          rw [T.out x, ← EV.out]
          unfold setC
          by_cases hx : x = m
          · rw [if_pos hx, if_pos ⟨hx, h0', h1⟩]
          · rw [if_neg hx, if_neg (fun h => hx h.1)]
        clear T
        go_wp2_with (first
          | (at_mapUpdate; refine wp_put _ rfl _ _ _ rfl w.heap.size k _ _ rfl hM.out (by omega) m (v + 1) rfl I.out rfl I2.out ?_; intro w1 h1 hg1)
          | go_in)
        have N1 : Cnts w1 w.heap.size (k + 1) (ofC (zs.take (k + 1))) := Cnts.put (w := wr) h1 NZ.out ST.out
        have N2 : Below w.heap.size w w1 := hnx.grown hg1 hws (fun i hi => by cases hi; exact Nat.le_refl _)
        go_roundw
        case rel => exact ⟨k + 1, by omega, by go_num, N1, N2⟩
        case measure => simp [intOf]; omega
      · have N1 : Hid (Cnts wr w.heap.size (k + 1) (ofC (zs.take (k + 1)))) := (Cnts.congr (Mp.mono hM.out (Nat.le_succ k)) (fun x => by rw [T.out x, ← EV.out, if_neg (by omega)]) : Cnts _ _ _ _)
        clear T
        go_wp2
        go_roundw
        case rel => exact ⟨k + 1, by omega, by go_num, N1, hnx⟩
        case measure => simp [intOf]; omega
    · obtain rfl : k = len := by omega
      have E : Hid (zs.take k = zs) := List.take_of_length_le (by rw [HL.out]; omega)
      have M2 : Hid (Cnts wr w.heap.size k (ofC zs)) := (show Cnts wr w.heap.size k (ofC zs) by have := hM.out; rw [E.out] at this; exact this)
      clear hM
      go_wp2_with (go_at_call 52; refine (bag_any w.heap.size k (ofC zs) wr M2.out (by omega) (fun m hm => ⟨((ofC_range zs m).1 hm).1, ((ofC_range zs m).1 hm).2, (ofC_range zs m).2.1⟩)).mono ?_; rintro e w5 ⟨ra, rl, rc, rs, he, h1, h2, hb5⟩; subst he)
      go_ret
      exact ⟨⟨ra, rl, rc, rfl, rs, h1, h2.mono hnx.size⟩, then_ hnx hb5⟩

set_option maxHeartbeats 1000000 in
theorem sum_wrong (a b : Option Addr) (la ca lb cb : Nat) (xs ys : List Row) (w : World) (ha : Bags w a la xs) (hb : Bags w b lb ys) (hla : la ≤ 100000) (hlb : lb ≤ 100000) (hr : (rightB xs && rightB ys) = false) :
    Calls Tryz.prog 26 #[.slice a la ca, .slice b lb cb] w fun e w' => e = .returned (.tuple #[.slice none 0 0, .int .i64 1]) ∧ Below w.heap.size w w' := by
  have HA : Hid (Bags w a la xs) := ha
  have HB : Hid (Bags w b lb ys) := hb
  have R : Hid ((rightB xs && rightB ys) = false) := hr
  clear ha hb hr
  go_enter Tryz.func26, Tryz.ntmps26
  go_wp2_with (go_at_call 50; refine (both_any _ _ _ _ _ _ xs ys _ HA.out HB.out (by omega) (by omega)).mono ?_; rintro e w1 ⟨he, hb1⟩; subst he; rw [R.out])
  go_ret2
  exact ⟨rfl, hb1⟩
end Go.Proofs.YtnjpblmplneojaaGreatDoor.Bag
