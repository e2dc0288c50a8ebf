/- Proved: MarkEnds answers true for every net, marking, place and member, as the whole program has it: what is Final has Ended, with a Total of 1, and one token more is Final no more. No condition; what the card lists of the library's variables is tied tz the program's text. -/
import Derived.Test.YtnjpblmplneojaaGreatDoorMbN
import Derived.Test.YtnjpblmplneojaaGreatDoorMbM
import Derived.Test.YtnjpblmplneojaaGreatDoorCards
import Derived.Test.YtnjpblmplneojaaGreatDoorTie
import Derived.LaidMore
import Derived.Stop.Joined
import Derived.SevenTiedAt
namespace Go.Proofs.YtnjpblmplneojaaGreatDoor.markEnds
open Go.ChangeShapes Go.WideShapes Go.ChangeAt Go.ChangeMaps Go.RowKit Go.Proofs.YtnjpblmplneojaaGreatDoor.Frame Go.Proofs.YtnjpblmplneojaaGreatDoor.Mark Go.Proofs.YtnjpblmplneojaaGreatDoor.Bag
set_option linter.unusedVariables false
set_option linter.unusedSimpArgs false

/-- the net's box -/
def NX (va : Option Addr) (lv cv : Nat) (vp : Option Addr) (lp cp : Nat) (vt : Option Addr) (lt ct : Nat) (fr tz : Int) (q : Nat) (W : World) : Prop := W.cell? ⟨q, 0, none⟩ = some (.slice va lv cv) ∧ W.cell? ⟨q, 1, none⟩ = some (.slice vp lp cp) ∧ W.cell? ⟨q, 2, none⟩ = some (.slice vt lt ct) ∧ W.cell? ⟨q, 3, none⟩ = some (.int .i64 fr) ∧ W.cell? ⟨q, 4, none⟩ = some (.int .i64 tz)
theorem NX.on {va vp vt : Option Addr} {lv cv lp cp lt ct q : Nat} {fr tz : Int} {W W' : World} (h : NX va lv cv vp lp cp vt lt ct fr tz q W) (hb : Below W.heap.size W W') : NX va lv cv vp lp cp vt lt ct fr tz q W' :=
  ⟨rowB_call h.1 hb, rowB_call h.2.1 hb, rowB_call h.2.2.1 hb, rowB_call h.2.2.2.1 hb, rowB_call h.2.2.2.2 hb⟩
theorem NX.set {va vp vt : Option Addr} {lv cv lp cp lt ct q g o : Nat} {fr tz : Int} {W : World} (h : NX va lv cv vp lp cp vt lt ct fr tz q W) (hg : g ≠ q) (v : Value) : NX va lv cv vp lp cp vt lt ct fr tz q (W.setCell ⟨g, o, none⟩ v) :=
  ⟨(cellNe (fun e => hg e.1)).trans h.1, (cellNe (fun e => hg e.1)).trans h.2.1, (cellNe (fun e => hg e.1)).trans h.2.2.1, (cellNe (fun e => hg e.1)).trans h.2.2.2.1, (cellNe (fun e => hg e.1)).trans h.2.2.2.2⟩

/-- one token of a member -/
def oneR (z : Int) : List Row := [(z, 1)]
theorem oneR_right {z : Int} (h : 0 ≤ z) : RightP (oneR z) := right_cons_mk right_nil ⟨h, (show (1 : Int) ≤ 1 by decide), (show (1 : Int) ≤ 1048576 by decide)⟩ (fun s hs => by cases hs)
theorem cnt_oneR (z x : Int) : cntF (oneR z) x = oneC z x := by
  unfold oneR oneC
  by_cases h : x = z
  · subst h; rw [if_pos rfl]; show (if x = x then (1 : Int) else _) = 1; rw [if_pos rfl]
  · rw [if_neg h]; exact cntF_not fun r hr => by rw [List.mem_singleton.1 hr]; exact fun e => h e.symm
theorem of_one {z : Int} (h : 0 ≤ z) : Has (ofC [z]) (oneR z) := ⟨oneR_right h, fun m => by
  rw [cnt_oneR]
  unfold oneC ofC
  by_cases e : m = z
  · subst e
    rw [if_pos rfl, if_pos h, List.count_singleton_self]; rfl
  · rw [if_neg e]
    have h2 : List.count m [z] = 0 := List.count_eq_zero_of_not_mem (by simp; exact e)
    rw [h2]
    split <;> rfl⟩
theorem sum_has {xs rs : List Row} {z : Int} (hz : sumE xs (oneR z) = 0) (hs : SumIs xs (oneR z) rs) (hx : RightP xs) (h0 : 0 ≤ z) : Has (fun x => cntF xs x + oneC z x) rs ∧ totalB rs = totalB xs + 1 := by
  have hb : bothB xs (oneR z) = true ∧ fitsB xs (oneR z) = true := by
    unfold sumE at hz
    split at hz
    · rename_i h1
      split at hz
      · rename_i h2; exact ⟨h1, h2⟩
      · cases hz
    · cases hz
  unfold SumIs at hs
  rw [if_pos hb] at hs
  have hs2 : Has (fun x => cntF xs x + cntF (oneR z) x) rs := hs
  refine ⟨hs2.of fun x => by rw [cnt_oneR], ?_⟩
  rw [totalB_right hs2.1, totalB_right hx, totF_sum hx (oneR_right h0) hs2]
  rfl
theorem totM_set : ∀ (m : Mk) (p : Nat) (b : List Row), p < m.length → totM (m.set p b) = totM m - totalB (at_ m p) + totalB b
  | [], p, b, h => by cases h
  | x :: m, 0, b, h => by
    show totalB b + totM m = totalB x + totM m - totalB x + totalB b
    omega
  | x :: m, p + 1, b, h => by
    show totalB x + totM (m.set p b) = totalB x + totM m - totalB (at_ m p) + totalB b
    rw [totM_set m p b (by simpa using h)]; omega
theorem fin_is {lp : Nat} {tz : Int} {m : Mk} (h : finB lp tz m = true) : m.length = lp ∧ endF lp tz m = 1 ∧ totM m = 1 := by
  unfold finB at h
  rw [Bool.and_eq_true, Bool.and_eq_true, decide_eq_true_eq, decide_eq_true_eq, decide_eq_true_eq] at h
  exact ⟨h.1.1, h.1.2, h.2⟩
theorem more_fin {lp : Nat} {tz : Int} {m : Mk} (h : finB lp tz m = true) {p : Nat} (hp : p < m.length) {b : List Row} (hb : totalB b = totalB (at_ m p) + 1) : finB lp tz (m.set p b) = false ∧ endB lp tz (m.set p b) = true := by
  obtain ⟨h1, h2, h3⟩ := fin_is h
  constructor
  · unfold finB
    rw [totM_set m p b hp, h3, hb, decide_eq_false (show ¬ (1 - totalB (at_ m p) + (totalB (at_ m p) + 1) = 1) by omega), Bool.and_false]
  · unfold endB
    refine decide_eq_true ?_
    unfold endF at h2 ⊢
    rw [List.length_set]
    split at h2
    · rename_i hc
      rw [if_pos hc, at_set hp]
      split
      · rename_i e; rw [hb, ← e, h2]; omega
      · rw [h2]; exact Int.le_refl _
    · cases h2
theorem few_rows {gs : List Bg} (h : fewB gs = true) : ∀ x, x ∈ gs → x.rows.length ≤ 300 := by
  have hl := few_len h
  unfold fewB at h
  rw [Bool.and_eq_true, decide_eq_true_eq, decide_eq_true_eq, List.take_of_length_le (by omega)] at h
  intro x hx
  have : x.rows.length ≤ sumL (lensF gs) := sumL_le (List.mem_map_of_mem (f := fun g : Bg => g.rows.length) hx)
  omega
theorem right_all {gs : List Bg} (h : ∀ k, k < gs.length → rightB (gs.getD k nilBg).rows = true) : RightM (mkOf gs) := fun x hx => by
  obtain ⟨i, hi, rfl⟩ := List.getElem_of_mem hx
  rw [← at_get hi, mkOf_at gs (by rw [mkOf_len] at hi; exact hi)]
  exact rightB_iff.1 (h i (by rw [mkOf_len] at hi; exact hi))

set_option maxRecDepth 100000 in
set_option maxHeartbeats 8000000 in
theorem walk (va : Option Addr) (lv cv : Nat) (vp : Option Addr) (lp cp : Nat) (vt : Option Addr) (lt ct : Nat) (fr tz : Int) (a : Option Addr) (la ca : Nat) (xs : List Bg) (place member : Int) (w : World) (ha : Mks w a la xs) (hp0 : (Lit.int .i64 place).wf = true) (hm0 : (Lit.int .i64 member).wf = true) :
    Calls Tryz.prog 7 #[.agg #[.slice va lv cv, .slice vp lp cp, .slice vt lt ct, .int .i64 fr, .int .i64 tz], .slice a la ca, .int .i64 place, .int .i64 member] w fun e w' => e = .returned (.bool true) ∧ Below w.heap.size w w' := by
  have HA : Hid (Mks w a la xs) := ha
  have LA : Hid (xs.length = la) := ha.1
  have MI : Hid (Bag.In64 member) := bounds_i64 hm0
  clear ha hp0 hm0
  go_enter Tryz.func7, Tryz.ntmps7
  go_wp2_with fail
  have F : ∀ W, W = w.alloc (.cells #[.slice va lv cv, .slice vp lp cp, .slice vt lt ct, .int .i64 fr, .int .i64 tz] 47) → NX va lv cv vp lp cp vt lt ct fr tz w.heap.size W ∧ Below w.heap.size w W := fun W e => by
    subst e
    exact ⟨⟨by simp, by simp, by simp, by simp, by simp⟩, (Below.refl _ _).alloc (Nat.le_refl _) _⟩
  generalize hW : w.alloc (.cells #[.slice va lv cv, .slice vp lp cp, .slice vt lt ct, .int .i64 fr, .int .i64 tz] 47) = w0
  obtain ⟨hnx, hb0⟩ := F w0 hW.symm
  have N0 : Hid (NX va lv cv vp lp cp vt lt ct fr tz w.heap.size w0) := hnx
  have B0 : Hid (Below w.heap.size w w0) := hb0
  clear F hW hnx hb0
  refine (small_any w0).mono ?_
  rintro e w1 ⟨he, hb⟩
  subst he
  have N1 : Hid (NX va lv cv vp lp cp vt lt ct fr tz w.heap.size w1) := N0.out.on hb
  have B1 : Hid (Below w.heap.size w w1) := then_ B0.out hb
  clear hb N0 B0
  go_wp2_with fail
  refine (few_any a la ca xs w1 (HA.out.below B1.out)).mono ?_
  rintro e w2 ⟨he, hb⟩
  subst he
  have N2 : Hid (NX va lv cv vp lp cp vt lt ct fr tz w.heap.size w2) := N1.out.on hb
  have B2 : Hid (Below w.heap.size w w2) := then_ B1.out hb
  clear hb N1 B1
  obtain ⟨x0, x1, x2, x3, x4⟩ := N2.out
  have hql : w.heap.size < w2.heap.size := World.block_lt_of_cell? w2 _ x0
  cases hfa : fewB xs with
  | false =>
    clear hfa
    go_wp2
    go_ret
    exact ⟨rfl, B2.out⟩
  | true =>
  by_cases h70 : (70 : Int) < lp
  · clear hfa
    go_wp2
    go_ret
    exact ⟨rfl, B2.out⟩
  have d70 : decide ((70 : Int) < lp) = false := decide_eq_false h70
  have hlp : lp ≤ 140737488355328 := by omega
  have FX : Hid (fewB xs = true) := hfa
  have SX : Hid (Sm xs) := few_sm hfa
  have hla : la ≤ 70 := by have := few_len hfa; rw [LA.out] at this; exact this
  clear hfa
  go_wp2
  clear d70 x0 x1 x2 x3 x4 hql
  go_loopw [11] (fun i wr => ∃ k : Nat, k ≤ la ∧ i = .int .i64 k ∧ Hid (∀ t, t < k → rightB (xs.getD t nilBg).rows = true) ∧ Hid (NX va lv cv vp lp cp vt lt ct fr tz w.heap.size wr ∧ Below w.heap.size w wr)) (fun i _ => la - (intOf i).toNat)
  case atStart => exact ⟨0, by omega, rfl, (fun t h => by omega), N2.out, B2.out⟩
  case round =>
    obtain ⟨k, hk, rfl, hrt, hNB⟩ := hrel
    clear N2 B2
    by_cases hkl : k < la
    · have hkl' : (k : Int) < la := by omega
      obtain ⟨ba, oa, hae, hal, ac, aok⟩ := (HA.out.below hNB.out.2).row (k := k) hkl
      have lx := SX.out.at (k := k) (by rw [LA.out]; exact hkl)
      have RT : Hid (rightB (xs.getD k nilBg).rows = true → ∀ t, t < k + 1 → rightB (xs.getD t nilBg).rows = true) := fun h t ht => by
        rcases Nat.lt_or_ge t k with g | g
        · exact hrt.out t g
        · obtain rfl : t = k := by omega
          exact h
      subst hae
      generalize xs.getD k nilBg = gx at *
      have KX : Hid (Bags wr gx.a gx.rows.length gx.rows) := aok.1
      clear aok
      go_wp2_with fail
      refine (right_any _ _ _ gx.rows _ KX.out (by omega)).mono ?_
      rintro e w4 ⟨he, hb4⟩
      subst he
      have NB4 : Hid (NX va lv cv vp lp cp vt lt ct fr tz w.heap.size w4 ∧ Below w.heap.size w w4) := ⟨hNB.out.1.on hb4, then_ hNB.out.2 hb4⟩
      clear hb4 hNB ac
      cases hs : rightB gx.rows with
      | false =>
        clear hs RT
        go_wp2
        go_ret
        exact ⟨rfl, NB4.out.2⟩
      | true =>
        have R2 : Hid (∀ t, t < k + 1 → rightB (xs.getD t nilBg).rows = true) := RT.out hs
        clear hs RT
        go_wp2
        go_roundw
        case rel => exact ⟨k + 1, by omega, by go_num, R2, NB4.out⟩
        case measure => simp [intOf]; omega
    · have RX : Hid (RightM (mkOf xs)) := right_all fun t ht => hrt.out t (by rw [LA.out] at ht; omega)
      have hkl2 : ¬ (k : Int) < la := by omega
      have N3 : Hid (NX va lv cv vp lp cp vt lt ct fr tz w.heap.size wr) := hNB.out.1
      have B3 : Hid (Below w.heap.size w wr) := hNB.out.2
      clear hrt hNB
      obtain ⟨x0, x1, x2, x3, x4⟩ := N3.out
      have hql : w.heap.size < wr.heap.size := World.block_lt_of_cell? wr _ x0
      go_wp2_with fail
      clear x0 x1 x2 x3 x4 hql
      refine (final_m a va vp vt la ca lv cv lp cp lt ct fr tz xs wr (HA.out.below B3.out) SX.out hlp).mono ?_
      rintro e w4 ⟨he, hb⟩
      subst he
      have N4 : Hid (NX va lv cv vp lp cp vt lt ct fr tz w.heap.size w4) := N3.out.on hb
      have B4 : Hid (Below w.heap.size w w4) := then_ B3.out hb
      clear hb N3 B3
      cases hfin : finB lp tz (mkOf xs) with
      | false =>
        clear hfin
        go_wp2
        go_ret
        exact ⟨rfl, B4.out⟩
      | true =>
      obtain ⟨f1, f2, f3⟩ := fin_is hfin
      have FN : Hid (finB lp tz (mkOf xs) = true) := hfin
      have EN : Hid (endB lp tz (mkOf xs) = true) := by unfold endB; rw [f2]; exact (rfl : decide ((1 : Int) ≤ 1) = true)
      have TN : Hid (totM (mkOf xs) = 1) := f3
      clear hfin f1 f2 f3
      obtain ⟨x0, x1, x2, x3, x4⟩ := N4.out
      have hql : w.heap.size < w4.heap.size := World.block_lt_of_cell? w4 _ x0
      go_wp2_with fail
      clear x0 x1 x2 x3 x4 hql
      refine (ended_m a va vp vt la ca lv cv lp cp lt ct fr tz xs w4 (HA.out.below B4.out) SX.out hlp).mono ?_
      rintro e w5 ⟨he, hb⟩
      subst he
      rw [EN.out]
      have N5 : Hid (NX va lv cv vp lp cp vt lt ct fr tz w.heap.size w5) := N4.out.on hb
      have B5 : Hid (Below w.heap.size w w5) := then_ B4.out hb
      clear hb N4 B4
      go_wp2_with fail
      refine (total_m a la ca xs w5 (HA.out.below B5.out) SX.out).mono ?_
      rintro e w6 ⟨he, hb⟩
      subst he
      rw [TN.out]
      have N6 : Hid (NX va lv cv vp lp cp vt lt ct fr tz w.heap.size w6) := N5.out.on hb
      have B6 : Hid (Below w.heap.size w w6) := then_ B5.out hb
      clear hb N5 B5
      by_cases hp1 : place < 0
      · go_wp2
        go_ret
        exact ⟨rfl, B6.out⟩
      by_cases hp2 : (la : Int) ≤ place
      · go_wp2
        go_ret
        exact ⟨rfl, B6.out⟩
      by_cases hm1 : member < 0
      · have hp2' : place < la := by omega
        have dd : decide ((la : Int) ≤ place) = false := decide_eq_false hp2
        go_wp2
        go_ret
        exact ⟨rfl, B6.out⟩
      have dd : decide ((la : Int) ≤ place) = false := decide_eq_false hp2
      have dp : decide (place < 0) = false := decide_eq_false hp1
      have dm : decide (member < 0) = false := decide_eq_false hm1
      go_wp2_with fail
      refine (copy_m a la ca xs w6 (HA.out.below B6.out) SX.out).mono ?_
      rintro e w7 ⟨ap, cp2, ps, he, ⟨hgp, hO⟩, hb⟩
      subst he
      have hlp2 : ps.length = la := by rw [← mkOf_len, hgp, mkOf_len, LA.out]
      have GP : Hid (mkOf ps = mkOf xs) := hgp
      have LP : Hid (ps.length = la) := hlp2
      rw [LA.out]
      obtain ⟨g, eg, hgB, hrow, howns⟩ := hO
      have hgw : w.heap.size < g := Nat.lt_of_lt_of_le (World.block_lt_of_cell? w6 _ N6.out.1) hgB
      subst eg
      have MO : Hid (MOwn w7 w6.heap.size (some ⟨g, 0, none⟩) ps) := ⟨g, rfl, hgB, hrow, howns⟩
      obtain ⟨p, hpp⟩ : ∃ p : Nat, place = p := ⟨place.toNat, by omega⟩
      subst hpp
      have hpl : p < la := by omega
      have hpl' : (p : Int) < la := by omega
      have hpg : p < ps.length := by rw [hlp2]; exact hpl
      have q0 := hrow.cell hpg
      have hgl := hrow.lt
      have hmem : ps.getD p nilBg ∈ ps := by rw [List.getD_eq_getElem?_getD, List.getElem?_eq_getElem hpg]; exact List.getElem_mem _
      have hbg := howns _ hmem
      have hat : at_ (mkOf xs) p = (ps.getD p nilBg).rows := by rw [← hgp, mkOf_at ps hpg]
      have hrr : RightP (ps.getD p nilBg).rows := by rw [← hat]; exact RX.out _ (at_mem (by rw [mkOf_len, LA.out]; exact hpl))
      have hl3 : (ps.getD p nilBg).rows.length ≤ 300 := by
        have h1 : (ps.getD p nilBg).rows ∈ mkOf xs := by rw [← hat]; exact at_mem (by rw [mkOf_len, LA.out]; exact hpl)
        obtain ⟨x, hx, e⟩ := List.mem_map.1 h1
        rw [← e]; exact few_rows FX.out x hx
      unfold bgCell bgV at q0
      generalize ps.getD p nilBg = y at *
      have AT : Hid (at_ (mkOf xs) p = y.rows) := hat
      have RY : Hid (RightP y.rows) := hrr
      have LY : Hid (y.rows.length ≤ 300) := hl3
      have BY : Hid (Bags w7 y.a y.rows.length y.rows) := hbg.bags
      have Q0 : Hid (w7.cell? ⟨g, p, none⟩ = some (.slice y.a y.rows.length y.c)) := q0
      have N7 : Hid (NX va lv cv vp lp cp vt lt ct fr tz w.heap.size w7) := N6.out.on hb
      have B7 : Hid (Below w.heap.size w w7) := then_ B6.out hb
      have GW : Hid (w.heap.size < g) := hgw
      have M0 : Hid (0 ≤ member) := (show 0 ≤ member by omega)
      have OF : Hid (∀ W q, Below w7.heap.size w7 W → W.cell? ⟨q, 0, none⟩ = some (.int .i64 member) → Calls Tryz.prog 27 #[.slice (some ⟨q, 0, none⟩) 1 1] W fun e w' => ∃ a' l' c', e = .returned (.slice a' l' c') ∧ Hid (Bags w' a' l' (oneR member)) ∧ Below w7.heap.size w7 w') := fun W q hW hq => by
        refine (of_known (some ⟨q, 0, none⟩) 1 1 [member] (oneR member) W ⟨⟨rfl, fun i hi => by
          have : i = 0 := by simpa using hi
          subst this
          exact MI.out⟩, .inr ⟨q, 0, rfl, fun i hi => by
          have : i = 0 := by omega
          subst this
          exact hq⟩⟩ (by omega) (of_one M0.out)).mono ?_
        rintro e w' ⟨a', l', c', he, hB', hb'⟩
        exact ⟨a', l', c', he, hB', then_ hW hb'⟩
      have SU : Hid (∀ W a' l' c', Below w7.heap.size w7 W → Bags W a' l' (oneR member) → Calls Tryz.prog 26 #[.slice y.a y.rows.length y.c, .slice a' l' c'] W fun e w' => ∃ sa sl sc rs, e = .returned (.tuple #[.slice sa sl sc, .int .i64 (sumE y.rows (oneR member))]) ∧ Hid ((SumIs y.rows (oneR member) rs ∧ sl ≤ y.rows.length + 1) ∧ Own w' w7.heap.size sa sl sc rs) ∧ Below w7.heap.size w7 w') := fun W a' l' c' hW hB' => by
        have hl' : l' = 1 := hB'.1.1.symm
        refine (sum_u y.a a' y.rows.length y.c l' c' y.rows (oneR member) W (BY.out.below hW) hB' (by have := LY.out; omega) (by omega)).mono ?_
        rintro e w' ⟨sa, sl, sc, rs, he, hh, hb'⟩
        exact ⟨sa, sl, sc, rs, he, ⟨⟨hh.out.1.1, by have := hh.out.1.2; omega⟩, hh.out.2.mono hW.size⟩, then_ hW hb'⟩
      clear hgp hb hgB hrow howns hgw hmem hbg hat hrr hl3 N6 B6 hlp2 dd dp dm hp1 hp2 hm1
      go_wp2_with fail
      go_region_held3 (fun w' => w'.cell? ⟨g, p, none⟩ = some (.slice y.a y.rows.length y.c)) (go_keep)
        (first
          | (go_at_call 27; refine (OF.out _ _ (by first | exact ((Below.refl _ _).drew.alloc (by simp) _) | exact ((Below.refl _ _).alloc (by simp) _).drew | exact ((Below.refl _ _).alloc (by simp) _)) (by simp)).mono ?_; rintro e w8 ⟨a8, l8, c8, he, hB8, hb8⟩; subst he; have g0 := rowB_call Q0.out hb8)
          | (go_at_call 26; refine (SU.out _ _ _ _ (by first | exact hb8.drew | exact hb8) (by exact hB8.out)).mono ?_; rintro e w9 ⟨sa, sl, sc, rs, he, hS9, hb9⟩; subst he; have g1 := rowB_call Q0.out hb9))
      have B9 : Hid (Below w.heap.size w w9) := then_ B7.out hb9
      have N9 : Hid (NX va lv cv vp lp cp vt lt ct fr tz w.heap.size w9) := N7.out.on hb9
      have MO9 : Hid (MOwn w9 w6.heap.size (some ⟨g, 0, none⟩) ps) := MO.out.below hb9
      have S9 : Hid ((SumIs y.rows (oneR member) rs ∧ sl ≤ y.rows.length + 1) ∧ Own w9 w7.heap.size sa sl sc rs) := hS9
      have W79 : Hid (w7.heap.size ≤ w9.heap.size) := hb9.size
      clear hB8 hb8 hS9 hb9 g0 g1 OF SU MO N7 B7 q0
      by_cases hz : sumE y.rows (oneR member) = 0
      case neg =>
        have hz2 : (sumE y.rows (oneR member) != 0) = true := by simpa using hz
        have hz3 : (sumE y.rows (oneR member) == 0) = false := by simpa using hz
        generalize sumE y.rows (oneR member) = er at *
        go_wp2
        go_ret
        exact ⟨rfl, B9.out⟩
      obtain ⟨hh, htb⟩ := sum_has hz S9.out.1.1 RY.out M0.out
      rw [hz]
      have HH : Hid (Has (fun x => cntF (at_ (mkOf xs) p) x + oneC member x) rs) := by rw [AT.out]; exact hh
      have HT : Hid (totalB rs = totalB (at_ (mkOf xs) p) + 1) := by rw [AT.out]; exact htb
      have f9 : w9.frozen? ⟨g, p, none⟩ = false := by
        obtain ⟨g', eg, _, hrow, _⟩ := MO9.out
        injection eg with eg; injection eg with eg _
        rw [eg]; exact hrow.frozen p
      have q9 : w9.cell? ⟨g, p, none⟩ = some (bgCell ps p) := by
        obtain ⟨g', eg, _, hrow, _⟩ := MO9.out
        injection eg with eg; injection eg with eg _
        rw [eg]; exact hrow.cell hpg
      generalize bgCell ps p = y9 at q9
      have hg9 : g < w9.heap.size := World.block_lt_of_cell? w9 _ q9
      have hsl : sl = rs.length := S9.out.2.1.1.symm
      have MP : Hid (MOwn (w9.setCell ⟨g, p, none⟩ (.slice sa sl sc)) w6.heap.size (some ⟨g, 0, none⟩) (ps.set p ⟨rs, sa, sc⟩)) := by
        have := MO9.out.put (k := p) (y := ⟨rs, sa, sc⟩) hpg ⟨w7.heap.size, hgl, by rw [← hsl]; exact S9.out.2⟩
        rw [show bgV ⟨rs, sa, sc⟩ = .slice sa sl sc by unfold bgV; rw [hsl]] at this
        exact this
      have NS : Hid (NX va lv cv vp lp cp vt lt ct fr tz w.heap.size (w9.setCell ⟨g, p, none⟩ (.slice sa sl sc))) := N9.out.set (by have := GW.out; omega) _
      have BS : Hid (Below w.heap.size w (w9.setCell ⟨g, p, none⟩ (.slice sa sl sc))) := B9.out.setCell (by show w.heap.size ≤ g; have := GW.out; omega) _
      have MM : Hid (mkOf (ps.set p ⟨rs, sa, sc⟩) = (mkOf xs).set p rs) := by rw [mkOf_set, GP.out]; exact (rfl : (mkOf xs).set p rs = _)
      have LL : Hid ((ps.set p ⟨rs, sa, sc⟩).length = la) := by rw [List.length_set]; exact LP.out
      have SQ : Hid (Sm (ps.set p ⟨rs, sa, sc⟩)) := by
        refine ⟨by rw [LL.out]; omega, fun x hx => ?_⟩
        rcases set_mem hx with hx | rfl
        · have h1 : x.rows ∈ mkOf xs := by rw [← GP.out]; exact List.mem_map_of_mem hx
          obtain ⟨x', hx', e⟩ := List.mem_map.1 h1
          rw [← e]; have := few_rows FX.out x' hx'; omega
        · have := S9.out.1.2; have := LY.out; show rs.length ≤ _; omega
      have MK : Hid (Mks (w9.setCell ⟨g, p, none⟩ (.slice sa sl sc)) (some ⟨g, 0, none⟩) la (ps.set p ⟨rs, sa, sc⟩)) := by
        have := MP.out.mks fun x hx => by have := SQ.out.2 x hx; omega
        rwa [LL.out] at this
      obtain ⟨e1, e2⟩ := more_fin FN.out (p := p) (by rw [mkOf_len, LA.out]; exact hpl) HT.out
      have FF : Hid (finB lp tz (mkOf (ps.set p ⟨rs, sa, sc⟩)) = false) := by rw [MM.out]; exact e1
      have EE : Hid (endB lp tz (mkOf (ps.set p ⟨rs, sa, sc⟩)) = true) := by rw [MM.out]; exact e2
      have WW : Hid (withinM (mkOf xs) (mkOf (ps.set p ⟨rs, sa, sc⟩)) = true) := by rw [MM.out]; exact more_within RX.out (by rw [mkOf_len, LA.out]; exact hpl) HH.out
      have CC : Hid (compareM (mkOf (ps.set p ⟨rs, sa, sc⟩)) (mkOf xs) = 1) := by rw [MM.out]; exact more_more RX.out (by rw [mkOf_len, LA.out]; exact hpl) HH.out
      have hne1 : ¬ g = w.heap.size := by have := GW.out; omega
      have hne2 : ¬ w.heap.size = g := by omega
      obtain ⟨x0, x1, x2, x3, x4⟩ := N9.out
      have hq9 : w.heap.size < w9.heap.size := World.block_lt_of_cell? w9 _ x0
      clear MO9 S9 hh htb hsl HT e1 e2 MP MM LL HH MI RY AT LY BY Q0 hz
      generalize ps.set p ⟨rs, sa, sc⟩ = qs at *
      go_wp2_with fail
      clear x0 x1 x2 x3 x4 hq9 hne1 hne2 q9 f9 hg9
      generalize w9.setCell ⟨g, p, none⟩ (.slice sa sl sc) = w10 at *
      refine (final_m (some ⟨g, 0, none⟩) va vp vt la cp2 lv cv lp cp lt ct fr tz qs w10 MK.out SQ.out hlp).mono ?_
      rintro e w11 ⟨he, hb⟩
      subst he
      rw [FF.out]
      have N11 : Hid (NX va lv cv vp lp cp vt lt ct fr tz w.heap.size w11) := NS.out.on hb
      have M11 : Hid (Mks w11 (some ⟨g, 0, none⟩) la qs) := MK.out.below hb
      have B11 : Hid (Below w.heap.size w w11) := then_ BS.out hb
      clear hb NS MK BS
      obtain ⟨x0, x1, x2, x3, x4⟩ := N11.out
      have hql : w.heap.size < w11.heap.size := World.block_lt_of_cell? w11 _ x0
      go_wp2_with fail
      clear x0 x1 x2 x3 x4 hql
      refine (ended_m (some ⟨g, 0, none⟩) va vp vt la cp2 lv cv lp cp lt ct fr tz qs w11 M11.out SQ.out hlp).mono ?_
      rintro e w12 ⟨he, hb⟩
      subst he
      rw [EE.out]
      have M12 : Hid (Mks w12 (some ⟨g, 0, none⟩) la qs) := M11.out.below hb
      have B12 : Hid (Below w.heap.size w w12) := then_ B11.out hb
      clear hb N11 M11 B11
      go_wp2_with fail
      refine (within_m a (some ⟨g, 0, none⟩) la ca la cp2 xs qs w12 (HA.out.below B12.out) M12.out SX.out SQ.out).mono ?_
      rintro e w13 ⟨he, hb⟩
      subst he
      rw [WW.out]
      have M13 : Hid (Mks w13 (some ⟨g, 0, none⟩) la qs) := M12.out.below hb
      have B13 : Hid (Below w.heap.size w w13) := then_ B12.out hb
      clear hb M12 B12
      go_wp2_with fail
      refine (compare_m (some ⟨g, 0, none⟩) a la cp2 la ca qs xs w13 M13.out (HA.out.below B13.out) SQ.out SX.out).mono ?_
      rintro e w14 ⟨he, hb⟩
      subst he
      rw [CC.out]
      have B14 : Hid (Below w.heap.size w w14) := then_ B13.out hb
      clear hb M13 B13
      go_wp2
      go_ret
      exact ⟨rfl, B14.out⟩

theorem door_met (os : Os) (args : Array Value) : laidMetH Tryz.prog Rows.markEndsRow.laid ((World.doorLaid Tryz.prog 400 os).forCall (fun _ _ => 0) ⟨#[], args, []⟩).memory :=
  laidMetH_of_parts3 (fuel := 8) (laidMet_of_run' 8 (by kernel_rfl) (by kernel_rfl)) (by kernel_rfl) (by kernel_rfl)

set_option maxRecDepth 100000 in
set_option maxHeartbeats 4000000 in
theorem lifted (os : Os) (started : os.Started) (H : Type) (enc : TypeId × Value → H) :
    ReturnsInHanded {} Tryz.checked os 7 .any (fun w args => (Rows.markEndsSpec.pre enc Tryz.prog Tryz.f7 [] false w args ∧ laidMetH Tryz.prog Rows.markEndsRow.laid w) ∧ sizedMet enc Tryz.prog Tryz.f7 (OpenSpec.ofChange Rows.markEndsSpec) false w args)
      (Rows.markEndsSpec.post enc Tryz.prog Tryz.f7 false true false false) := by
  refine returnsInHanded_of_change_and (C := Tryz.checked) (X := fun w _ => laidMetH Tryz.prog Rows.markEndsRow.laid w) (fun _ _ _ hh h => h.of_heap hh) Frame.own started (by kernel_rfl) Tryz.func7
    (ChangeSpec.witness_shaped (enc := enc) (C := Tryz.checked) (os := os) (X := fun w _ => laidMetH Tryz.prog Rows.markEndsRow.laid w) false (World.doorLaid Tryz.prog 400 os) #[.agg #[.slice none 0 0, .slice none 0 0, .slice none 0 0, .int .i64 0, .int .i64 0], .slice none 0 0, .int .i64 0, .int .i64 0] 8 rfl (World.shaped_of_RefB (by kernel_rfl) (by kernel_rfl)) (by kernel_rfl) (by kernel_rfl) (by kernel_rfl) (door_met os _)) ?_
  intro W base args ds gs before hval0 hW _ hZ0 hL _
  have hval : ∀ (j : Nat) t v, Tryz.f7.params[j]? = some t → args[j]? = some v → Value.okWide Tryz.prog W .any base t v := hval0
  have hW' := hW
  obtain ⟨p, q, hA0, hV, rfl, hfz, hnd⟩ := hW
  have hA : DataW.TrodAll enc Tryz.prog W 0 (fun _ => true) true Tryz.f7.params.toList args.toList ds p := hA0
  rw [Tryz.params7] at hA hval
  have hZ : (DataW.weightsEach Tryz.prog (Tryz.f7.params.toList ++ Rows.markEndsSpec.plain.varTypes Tryz.prog) (ds ++ gs)).all (· ≤ reachBytes) = true := hZ0
  rw [Tryz.params7] at hZ
  clear hZ0
  obtain ⟨v0, vs0, d0, ds0, p0, q0, hargs, rfl, rfl, h0, r0⟩ := trodAll_cons hA
  obtain ⟨v1, vs1, d1, ds1, p1, q1, rfl, rfl, rfl, h1, r1⟩ := trodAll_cons r0
  obtain ⟨v2, vs2, d2, ds2, p2, q2, rfl, rfl, rfl, h2, r2⟩ := trodAll_cons r1
  obtain ⟨v3, vs3, d3, ds3, p3, q3, rfl, rfl, rfl, h3, r3⟩ := trodAll_cons r2
  obtain ⟨rfl, rfl, rfl⟩ := trodAll_nil r3
  obtain rfl : args = #[v0, v1, v2, v3] := by cases args; simp_all
  obtain ⟨rfl, rfl⟩ := trodVars_none hV
  have k0 := h0
  have lt0 : ∀ x ∈ p0, x.block < W.heap.size := by obtain ⟨m, hm⟩ := k0; exact DataW.trod_lt m _ _ _ hm
  obtain ⟨va0, lv0, cv0, vp0, lp0, cp0, vt0, ln0, ct0, fr0, to0, rfl⟩ := Mark.open_netl (hval 0 47 v0 rfl rfl) h0
  obtain ⟨a1, len1, cap1, rfl⟩ := okWide_slice Tryz.underlying23 (hval 1 23 v1 rfl rfl)
  have k1 := h1
  have lt1 : ∀ x ∈ p1, x.block < W.heap.size := by obtain ⟨m, hm⟩ := k1; exact DataW.trod_lt m _ _ _ hm
  obtain ⟨fu1, hf1⟩ := h1
  obtain ⟨z1, w1⟩ := Mark.open_mk (cap := cap1) hf1 (fun m hm => of_decide_eq_true (List.all_eq_true.1 hZ m (DataW.weights_mem_each (j := 1) (t := 23) rfl rfl m hm)))
  obtain ⟨a2, rfl, rfl, rfl, w2⟩ := open_int Tryz.underlying3 (hval 2 3 v2 rfl rfl) h2
  obtain ⟨a3, rfl, rfl, rfl, w3⟩ := open_int Tryz.underlying3 (hval 3 3 v3 rfl rfl) h3
  clear hA0 hval0
  refine (walk va0 lv0 cv0 vp0 lp0 cp0 vt0 ln0 ct0 fr0 to0 a1 len1 cap1 z1 a2 a3 W w1 w2 w3).mono fun e W' ⟨he, bel⟩ => ?_
  subst he
  exact ⟨_, rfl, _, _, _, [], _, [], hW', trodAll_mk1 (shut_bool Tryz.underlying4 _), (trodAll_cons_mk (Below.trod Frame.laidOut (by kernel_rfl) (of_decide_eq_true (by kernel_rfl)) k0 bel lt0) (trodAll_cons_mk (Below.trod Frame.laidOut (by kernel_rfl) (of_decide_eq_true (by kernel_rfl)) k1 bel lt1) (trodAll_cons_mk (shut_int Tryz.underlying3 w2) (trodAll_cons_mk (shut_int Tryz.underlying3 w3) trodAll_mk0)))), rfl, bel.frame _, fun h => by cases h⟩

theorem over : Rows.MarkEndsSaid :=
  OpenClaim.holds_of_wide 7 Tryz.f7 rfl rfl rfl rfl rfl rfl rfl ⟨rfl, rfl, rfl, rfl, rfl⟩ rfl rfl rfl rfl rfl (by kernel_rfl) Tryz.func7 (by kernel_rfl)
    (of_decide_eq_true (by kernel_rfl)) (by unfold Func.isWrapper; first | (rw [if_pos (by decide +kernel)]; kernel_rfl) | (rw [if_neg (by decide +kernel)]; exact ⟨rfl, rfl⟩))
    (fun os started H enc _ => lifted os started H enc)

theorem proved : Rows.MarkEndsCardSaid :=
  Claim7.holds_tied_plain_at .later [] [.data, .data, .data] true (true, "2b5d1f382493339705975560aba43e05780851a85194b9148d285f45e5ab5452") false
    over (fun _ h => by cases h) (by kernel_rfl) (fun _ h => by cases h) markEnds_row_tie rfl ⟨rfl, rfl⟩ (by kernel_rfl) rfl
    (fun f fn hf hfn => by
      obtain rfl : f = 7 := Option.some.inj ((show Tryz.prog.funcNamed Rows.markEndsRow.func = some 7 by kernel_rfl).symm.trans hf) |>.symm
      obtain rfl : fn = Tryz.f7 := (Option.some.inj (Tryz.func7.symm.trans hfn)).symm
      exact ⟨by kernel_rfl, fun j t ht => by
        rw [Tryz.params7] at ht
        have hm : t ∈ [47, 23, 3, 3] := by simpa using Array.mem_of_getElem? ht
        have hall : ([47, 23, 3, 3].all fun u => !Tryz.prog.wantsStandIn u) = true := by kernel_rfl
        exact (show Tryz.prog.wantsStandIn t = false by simpa using List.all_eq_true.1 hall t hm)⟩)
    (by kernel_rfl)
end Go.Proofs.YtnjpblmplneojaaGreatDoor.markEnds
