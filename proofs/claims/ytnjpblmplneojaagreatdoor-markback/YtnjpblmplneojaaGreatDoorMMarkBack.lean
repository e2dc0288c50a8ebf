/- Proved: MarkBack answers true for every two markings and all bytes, as the whole program has it: what is encoded is decoded as it was, and bytes likewise, and unlike markings have unlike bytes. No condition; what the card lists of the library's variables is tied to the program's text. -/
import Derived.Test.YtnjpblmplneojaaGreatDoorMbN
import Derived.Test.YtnjpblmplneojaaGreatDoorMbM
import Derived.Test.YtnjpblmplneojaaGreatDoorCards
import Derived.Test.YtnjpblmplneojaaGreatDoorTie
import Derived.LaidMore
import Derived.Stop.Joined
import Derived.SevenTiedAt
namespace Go.Proofs.YtnjpblmplneojaaGreatDoor.markBack
open Go.ChangeShapes Go.WideShapes Go.ChangeAt Go.ChangeMaps Go.RowKit Go.Proofs.YtnjpblmplneojaaGreatDoor.Frame Go.Proofs.YtnjpblmplneojaaGreatDoor.Mark
set_option linter.unusedVariables false
set_option linter.unusedSimpArgs false

theorem bts_string {w : World} {a : Option Addr} {c : Nat} {bs : List UInt8} (h : Bts w a c bs) : (convert 28 9 (.slice a bs.length c)).run Tryz.prog w = .ok (.string ⟨bs.toArray⟩) w := by
  rcases h.1 with h0 | ⟨b, off, rfl, hB, hc⟩
  · have e := List.eq_nil_of_length_eq_zero h0
    subst e
    cases a with
    | none =>
      rw [show ([] : List UInt8).length = 0 from rfl, run_convert_bytes_string w 28 9 5 none 0 c Tryz.underlying28 Tryz.underlying5 Tryz.underlying9]
      rfl
    | some ad => exact run_convert_bytes_back (P := Tryz.prog) w 28 9 5 ad c [] Tryz.underlying28 Tryz.underlying5 Tryz.underlying9 (fun j hj => by cases hj)
  · refine run_convert_bytes_back (P := Tryz.prog) w 28 9 5 ⟨b, off, none⟩ c bs Tryz.underlying28 Tryz.underlying5 Tryz.underlying9 (fun j hj => ?_)
    rw [Go.WideShapes.add_plain, hc j hj, List.getD_eq_getElem?_getD, List.getElem?_eq_getElem hj]; rfl

theorem bytes_eq (x y : List UInt8) : ((⟨x.toArray⟩ : ByteArray).toList == (⟨y.toArray⟩ : ByteArray).toList) = decide (x = y) := by
  rw [ByteArray.toList_eq, ByteArray.toList_eq]
  show (x.toArray.toList == y.toArray.toList) = _
  rw [Bool.eq_iff_iff, beq_iff_eq, decide_eq_true_eq]
theorem enc_two (gs : List Bg) : (encF (mkOf gs) = none ∧ encE (mkOf gs) = 1) ∨ (encF (mkOf gs) = some (encL (mkOf gs)) ∧ encE (mkOf gs) = 0) := by
  unfold encL encE encF
  by_cases h : okM (mkOf gs) = true
  · rw [if_pos h, if_pos h]; exact .inr ⟨rfl, rfl⟩
  · rw [if_neg h, if_neg h]; exact .inl ⟨rfl, rfl⟩
theorem sm_of {gs hs : List Bg} (h : mkOf hs = mkOf gs) (hg : Sm gs) : Sm hs := by
  constructor
  · have : hs.length = gs.length := by rw [← mkOf_len, h, mkOf_len]
    rw [this]; exact hg.1
  · intro x hx
    have hx' : x.rows ∈ mkOf gs := by rw [← h]; exact List.mem_map_of_mem hx
    obtain ⟨y, hy, e⟩ := List.mem_map.1 hx'
    rw [← e]; exact hg.2 y hy
theorem sum_rows : ∀ gs : List Bg, (bagsE (mkOf gs)).length = 2 * gs.length + 8 * sumL (lensF gs)
  | [] => rfl
  | g :: gs => by
    show (bagE g.rows ++ bagsE (mkOf gs)).length = _
    unfold bagE
    rw [List.length_append, List.length_append, rowsE_len, sum_rows gs]
    have h1 : (two g.rows.length).length = 2 := rfl
    have h2 : sumL (lensF (g :: gs)) = g.rows.length + sumL (lensF gs) := rfl
    rw [h1, h2, List.length_cons]; omega
theorem enc_few {gs : List Bg} {l : List UInt8} (h : fewB gs = true) (ho : encF (mkOf gs) = some l) : l.length ≤ 80000 := by
  have hl := few_len h
  unfold fewB at h
  rw [Bool.and_eq_true, decide_eq_true_eq, decide_eq_true_eq, List.take_of_length_le (by omega)] at h
  unfold encF at ho
  split at ho
  · injection ho with ho
    rw [← ho, List.length_cons, sum_rows]; omega
  · cases ho

set_option maxRecDepth 100000 in
set_option maxHeartbeats 8000000 in
theorem walk (a : Option Addr) (la ca : Nat) (xs : List Bg) (b : Option Addr) (lb cb : Nat) (ys : List Bg) (c : Option Addr) (lc cc : Nat) (cs : List UInt8) (w : World) (ha : Mks w a la xs) (hb : Mks w b lb ys) (hc : cs.length = lc ∧ Bts w c cc cs) :
    Calls Tryz.prog 5 #[.slice a la ca, .slice b lb cb, .slice c lc cc] w fun e w' => e = .returned (.bool true) ∧ Below w.heap.size w w' := by
  have HA : Hid (Mks w a la xs) := ha
  have HB : Hid (Mks w b lb ys) := hb
  obtain ⟨rfl, hc⟩ := hc
  have HC : Hid (Bts w c cc cs) := hc
  clear ha hb hc
  go_enter Tryz.func5, Tryz.ntmps5
  go_wp2_with fail
  refine (small_any w).mono ?_
  rintro e w1 ⟨he, hb1⟩
  subst he
  have B1 : Hid (Below w.heap.size w w1) := hb1
  clear hb1
  go_wp2_with fail
  refine (few_any a la ca xs w1 (HA.out.below B1.out)).mono ?_
  rintro e w2 ⟨he, hb2⟩
  subst he
  have B2 : Hid (Below w.heap.size w w2) := then_ B1.out hb2
  clear hb2 B1
  go_wp2_with fail
  refine (few_any b lb cb ys w2 (HB.out.below B2.out)).mono ?_
  rintro e w3 ⟨he, hb3⟩
  subst he
  have B3 : Hid (Below w.heap.size w w3) := then_ B2.out hb3
  clear hb3 B2
  cases hfa : fewB xs with
  | false =>
    clear hfa
    generalize fewB ys = v
    go_wp2
    go_ret
    exact ⟨rfl, B3.out⟩
  | true =>
  cases hfb : fewB ys with
  | false =>
    clear hfb
    go_wp2
    go_ret
    exact ⟨rfl, B3.out⟩
  | true =>
  have FX0 : Hid (fewB xs = true) := hfa
  have SX : Hid (Sm xs) := few_sm hfa
  have SY : Hid (Sm ys) := few_sm hfb
  clear hfa hfb
  obtain ⟨n, hn⟩ : ∃ n, n = cs.length := ⟨_, rfl⟩
  have HN : Hid (cs.length = n) := hn.symm
  rw [← hn]
  clear hn
  by_cases hlc : (2000 : Int) < n
  · go_wp2
    go_ret
    exact ⟨rfl, B3.out⟩
  have hd : decide ((2000 : Int) < n) = false := decide_eq_false hlc
  go_wp2_with fail
  have CD : Hid (Calls Tryz.prog 18 #[.slice c n cc] w3 (DecPost cs w3)) := by
    have := decode_m c cc cs w3 (HC.out.below B3.out) (by rw [HN.out]; omega)
    rw [HN.out] at this
    exact this
  refine CD.out.mono ?_
  rintro e w4 ⟨a4, c4, gs, he, ⟨hM4, hg4, hS4⟩, hb4⟩
  subst he
  have M4 : Hid (Mks w4 a4 gs.length gs) := hM4
  have G4 : Hid (mkOf gs = decM cs) := hg4
  have S4 : Hid (Sm gs) := hS4
  have B4 : Hid (Below w.heap.size w w4) := then_ B3.out hb4
  clear hM4 hg4 hS4 hb4 B3 CD hd
  -- TAILS
  have FX : Hid (fewB xs = true) := FX0.out
  by_cases hz : goodR cs = true
  · have E0 : decE cs = 0 := if_pos hz
    rw [E0]
    have hdec : decF cs = some (mkOf gs) := (dec_some _ _).2 ⟨E0, G4.out.symm⟩
    have henc := dec_enc hdec
    rcases enc_two gs with ⟨og, eg⟩ | ⟨og, eg⟩
    · rw [henc] at og; cases og
    have EG : Hid (encE (mkOf gs) = 0) := eg
    have LG : Hid (encL (mkOf gs) = cs) := by rw [henc] at og; injection og with og; exact og.symm
    clear E0 hz hdec henc og eg
    go_wp2_with fail
    refine (encode_m a4 gs.length c4 gs w4 M4.out S4.out).mono ?_
    rintro e w5 ⟨vz, he, hrz, hb⟩
    subst he
    rw [EG.out]
    rw [LG.out] at hrz
    obtain ⟨az, cz, hvz, htz⟩ := row_bts hrz
    subst hvz
    rw [HN.out]
    have B5 : Hid (Below w.heap.size w w5) := then_ B4.out hb
    have q1 : (convert 28 9 (.slice az n cz)).run Tryz.prog w5 = .ok (.string ⟨cs.toArray⟩) w5 := by have := bts_string htz; rwa [HN.out] at this
    have q2 : (convert 28 9 (.slice c n cc)).run Tryz.prog w5 = .ok (.string ⟨cs.toArray⟩) w5 := by have := bts_string (HC.out.below B5.out); rwa [HN.out] at this
    generalize (⟨cs.toArray⟩ : ByteArray) = sc at *
    have tt : (sc.toList == sc.toList) = true := by simp
    have tn : (sc.toList != sc.toList) = false := by simp
    clear hrz htz hb B4 EG LG M4 S4 G4
    go_wp2_with fail
    clear q1 q2 tt tn
    refine (encode_m a la ca xs w5 (HA.out.below B5.out) SX.out).mono ?_
    rintro e w6 ⟨vx, he, hrx, hb⟩
    subst he
    obtain ⟨ax, cx, hvx, htx⟩ := row_bts hrx
    subst hvx
    have X6 : Hid (Bts w6 ax cx (encL (mkOf xs))) := htx
    have B6 : Hid (Below w.heap.size w w6) := then_ B5.out hb
    clear hrx htx hb B5
    go_wp2_with fail
    refine (encode_m b lb cb ys w6 (HB.out.below B6.out) SY.out).mono ?_
    rintro e w7 ⟨vy, he, hry, hb⟩
    subst he
    obtain ⟨ay, cy, hvy, hty⟩ := row_bts hry
    subst hvy
    have X7 : Hid (Bts w7 ax cx (encL (mkOf xs))) := X6.out.below hb
    have Y7 : Hid (Bts w7 ay cy (encL (mkOf ys))) := hty
    have B7 : Hid (Below w.heap.size w w7) := then_ B6.out hb
    clear hry hty hb B6 X6
    rcases enc_two xs with ⟨ox, ex⟩ | ⟨ox, ex⟩
    · rw [ex]
      clear ex ox
      have hey : encE (mkOf ys) = 0 ∨ encE (mkOf ys) = 1 := by unfold encE; split <;> simp
      generalize encE (mkOf ys) = ey
      go_wp2
      go_ret
      exact ⟨rfl, B7.out⟩
    rcases enc_two ys with ⟨oy, ey⟩ | ⟨oy, ey⟩
    · rw [ex, ey]
      clear ex ox ey oy
      go_wp2
      go_ret
      exact ⟨rfl, B7.out⟩
    rw [ex, ey]
    obtain ⟨dx0, dx1⟩ := (dec_some _ _).1 (enc_dec ox)
    have DX0 : Hid (decE (encL (mkOf xs)) = 0) := dx0
    have DX1 : Hid (decM (encL (mkOf xs)) = mkOf xs) := dx1
    have RX : Hid (RightM (mkOf xs)) := enc_right ox
    have EQ : Hid (decide (encL (mkOf xs) = encL (mkOf ys)) = sameM (mkOf xs) (mkOf ys)) := enc_same ox oy
    have LX : Hid ((encL (mkOf xs)).length ≤ 80000) := enc_few FX.out ox
    clear dx0 dx1 ox oy ex ey
    generalize encL (mkOf xs) = bx at *
    generalize encL (mkOf ys) = b_y at *
    go_wp2_with fail
    refine (decode_m ax cx bx w7 X7.out LX.out).mono ?_
    rintro e w8 ⟨ad, cd, ds, he, ⟨hMd, hgd, hSd⟩, hb⟩
    subst he
    rw [DX0.out]
    rw [DX1.out] at hgd
    have MD : Hid (Mks w8 ad ds.length ds) := hMd
    have GD : Hid (mkOf ds = mkOf xs) := hgd
    have SD : Hid (Sm ds) := hSd
    have X8 : Hid (Bts w8 ax cx bx) := X7.out.below hb
    have Y8 : Hid (Bts w8 ay cy b_y) := Y7.out.below hb
    have B8 : Hid (Below w.heap.size w w8) := then_ B7.out hb
    clear hMd hgd hSd hb X7 Y7 B7 DX0 DX1 LX
    go_wp2_with fail
    refine (copy_m a la ca xs w8 (HA.out.below B8.out) SX.out).mono ?_
    rintro e w9 ⟨ap, cp, ps, he, ⟨hgp, hO⟩, hb⟩
    subst he
    have hlp : ps.length = xs.length := by rw [← mkOf_len, hgp, mkOf_len]
    have SP : Hid (Sm ps) := sm_of hgp SX.out
    have GP : Hid (mkOf ps = mkOf xs) := hgp
    have MP : Hid (Mks w9 ap ps.length ps) := hO.mks fun x hx => by have := SP.out.2 x hx; omega
    rw [← hlp]
    have MD4 : Hid (Mks w9 ad ds.length ds) := MD.out.below hb
    have X9 : Hid (Bts w9 ax cx bx) := X8.out.below hb
    have Y9 : Hid (Bts w9 ay cy b_y) := Y8.out.below hb
    have B9 : Hid (Below w.heap.size w w9) := then_ B8.out hb
    clear hgp hO hb hlp X8 Y8 B8 MD
    have S1 : Hid (sameM (mkOf ds) (mkOf xs) = true) := by rw [GD.out]; exact sameM_iff.2 ⟨RX.out, rfl⟩
    have S2 : Hid (sameM (mkOf ps) (mkOf xs) = true) := by rw [GP.out]; exact sameM_iff.2 ⟨RX.out, rfl⟩
    have C1 : Hid (∀ W, Below w9.heap.size w9 W → Calls Tryz.prog 10 #[.slice ad ds.length cd, .slice a la ca] W fun e w' => e = .returned (.bool true) ∧ Below w9.heap.size w9 w') := fun W hW => (same_m ad a ds.length cd la ca ds xs W (MD4.out.below hW) (HA.out.below (then_ B9.out hW)) SD.out SX.out).mono fun e w' h => ⟨by rw [h.1, S1.out], then_ hW h.2⟩
    have C2 : Hid (∀ W, Below w9.heap.size w9 W → Calls Tryz.prog 10 #[.slice ap ps.length cp, .slice a la ca] W fun e w' => e = .returned (.bool true) ∧ Below w9.heap.size w9 w') := fun W hW => (same_m ap a ps.length cp la ca ps xs W (MP.out.below hW) (HA.out.below (then_ B9.out hW)) SP.out SX.out).mono fun e w' h => ⟨by rw [h.1, S2.out], then_ hW h.2⟩
    obtain ⟨v, hv⟩ : ∃ v, v = sameM (mkOf xs) (mkOf ys) := ⟨_, rfl⟩
    have C3 : Hid (∀ W, Below w9.heap.size w9 W → Calls Tryz.prog 10 #[.slice a la ca, .slice b lb cb] W fun e w' => e = .returned (.bool v) ∧ Below w9.heap.size w9 w') := fun W hW => (same_m a b la ca lb cb xs ys W (HA.out.below (then_ B9.out hW)) (HB.out.below (then_ B9.out hW)) SX.out SY.out).mono fun e w' h => ⟨by rw [h.1, hv], then_ hW h.2⟩
    have CX : Hid (∀ W, Below w9.heap.size w9 W → (convert 28 9 (.slice ax bx.length cx)).run Tryz.prog W = .ok (.string ⟨bx.toArray⟩) W) := fun W hW => bts_string (X9.out.below hW)
    have CY : Hid (∀ W, Below w9.heap.size w9 W → (convert 28 9 (.slice ay b_y.length cy)).run Tryz.prog W = .ok (.string ⟨b_y.toArray⟩) W) := fun W hW => bts_string (Y9.out.below hW)
    have ES : ((⟨bx.toArray⟩ : ByteArray).toList == (⟨b_y.toArray⟩ : ByteArray).toList) = v := by rw [hv, ← EQ.out]; exact bytes_eq bx b_y
    generalize (⟨bx.toArray⟩ : ByteArray) = sx at *
    generalize (⟨b_y.toArray⟩ : ByteArray) = sy at *
    generalize bx.length = lx at *
    generalize b_y.length = ly at *
    have VV : (v == v) = true := by simp
    clear hv EQ X9 Y9 S1 S2 MD4 MP SD SP GD GP RX
    go_wp2_with fail
    go_region_held3 (fun w' => (convert 28 9 (.slice ax lx cx)).run Tryz.prog w' = .ok (.string sx) w' ∧ (convert 28 9 (.slice ay ly cy)).run Tryz.prog w' = .ok (.string sy) w') (exact ⟨CX.out _ (by repeat (first | assumption | exact Below.refl _ _ | refine Below.drew ?_)), CY.out _ (by repeat (first | assumption | exact Below.refl _ _ | refine Below.drew ?_))⟩)
      (first
        | (go_at_call 10; refine (C1.out _ (by repeat (first | assumption | exact Below.refl _ _ | refine Below.drew ?_))).mono ?_; rintro e wA ⟨he, hbA⟩; subst he)
        | (go_at_call 10; refine (C2.out _ (by repeat (first | assumption | exact Below.refl _ _ | refine Below.drew ?_))).mono ?_; rintro e wB ⟨he, hbB⟩; subst he)
        | (go_at_call 10; refine (C3.out _ (by repeat (first | assumption | exact Below.refl _ _ | refine Below.drew ?_))).mono ?_; rintro e wC ⟨he, hbC⟩; subst he))
    have BC : Hid (Below w.heap.size w wC) := then_ B9.out hbC
    clear hbA hbB hbC
    go_wp2
    go_ret
    exact ⟨rfl, BC.out⟩
  · have E0 : decE cs = 4 := if_neg hz
    rw [E0]
    clear E0 hz
    go_wp2_with fail
    refine (encode_m a la ca xs w4 (HA.out.below B4.out) SX.out).mono ?_
    rintro e w5 ⟨vx, he, hrx, hb⟩
    subst he
    obtain ⟨ax, cx, hvx, htx⟩ := row_bts hrx
    subst hvx
    have X5 : Hid (Bts w5 ax cx (encL (mkOf xs))) := htx
    have B5 : Hid (Below w.heap.size w w5) := then_ B4.out hb
    clear hrx htx hb B4
    go_wp2_with fail
    refine (encode_m b lb cb ys w5 (HB.out.below B5.out) SY.out).mono ?_
    rintro e w6 ⟨vy, he, hry, hb⟩
    subst he
    obtain ⟨ay, cy, hvy, hty⟩ := row_bts hry
    subst hvy
    have X6 : Hid (Bts w6 ax cx (encL (mkOf xs))) := X5.out.below hb
    have Y6 : Hid (Bts w6 ay cy (encL (mkOf ys))) := hty
    have B6 : Hid (Below w.heap.size w w6) := then_ B5.out hb
    clear hry hty hb B5 X5
    rcases enc_two xs with ⟨ox, ex⟩ | ⟨ox, ex⟩
    · rw [ex]
      clear ex ox
      have hey : encE (mkOf ys) = 0 ∨ encE (mkOf ys) = 1 := by unfold encE; split <;> simp
      generalize encE (mkOf ys) = ey
      go_wp2
      go_ret
      exact ⟨rfl, B6.out⟩
    rcases enc_two ys with ⟨oy, ey⟩ | ⟨oy, ey⟩
    · rw [ex, ey]
      clear ex ox ey oy
      go_wp2
      go_ret
      exact ⟨rfl, B6.out⟩
    rw [ex, ey]
    obtain ⟨dx0, dx1⟩ := (dec_some _ _).1 (enc_dec ox)
    have DX0 : Hid (decE (encL (mkOf xs)) = 0) := dx0
    have DX1 : Hid (decM (encL (mkOf xs)) = mkOf xs) := dx1
    have RX : Hid (RightM (mkOf xs)) := enc_right ox
    have EQ : Hid (decide (encL (mkOf xs) = encL (mkOf ys)) = sameM (mkOf xs) (mkOf ys)) := enc_same ox oy
    have LX : Hid ((encL (mkOf xs)).length ≤ 80000) := enc_few FX.out ox
    clear dx0 dx1 ox oy ex ey
    generalize encL (mkOf xs) = bx at *
    generalize encL (mkOf ys) = b_y at *
    go_wp2_with fail
    refine (decode_m ax cx bx w6 X6.out LX.out).mono ?_
    rintro e w7 ⟨ad, cd, ds, he, ⟨hMd, hgd, hSd⟩, hb⟩
    subst he
    rw [DX0.out]
    rw [DX1.out] at hgd
    have MD : Hid (Mks w7 ad ds.length ds) := hMd
    have GD : Hid (mkOf ds = mkOf xs) := hgd
    have SD : Hid (Sm ds) := hSd
    have X7 : Hid (Bts w7 ax cx bx) := X6.out.below hb
    have Y7 : Hid (Bts w7 ay cy b_y) := Y6.out.below hb
    have B7 : Hid (Below w.heap.size w w7) := then_ B6.out hb
    clear hMd hgd hSd hb X6 Y6 B6 DX0 DX1 LX
    go_wp2_with fail
    refine (copy_m a la ca xs w7 (HA.out.below B7.out) SX.out).mono ?_
    rintro e w8 ⟨ap, cp, ps, he, ⟨hgp, hO⟩, hb⟩
    subst he
    have hlp : ps.length = xs.length := by rw [← mkOf_len, hgp, mkOf_len]
    have SP : Hid (Sm ps) := sm_of hgp SX.out
    have GP : Hid (mkOf ps = mkOf xs) := hgp
    have MP : Hid (Mks w8 ap ps.length ps) := hO.mks fun x hx => by have := SP.out.2 x hx; omega
    rw [← hlp]
    have MD4 : Hid (Mks w8 ad ds.length ds) := MD.out.below hb
    have X8 : Hid (Bts w8 ax cx bx) := X7.out.below hb
    have Y8 : Hid (Bts w8 ay cy b_y) := Y7.out.below hb
    have B8 : Hid (Below w.heap.size w w8) := then_ B7.out hb
    clear hgp hO hb hlp X7 Y7 B7 MD
    have S1 : Hid (sameM (mkOf ds) (mkOf xs) = true) := by rw [GD.out]; exact sameM_iff.2 ⟨RX.out, rfl⟩
    have S2 : Hid (sameM (mkOf ps) (mkOf xs) = true) := by rw [GP.out]; exact sameM_iff.2 ⟨RX.out, rfl⟩
    have C1 : Hid (∀ W, Below w8.heap.size w8 W → Calls Tryz.prog 10 #[.slice ad ds.length cd, .slice a la ca] W fun e w' => e = .returned (.bool true) ∧ Below w8.heap.size w8 w') := fun W hW => (same_m ad a ds.length cd la ca ds xs W (MD4.out.below hW) (HA.out.below (then_ B8.out hW)) SD.out SX.out).mono fun e w' h => ⟨by rw [h.1, S1.out], then_ hW h.2⟩
    have C2 : Hid (∀ W, Below w8.heap.size w8 W → Calls Tryz.prog 10 #[.slice ap ps.length cp, .slice a la ca] W fun e w' => e = .returned (.bool true) ∧ Below w8.heap.size w8 w') := fun W hW => (same_m ap a ps.length cp la ca ps xs W (MP.out.below hW) (HA.out.below (then_ B8.out hW)) SP.out SX.out).mono fun e w' h => ⟨by rw [h.1, S2.out], then_ hW h.2⟩
    obtain ⟨v, hv⟩ : ∃ v, v = sameM (mkOf xs) (mkOf ys) := ⟨_, rfl⟩
    have C3 : Hid (∀ W, Below w8.heap.size w8 W → Calls Tryz.prog 10 #[.slice a la ca, .slice b lb cb] W fun e w' => e = .returned (.bool v) ∧ Below w8.heap.size w8 w') := fun W hW => (same_m a b la ca lb cb xs ys W (HA.out.below (then_ B8.out hW)) (HB.out.below (then_ B8.out hW)) SX.out SY.out).mono fun e w' h => ⟨by rw [h.1, hv], then_ hW h.2⟩
    have CX : Hid (∀ W, Below w8.heap.size w8 W → (convert 28 9 (.slice ax bx.length cx)).run Tryz.prog W = .ok (.string ⟨bx.toArray⟩) W) := fun W hW => bts_string (X8.out.below hW)
    have CY : Hid (∀ W, Below w8.heap.size w8 W → (convert 28 9 (.slice ay b_y.length cy)).run Tryz.prog W = .ok (.string ⟨b_y.toArray⟩) W) := fun W hW => bts_string (Y8.out.below hW)
    have ES : ((⟨bx.toArray⟩ : ByteArray).toList == (⟨b_y.toArray⟩ : ByteArray).toList) = v := by rw [hv, ← EQ.out]; exact bytes_eq bx b_y
    generalize (⟨bx.toArray⟩ : ByteArray) = sx at *
    generalize (⟨b_y.toArray⟩ : ByteArray) = sy at *
    generalize bx.length = lx at *
    generalize b_y.length = ly at *
    have VV : (v == v) = true := by simp
    clear hv EQ X8 Y8 S1 S2 MD4 MP SD SP GD GP RX
    go_wp2_with fail
    go_region_held3 (fun w' => (convert 28 9 (.slice ax lx cx)).run Tryz.prog w' = .ok (.string sx) w' ∧ (convert 28 9 (.slice ay ly cy)).run Tryz.prog w' = .ok (.string sy) w') (exact ⟨CX.out _ (by repeat (first | assumption | exact Below.refl _ _ | refine Below.drew ?_)), CY.out _ (by repeat (first | assumption | exact Below.refl _ _ | refine Below.drew ?_))⟩)
      (first
        | (go_at_call 10; refine (C1.out _ (by repeat (first | assumption | exact Below.refl _ _ | refine Below.drew ?_))).mono ?_; rintro e wA ⟨he, hbA⟩; subst he)
        | (go_at_call 10; refine (C2.out _ (by repeat (first | assumption | exact Below.refl _ _ | refine Below.drew ?_))).mono ?_; rintro e wB ⟨he, hbB⟩; subst he)
        | (go_at_call 10; refine (C3.out _ (by repeat (first | assumption | exact Below.refl _ _ | refine Below.drew ?_))).mono ?_; rintro e wC ⟨he, hbC⟩; subst he))
    have BC : Hid (Below w.heap.size w wC) := then_ B8.out hbC
    clear hbA hbB hbC
    go_wp2
    go_ret
    exact ⟨rfl, BC.out⟩

theorem door_met (os : Os) (args : Array Value) : laidMetH Tryz.prog Rows.markBackRow.laid ((World.doorLaid Tryz.prog 400 os).forCall (fun _ _ => 0) ⟨#[], args, []⟩).memory :=
  laidMetH_of_parts3 (fuel := 8) (laidMet_of_run' 8 (by kernel_rfl) (by kernel_rfl)) (by kernel_rfl) (by kernel_rfl)

set_option maxRecDepth 100000 in
set_option maxHeartbeats 4000000 in
theorem lifted (os : Os) (started : os.Started) (H : Type) (enc : TypeId × Value → H) :
    ReturnsInHanded {} Tryz.checked os 5 .any (fun w args => (Rows.markBackSpec.pre enc Tryz.prog Tryz.f5 [] false w args ∧ laidMetH Tryz.prog Rows.markBackRow.laid w) ∧ sizedMet enc Tryz.prog Tryz.f5 (OpenSpec.ofChange Rows.markBackSpec) false w args)
      (Rows.markBackSpec.post enc Tryz.prog Tryz.f5 false true false false) := by
  refine returnsInHanded_of_change_and (C := Tryz.checked) (X := fun w _ => laidMetH Tryz.prog Rows.markBackRow.laid w) (fun _ _ _ hh h => h.of_heap hh) Frame.own started (by kernel_rfl) Tryz.func5
    (ChangeSpec.witness_shaped (enc := enc) (C := Tryz.checked) (os := os) (X := fun w _ => laidMetH Tryz.prog Rows.markBackRow.laid w) false (World.doorLaid Tryz.prog 400 os) #[.slice none 0 0, .slice none 0 0, .slice none 0 0] 8 rfl (World.shaped_of_RefB (by kernel_rfl) (by kernel_rfl)) (by kernel_rfl) (by kernel_rfl) (by kernel_rfl) (door_met os _)) ?_
  intro W base args ds gs before hval0 hW _ hZ0 hL _
  have hval : ∀ (j : Nat) t v, Tryz.f5.params[j]? = some t → args[j]? = some v → Value.okWide Tryz.prog W .any base t v := hval0
  have hW' := hW
  obtain ⟨p, q, hA0, hV, rfl, hfz, hnd⟩ := hW
  have hA : DataW.TrodAll enc Tryz.prog W 0 (fun _ => true) true Tryz.f5.params.toList args.toList ds p := hA0
  rw [Tryz.params5] at hA hval
  have hZ : (DataW.weightsEach Tryz.prog (Tryz.f5.params.toList ++ Rows.markBackSpec.plain.varTypes Tryz.prog) (ds ++ gs)).all (· ≤ reachBytes) = true := hZ0
  rw [Tryz.params5] at hZ
  clear hZ0
  obtain ⟨v0, vs0, d0, ds0, p0, q0, hargs, rfl, rfl, h0, r0⟩ := trodAll_cons hA
  obtain ⟨v1, vs1, d1, ds1, p1, q1, rfl, rfl, rfl, h1, r1⟩ := trodAll_cons r0
  obtain ⟨v2, vs2, d2, ds2, p2, q2, rfl, rfl, rfl, h2, r2⟩ := trodAll_cons r1
  obtain ⟨rfl, rfl, rfl⟩ := trodAll_nil r2
  obtain rfl : args = #[v0, v1, v2] := by cases args; simp_all
  obtain ⟨rfl, rfl⟩ := trodVars_none hV
  obtain ⟨a0, len0, cap0, rfl⟩ := okWide_slice Tryz.underlying23 (hval 0 23 v0 rfl rfl)
  have k0 := h0
  have lt0 : ∀ x ∈ p0, x.block < W.heap.size := by obtain ⟨m, hm⟩ := k0; exact DataW.trod_lt m _ _ _ hm
  obtain ⟨fu0, hf0⟩ := h0
  obtain ⟨z0, w0⟩ := Mark.open_mk (cap := cap0) hf0 (fun m hm => of_decide_eq_true (List.all_eq_true.1 hZ m (DataW.weights_mem_each (j := 0) (t := 23) rfl rfl m hm)))
  obtain ⟨a1, len1, cap1, rfl⟩ := okWide_slice Tryz.underlying23 (hval 1 23 v1 rfl rfl)
  have k1 := h1
  have lt1 : ∀ x ∈ p1, x.block < W.heap.size := by obtain ⟨m, hm⟩ := k1; exact DataW.trod_lt m _ _ _ hm
  obtain ⟨fu1, hf1⟩ := h1
  obtain ⟨z1, w1⟩ := Mark.open_mk (cap := cap1) hf1 (fun m hm => of_decide_eq_true (List.all_eq_true.1 hZ m (DataW.weights_mem_each (j := 1) (t := 23) rfl rfl m hm)))
  obtain ⟨a2, len2, cap2, rfl⟩ := okWide_slice Tryz.underlying28 (hval 2 28 v2 rfl rfl)
  have k2 := h2
  have lt2 : ∀ x ∈ p2, x.block < W.heap.size := by obtain ⟨m, hm⟩ := k2; exact DataW.trod_lt m _ _ _ hm
  obtain ⟨fu2, hf2⟩ := h2
  obtain ⟨z2, w2⟩ := Mark.open_bytes hf2
  clear hA0 hval0
  refine (walk a0 len0 cap0 z0 a1 len1 cap1 z1 a2 len2 cap2 z2 W w0 w1 w2).mono fun e W' ⟨he, bel⟩ => ?_
  subst he
  exact ⟨_, rfl, _, _, _, [], _, [], hW', trodAll_mk1 (shut_bool Tryz.underlying4 _), (trodAll_cons_mk (Below.trod Frame.laidOut (by kernel_rfl) (of_decide_eq_true (by kernel_rfl)) k0 bel lt0) (trodAll_cons_mk (Below.trod Frame.laidOut (by kernel_rfl) (of_decide_eq_true (by kernel_rfl)) k1 bel lt1) (trodAll_cons_mk (Below.trod Frame.laidOut (by kernel_rfl) (of_decide_eq_true (by kernel_rfl)) k2 bel lt2) trodAll_mk0))), rfl, bel.frame _, fun h => by cases h⟩

theorem over : Rows.MarkBackSaid :=
  OpenClaim.holds_of_wide 5 Tryz.f5 rfl rfl rfl rfl rfl rfl rfl ⟨rfl, rfl, rfl, rfl, rfl⟩ rfl rfl rfl rfl rfl (by kernel_rfl) Tryz.func5 (by kernel_rfl)
    (of_decide_eq_true (by kernel_rfl)) (by unfold Func.isWrapper; first | (rw [if_pos (by decide +kernel)]; kernel_rfl) | (rw [if_neg (by decide +kernel)]; exact ⟨rfl, rfl⟩))
    (fun os started H enc _ => lifted os started H enc)

theorem proved : Rows.MarkBackCardSaid :=
  Claim7.holds_tied_plain_at .later [] [.data, .data, .data] true (true, "2b5d1f382493339705975560aba43e05780851a85194b9148d285f45e5ab5452") false
    over (fun _ h => by cases h) (by kernel_rfl) (fun _ h => by cases h) markBack_row_tie rfl ⟨rfl, rfl⟩ (by kernel_rfl) rfl
    (fun f fn hf hfn => by
      obtain rfl : f = 5 := Option.some.inj ((show Tryz.prog.funcNamed Rows.markBackRow.func = some 5 by kernel_rfl).symm.trans hf) |>.symm
      obtain rfl : fn = Tryz.f5 := (Option.some.inj (Tryz.func5.symm.trans hfn)).symm
      exact ⟨by kernel_rfl, fun j t ht => by
        rw [Tryz.params5] at ht
        have hm : t ∈ [23, 23, 28] := by simpa using Array.mem_of_getElem? ht
        have hall : ([23, 23, 28].all fun u => !Tryz.prog.wantsStandIn u) = true := by kernel_rfl
        exact (show Tryz.prog.wantsStandIn t = false by simpa using List.all_eq_true.1 hall t hm)⟩)
    (by kernel_rfl)
end Go.Proofs.YtnjpblmplneojaaGreatDoor.markBack
