/- Proved: MarkBytes answers true for every marking and all bytes, as the whole program has it: markings as bytes, and bytes as markings, are as the document says, and the bytes that are handed in stay as they are. No condition; what the card lists of the library's variables is tied to the program's text. -/
import Derived.Test.YtnjpblmplneojaaGreatDoorMbN
import Derived.Test.YtnjpblmplneojaaGreatDoorMbM
import Derived.Test.YtnjpblmplneojaaGreatDoorMbP
import Derived.Test.YtnjpblmplneojaaGreatDoorMbR
import Derived.Test.YtnjpblmplneojaaGreatDoorCards
import Derived.Test.YtnjpblmplneojaaGreatDoorTie
import Derived.LaidMore
import Derived.Stop.Joined
import Derived.SevenTiedAt
namespace Go.Proofs.YtnjpblmplneojaaGreatDoor.markBytes
open Go.ChangeShapes Go.WideShapes Go.ChangeAt Go.ChangeMaps Go.RowKit Go.Proofs.YtnjpblmplneojaaGreatDoor.Frame Go.Proofs.YtnjpblmplneojaaGreatDoor.Bag Go.Proofs.YtnjpblmplneojaaGreatDoor.Mark
set_option linter.unusedVariables false
set_option linter.unusedSimpArgs false

theorem bts_string {w : World} {a : Option Addr} {c : Nat} {bs : List UInt8} (h : Bts w a c bs) : (convert 28 9 (.slice a bs.length c)).run Tryz.prog w = .ok (.string ⟨bs.toArray⟩) w := by
  rcases h.1 with h0 | ⟨b, off, rfl, hB, hc⟩
  · have e := List.eq_nil_of_length_eq_zero h0
    subst e
    cases a with
    | none =>
      rw [show ([] : List UInt8).length = 0 from rfl, run_convert_bytes_string w 28 9 5 none 0 c Tryz.underlying28 Tryz.underlying5 Tryz.underlying9]
      rfl
    | some ad => exact run_convert_bytes_back (P := Tryz.prog) w 28 9 5 ad c [] Tryz.underlying28 Tryz.underlying5 Tryz.underlying9 (fun j hj => by cases hj)
  · refine run_convert_bytes_back (P := Tryz.prog) w 28 9 5 ⟨b, off, none⟩ c bs Tryz.underlying28 Tryz.underlying5 Tryz.underlying9 (fun j hj => ?_)
    rw [Go.WideShapes.add_plain, hc j hj, List.getD_eq_getElem?_getD, List.getElem?_eq_getElem hj]; rfl

theorem bytes_eq (x y : List UInt8) : ((⟨x.toArray⟩ : ByteArray).toList == (⟨y.toArray⟩ : ByteArray).toList) = decide (x = y) := by
  rw [ByteArray.toList_eq, ByteArray.toList_eq]
  show (x.toArray.toList == y.toArray.toList) = _
  rw [Bool.eq_iff_iff, beq_iff_eq, decide_eq_true_eq]
set_option maxRecDepth 100000 in
theorem copy_bytes (w : World) (ty : TypeId) (a : Option Addr) (c : Nat) (bs : List UInt8) (h : Bts w a c bs) (hl : bs.length ≤ 100000) :
    ∃ g c2 w2, (Builtin.append_ #[28, 28] ty #[.slice (some ⟨w.heap.size, 0, none⟩) 0 0, .slice a bs.length c]).run Tryz.prog (w.alloc (.cells #[] 5)) = .ok (.slice (some ⟨g, 0, none⟩) bs.length c2) w2 ∧
      Bts w2 (some ⟨g, 0, none⟩) c2 bs ∧ Below w.heap.size w w2 := by
  obtain ⟨i0, hi, hz0, hz1, hz2⟩ := info_parts Expr.byteInfo
  have hml : (1000000 : Nat) ≤ maxLen := by decide
  have hown : (w.alloc (.cells #[] 5)).ownsRow w.heap.size 5 1 (.slice (some ⟨w.heap.size, 0, none⟩) 0 0) 0 [] := World.ownsRow_made w #[] 0 (Nat.le_refl _) (by decide) rfl
  have bts : ∀ (W : World) (g c : Nat), W.ownsRow w.heap.size 5 1 (.slice (some ⟨g, 0, none⟩) bs.length c) bs.length (Lib.byteCells bs) → w.heap.size ≤ W.heap.size → Bts W (some ⟨g, 0, none⟩) c bs := fun W g c ho hs => by
    obtain ⟨a', c', hv, hb⟩ := row_bts (B := w.heap.size) (bs := bs) (v := .slice (some ⟨g, 0, none⟩) bs.length c) ⟨ho, hs⟩
    simp only [Value.slice.injEq, true_and] at hv
    obtain ⟨rfl, rfl⟩ := hv
    exact hb
  have key : ∀ (ad : Addr), (∀ j u, (Lib.byteCells bs)[j]? = some u → (w.alloc (.cells #[] 5)).cell? (ad.add j) = some u) → ∃ g c2 w2, (Builtin.append_ #[28, 28] ty #[.slice (some ⟨w.heap.size, 0, none⟩) 0 0, .slice (some ad) bs.length c]).run Tryz.prog (w.alloc (.cells #[] 5)) = .ok (.slice (some ⟨g, 0, none⟩) bs.length c2) w2 ∧
      Bts w2 (some ⟨g, 0, none⟩) c2 bs ∧ Below w.heap.size w w2 := fun ad hc => by
    obtain ⟨v', w2, hr, ho, hg, hnil⟩ := run_append_own (P := Tryz.prog) (w.alloc (.cells #[] 5)) w.heap.size 28 ty 5 i0 _ 1 1 Tryz.underlying28 hi hz0 hz1 hz2 rfl (by decide)
      (.slice (some ⟨w.heap.size, 0, none⟩) 0 0) 0 [] hown ad bs.length c (Lib.byteCells bs) (by rw [Lib.byteCells_length, Nat.mul_one]) hc (fun u hu => by
        unfold Lib.byteCells at hu
        obtain ⟨x, _, rfl⟩ := List.mem_map.1 hu; rfl) (by omega) (by omega) (by simp)
    rw [Nat.zero_add, List.nil_append] at ho
    have hb : Below w.heap.size w w2 := ((Below.refl _ w).alloc (Nat.le_refl _) _).grown hg (by simp) (fun k hk => by cases hk; exact Nat.le_refl _)
    rcases ho.2 with ⟨h0, _⟩ | ⟨g, c2, cur, rfl, hrest⟩
    · have := (hnil.1 h0).1; cases this
    · exact ⟨g, c2, w2, hr, bts w2 g c2 ho hb.size, hb⟩
  rcases h.1 with h0 | ⟨b, off, ha, hB, hat⟩
  · have hrs : bs = [] := List.eq_nil_of_length_eq_zero h0
    cases a with
    | some ad => exact key ad (fun j u hu => by rw [hrs] at hu; simp [Lib.byteCells] at hu)
    | none =>
      refine ⟨w.heap.size, 0, w.alloc (.cells #[] 5), ?_, bts _ _ _ (by rw [hrs]; exact hown) (by simp), (Below.refl _ w).alloc (Nat.le_refl _) _⟩
      subst hrs
      show (Builtin.append_ #[28, 28] ty #[.slice (some ⟨w.heap.size, 0, none⟩) 0 0, .slice none 0 c]).run Tryz.prog (w.alloc (.cells #[] 5)) = .ok (.slice (some ⟨w.heap.size, 0, none⟩) 0 0) (w.alloc (.cells #[] 5))
      simp [Builtin.append_, run_underlying Tryz.underlying28, sizeOf, typeInfo, hi, Builtin.lenOf, Builtin.firstCells, loadCells, loadCellsFrom, storeCells]
  · subst ha
    refine key ⟨b, off, none⟩ (fun j u hu => ?_)
    have hj : j < bs.length := by have := (List.getElem?_eq_some_iff.1 hu).1; rwa [Lib.byteCells_length] at this
    have hcj := hat j hj
    unfold Lib.byteCells at hu
    rw [List.getElem?_map, List.getElem?_eq_getElem hj] at hu
    have hu' : u = .int .u8 (bs.getD j 0).toNat := by
      rw [List.getD_eq_getElem?_getD, List.getElem?_eq_getElem hj]
      injection hu with hu; exact hu.symm
    rw [Go.WideShapes.add_plain, hu']
    have hlt := World.block_lt_of_cell? w _ hcj
    rw [World.cell?_of_block (w := w) (Below.heap_alloc w _ b hlt)]
    exact hcj
theorem same_at {gs hs : List Bg} (h : mkOf gs = mkOf hs) {k : Nat} (hk : k < gs.length) (hk2 : k < hs.length) : (gs.getD k nilBg).rows = (hs.getD k nilBg).rows := by
  rw [← mkOf_at gs hk, ← mkOf_at hs hk2, h]

set_option maxRecDepth 100000 in
set_option maxHeartbeats 8000000 in
theorem walk (a : Option Addr) (la ca : Nat) (xs : List Bg) (b : Option Addr) (lb cb : Nat) (bs : List UInt8) (w : World) (ha : Mks w a la xs) (hb : bs.length = lb ∧ Bts w b cb bs) :
    Calls Tryz.prog 4 #[.slice a la ca, .slice b lb cb] w fun e w' => e = .returned (.bool true) ∧ Below w.heap.size w w' := by
  have HA : Hid (Mks w a la xs) := ha
  obtain ⟨rfl, hb⟩ := hb
  have HB : Hid (Bts w b cb bs) := hb
  clear ha hb
  go_enter Tryz.func4, Tryz.ntmps4
  go_wp2_with fail
  refine (small_any w).mono ?_
  rintro e w1 ⟨he, hb1⟩
  subst he
  have B1 : Hid (Below w.heap.size w w1) := hb1
  clear hb1
  go_wp2_with fail
  refine (few_any a la ca xs w1 (HA.out.below B1.out)).mono ?_
  rintro e w2 ⟨he, hb2⟩
  subst he
  have B2 : Hid (Below w.heap.size w w2) := then_ B1.out hb2
  clear hb2 B1
  obtain ⟨n, hn⟩ : ∃ n, n = bs.length := ⟨_, rfl⟩
  have HN : Hid (bs.length = n) := hn.symm
  rw [← hn]
  clear hn
  cases hfa : fewB xs with
  | false =>
    clear hfa
    go_wp2
    go_ret
    exact ⟨rfl, B2.out⟩
  | true =>
  have SX : Hid (Sm xs) := few_sm hfa
  clear hfa
  by_cases hlc : (2000 : Int) < n
  · go_wp2
    go_ret
    exact ⟨rfl, B2.out⟩
  have hd : decide ((2000 : Int) < n) = false := decide_eq_false hlc
  go_wp2_with fail
  refine (encode_m a la ca xs w2 (HA.out.below B2.out) SX.out).mono ?_
  rintro e w3 ⟨vx, he, hrx, hb⟩
  subst he
  obtain ⟨ax, cx, hvx, htx⟩ := row_bts hrx
  subst hvx
  have X3 : Hid (Bts w3 ax cx (encL (mkOf xs))) := htx
  have B3 : Hid (Below w.heap.size w w3) := then_ B2.out hb
  clear hrx htx hb B2 hd
  go_wp2_with fail
  refine (rencode_m a la ca xs w3 (HA.out.below B3.out) SX.out).mono ?_
  rintro e w4 ⟨vy, he, hry, hb⟩
  subst he
  obtain ⟨ay, cy, hvy, hty⟩ := row_bts hry
  subst hvy
  have X4 : Hid (Bts w4 ax cx (encL (mkOf xs))) := X3.out.below hb
  have Y4 : Hid (Bts w4 ay cy (encL (mkOf xs))) := hty
  have B4 : Hid (Below w.heap.size w w4) := then_ B3.out hb
  clear hry hty hb B3 X3
  generalize encL (mkOf xs) = ex at *
  generalize encE (mkOf xs) = ee
  obtain ⟨g, c5, w5, hr5, hi5, hb5⟩ := copy_bytes w4 28 b cb bs (HB.out.below B4.out) (by rw [HN.out]; omega)
  rw [HN.out] at hr5
  have I5 : Hid (Bts w5 (some ⟨g, 0, none⟩) c5 bs) := hi5
  have X5 : Hid (Bts w5 ax cx ex) := X4.out.below hb5
  have Y5 : Hid (Bts w5 ay cy ex) := Y4.out.below hb5
  have B5 : Hid (Below w.heap.size w w5) := then_ B4.out hb5
  have R5 : Hid _ := hr5
  clear hi5 hb5 X4 Y4 B4 hr5
  go_wp2_with (first
    | (at_builtin; refine wpList_append_run rfl _ _ _ _ rfl rfl rfl R5.out ?_)
    | fail)
  clear R5
  refine (show Calls Tryz.prog 18 #[.slice (some ⟨g, 0, none⟩) n c5] w5 (DecPost bs w5) by
    have := decode_m (some ⟨g, 0, none⟩) c5 bs w5 I5.out (by rw [HN.out]; omega)
    rwa [HN.out] at this).mono ?_
  rintro e w6 ⟨a6, c6, gs, he, ⟨hM6, hg6, hS6⟩, hb6⟩
  subst he
  have M6 : Hid (Mks w6 a6 gs.length gs) := hM6
  have G6 : Hid (mkOf gs = decM bs) := hg6
  have S6 : Hid (Sm gs) := hS6
  have I6 : Hid (Bts w6 (some ⟨g, 0, none⟩) c5 bs) := I5.out.below hb6
  have X6 : Hid (Bts w6 ax cx ex) := X5.out.below hb6
  have Y6 : Hid (Bts w6 ay cy ex) := Y5.out.below hb6
  have B6 : Hid (Below w.heap.size w w6) := then_ B5.out hb6
  clear hM6 hg6 hS6 hb6 I5 X5 Y5 B5
  go_wp2_with fail
  refine (show Calls Tryz.prog 19 #[.slice b n cb] w6 (DecPost bs w6) by
    have := rdecode_m b cb bs w6 (HB.out.below B6.out) (by rw [HN.out]; omega)
    rwa [HN.out] at this).mono ?_
  rintro e w7 ⟨a7, c7, hs, he, ⟨hM7, hg7, hS7⟩, hb7⟩
  subst he
  have hlen : hs.length = gs.length := by rw [← mkOf_len hs, ← mkOf_len gs, hg7, G6.out]
  rw [hlen] at hM7
  rw [hlen]
  have EQ : Hid (mkOf gs = mkOf hs) := G6.out.trans hg7.symm
  have HL : Hid (hs.length = gs.length) := hlen
  have M7 : Hid (Mks w7 a6 gs.length gs) := M6.out.below hb7
  have N7 : Hid (Mks w7 a7 gs.length hs) := hM7
  have S7 : Hid (Sm hs) := hS7
  have I7 : Hid (Bts w7 (some ⟨g, 0, none⟩) c5 bs) := I6.out.below hb7
  have X7 : Hid (Bts w7 ax cx ex) := X6.out.below hb7
  have Y7 : Hid (Bts w7 ay cy ex) := Y6.out.below hb7
  have B7 : Hid (Below w.heap.size w w7) := then_ B6.out hb7
  have hgl : gs.length ≤ 1000 := S6.out.1
  clear hM7 hg7 hS7 hb7 I6 X6 Y6 B6 M6 G6 hlen
  generalize decE bs = de
  obtain ⟨L, hL⟩ : ∃ L, L = gs.length := ⟨_, rfl⟩
  have LG : Hid (L = gs.length) := hL
  rw [← hL] at hgl M7 N7
  rw [← hL]
  clear hL
  go_wp2_with fail
  go_loopw [16, 17] (fun sv i wr => ∃ k : Nat, k ≤ L ∧ i = .int .i64 k ∧ sv = .bool true ∧ Below w7.heap.size w7 wr) (fun _ i _ => L - (intOf i).toNat)
  case atStart => exact ⟨0, by omega, rfl, rfl, Below.refl _ _⟩
  case round =>
    obtain ⟨k, hk, rfl, rfl, hnx⟩ := hrel
    by_cases hlt : k < L
    · have hlt' : (k : Int) < L := by omega
      obtain ⟨ba, oa, hae, hal, ac, aok⟩ := (M7.out.below hnx).row (k := k) hlt
      obtain ⟨bb, ob, hbe, hbl, bc, bok⟩ := (N7.out.below hnx).row (k := k) hlt
      have hrows := same_at EQ.out (k := k) (by rw [← LG.out]; exact hlt) (by rw [HL.out, ← LG.out]; exact hlt)
      have lx := S6.out.at (k := k) (by rw [← LG.out]; exact hlt)
      subst hae hbe
      generalize gs.getD k nilBg = gx at *
      generalize hs.getD k nilBg = gy at *
      obtain ⟨rx, xa, xc⟩ := gx
      obtain ⟨ry, ya, yc⟩ := gy
      simp only at hrows ac bc lx
      subst hrows
      have KX : Hid (Bags wr xa rx.length rx) := aok.1
      have KY : Hid (Bags wr ya rx.length rx) := bok.1
      have HNX : Hid (Below w7.heap.size w7 wr) := hnx
      have CA : Hid (wr.cell? ⟨ba, oa + k, none⟩ = some (.slice xa rx.length xc)) := ac
      have CB : Hid (wr.cell? ⟨bb, ob + k, none⟩ = some (.slice ya rx.length yc)) := bc
      have CL : Hid (∀ wx, Below wr.heap.size wr wx → Calls Tryz.prog 20 #[.slice xa rx.length xc, .slice ya rx.length yc] wx fun e w' => e = .returned (.bool true) ∧ Below wr.heap.size wr w') := fun wx hx =>
        (rows_any _ _ _ _ _ _ rx rx wx (KX.out.below hx) (KY.out.below hx) (by omega) (by omega)).mono fun e w' h => ⟨by rw [h.1]; unfold eqB; simp, then_ hx h.2⟩
      clear aok bok hnx lx
      generalize rx.length = rl at *
      go_wp2_with fail
      go_region_held3 (fun w' => w'.cell? ⟨ba, oa + k, none⟩ = some (.slice xa rl xc) ∧ w'.cell? ⟨bb, ob + k, none⟩ = some (.slice ya rl yc)) (go_keep)
        (first | (go_at_call 20; refine (CL.out _ (by exact (Below.refl _ _).drew)).mono ?_; rintro e w8 ⟨he, hb8⟩; subst he; have g0 := rowB_call CA.out hb8; have g1 := rowB_call CB.out hb8))
      have H1 : Hid (Below w7.heap.size w7 w8) := then_ HNX.out hb8
      clear hb8 g0 g1 ac bc
      go_wp2
      go_roundw
      case rel => exact ⟨k + 1, by omega, by go_num, rfl, H1.out⟩
      case measure => simp [intOf]; omega
    · have q1 : (convert 28 9 (.slice ax ex.length cx)).run Tryz.prog wr = .ok (.string ⟨ex.toArray⟩) wr := bts_string (X7.out.below hnx)
      have q2 : (convert 28 9 (.slice ay ex.length cy)).run Tryz.prog wr = .ok (.string ⟨ex.toArray⟩) wr := bts_string (Y7.out.below hnx)
      have q3 : (convert 28 9 (.slice (some ⟨g, 0, none⟩) n c5)).run Tryz.prog wr = .ok (.string ⟨bs.toArray⟩) wr := by have := bts_string (I7.out.below hnx); rwa [HN.out] at this
      have q4 : (convert 28 9 (.slice b n cb)).run Tryz.prog wr = .ok (.string ⟨bs.toArray⟩) wr := by have := bts_string (HB.out.below (then_ B7.out hnx)); rwa [HN.out] at this
      have BW : Hid (Below w.heap.size w wr) := then_ B7.out hnx
      have hkl : ¬ (k : Int) < L := by omega
      generalize (⟨ex.toArray⟩ : ByteArray) = s1 at *
      generalize (⟨bs.toArray⟩ : ByteArray) = s2 at *
      generalize ex.length = lx at *
      have t1 : (s1.toList == s1.toList) = true := by simp
      have t2 : (s2.toList == s2.toList) = true := by simp
      clear hnx X7 Y7 I7 M7 N7 hlt
      go_wp2_with fail
      go_ret
      exact ⟨rfl, BW.out⟩

theorem door_met (os : Os) (args : Array Value) : laidMetH Tryz.prog Rows.markBytesRow.laid ((World.doorLaid Tryz.prog 400 os).forCall (fun _ _ => 0) ⟨#[], args, []⟩).memory :=
  laidMetH_of_parts3 (fuel := 8) (laidMet_of_run' 8 (by kernel_rfl) (by kernel_rfl)) (by kernel_rfl) (by kernel_rfl)

set_option maxRecDepth 100000 in
set_option maxHeartbeats 4000000 in
theorem lifted (os : Os) (started : os.Started) (H : Type) (enc : TypeId × Value → H) :
    ReturnsInHanded {} Tryz.checked os 4 .any (fun w args => (Rows.markBytesSpec.pre enc Tryz.prog Tryz.f4 [] false w args ∧ laidMetH Tryz.prog Rows.markBytesRow.laid w) ∧ sizedMet enc Tryz.prog Tryz.f4 (OpenSpec.ofChange Rows.markBytesSpec) false w args)
      (Rows.markBytesSpec.post enc Tryz.prog Tryz.f4 false true false false) := by
  refine returnsInHanded_of_change_and (C := Tryz.checked) (X := fun w _ => laidMetH Tryz.prog Rows.markBytesRow.laid w) (fun _ _ _ hh h => h.of_heap hh) Frame.own started (by kernel_rfl) Tryz.func4
    (ChangeSpec.witness_shaped (enc := enc) (C := Tryz.checked) (os := os) (X := fun w _ => laidMetH Tryz.prog Rows.markBytesRow.laid w) false (World.doorLaid Tryz.prog 400 os) #[.slice none 0 0, .slice none 0 0] 8 rfl (World.shaped_of_RefB (by kernel_rfl) (by kernel_rfl)) (by kernel_rfl) (by kernel_rfl) (by kernel_rfl) (door_met os _)) ?_
  intro W base args ds gs before hval0 hW _ hZ0 hL _
  have hval : ∀ (j : Nat) t v, Tryz.f4.params[j]? = some t → args[j]? = some v → Value.okWide Tryz.prog W .any base t v := hval0
  have hW' := hW
  obtain ⟨p, q, hA0, hV, rfl, hfz, hnd⟩ := hW
  have hA : DataW.TrodAll enc Tryz.prog W 0 (fun _ => true) true Tryz.f4.params.toList args.toList ds p := hA0
  rw [Tryz.params4] at hA hval
  have hZ : (DataW.weightsEach Tryz.prog (Tryz.f4.params.toList ++ Rows.markBytesSpec.plain.varTypes Tryz.prog) (ds ++ gs)).all (· ≤ reachBytes) = true := hZ0
  rw [Tryz.params4] at hZ
  clear hZ0
  obtain ⟨v0, vs0, d0, ds0, p0, q0, hargs, rfl, rfl, h0, r0⟩ := trodAll_cons hA
  obtain ⟨v1, vs1, d1, ds1, p1, q1, rfl, rfl, rfl, h1, r1⟩ := trodAll_cons r0
  obtain ⟨rfl, rfl, rfl⟩ := trodAll_nil r1
  obtain rfl : args = #[v0, v1] := by cases args; simp_all
  obtain ⟨rfl, rfl⟩ := trodVars_none hV
  obtain ⟨a0, len0, cap0, rfl⟩ := okWide_slice Tryz.underlying23 (hval 0 23 v0 rfl rfl)
  have k0 := h0
  have lt0 : ∀ x ∈ p0, x.block < W.heap.size := by obtain ⟨m, hm⟩ := k0; exact DataW.trod_lt m _ _ _ hm
  obtain ⟨fu0, hf0⟩ := h0
  obtain ⟨z0, w0⟩ := Mark.open_mk (cap := cap0) hf0 (fun m hm => of_decide_eq_true (List.all_eq_true.1 hZ m (DataW.weights_mem_each (j := 0) (t := 23) rfl rfl m hm)))
  obtain ⟨a1, len1, cap1, rfl⟩ := okWide_slice Tryz.underlying28 (hval 1 28 v1 rfl rfl)
  have k1 := h1
  have lt1 : ∀ x ∈ p1, x.block < W.heap.size := by obtain ⟨m, hm⟩ := k1; exact DataW.trod_lt m _ _ _ hm
  obtain ⟨fu1, hf1⟩ := h1
  obtain ⟨z1, w1⟩ := Mark.open_bytes hf1
  clear hA0 hval0
  refine (walk a0 len0 cap0 z0 a1 len1 cap1 z1 W w0 w1).mono fun e W' ⟨he, bel⟩ => ?_
  subst he
  exact ⟨_, rfl, _, _, _, [], _, [], hW', trodAll_mk1 (shut_bool Tryz.underlying4 _), (trodAll_cons_mk (Below.trod Frame.laidOut (by kernel_rfl) (of_decide_eq_true (by kernel_rfl)) k0 bel lt0) (trodAll_cons_mk (Below.trod Frame.laidOut (by kernel_rfl) (of_decide_eq_true (by kernel_rfl)) k1 bel lt1) trodAll_mk0)), rfl, bel.frame _, fun h => by cases h⟩

theorem over : Rows.MarkBytesSaid :=
  OpenClaim.holds_of_wide 4 Tryz.f4 rfl rfl rfl rfl rfl rfl rfl ⟨rfl, rfl, rfl, rfl, rfl⟩ rfl rfl rfl rfl rfl (by kernel_rfl) Tryz.func4 (by kernel_rfl)
    (of_decide_eq_true (by kernel_rfl)) (by unfold Func.isWrapper; first | (rw [if_pos (by decide +kernel)]; kernel_rfl) | (rw [if_neg (by decide +kernel)]; exact ⟨rfl, rfl⟩))
    (fun os started H enc _ => lifted os started H enc)

theorem proved : Rows.MarkBytesCardSaid :=
  Claim7.holds_tied_plain_at .later [] [.data, .data, .data] true (true, "2b5d1f382493339705975560aba43e05780851a85194b9148d285f45e5ab5452") false
    over (fun _ h => by cases h) (by kernel_rfl) (fun _ h => by cases h) markBytes_row_tie rfl ⟨rfl, rfl⟩ (by kernel_rfl) rfl
    (fun f fn hf hfn => by
      obtain rfl : f = 4 := Option.some.inj ((show Tryz.prog.funcNamed Rows.markBytesRow.func = some 4 by kernel_rfl).symm.trans hf) |>.symm
      obtain rfl : fn = Tryz.f4 := (Option.some.inj (Tryz.func4.symm.trans hfn)).symm
      exact ⟨by kernel_rfl, fun j t ht => by
        rw [Tryz.params4] at ht
        have hm : t ∈ [23, 28] := by simpa using Array.mem_of_getElem? ht
        have hall : ([23, 28].all fun u => !Tryz.prog.wantsStandIn u) = true := by kernel_rfl
        exact (show Tryz.prog.wantsStandIn t = false by simpa using List.all_eq_true.1 hall t hm)⟩)
    (by kernel_rfl)
end Go.Proofs.YtnjpblmplneojaaGreatDoor.markBytes
