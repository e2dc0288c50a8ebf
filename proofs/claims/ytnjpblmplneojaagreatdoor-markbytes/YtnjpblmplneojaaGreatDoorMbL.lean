/- The small case of the laws of layer 9: over the turned program. -/
import Derived.Test.YtnjpblmplneojaaGreatDoorMbE
namespace Go.Proofs.YtnjpblmplneojaaGreatDoor.Mark
open Go.RowKit Go.Proofs.YtnjpblmplneojaaGreatDoor.Frame Go.Proofs.YtnjpblmplneojaaGreatDoor.Bag Go.Proofs.YtnjpblmplneojaaGreatDoor.Check
set_option linter.unusedVariables false
set_option linter.unusedSimpArgs false

theorem row_bts {B : Nat} {bs : List UInt8} {v : Value} {w : World} (h : Expr.Row B bs v w) : ∃ a c, v = .slice a bs.length c ∧ Bts w a c bs := by
  rcases h.1.2 with ⟨rfl, h0⟩ | ⟨g, c, cur, rfl, hB, hg, hc, hm, _⟩
  · exact ⟨none, 0, by rw [h0], .inl h0, by omega, by omega⟩
  · have hmx : c ≤ 9223372036854775807 := by
      have h1 : maxLen = 9223372036854775807 := by decide
      omega
    refine ⟨some ⟨g, 0, none⟩, c, rfl, .inr ⟨g, 0, rfl, (Array.getElem?_eq_some_iff.1 hg).1, fun i hi => ?_⟩, hc, hmx⟩
    have := h.1.cells (g := g) rfl i (.int .u8 (bs.getD i 0).toNat) (by
      unfold Lib.byteCells
      rw [List.getElem?_map, List.getElem?_eq_getElem hi, List.getD_eq_getElem?_getD, List.getElem?_eq_getElem hi]; rfl)
    rw [Go.WideShapes.add_plain, Nat.zero_add] at this
    rw [Nat.zero_add]
    exact this
theorem mOwn_sm {w : World} {B : Nat} {a : Option Addr} {gs : List Bg} (h : MOwn w B a gs) (hl : gs.length ≤ 1000) (hr : ∀ x, x ∈ gs → x.rows.length ≤ 10000) : Mks w a gs.length gs ∧ Sm gs :=
  ⟨h.mks fun x hx => by have := hr x hx; omega, hl, hr⟩
theorem mks_two {w : World} {g : Nat} {x y : Bg} (h0 : w.cell? ⟨g, 0, none⟩ = some (bgV x)) (h1 : w.cell? ⟨g, 1, none⟩ = some (bgV y)) (hx : BgOk w x) (hy : BgOk w y) : Mks w (some ⟨g, 0, none⟩) 2 [x, y] :=
  ⟨rfl, .inr ⟨g, 0, rfl, fun i hi => by
    match i, hi with
    | 0, _ => exact ⟨h0, hx⟩
    | 1, _ => exact ⟨h1, hy⟩⟩⟩
theorem nil_ok (w : World) : BgOk w nilBg := ⟨⟨⟨rfl, fun i hi => by cases hi⟩, .inl rfl⟩, Nat.zero_le _⟩
theorem one_ok {w : World} {g : Nat} {m c : Int} (h0 : w.cell? ⟨g, 0, none⟩ = some (.int .i64 m)) (h1 : w.cell? ⟨g, 1, none⟩ = some (.int .i64 c)) (hm : Bag.In64 m) (hc : Bag.In64 c) : BgOk w ⟨[(m, c)], some ⟨g, 0, none⟩, 1⟩ := by
  refine ⟨⟨⟨rfl, fun i hi => ?_⟩, .inr ⟨g, 0, rfl, fun i hi => ?_⟩⟩, by show 1 ≤ _; omega⟩
  · have : i = 0 := by have : i < 1 := hi; omega
    subst this
    exact ⟨hm, hc⟩
  · have : i = 0 := by have : i < 1 := hi; omega
    subst this
    exact ⟨h0, h1⟩

/-- what is carried through the small case -/
def SmB (w W : World) (n : Ne) (q : Nat) (a3 a5 ae : Option Addr) (gs hs es : List Bg) : Prop := (Below w.heap.size w W ∧ NIs n W ∧ NB n q W) ∧ Mks W a3 2 gs ∧ Mks W a5 2 hs ∧ Mks W ae 2 es
theorem SmB.on {w W W' : World} {n : Ne} {q : Nat} {a3 a5 ae : Option Addr} {gs hs es : List Bg} (h : SmB w W n q a3 a5 ae gs hs es) (hb : Below W.heap.size W W') : SmB w W' n q a3 a5 ae gs hs es :=
  ⟨⟨then_ h.1.1 hb, h.1.2.1.below hb, h.1.2.2.on hb⟩, h.2.1.below hb, h.2.2.1.below hb, h.2.2.2.below hb⟩
theorem es_at (W : World) : Mks ((W.alloc (.cells #[.int .i64 2, .int .i64 1] 56)).alloc (.cells #[.slice none 0 0, .slice (some ⟨W.heap.size, 0, none⟩) 1 1] 36)) (some ⟨W.heap.size + 1, 0, none⟩) 2 [nilBg, ⟨[(2, 1)], some ⟨W.heap.size, 0, none⟩, 1⟩] := by
  have h1 := heapU (heapN W (.cells #[.int .i64 2, .int .i64 1] 56) _ rfl) (.cells #[.slice none 0 0, .slice (some ⟨W.heap.size, 0, none⟩) 1 1] 36)
  have h2 := heapN (W.alloc (.cells #[.int .i64 2, .int .i64 1] 56)) (.cells #[.slice none 0 0, .slice (some ⟨W.heap.size, 0, none⟩) 1 1] 36) (W.heap.size + 1) (by simp)
  exact mks_two ((Expr.box_cell h2 0).trans rfl) ((Expr.box_cell h2 1).trans rfl) (nil_ok _) (one_ok ((Expr.box_cell h1 0).trans rfl) ((Expr.box_cell h1 1).trans rfl) ⟨by decide, by decide⟩ ⟨by decide, by decide⟩)
theorem os_at (W : World) : Mks ((W.alloc (.cells #[.int .i64 0, .int .i64 1] 56)).alloc (.cells #[.slice (some ⟨W.heap.size, 0, none⟩) 1 1, .slice none 0 0] 36)) (some ⟨W.heap.size + 1, 0, none⟩) 2 [⟨[(0, 1)], some ⟨W.heap.size, 0, none⟩, 1⟩, nilBg] := by
  have h1 := heapU (heapN W (.cells #[.int .i64 0, .int .i64 1] 56) _ rfl) (.cells #[.slice (some ⟨W.heap.size, 0, none⟩) 1 1, .slice none 0 0] 36)
  have h2 := heapN (W.alloc (.cells #[.int .i64 0, .int .i64 1] 56)) (.cells #[.slice (some ⟨W.heap.size, 0, none⟩) 1 1, .slice none 0 0] 36) (W.heap.size + 1) (by simp)
  exact mks_two ((Expr.box_cell h2 0).trans rfl) ((Expr.box_cell h2 1).trans rfl) (one_ok ((Expr.box_cell h1 0).trans rfl) ((Expr.box_cell h1 1).trans rfl) ⟨by decide, by decide⟩ ⟨by decide, by decide⟩) (nil_ok _)
theorem two_sm {x y : Bg} (hx : x.rows.length ≤ 10000) (hy : y.rows.length ≤ 10000) : Sm [x, y] := ⟨by show 2 ≤ 1000; omega, fun g hg => by
  simp only [List.mem_cons, List.not_mem_nil, or_false] at hg
  rcases hg with rfl | rfl
  · exact hx
  · exact hy⟩

set_option maxRecDepth 100000 in
set_option maxHeartbeats 8000000 in
theorem small_any (w : World) : Calls Tryz.prog 8 #[] w (TwoPost true w) := by
  go_enter Tryz.func8, Tryz.ntmps8
  go_wp2_with fail
  refine (net_is w).mono ?_
  rintro e w1 ⟨n, he, hn, hb1⟩
  subst he
  have B1 : Hid (Below w.heap.size w w1) := hb1
  have HN1 : Hid (NIs n w1) := hn
  clear hb1 hn
  go_wp2_with fail
  have F : ∀ W, W = w1.alloc (.cells #[.slice n.ca n.cols.length n.cc, .slice n.pa 2 n.pc, .slice n.ta n.tasks.length n.tc, .int .i64 n.frm, .int .i64 n.too] 47) → NB n w1.heap.size W ∧ Below w1.heap.size w1 W := fun W e => by
    subst e
    exact ⟨⟨by simp, by simp, by simp, by simp, by simp⟩, (Below.refl _ _).alloc (Nat.le_refl _) _⟩
  generalize hW : w1.alloc (.cells #[.slice n.ca n.cols.length n.cc, .slice n.pa 2 n.pc, .slice n.ta n.tasks.length n.tc, .int .i64 n.frm, .int .i64 n.too] 47) = w2
  obtain ⟨hnb, hb2⟩ := F w2 hW.symm
  have NB2 : Hid (NB n w1.heap.size w2) := hnb
  have B2 : Hid (Below w.heap.size w w2) := then_ B1.out hb2
  have HN2 : Hid (NIs n w2) := HN1.out.below hb2
  clear F hW hnb hb2 HN1 B1
  generalize w1.heap.size = q at *
  have P2 : Hid (n.places.length = 2 ∧ n.frm = 0 ∧ n.too = 1) := ⟨HN2.out.2.1.2.2.1, HN2.out.2.1.1, HN2.out.2.1.2.1⟩
  have C1 : Hid (Calls Tryz.prog 29 #[.agg #[.slice n.ca n.cols.length n.cc, .slice n.pa 2 n.pc, .slice n.ta n.tasks.length n.tc, .int .i64 n.frm, .int .i64 n.too]] w2 (FirstPost n w2)) := by
    have := first_m n w2 HN2.out.1 HN2.out.2.2.1.1
    rw [P2.out.1] at this
    exact this
  refine C1.out.mono ?_
  rintro e w3 ⟨a3, c3, gs, he, ⟨hO, hF, hL, hR⟩, hb3⟩
  subst he
  have hl2 : gs.length = 2 := hL.trans P2.out.1
  have hm3 := mOwn_sm hO (by omega) (fun x hx => by have hx2 : x.rows ∈ mkOf gs := List.mem_map_of_mem hx
                                                    rw [first_small P2.out.2.1 P2.out.1 HN2.out.2.2.1.2.1 hF] at hx2
                                                    simp only [mM, List.mem_cons, List.not_mem_nil, or_false] at hx2
                                                    rcases hx2 with h | h <;> rw [h] <;> simp)
  have GM : Hid (mkOf gs = mM) := first_small P2.out.2.1 P2.out.1 HN2.out.2.2.1.2.1 hF
  rw [hl2] at hm3 ⊢
  have M3 : Hid (Mks w3 a3 2 gs) := hm3.1
  have SG : Hid (Sm gs) := hm3.2
  have NB3 : Hid (NB n q w3) := NB2.out.on hb3
  have B3 : Hid (Below w.heap.size w w3) := then_ B2.out hb3
  have HN3 : Hid (NIs n w3) := HN2.out.below hb3
  clear hO hF hL hR hb3 hl2 hm3 C1 NB2 B2 HN2
  go_wp2_with fail
  refine (encode_m a3 2 c3 gs w3 M3.out SG.out).mono ?_
  rintro e w4 ⟨v4, he, hr, hb4⟩
  subst he
  rw [GM.out] at hr ⊢
  obtain ⟨a4, c4, hv4, hbt⟩ := row_bts hr
  subst hv4
  rw [mM_len, mM_encE]
  have BT : Hid (Bts w4 a4 c4 (encL mM)) := hbt
  have M4 : Hid (Mks w4 a3 2 gs) := M3.out.below hb4
  have NB4 : Hid (NB n q w4) := NB3.out.on hb4
  have B4 : Hid (Below w.heap.size w w4) := then_ B3.out hb4
  have HN4 : Hid (NIs n w4) := HN3.out.below hb4
  clear hr hbt hb4 M3 NB3 B3 HN3
  go_wp2_with fail
  have CD : Hid (Calls Tryz.prog 18 #[.slice a4 13 c4] w4 (DecPost (encL mM) w4)) := by
    have := decode_m a4 c4 (encL mM) w4 BT.out (by rw [mM_len]; decide)
    rw [mM_len] at this
    exact this
  refine CD.out.mono ?_
  rintro e w5 ⟨a5, c5, hs, he, ⟨hM5, hg5, hS5⟩, hb5⟩
  subst he
  rw [mM_dec.2] at hg5
  rw [mM_dec.1]
  have hl5 : hs.length = 2 := by rw [← mkOf_len, hg5]; rfl
  rw [hl5] at hM5 ⊢
  have M5 : Hid (Mks w5 a3 2 gs) := M4.out.below hb5
  have D5 : Hid (Mks w5 a5 2 hs) := hM5
  have GD : Hid (mkOf hs = mM) := hg5
  have SD : Hid (Sm hs) := hS5
  have NB5 : Hid (NB n q w5) := NB4.out.on hb5
  have B5 : Hid (Below w.heap.size w w5) := then_ B4.out hb5
  have HN5 : Hid (NIs n w5) := HN4.out.below hb5
  clear hM5 hg5 hS5 hb5 hl5 M4 NB4 B4 HN4 CD BT
  obtain ⟨nb0, nb1, nb2, nb3, nb4⟩ := NB5.out
  have hql : q < w5.heap.size := World.block_lt_of_cell? w5 _ nb0
  go_wp2_with fail
  have E6 : Hid (Mks ((w5.alloc (.cells #[.int .i64 2, .int .i64 1] 56)).alloc (.cells #[.slice none 0 0, .slice (some ⟨w5.heap.size, 0, none⟩) 1 1] 36)) (some ⟨w5.heap.size + 1, 0, none⟩) 2 [nilBg, ⟨[(2, 1)], some ⟨w5.heap.size, 0, none⟩, 1⟩]) := es_at w5
  have W6 : Hid (Below w5.heap.size w5 ((w5.alloc (.cells #[.int .i64 2, .int .i64 1] 56)).alloc (.cells #[.slice none 0 0, .slice (some ⟨w5.heap.size, 0, none⟩) 1 1] 36))) := ((Below.refl _ _).alloc (Nat.le_refl _) _).alloc (by simp) _
  generalize (w5.alloc (.cells #[.int .i64 2, .int .i64 1] 56)).alloc (.cells #[.slice none 0 0, .slice (some ⟨w5.heap.size, 0, none⟩) 1 1] 36) = w6 at *
  have SE : Hid (Sm [nilBg, ⟨[(2, 1)], some ⟨w5.heap.size, 0, none⟩, 1⟩]) := two_sm (Nat.zero_le _) (by show 1 ≤ 10000; omega)
  have GE : Hid (mkOf [nilBg, ⟨[(2, 1)], some ⟨w5.heap.size, 0, none⟩, 1⟩] = mE) := rfl
  have S6 : Hid (SmB w w6 n q a3 a5 (some ⟨w5.heap.size + 1, 0, none⟩) gs hs [nilBg, ⟨[(2, 1)], some ⟨w5.heap.size, 0, none⟩, 1⟩]) := ⟨⟨then_ B5.out W6.out, HN5.out.below W6.out, NB5.out.on W6.out⟩, M5.out.below W6.out, D5.out.below W6.out, E6.out⟩
  generalize [nilBg, (⟨[(2, 1)], some ⟨w5.heap.size, 0, none⟩, 1⟩ : Bg)] = es at *
  generalize w5.heap.size + 1 = ge at *
  clear E6 W6 nb0 nb1 nb2 nb3 nb4 hql M5 D5 NB5 B5 HN5
  refine (text_small n a3 c3 gs w6 S6.out.1.2.1 S6.out.2.1 GM.out).mono ?_
  rintro e w7 ⟨he, hb⟩
  subst he
  have S7 : Hid (SmB w w7 n q a3 a5 (some ⟨ge, 0, none⟩) gs hs es) := S6.out.on hb
  clear hb S6
  obtain ⟨nb0, nb1, nb2, nb3, nb4⟩ := S7.out.1.2.2
  have hql : q < w7.heap.size := World.block_lt_of_cell? w7 _ nb0
  go_wp2_with fail
  clear nb0 nb1 nb2 nb3 nb4 hql
  refine (right_m n a3 2 c3 gs w7 S7.out.1.2.1.1 S7.out.2.1 SG.out (by rw [GM.out]; exact mM_right) P2.out.1 (by rw [GM.out]; exact S7.out.1.2.1.2.2.1.2.2)).mono ?_
  rintro e w8 ⟨he, hb⟩
  subst he
  have S8 : Hid (SmB w w8 n q a3 a5 (some ⟨ge, 0, none⟩) gs hs es) := S7.out.on hb
  clear hb S7
  go_wp2_with fail
  refine (same_m a3 a5 2 c3 2 c5 gs hs w8 S8.out.2.1 S8.out.2.2.1 SG.out SD.out).mono ?_
  rintro e w9 ⟨he, hb⟩
  subst he
  rw [GM.out, GD.out, mM_same]
  have S9 : Hid (SmB w w9 n q a3 a5 (some ⟨ge, 0, none⟩) gs hs es) := S8.out.on hb
  clear hb S8
  obtain ⟨nb0, nb1, nb2, nb3, nb4⟩ := S9.out.1.2.2
  have hql : q < w9.heap.size := World.block_lt_of_cell? w9 _ nb0
  go_wp2_with fail
  clear nb0 nb1 nb2 nb3 nb4 hql
  refine (final_m (some ⟨ge, 0, none⟩) n.ca n.pa n.ta 2 2 n.cols.length n.cc 2 n.pc n.tasks.length n.tc n.frm n.too es w9 S9.out.2.2.2 SE.out (by decide)).mono ?_
  rintro e w10 ⟨he, hb⟩
  subst he
  rw [GE.out, P2.out.2.2, mE_fin]
  have S10 : Hid (SmB w w10 n q a3 a5 (some ⟨ge, 0, none⟩) gs hs es) := S9.out.on hb
  clear hb S9
  obtain ⟨nb0, nb1, nb2, nb3, nb4⟩ := S10.out.1.2.2
  have hql : q < w10.heap.size := World.block_lt_of_cell? w10 _ nb0
  go_wp2_with fail
  clear nb0 nb1 nb2 nb3 nb4 hql
  refine (ended_m (some ⟨ge, 0, none⟩) n.ca n.pa n.ta 2 2 n.cols.length n.cc 2 n.pc n.tasks.length n.tc n.frm n.too es w10 S10.out.2.2.2 SE.out (by decide)).mono ?_
  rintro e w11 ⟨he, hb⟩
  subst he
  rw [GE.out, P2.out.2.2, mE_end]
  have S11 : Hid (SmB w w11 n q a3 a5 (some ⟨ge, 0, none⟩) gs hs es) := S10.out.on hb
  clear hb S10
  obtain ⟨nb0, nb1, nb2, nb3, nb4⟩ := S11.out.1.2.2
  have hql : q < w11.heap.size := World.block_lt_of_cell? w11 _ nb0
  go_wp2_with fail
  clear nb0 nb1 nb2 nb3 nb4 hql
  refine (final_m a3 n.ca n.pa n.ta 2 c3 n.cols.length n.cc 2 n.pc n.tasks.length n.tc n.frm n.too gs w11 S11.out.2.1 SG.out (by decide)).mono ?_
  rintro e w12 ⟨he, hb⟩
  subst he
  rw [GM.out, P2.out.2.2, mM_fin]
  have S12 : Hid (SmB w w12 n q a3 a5 (some ⟨ge, 0, none⟩) gs hs es) := S11.out.on hb
  clear hb S11
  go_wp2_with fail
  refine (total_m a3 2 c3 gs w12 S12.out.2.1 SG.out).mono ?_
  rintro e w13 ⟨he, hb⟩
  subst he
  rw [GM.out, mM_tot]
  have S13 : Hid (SmB w w13 n q a3 a5 (some ⟨ge, 0, none⟩) gs hs es) := S12.out.on hb
  clear hb S12
  go_wp2_with fail
  refine (compare_m a3 (some ⟨ge, 0, none⟩) 2 c3 2 2 gs es w13 S13.out.2.1 S13.out.2.2.2 SG.out SE.out).mono ?_
  rintro e w14 ⟨he, hb⟩
  subst he
  rw [GM.out, GE.out, mM_cmp]
  have S14 : Hid (SmB w w14 n q a3 a5 (some ⟨ge, 0, none⟩) gs hs es) := S13.out.on hb
  clear hb S13
  go_wp2_with fail
  have O15 : Hid (Mks ((w14.alloc (.cells #[.int .i64 0, .int .i64 1] 56)).alloc (.cells #[.slice (some ⟨w14.heap.size, 0, none⟩) 1 1, .slice none 0 0] 36)) (some ⟨w14.heap.size + 1, 0, none⟩) 2 [⟨[(0, 1)], some ⟨w14.heap.size, 0, none⟩, 1⟩, nilBg]) := os_at w14
  have W15 : Hid (Below w14.heap.size w14 ((w14.alloc (.cells #[.int .i64 0, .int .i64 1] 56)).alloc (.cells #[.slice (some ⟨w14.heap.size, 0, none⟩) 1 1, .slice none 0 0] 36))) := ((Below.refl _ _).alloc (Nat.le_refl _) _).alloc (by simp) _
  generalize (w14.alloc (.cells #[.int .i64 0, .int .i64 1] 56)).alloc (.cells #[.slice (some ⟨w14.heap.size, 0, none⟩) 1 1, .slice none 0 0] 36) = w15 at *
  have S15 : Hid (SmB w w15 n q a3 a5 (some ⟨ge, 0, none⟩) gs hs es) := S14.out.on W15.out
  have SO : Hid (Sm [⟨[(0, 1)], some ⟨w14.heap.size, 0, none⟩, 1⟩, nilBg]) := two_sm (by show 1 ≤ 10000; omega) (Nat.zero_le _)
  have GO : Hid (mkOf [⟨[(0, 1)], some ⟨w14.heap.size, 0, none⟩, 1⟩, nilBg] = mO) := rfl
  clear S14 W15
  refine (within_m (some ⟨w14.heap.size + 1, 0, none⟩) a3 2 2 2 c3 _ gs w15 O15.out S15.out.2.1 SO.out SG.out).mono ?_
  rintro e w16 ⟨he, hb⟩
  subst he
  rw [GO.out, GM.out, mO_in]
  have S16 : Hid (SmB w w16 n q a3 a5 (some ⟨ge, 0, none⟩) gs hs es) := S15.out.on hb
  clear hb S15 O15
  go_wp2_with fail
  refine (within_m a3 (some ⟨ge, 0, none⟩) 2 c3 2 2 gs es w16 S16.out.2.1 S16.out.2.2.2 SG.out SE.out).mono ?_
  rintro e w17 ⟨he, hb⟩
  subst he
  rw [GM.out, GE.out, mM_in]
  have S17 : Hid (SmB w w17 n q a3 a5 (some ⟨ge, 0, none⟩) gs hs es) := S16.out.on hb
  clear hb S16
  go_wp2
  go_ret
  exact ⟨rfl, S17.out.1.1⟩
end Go.Proofs.YtnjpblmplneojaaGreatDoor.Mark
