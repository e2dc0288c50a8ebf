/- First of package mark: a contract of the call, over the turned program. -/
import Derived.Test.YtnjpblmplneojaaGreatDoorMbF
import Derived.Test.YtnjpblmplneojaaGreatDoorMaR
import Derived.Test.YtnjpblmplneojaaGreatDoorMaX
import Derived.Test.YtnjpblmplneojaaGreatDoorMbG
import Derived.Deep.CutRange
namespace Go.Proofs.YtnjpblmplneojaaGreatDoor.Mark
open Go.RowKit Go.Proofs.YtnjpblmplneojaaGreatDoor.Frame Go.Proofs.YtnjpblmplneojaaGreatDoor.Bag Go.Proofs.YtnjpblmplneojaaGreatDoor.Check
set_option linter.unusedVariables false
set_option linter.unusedSimpArgs false

def one0 : List Row := [(0, 1)]
theorem one_right : RightP one0 := right_cons_mk right_nil (by decide) (fun s hs => by cases hs)
theorem of_zero : Has (ofC [0]) one0 := ⟨one_right, fun m => by
  unfold one0 ofC
  by_cases h : m = 0
  · subst h; rfl
  · have h1 : cntF [((0 : Int), (1 : Int))] m = 0 := cntF_not fun r hr => by rw [List.mem_singleton.1 hr]; exact fun e => h e.symm
    rw [h1]
    have h2 : List.count m [(0 : Int)] = 0 := List.count_eq_zero_of_not_mem (by simp; exact h)
    rw [h2]
    split <;> rfl⟩
/-- First: the places' own, and one token more where the net begins, if there is room -/
def firsts (n : Ne) : Mk := n.places.map (·.first)
def FirstIs (n : Ne) (m : Mk) : Prop :=
  (0 ≤ n.frm ∧ n.frm < n.places.length ∧ sumE (at_ (firsts n) n.frm.toNat) one0 = 0 ∧ ∃ rs, SumIs (at_ (firsts n) n.frm.toNat) one0 rs ∧ m = (firsts n).set n.frm.toNat rs) ∨
  (¬ (0 ≤ n.frm ∧ n.frm < n.places.length ∧ sumE (at_ (firsts n) n.frm.toNat) one0 = 0) ∧ m = firsts n)
def SmN (n : Ne) : Prop := n.places.length ≤ 1000 ∧ ∀ p, p ∈ n.places → p.first.length ≤ 10000
theorem SmN.at {n : Ne} (h : SmN n) {k : Nat} (hk : k < n.places.length) : (n.places.getD k nilPl).first.length ≤ 10000 := by
  refine h.2 _ ?_
  rw [List.getD_eq_getElem?_getD, List.getElem?_eq_getElem hk]; exact List.getElem_mem _
theorem firsts_at (n : Ne) {k : Nat} (hk : k < n.places.length) : at_ (firsts n) k = (n.places.getD k nilPl).first := by
  unfold firsts at_
  rw [List.getD_eq_getElem?_getD, List.getElem?_map, List.getElem?_eq_getElem hk, List.getD_eq_getElem?_getD, List.getElem?_eq_getElem hk]; rfl
theorem firsts_take (n : Ne) {k : Nat} (hk : k < n.places.length) : (firsts n).take (k + 1) = (firsts n).take k ++ [(n.places.getD k nilPl).first] := by
  have hl : k < (firsts n).length := by unfold firsts; rw [List.length_map]; exact hk
  rw [List.take_add_one, List.getElem?_eq_getElem hl]
  have := firsts_at n hk
  rw [at_get hl] at this
  rw [this]; rfl
def FirstPost (n : Ne) (w : World) (e : Ending) (w' : World) : Prop := ∃ a c gs, e = .returned (.slice a gs.length c) ∧ (MOwn w' w.heap.size a gs ∧ FirstIs n (mkOf gs) ∧ (gs.length = n.places.length ∧ ∀ x, x ∈ gs → x.rows.length ≤ 10001)) ∧ Below w.heap.size w w'

set_option maxRecDepth 100000 in
set_option maxHeartbeats 2000000 in
theorem first_m (n : Ne) (w : World) (h : NeOk w n) (hs : SmN n) :
    Calls Tryz.prog 29 #[.agg #[.slice n.ca n.cols.length n.cc, .slice n.pa n.places.length n.pc, .slice n.ta n.tasks.length n.tc, .int .i64 n.frm, .int .i64 n.too]] w (FirstPost n w) := by
  have HN : Hid (NeOk w n) := h
  have HS : Hid (SmN n) := hs
  have hla := hs.1
  obtain ⟨la, hlen⟩ : ∃ la, la = n.places.length := ⟨_, rfl⟩
  have LA : Hid (n.places.length = la) := hlen.symm
  rw [← hlen] at hla ⊢
  clear h hs hlen
  have hmk := run_make_row' (P := Tryz.prog) 23 36 (.slice none 0 0) 24 Tryz.underlying23 infoBag rfl .i64 .i64 la (by omega) (by omega)
  go_enter Tryz.func29, Tryz.ntmps29
  go_wp2
  clear hmk
  have F : ∀ w2, w2 = ((w.alloc (.cells #[.slice n.ca n.cols.length n.cc, .slice n.pa la n.pc, .slice n.ta n.tasks.length n.tc, .int .i64 n.frm, .int .i64 n.too] 47)).alloc (.cells (madeCells #[.slice none 0 0] la) 36)) →
      (w2.cell? ⟨w.heap.size, 1, none⟩ = some (.slice n.pa la n.pc) ∧ w2.cell? ⟨w.heap.size, 3, none⟩ = some (.int .i64 n.frm)) ∧ w2.rowIs (w.heap.size + 1) 36 la (bgCell []) ∧ Below w.heap.size w w2 := fun w2 e => by
    subst e
    refine ⟨⟨by simp, by simp⟩, ?_, ((Below.refl _ _).alloc (Nat.le_refl _) _).alloc (by simp) _⟩
    have := World.rowIs_made (w.alloc (.cells #[.slice n.ca n.cols.length n.cc, .slice n.pa la n.pc, .slice n.ta n.tasks.length n.tc, .int .i64 n.frm, .int .i64 n.too] 47)) (.slice none 0 0) la 36
    simp only [World.size_alloc] at this
    exact this
  generalize hW : ((w.alloc (.cells #[.slice n.ca n.cols.length n.cc, .slice n.pa la n.pc, .slice n.ta n.tasks.length n.tc, .int .i64 n.frm, .int .i64 n.too] 47)).alloc (.cells (madeCells #[.slice none 0 0] la) 36)) = w2
  obtain ⟨⟨x1, x3⟩, hM0, hB0⟩ := F w2 hW.symm
  clear F hW
  have M0 : Hid (w2.rowIs (w.heap.size + 1) 36 la (bgCell [])) := hM0
  have B0 : Hid (Below w.heap.size w w2) := hB0
  have X3 : Hid (w2.cell? ⟨w.heap.size, 3, none⟩ = some (.int .i64 n.frm)) := x3
  clear hM0 hB0
  go_loopw [15] (fun i wr => ∃ (k : Nat) (gs : List Bg), k ≤ la ∧ i = .int .i64 k ∧ Hid (wr.rowIs (w.heap.size + 1) 36 la (bgCell gs) ∧ (∀ x, x ∈ gs → Own wr (w.heap.size + 2) x.a x.rows.length x.c x.rows) ∧ gs.length = k ∧ mkOf gs = (firsts n).take k) ∧ Hid (Below w.heap.size w wr) ∧ Hid (wr.cell? ⟨w.heap.size, 3, none⟩ = some (.int .i64 n.frm))) (fun i _ => la - (intOf i).toNat)
  case atStart => exact ⟨0, [], by omega, rfl, ⟨M0.out, (fun x hx => by cases hx), rfl, rfl⟩, B0.out, X3.out⟩
  case round =>
    obtain ⟨k, gs, hk, rfl, hM, hB, hX⟩ := hrel
    clear M0 B0 X3
    by_cases hkl : k < la
    · have hkl' : (k : Int) < la := by omega
      have hkp : k < n.places.length := by rw [LA.out]; exact hkl
      obtain ⟨b, off, hpa, hrun, hpl⟩ := (HN.out.below hB.out).2.2.1.at hkp
      have hpf := HS.out.at hkp
      have TK : Hid ((firsts n).take (k + 1) = (firsts n).take k ++ [(n.places.getD k nilPl).first]) := firsts_take n hkp
      generalize n.places.getD k nilPl = p at *
      have c0 : wr.cell? ⟨b, off + k * 3, none⟩ = some (.string p.name) := hrun 0 _ rfl
      have c1 : wr.cell? ⟨b, off + k * 3 + 1, none⟩ = some (.int .i64 p.colour) := hrun 1 _ rfl
      have c2 : wr.cell? ⟨b, off + k * 3 + 2, none⟩ = some (.slice p.fa p.first.length p.fc) := hrun 2 _ rfl
      have hbl : b < wr.heap.size := World.block_lt_of_cell? wr _ c0
      have KX : Hid (Bags wr p.fa p.first.length p.first) := hpl.2
      rw [hpa] at *
      clear hrun hpl hpa
      go_wp2_with fail
      refine (copyOf_any _ _ _ p.first _ (KX.out.below ((Below.refl _ _).alloc (Nat.le_refl _) _)) (by omega)).mono ?_
      rintro e w3 ⟨a3, c3, he, hO, hb3⟩
      subst he
      have hb3' : Below wr.heap.size wr w3 := ((Below.refl _ wr).alloc (Nat.le_refl _) _).trans (hb3.mono (by simp))
      have GL : Hid (w.heap.size + 2 ≤ wr.heap.size) := hM.out.1.lt
      have O3 : Hid (Own w3 (w.heap.size + 2) a3 p.first.length c3 p.first) := hO.mono (by have := GL.out; simp; omega)
      have B3 : Hid (Below w.heap.size w w3) := hB.out.trans (hb3'.mono hB.out.size)
      have M3 : Hid (w3.rowIs (w.heap.size + 1) 36 la (bgCell gs) ∧ (∀ x, x ∈ gs → Own w3 (w.heap.size + 2) x.a x.rows.length x.c x.rows) ∧ gs.length = k ∧ mkOf gs = (firsts n).take k) := ⟨hM.out.1.of_block (hb3'.block _ hM.out.1.lt), (fun x hx => (hM.out.2.1 x hx).below hb3'), hM.out.2.2⟩
      have X3 : Hid (w3.cell? ⟨w.heap.size, 3, none⟩ = some (.int .i64 n.frm)) := (hb3'.cell (p := ⟨w.heap.size, 3, none⟩) (World.block_lt_of_cell? wr _ hX.out)).trans hX.out
      clear hO hb3 hb3' hM hB hX c0 c1 c2
      have q0 := M3.out.1.cell hkl
      have z0 := M3.out.1.frozen k
      have hgl := M3.out.1.lt
      generalize bgCell gs k = y0 at q0
      go_wp2
      go_roundw
      case rel =>
        refine ⟨k + 1, gs ++ [⟨p.first, a3, c3⟩], by omega, by go_num, ⟨?_, ?_, ?_, ?_⟩, B3.out.setCell (by simp) _, (cellNe (by omega)).trans X3.out⟩
        · refine (M3.out.1.set k _).congr fun j _ => ?_
          rw [bgCell_snoc, M3.out.2.2.1]; rfl
        · intro x hx
          rcases List.mem_append.1 hx with hx | hx
          · exact own_low (M3.out.2.1 x hx) (by omega) _
          · rw [List.mem_singleton.1 hx]; exact own_low O3.out (by omega) _
        · rw [List.length_append, M3.out.2.2.1]; rfl
        · rw [TK.out]
          have := M3.out.2.2.2
          unfold mkOf at this ⊢
          rw [List.map_append, this]; rfl
      case measure => simp [intOf]; omega
    · obtain rfl : k = la := by omega
      have GS : Hid (mkOf gs = firsts n) := by
        have := hM.out.2.2.2
        rwa [List.take_of_length_le (by unfold firsts; rw [List.length_map, LA.out]; omega)] at this
      have MO : Hid (MOwn wr w.heap.size (some ⟨w.heap.size + 1, 0, none⟩) gs) := ⟨w.heap.size + 1, rfl, by omega, by rw [hM.out.2.2.1]; exact hM.out.1, hM.out.2.1⟩
      have LG : Hid (gs.length = k) := hM.out.2.2.1
      have LR : Hid (∀ x, x ∈ gs → x.rows.length ≤ 10000) := fun x hx => by
        have : x.rows ∈ firsts n := by rw [← GS.out]; exact List.mem_map_of_mem hx
        obtain ⟨p, hp, e⟩ := List.mem_map.1 this
        rw [← e]; exact HS.out.2 p hp
      have x3 := hX.out
      have GL : Hid (w.heap.size + 1 < wr.heap.size) := hM.out.1.lt
      have hgl := GL.out
      clear hM
      by_cases hr1 : n.frm < 0
      · have NF : Hid (FirstIs n (mkOf gs)) := .inr ⟨fun h => by omega, GS.out⟩
        go_wp2
        go_ret
        exact ⟨_, _, gs, by rw [LG.out]; rfl, ⟨MO.out, NF.out, by rw [LG.out, LA.out], fun x hx => by have := LR.out x hx; omega⟩, hB.out⟩
      by_cases hr2 : (k : Int) ≤ n.frm
      · have NF : Hid (FirstIs n (mkOf gs)) := .inr ⟨fun h => by have := h.2.1; rw [LA.out] at this; omega, GS.out⟩
        go_wp2
        go_ret
        exact ⟨_, _, gs, by rw [LG.out]; rfl, ⟨MO.out, NF.out, by rw [LG.out, LA.out], fun x hx => by have := LR.out x hx; omega⟩, hB.out⟩
      obtain ⟨j, hj⟩ : ∃ j : Nat, n.frm = j := ⟨n.frm.toNat, by omega⟩
      have hjk : j < k := by omega
      have hjk' : (j : Int) < k := by omega
      have hjg : j < gs.length := by rw [LG.out]; exact hjk
      have HJ : Hid (n.frm = j) := hj
      rw [hj] at x3
      obtain ⟨g', eg, hgB, hrow, howns⟩ := MO.out
      injection eg with eg; injection eg with eg _
      have q0 := hrow.cell hjg
      have z0 := hrow.frozen j
      rw [← eg] at q0 z0
      have hmem : gs.getD j nilBg ∈ gs := by rw [List.getD_eq_getElem?_getD, List.getElem?_eq_getElem hjg]; exact List.getElem_mem _
      have hbg := howns _ hmem
      have hlr := LR.out _ hmem
      have hat : at_ (firsts n) j = (gs.getD j nilBg).rows := by rw [← GS.out, mkOf_at gs hjg]
      unfold bgCell bgV at q0
      generalize hgg : gs.getD j nilBg = y at *
      have BY : Hid (Bags wr y.a y.rows.length y.rows) := hbg.bags
      have AT : Hid (at_ (firsts n) n.frm.toNat = y.rows) := by rw [hj, Int.toNat_natCast]; exact hat
      have Q0 : Hid (wr.cell? ⟨w.heap.size + 1, j, none⟩ = some (.slice y.a y.rows.length y.c)) := q0
      have X3 : Hid (wr.cell? ⟨w.heap.size, 3, none⟩ = some (.int .i64 j)) := x3
      have OF : Hid (∀ W q, Below wr.heap.size wr W → W.cell? ⟨q, 0, none⟩ = some (.int .i64 0) → Calls Tryz.prog 27 #[.slice (some ⟨q, 0, none⟩) 1 1] W fun e w' => ∃ a' l' c', e = .returned (.slice a' l' c') ∧ Hid (Bags w' a' l' one0) ∧ Below wr.heap.size wr w') := fun W q hW hq => by
        refine (of_known (some ⟨q, 0, none⟩) 1 1 [0] one0 W ⟨⟨rfl, fun i hi => by
          have : i = 0 := by simpa using hi
          subst this
          exact ⟨by decide, by decide⟩⟩, .inr ⟨q, 0, rfl, fun i hi => by
          have : i = 0 := by omega
          subst this
          exact hq⟩⟩ (by omega) of_zero).mono ?_
        rintro e w' ⟨a', l', c', he, hB', hb'⟩
        exact ⟨a', l', c', he, hB', then_ hW hb'⟩
      have SU : Hid (∀ W a' l' c', Below wr.heap.size wr W → Bags W a' l' one0 → Calls Tryz.prog 26 #[.slice y.a y.rows.length y.c, .slice a' l' c'] W fun e w' => ∃ sa sl sc rs, e = .returned (.tuple #[.slice sa sl sc, .int .i64 (sumE y.rows one0)]) ∧ Hid ((SumIs y.rows one0 rs ∧ sl ≤ y.rows.length + 1) ∧ Own w' wr.heap.size sa sl sc rs) ∧ Below wr.heap.size wr w') := fun W a' l' c' hW hB' => by
        have hl' : l' = 1 := hB'.1.1.symm
        refine (sum_u y.a a' y.rows.length y.c l' c' y.rows one0 W (BY.out.below hW) hB' hlr (by omega)).mono ?_
        rintro e w' ⟨sa, sl, sc, rs, he, hh, hb'⟩
        exact ⟨sa, sl, sc, rs, he, ⟨⟨hh.out.1.1, by have := hh.out.1.2; omega⟩, hh.out.2.mono hW.size⟩, then_ hW hb'⟩
      have LY : Hid (y.rows.length ≤ 10000) := hlr
      clear hbg hlr hat hmem howns hrow eg hgB hj hr1 hr2
      go_wp2_with fail
      go_region_held3 (fun w' => w'.cell? ⟨w.heap.size, 3, none⟩ = some (.int .i64 j) ∧ w'.cell? ⟨w.heap.size + 1, j, none⟩ = some (.slice y.a y.rows.length y.c)) (go_keep)
        (first
          | (go_at_call 27; refine (OF.out _ _ (by first | exact ((Below.refl _ _).drew.alloc (by simp) _) | exact ((Below.refl _ _).alloc (by simp) _).drew | exact ((Below.refl _ _).alloc (by simp) _)) (by simp)).mono ?_; rintro e w4 ⟨a4, l4, c4, he, hB4, hb4⟩; subst he; have g0 := rowB_call X3.out hb4; have g1 := rowB_call Q0.out hb4)
          | (go_at_call 26; refine (SU.out _ _ _ _ (by first | exact hb4.drew | exact hb4) (by exact hB4.out)).mono ?_; rintro e w5 ⟨sa, sl, sc, rs, he, hS5, hb5⟩; subst he; have g2 := rowB_call X3.out hb5; have g3 := rowB_call Q0.out hb5))
      have B5 : Hid (Below wr.heap.size wr w5) := hb5
      have S5 : Hid ((SumIs y.rows one0 rs ∧ sl ≤ y.rows.length + 1) ∧ Own w5 wr.heap.size sa sl sc rs) := hS5
      have W5 : Hid (Below w.heap.size w w5) := hB.out.trans (hb5.mono hB.out.size)
      have M5 : Hid (MOwn w5 w.heap.size (some ⟨w.heap.size + 1, 0, none⟩) gs) := MO.out.below hb5
      clear hB4 hb4 hS5 hb5 OF SU g0 g1
      by_cases hz : sumE y.rows one0 = 0
      · have NF : Hid (FirstIs n ((mkOf gs).set j rs)) := by
          refine .inl ⟨by rw [HJ.out]; omega, by rw [HJ.out, LA.out]; exact hjk', by rw [AT.out]; exact hz, rs, by rw [AT.out]; exact S5.out.1.1, ?_⟩
          rw [GS.out, HJ.out, Int.toNat_natCast]
        have hz2 : (sumE y.rows one0 == 0) = true := by rw [hz]; rfl
        generalize sumE y.rows one0 = er at *
        subst hz
        have f3 : w5.frozen? ⟨w.heap.size + 1, j, none⟩ = false := by
          obtain ⟨g', eg, _, hrow, _⟩ := M5.out
          injection eg with eg; injection eg with eg _
          rw [eg]; exact hrow.frozen j
        have hsl : sl = rs.length := S5.out.2.1.1.symm
        have hgl5 : w.heap.size + 1 < w5.heap.size := by have := B5.out.size; omega
        go_wp2
        go_ret
        refine ⟨some ⟨w.heap.size + 1, 0, none⟩, k, gs.set j ⟨rs, sa, sc⟩, by rw [List.length_set, LG.out]; rfl, ⟨?_, by rw [mkOf_set]; exact NF.out, by rw [List.length_set, LG.out, LA.out], fun x hx => ?_⟩, W5.out.setCell (by show w.heap.size ≤ w.heap.size + 1; omega) _⟩
        · have := M5.out.put (k := j) (y := ⟨rs, sa, sc⟩) hjg ⟨wr.heap.size, by omega, by rw [← hsl]; exact S5.out.2⟩
          exact this
        · rcases set_mem hx with hx | rfl
          · have := LR.out x hx; omega
          · have := S5.out.1.2; have := LY.out; show rs.length ≤ _; omega
      · have NF : Hid (FirstIs n (mkOf gs)) := .inr ⟨fun h => hz (by have := h.2.2; rwa [AT.out] at this), GS.out⟩
        have hz2 : (sumE y.rows one0 == 0) = false := by simpa using hz
        generalize sumE y.rows one0 = er at *
        go_wp2
        go_ret
        exact ⟨_, _, gs, by rw [LG.out]; rfl, ⟨M5.out, NF.out, by rw [LG.out, LA.out], fun x hx => by have := LR.out x hx; omega⟩, W5.out⟩
end Go.Proofs.YtnjpblmplneojaaGreatDoor.Mark
