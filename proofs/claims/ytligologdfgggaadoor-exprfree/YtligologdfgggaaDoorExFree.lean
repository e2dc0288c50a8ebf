/- The ways through ExprFree, over the turned program. -/
import Derived.Test.YtligologdfgggaaDoorExFreeP
namespace Go.Proofs.YtligologdfgggaaDoor.Expr
open Go.RowKit Go.Proofs.YtligologdfgggaaDoor.Frame Go.Proofs.YtligologdfgggaaDoor.Calc
set_option linter.unusedVariables false
set_option linter.unusedSimpArgs false

set_option maxRecDepth 100000 in
set_option maxHeartbeats 4000000 in
theorem free_1 (t : Ex) (a : Option Addr) (c : Nat) (ea : Option Addr) (elen ec : Nat) (zs : List Int) (k v : Int) (w : World) (hx : X w t a) (hz : Nm w ea elen zs) (hT : Lib.TabIs Tryd.prog w tabName .u64 Lib.pow10Tab) (ht : fewB t = false) :
    Calls Tryd.prog 5 #[exV t a c, .slice ea elen ec, .int .i64 k, .int .i64 v] w fun e w' => e = .returned (.bool true) ∧ Below w.heap.size w w' := by
  have KB : Hid (Bs _ w.heap.size w.heap.size t t a a c c _) := bs_one w t a c
  have B0 : Hid (Below w.heap.size w (w.alloc (.cells #[.int .i64 t.kind, .int .i64 t.num, .slice a t.kids.length c] 24))) := al1 _ _
  have HX : Hid (X (w.alloc (.cells #[.int .i64 t.kind, .int .i64 t.num, .slice a t.kids.length c] 24)) t a) := hx.below B0.out
  have T0 : Hid (Lib.TabBelow Tryd.prog (w.alloc (.cells #[.int .i64 t.kind, .int .i64 t.num, .slice a t.kids.length c] 24)).heap.size _ tabName .u64 Lib.pow10Tab) := Lib.tabBelow_of_tabIs (Lib.tabBelow_of_tabIs hT _ B0.out)
  have Ft : Hid (fewB t = false) := ht
  clear hx hT ht hz
  go_enter Tryd.func5, Tryd.ntmps5
  go_wp2_with fail
  refine (Bs.call (by first | exact KB.out | exact KB.out.al _ | exact (KB.out.al _).al _) (fun hb => small_any _ (Lib.tabBelow_of_tabIs (T0.out _ hb)))).mono ?_
  clear KB
  rintro e w1 ⟨he, KB, ⟨⟨b0, b1, b2⟩, bl⟩, ⟨d0, d1, d2⟩, dl⟩
  subst he
  go_wp2_with fail
  refine (Bs.call (by first | exact KB.out | exact KB.out.al _ | exact (KB.out.al _).al _) (fun hb => Few_any t _ a c (HX.out.below hb))).mono ?_
  clear KB b0 b1 b2 bl d0 d1 d2 dl
  rintro e w2 ⟨he, KB, ⟨⟨b0, b1, b2⟩, bl⟩, ⟨d0, d1, d2⟩, dl⟩
  rw [Ft.out] at he
  subst he
  go_wp2_with fail
  go_ret
  first | exact ⟨rfl, bs_end B0.out KB.out⟩ | exact ⟨rfl, bs_end B0.out (KB.out.al _)⟩ | exact ⟨rfl, bs_end B0.out ((KB.out.al _).al _)⟩

set_option maxRecDepth 100000 in
set_option maxHeartbeats 4000000 in
theorem free_3 (t : Ex) (a : Option Addr) (c : Nat) (ea : Option Addr) (elen ec : Nat) (zs : List Int) (k v : Int) (w : World) (hx : X w t a) (hz : Nm w ea elen zs) (hT : Lib.TabIs Tryd.prog w tabName .u64 Lib.pow10Tab) (ht : fewB t = true) (hc : (16 : Int) < elen) :
    Calls Tryd.prog 5 #[exV t a c, .slice ea elen ec, .int .i64 k, .int .i64 v] w fun e w' => e = .returned (.bool true) ∧ Below w.heap.size w w' := by
  have KB : Hid (Bs _ w.heap.size w.heap.size t t a a c c _) := bs_one w t a c
  have B0 : Hid (Below w.heap.size w (w.alloc (.cells #[.int .i64 t.kind, .int .i64 t.num, .slice a t.kids.length c] 24))) := al1 _ _
  have HX : Hid (X (w.alloc (.cells #[.int .i64 t.kind, .int .i64 t.num, .slice a t.kids.length c] 24)) t a) := hx.below B0.out
  have T0 : Hid (Lib.TabBelow Tryd.prog (w.alloc (.cells #[.int .i64 t.kind, .int .i64 t.num, .slice a t.kids.length c] 24)).heap.size _ tabName .u64 Lib.pow10Tab) := Lib.tabBelow_of_tabIs (Lib.tabBelow_of_tabIs hT _ B0.out)
  have Ft : Hid (fewB t = true) := ht
  clear hx hT ht hz
  go_enter Tryd.func5, Tryd.ntmps5
  go_wp2_with fail
  refine (Bs.call (by first | exact KB.out | exact KB.out.al _ | exact (KB.out.al _).al _) (fun hb => small_any _ (Lib.tabBelow_of_tabIs (T0.out _ hb)))).mono ?_
  clear KB
  rintro e w1 ⟨he, KB, ⟨⟨b0, b1, b2⟩, bl⟩, ⟨d0, d1, d2⟩, dl⟩
  subst he
  go_wp2_with fail
  refine (Bs.call (by first | exact KB.out | exact KB.out.al _ | exact (KB.out.al _).al _) (fun hb => Few_any t _ a c (HX.out.below hb))).mono ?_
  clear KB b0 b1 b2 bl d0 d1 d2 dl
  rintro e w2 ⟨he, KB, ⟨⟨b0, b1, b2⟩, bl⟩, ⟨d0, d1, d2⟩, dl⟩
  rw [Ft.out] at he
  subst he
  go_wp2_with fail
  go_ret
  first | exact ⟨rfl, bs_end B0.out KB.out⟩ | exact ⟨rfl, bs_end B0.out (KB.out.al _)⟩ | exact ⟨rfl, bs_end B0.out ((KB.out.al _).al _)⟩

set_option maxRecDepth 100000 in
set_option maxHeartbeats 4000000 in
theorem free_4 (t : Ex) (a : Option Addr) (c : Nat) (ea : Option Addr) (elen ec : Nat) (zs : List Int) (k v : Int) (w : World) (hx : X w t a) (hz : Nm w ea elen zs) (hT : Lib.TabIs Tryd.prog w tabName .u64 Lib.pow10Tab) (ht : fewB t = true) (hc : (elen : Int) ≤ 16 ∧ k < 0) :
    Calls Tryd.prog 5 #[exV t a c, .slice ea elen ec, .int .i64 k, .int .i64 v] w fun e w' => e = .returned (.bool true) ∧ Below w.heap.size w w' := by
  have KB : Hid (Bs _ w.heap.size w.heap.size t t a a c c _) := bs_one w t a c
  have B0 : Hid (Below w.heap.size w (w.alloc (.cells #[.int .i64 t.kind, .int .i64 t.num, .slice a t.kids.length c] 24))) := al1 _ _
  have HX : Hid (X (w.alloc (.cells #[.int .i64 t.kind, .int .i64 t.num, .slice a t.kids.length c] 24)) t a) := hx.below B0.out
  have T0 : Hid (Lib.TabBelow Tryd.prog (w.alloc (.cells #[.int .i64 t.kind, .int .i64 t.num, .slice a t.kids.length c] 24)).heap.size _ tabName .u64 Lib.pow10Tab) := Lib.tabBelow_of_tabIs (Lib.tabBelow_of_tabIs hT _ B0.out)
  have Ft : Hid (fewB t = true) := ht
  clear hx hT ht hz
  obtain ⟨h1, h2⟩ := hc
  have h3 : ¬ (16 : Int) < elen := by omega
  go_enter Tryd.func5, Tryd.ntmps5
  go_wp2_with fail
  refine (Bs.call (by first | exact KB.out | exact KB.out.al _ | exact (KB.out.al _).al _) (fun hb => small_any _ (Lib.tabBelow_of_tabIs (T0.out _ hb)))).mono ?_
  clear KB
  rintro e w1 ⟨he, KB, ⟨⟨b0, b1, b2⟩, bl⟩, ⟨d0, d1, d2⟩, dl⟩
  subst he
  go_wp2_with fail
  refine (Bs.call (by first | exact KB.out | exact KB.out.al _ | exact (KB.out.al _).al _) (fun hb => Few_any t _ a c (HX.out.below hb))).mono ?_
  clear KB b0 b1 b2 bl d0 d1 d2 dl
  rintro e w2 ⟨he, KB, ⟨⟨b0, b1, b2⟩, bl⟩, ⟨d0, d1, d2⟩, dl⟩
  rw [Ft.out] at he
  subst he
  go_wp2_with fail
  go_ret
  first | exact ⟨rfl, bs_end B0.out KB.out⟩ | exact ⟨rfl, bs_end B0.out (KB.out.al _)⟩ | exact ⟨rfl, bs_end B0.out ((KB.out.al _).al _)⟩

set_option maxRecDepth 100000 in
set_option maxHeartbeats 4000000 in
theorem free_5 (t : Ex) (a : Option Addr) (c : Nat) (ea : Option Addr) (elen ec : Nat) (zs : List Int) (k v : Int) (w : World) (hx : X w t a) (hz : Nm w ea elen zs) (hT : Lib.TabIs Tryd.prog w tabName .u64 Lib.pow10Tab) (ht : fewB t = true) (hc : (elen : Int) ≤ 16 ∧ 0 ≤ k ∧ (elen : Int) ≤ k) :
    Calls Tryd.prog 5 #[exV t a c, .slice ea elen ec, .int .i64 k, .int .i64 v] w fun e w' => e = .returned (.bool true) ∧ Below w.heap.size w w' := by
  have KB : Hid (Bs _ w.heap.size w.heap.size t t a a c c _) := bs_one w t a c
  have B0 : Hid (Below w.heap.size w (w.alloc (.cells #[.int .i64 t.kind, .int .i64 t.num, .slice a t.kids.length c] 24))) := al1 _ _
  have HX : Hid (X (w.alloc (.cells #[.int .i64 t.kind, .int .i64 t.num, .slice a t.kids.length c] 24)) t a) := hx.below B0.out
  have T0 : Hid (Lib.TabBelow Tryd.prog (w.alloc (.cells #[.int .i64 t.kind, .int .i64 t.num, .slice a t.kids.length c] 24)).heap.size _ tabName .u64 Lib.pow10Tab) := Lib.tabBelow_of_tabIs (Lib.tabBelow_of_tabIs hT _ B0.out)
  have Ft : Hid (fewB t = true) := ht
  clear hx hT ht hz
  obtain ⟨h1, h2, h4⟩ := hc
  have h3 : ¬ (16 : Int) < elen := by omega
  have h5 : ¬ k < 0 := by omega
  go_enter Tryd.func5, Tryd.ntmps5
  go_wp2_with fail
  refine (Bs.call (by first | exact KB.out | exact KB.out.al _ | exact (KB.out.al _).al _) (fun hb => small_any _ (Lib.tabBelow_of_tabIs (T0.out _ hb)))).mono ?_
  clear KB
  rintro e w1 ⟨he, KB, ⟨⟨b0, b1, b2⟩, bl⟩, ⟨d0, d1, d2⟩, dl⟩
  subst he
  go_wp2_with fail
  refine (Bs.call (by first | exact KB.out | exact KB.out.al _ | exact (KB.out.al _).al _) (fun hb => Few_any t _ a c (HX.out.below hb))).mono ?_
  clear KB b0 b1 b2 bl d0 d1 d2 dl
  rintro e w2 ⟨he, KB, ⟨⟨b0, b1, b2⟩, bl⟩, ⟨d0, d1, d2⟩, dl⟩
  rw [Ft.out] at he
  subst he
  go_wp2_with fail
  go_ret
  first | exact ⟨rfl, bs_end B0.out KB.out⟩ | exact ⟨rfl, bs_end B0.out (KB.out.al _)⟩ | exact ⟨rfl, bs_end B0.out ((KB.out.al _).al _)⟩

set_option maxRecDepth 100000 in
set_option maxHeartbeats 4000000 in
theorem free_6 (t : Ex) (a : Option Addr) (c : Nat) (ea : Option Addr) (elen ec : Nat) (zs : List Int) (k v : Int) (w : World) (hx : X w t a) (hz : Nm w ea elen zs) (hT : Lib.TabIs Tryd.prog w tabName .u64 Lib.pow10Tab) (ht : fewB t = true) (hv : In64 v) (hc : (elen : Int) ≤ 16 ∧ 0 ≤ k ∧ k < elen) :
    Calls Tryd.prog 5 #[exV t a c, .slice ea elen ec, .int .i64 k, .int .i64 v] w fun e w' => e = .returned (.bool true) ∧ Below w.heap.size w w' := by
  obtain ⟨kn, rfl⟩ := Int.eq_ofNat_of_zero_le hc.2.1
  have hkl : kn < elen := by omega
  have HV : Hid (In64 v) := hv
  have IZ : Hid (∀ i, i < elen → In64 (zs.getD i 0)) := hz.1.2
  have LZ : Hid (zs.length = elen) := hz.1.1
  have FSN : Hid (decide ((kn : Int) ∈ varsS t) = false → evalF (zs.set kn v) t = evalF zs t) := fun h => free_set zs t kn v (by rw [hz.1.1]; exact hkl) fun hm => (of_decide_eq_false h) (mem_varsS.2 hm)
  have FN : Hid ((evalF zs t).2 = 1 ∨ evalF (zs ++ [v]) t = evalF zs t) := free_snoc zs t v
  have hll : (varsS t).length ≤ 1000000 := Nat.le_trans (varsS_len t) (Nat.le_trans (fewB_size ht) (by decide))
  have KB : Hid (Bs _ w.heap.size w.heap.size t t a a c c _) := bs_one w t a c
  have B0 : Hid (Below w.heap.size w (w.alloc (.cells #[.int .i64 t.kind, .int .i64 t.num, .slice a t.kids.length c] 24))) := al1 _ _
  have HX : Hid (X (w.alloc (.cells #[.int .i64 t.kind, .int .i64 t.num, .slice a t.kids.length c] 24)) t a) := hx.below B0.out
  have T0 : Hid (Lib.TabBelow Tryd.prog (w.alloc (.cells #[.int .i64 t.kind, .int .i64 t.num, .slice a t.kids.length c] 24)).heap.size _ tabName .u64 Lib.pow10Tab) := Lib.tabBelow_of_tabIs (Lib.tabBelow_of_tabIs hT _ B0.out)
  have Ft : Hid (fewB t = true) := ht
  have HZ : Hid (Nm (w.alloc (.cells #[.int .i64 t.kind, .int .i64 t.num, .slice a t.kids.length c] 24)) ea elen zs) := hz.below B0.out
  have ST : Hid (sizeF t ≤ 1000000) := Nat.le_trans (fewB_size ht) (by decide)
  obtain ⟨h1, h2, h4⟩ := hc
  have h3 : ¬ (16 : Int) < elen := by omega
  have h5 : ¬ (kn : Int) < 0 := by omega
  have h6 : ¬ (elen : Int) ≤ kn := by omega
  clear hx hT ht hz
  go_enter Tryd.func5, Tryd.ntmps5
  go_wp2_with fail
  refine (Bs.call (by first | exact KB.out | exact KB.out.al _ | exact (KB.out.al _).al _) (fun hb => small_any _ (Lib.tabBelow_of_tabIs (T0.out _ hb)))).mono ?_
  clear KB
  rintro e w1 ⟨he, KB, ⟨⟨b0, b1, b2⟩, bl⟩, ⟨d0, d1, d2⟩, dl⟩
  subst he
  go_wp2_with fail
  refine (Bs.call (by first | exact KB.out | exact KB.out.al _ | exact (KB.out.al _).al _) (fun hb => Few_any t _ a c (HX.out.below hb))).mono ?_
  clear KB b0 b1 b2 bl d0 d1 d2 dl
  rintro e w2 ⟨he, KB, ⟨⟨b0, b1, b2⟩, bl⟩, ⟨d0, d1, d2⟩, dl⟩
  rw [Ft.out] at he
  subst he
  obtain ⟨g, cg, w8, hrun, hown, hb8⟩ := copy_own w2 33 ea elen ec zs (by omega) (by omega) (HZ.out.below KB.out.1)
  obtain ⟨hg1, hg2, hg3, hg4, hg5, hg6⟩ := own_facts hown
  have hck := hg4 kn hkl
  have hfk := hg5 kn
  have KC : Hid (Nm (w8.setCell ⟨g, kn, none⟩ (.int .i64 v)) (some ⟨g, 0, none⟩) elen (zs.set kn v)) := nm_set hown IZ.out hkl HV.out
  have KD : Hid (Below w2.heap.size w2 (w8.setCell ⟨g, kn, none⟩ (.int .i64 v))) := hb8.setCell (p := ⟨g, kn, none⟩) hg1 _
  obtain ⟨⟨⟨x0, x1, x2⟩, xl⟩, -, -⟩ := (KB.out.on hb8).cells
  have ne1 : ¬ w.heap.size = g := by omega
  have ne2 : ¬ g = w.heap.size := by omega
  have hkl' : (kn : Int) < elen := by omega
  have KBn : Hid (Bs _ _ _ _ _ _ _ _ _ _) := KB.out.on KD.out
  have HR : Hid (_ = _) := hrun
  clear hown hb8 hg4 hg5 KB b0 b1 b2 bl d0 d1 d2 dl hrun KD
  have KB := KBn
  clear KBn
  go_wp2_with (at_builtin; refine wpList_append_run rfl _ _ _ _ rfl rfl rfl HR.out ?_)
  go_wp2_with fail
  refine (Bs.call (by first | exact KB.out | exact KB.out.al _ | exact (KB.out.al _).al _) (fun hb => (eval_any zs t _ a ea c elen ec (HX.out.below hb) (HZ.out.below hb)).mono fun e w' h => (⟨h, h.2⟩ : (_ ∧ _) ∧ _))).mono ?_
  clear KB
  rintro e w3 ⟨⟨he, KE⟩, KB, ⟨⟨b0, b1, b2⟩, bl⟩, ⟨d0, d1, d2⟩, dl⟩
  subst he
  have KC2 : Hid (Nm w3 (some ⟨g, 0, none⟩) elen (zs.set kn v)) := KC.out.below KE
  clear KC KE
  go_wp2_with fail
  refine (Bs.call (by first | exact KB.out | exact KB.out.al _ | exact (KB.out.al _).al _) (fun hb => eval_any (zs.set kn v) t _ a (some ⟨g, 0, none⟩) c elen cg (HX.out.below hb) KC2.out)).mono ?_
  clear KB b0 b1 b2 bl d0 d1 d2 dl
  rintro e w4 ⟨he, KB, ⟨⟨b0, b1, b2⟩, bl⟩, ⟨d0, d1, d2⟩, dl⟩
  subst he
  go_wp2_with fail
  refine (Bs.call (by first | exact KB.out | exact KB.out.al _ | exact (KB.out.al _).al _) (fun hb => (vars_any t _ a c (HX.out.below hb) ST.out).mono fun e w' h => by obtain ⟨a', c', he, hn', hb'⟩ := h; exact (⟨⟨a', c', he, hn'⟩, hb'⟩ : (∃ a' c', e = .returned (.slice a' (varsS t).length c') ∧ Nm w' a' (varsS t).length (varsS t)) ∧ Below _ _ w'))).mono ?_
  clear KB b0 b1 b2 bl d0 d1 d2 dl
  rintro e w5 ⟨⟨la, lc, he, hN⟩, KB, ⟨⟨b0, b1, b2⟩, bl⟩, ⟨d0, d1, d2⟩, dl⟩
  subst he
  have HN : Hid (Nm w5 la (varsS t).length (varsS t)) := hN
  clear hN KC2 HR x0 x1 x2 xl hck hfk
  generalize varsS t = L at *
  go_wp2_with fail
  go_loopw [16, 18] (fun q i wr => ∃ (j : Nat) (b : Bool), j ≤ L.length ∧ i = .int .i64 j ∧ q = .bool b ∧ Hid (b = anyK kn L j) ∧ wr = w5) (fun _ i _ => L.length - (intOf i).toNat)
  case atStart => exact ⟨0, false, by omega, rfl, rfl, rfl, rfl⟩
  case round =>
    obtain ⟨j, b, hj, rfl, rfl, hbb, hw⟩ := hrel
    have hw := hw.symm
    subst hw
    by_cases hlt : j < L.length
    · have hlt' : (j : Int) < L.length := by omega
      obtain ⟨lb, lo, hla, hll2, hcj⟩ := HN.out.at (i := j) hlt
      subst hla
      have ES : Hid (anyK kn L (j + 1) = (b || (L.getD j 0 == kn))) := by rw [hbb.out]; exact anyK_step hlt
      clear hbb
      generalize L.getD j 0 = z at *
      cases b with
      | true =>
        go_wp2_with fail
        go_roundw
        case rel => exact ⟨j + 1, true, by omega, by go_num, rfl, by rw [Hid, ES.out]; rfl, by trivial⟩
        case measure => simp [intOf]; omega
      | false =>
        go_wp2_with fail
        go_roundw
        case rel => exact ⟨j + 1, (z == (kn : Int)), by omega, by go_num, rfl, by rw [Hid, ES.out]; rfl, by trivial⟩
        case measure => simp [intOf]; omega
    · have EI : Hid (b = decide ((kn : Int) ∈ L)) := by rw [hbb.out]; exact anyK_all (by omega)
      clear hbb
      obtain ⟨g2, cg2, w9, hrun, hown, hb9⟩ := copy_own w5 33 ea elen ec zs (by omega) (by omega) (HZ.out.below KB.out.1)
      obtain ⟨g3, cg3, w10, hrun2, hown2, hb10⟩ := snoc_own hown hb9.size v (by omega) 33
      have KC : Hid (Nm w10 (some ⟨g3, 0, none⟩) (elen + 1) (zs ++ [v])) := nm_own hown2 (in_snoc LZ.out IZ.out HV.out)
      have hbx : Below w5.heap.size w5 w10 := hb9.trans hb10
      have KBn : Hid (Bs _ _ _ _ _ _ _ _ _ _) := KB.out.on hbx
      have HR : Hid (_ = _) := hrun
      have HR2 : Hid (_ = _) := hrun2
      obtain ⟨⟨⟨x0, x1, x2⟩, xl⟩, -, -⟩ := KBn.out.cells
      clear hown hb9 hown2 hb10 hrun hrun2 KB b0 b1 b2 bl d0 d1 d2 dl hbx
      have KB := KBn
      clear KBn
      go_wp2_with (first | (at_builtin; refine wpList_append_run rfl _ _ _ _ rfl rfl rfl HR.out ?_) | (at_builtin; refine wpList_append_run rfl _ _ _ _ rfl rfl rfl HR2.out ?_))
      go_wp2_with fail
      refine (Bs.call (by first | exact KB.out | exact KB.out.al _ | exact (KB.out.al _).al _) (fun hb => eval_any (zs ++ [v]) t _ a (some ⟨g3, 0, none⟩) c (elen + 1) cg3 (HX.out.below hb) KC.out)).mono ?_
      clear KB
      rintro e w6 ⟨he, KB, ⟨⟨b0, b1, b2⟩, bl⟩, ⟨d0, d1, d2⟩, dl⟩
      subst he
      have EI2 := EI.out
      clear EI
      by_cases hq : (evalF zs t).2 = 1
      · cases b with
        | true =>
          clear EI2
          have hq' : ((evalF zs t).2 == 1) = true := by rw [hq]; rfl
          go_wp2_with fail
          go_ret
          exact ⟨rfl, bs_end B0.out KB.out⟩
        | false =>
          rw [FSN.out EI2.symm]
          clear EI2
          have hq' : ((evalF zs t).2 == 1) = true := by rw [hq]; rfl
          go_wp2_with fail
          go_ret
          exact ⟨rfl, bs_end B0.out KB.out⟩
      · rw [FN.out.resolve_left hq]
        cases b with
        | true =>
          clear EI2
          go_wp2_with fail
          go_ret
          exact ⟨rfl, bs_end B0.out KB.out⟩
        | false =>
          rw [FSN.out EI2.symm]
          clear EI2
          go_wp2_with fail
          go_ret
          exact ⟨rfl, bs_end B0.out KB.out⟩

end Go.Proofs.YtligologdfgggaaDoor.Expr
