/- check.Takers and Givers: contracts of the calls, over the turned program. -/
import Derived.Test.YtgdkomkflfodaaaGreatMaR
import Derived.Test.YtgdkomkflfodaaaGreatMaY
namespace Go.Proofs.YtgdkomkflfodaaaGreat.Check
open Go.RowKit Go.Proofs.YtgdkomkflfodaaaGreat.Frame Go.Proofs.YtgdkomkflfodaaaGreat.Colour Go.Proofs.YtgdkomkflfodaaaGreat.Expr
set_option linter.unusedVariables false
set_option linter.unusedSimpArgs false

def Ta.agg (t : Ta) : Value := .agg #[.string t.name, .slice t.va t.vars.length t.vc, .int .i64 t.guard.kind, .int .i64 t.guard.num, .slice t.ga t.guard.kids.length t.gc, .int .i64 t.join, .int .i64 t.split, .slice t.ia t.ins.length t.ic, .slice t.oa t.outs.length t.oc, .slice t.ca t.cancel.length t.cc, .int .i64 t.after, .int .i64 t.m0, .int .i64 t.m1, .int .i64 t.m2]
theorem takers1_any (t : Ta) (w : World) : Calls Tryz.prog 65 #[t.agg] w fun e w' => e = .returned (.slice t.ia t.ins.length t.ic) ∧ Below w.heap.size w w' := by
  unfold Ta.agg
  go_enter Tryz.func65, Tryz.ntmps65
  go_wp2_with fail
  go_ret
  exact ⟨rfl, (Below.refl _ _).alloc (Nat.le_refl _) _⟩
theorem givers1_any (t : Ta) (w : World) : Calls Tryz.prog 66 #[t.agg] w fun e w' => e = .returned (.slice t.oa t.outs.length t.oc) ∧ Below w.heap.size w w' := by
  unfold Ta.agg
  go_enter Tryz.func66, Tryz.ntmps66
  go_wp2_with fail
  go_ret
  exact ⟨rfl, (Below.refl _ _).alloc (Nat.le_refl _) _⟩
theorem goes_takers1 : Goes 65 := fun args W => by kernel_rfl
theorem goes_givers1 : Goes 66 := fun args W => by kernel_rfl
/-- has one of the arcs that place? -/
def arcB (l : List Ar) (place : Int) : Bool := l.any fun x => x.place == place
theorem arcB_at {l : List Ar} {place : Int} {j : Nat} (hj : j < l.length) (h : ((l.getD j nilAr).place == place) = true) : arcB l place = true := by
  unfold arcB; rw [List.any_eq_true]
  refine ⟨l.getD j nilAr, ?_, h⟩
  rw [List.getD_eq_getElem?_getD, List.getElem?_eq_getElem hj]; exact List.getElem_mem hj
theorem arcB_no {l : List Ar} {place : Int} (h : ∀ j, j < l.length → ((l.getD j nilAr).place == place) = false) : arcB l place = false := by
  unfold arcB; rw [List.any_eq_false]
  intro x hx
  obtain ⟨j, hj, rfl⟩ := List.getElem_of_mem hx
  have := h j hj
  rw [List.getD_eq_getElem?_getD, List.getElem?_eq_getElem hj] at this
  have this : (l[j].place == place) = false := this
  rw [this]; simp
set_option maxHeartbeats 4000000 in
set_option maxRecDepth 10000 in
theorem tasksAt_any (n : Ne) (place : Int) (K : FuncId) (sa : Ta → Option Addr) (sl : Ta → List Ar) (sc : Ta → Nat) (w : World) (hn : NeOk w n) (hm : Sm n) (hG : Goes K) (hK : ∀ t W, Calls Tryz.prog K #[t.agg] W fun e w' => e = .returned (.slice (sa t) (sl t).length (sc t)) ∧ Below W.heap.size W w')
    (hs : ∀ t W, TaOk W t → RowM 4 Ar.cells ArOk nilAr W (sa t) (sl t)) (hl : ∀ t, t ∈ n.tasks → (sl t).length ≤ 1000000) :
    Calls Tryz.prog 64 #[.agg (netC n), .int .i64 place, .func (.func K) #[] #[]] w (ListPost (trueL n.tasks.length fun k => arcB (sl (n.tasks.getD k nilTa)) place) w) := by
  have H0 : Hid (NeOk w n ∧ Sm n) := ⟨hn, hm⟩
  have HK : Hid ((∀ t W, Calls Tryz.prog K #[t.agg] W fun e w' => e = .returned (.slice (sa t) (sl t).length (sc t)) ∧ Below W.heap.size W w') ∧ (∀ t W, TaOk W t → RowM 4 Ar.cells ArOk nilAr W (sa t) (sl t)) ∧ ∀ t, t ∈ n.tasks → (sl t).length ≤ 1000000) := ⟨hK, hs, hl⟩
  obtain ⟨wz, hwz⟩ : ∃ wz, wz = w.alloc (.cells (netC n) 26) := ⟨_, rfl⟩
  have HZ : Hid (Below w.heap.size w wz ∧ NBox wz w.heap.size n) := by rw [hwz]; exact ⟨(Below.refl _ _).alloc (Nat.le_refl _) _, NBox.new w n _⟩
  have htl := hm.1.2.2
  obtain ⟨F, hF⟩ : ∃ F : Nat → Bool, F = fun k => arcB (sl (n.tasks.getD k nilTa)) place := ⟨_, rfl⟩
  have HF : Hid (∀ k, F k = arcB (sl (n.tasks.getD k nilTa)) place) := fun k => by rw [hF]
  rw [← hF]
  unfold Goes at hG
  clear hn hm hK hs hl hF
  unfold netC at hwz ⊢
  go_enter Tryz.func64, Tryz.ntmps64
  obtain ⟨c0, c1, c2, c3, c4⟩ := HZ.out.2
  go_upto_region 1 with fail
  rw [← hwz]
  clear hwz
  go_wp2_with fail
  clear c0 c1 c2 c3 c4
  go_loopw [15, 7] (fun v u wr => ∃ (i : Nat) (a' : Option Addr) (c' : Nat), v = .int .i64 (i : Int) ∧ u = .slice a' (trueL i F).length c' ∧ i ≤ n.tasks.length ∧ Hid (IR wz wr a' c' (trueL i F))) (fun v u _ => match v with | .int _ z => n.tasks.length - z.toNat | _ => 0)
  case atStart => exact ⟨0, none, 0, rfl, rfl, by omega, IR.nil wz wz (Below.refl _ _)⟩
  case round =>
    obtain ⟨i, a', c', rfl, rfl, hi, HI⟩ := hrel
    by_cases hlt : i < n.tasks.length
    · have hlt' : (i : Int) < n.tasks.length := by omega
      obtain ⟨b, off, ha, hr, ho⟩ := ((H0.out.1.below HZ.out.1).below HI.out.2).2.2.2.at hlt
      have hlm := HK.out.2.2 _ (task_mem hlt)
      have HFi : Hid (F i = arcB (sl (n.tasks.getD i nilTa)) place) := HF.out i
      generalize n.tasks.getD i nilTa = t at *
      have d0 : wr.cell? ⟨b, off + i * 14, none⟩ = some (.string t.name) := hr 0 _ rfl
      have d1 : wr.cell? ⟨b, off + i * 14 + 1, none⟩ = some (.slice t.va t.vars.length t.vc) := hr 1 _ rfl
      have d2 : wr.cell? ⟨b, off + i * 14 + 2, none⟩ = some (.int .i64 t.guard.kind) := hr 2 _ rfl
      have d3 : wr.cell? ⟨b, off + i * 14 + 3, none⟩ = some (.int .i64 t.guard.num) := hr 3 _ rfl
      have d4 : wr.cell? ⟨b, off + i * 14 + 4, none⟩ = some (.slice t.ga t.guard.kids.length t.gc) := hr 4 _ rfl
      have d5 : wr.cell? ⟨b, off + i * 14 + 5, none⟩ = some (.int .i64 t.join) := hr 5 _ rfl
      have d6 : wr.cell? ⟨b, off + i * 14 + 6, none⟩ = some (.int .i64 t.split) := hr 6 _ rfl
      have d7 : wr.cell? ⟨b, off + i * 14 + 7, none⟩ = some (.slice t.ia t.ins.length t.ic) := hr 7 _ rfl
      have d8 : wr.cell? ⟨b, off + i * 14 + 8, none⟩ = some (.slice t.oa t.outs.length t.oc) := hr 8 _ rfl
      have d9 : wr.cell? ⟨b, off + i * 14 + 9, none⟩ = some (.slice t.ca t.cancel.length t.cc) := hr 9 _ rfl
      have d10 : wr.cell? ⟨b, off + i * 14 + 10, none⟩ = some (.int .i64 t.after) := hr 10 _ rfl
      have d11 : wr.cell? ⟨b, off + i * 14 + 11, none⟩ = some (.int .i64 t.m0) := hr 11 _ rfl
      have d12 : wr.cell? ⟨b, off + i * 14 + 12, none⟩ = some (.int .i64 t.m1) := hr 12 _ rfl
      have d13 : wr.cell? ⟨b, off + i * 14 + 13, none⟩ = some (.int .i64 t.m2) := hr 13 _ rfl
      have hbl : b < wr.heap.size := World.block_lt_of_cell? _ _ d0
      have HO : Hid (TaOk wr t) := ho
      rw [ha]
      have hCK := HK.out.1 t
      unfold Ta.agg at hCK
      have CK : Hid (∀ W, Calls Tryz.prog K #[.agg #[.string t.name, .slice t.va t.vars.length t.vc, .int .i64 t.guard.kind, .int .i64 t.guard.num, .slice t.ga t.guard.kids.length t.gc, .int .i64 t.join, .int .i64 t.split, .slice t.ia t.ins.length t.ic, .slice t.oa t.outs.length t.oc, .slice t.ca t.cancel.length t.cc, .int .i64 t.after, .int .i64 t.m0, .int .i64 t.m1, .int .i64 t.m2]] W fun e w' => e = .returned (.slice (sa t) (sl t).length (sc t)) ∧ Below W.heap.size W w') := hCK
      clear hr ho hCK
      go_upto_region 5 with fail
      obtain ⟨w4, hw4⟩ : ∃ w4, w4 = wr.alloc (.cells #[.string t.name, .slice t.va t.vars.length t.vc, .int .i64 t.guard.kind, .int .i64 t.guard.num, .slice t.ga t.guard.kids.length t.gc, .int .i64 t.join, .int .i64 t.split, .slice t.ia t.ins.length t.ic, .slice t.oa t.outs.length t.oc, .slice t.ca t.cancel.length t.cc, .int .i64 t.after, .int .i64 t.m0, .int .i64 t.m1, .int .i64 t.m2] 53) := ⟨_, rfl⟩
      obtain ⟨q, hq⟩ : ∃ q, q = wr.heap.size := ⟨_, rfl⟩
      have hb4 : Below wr.heap.size wr w4 := by rw [hw4]; exact (Below.refl _ _).alloc (Nat.le_refl _) _
      have hrun : ∀ j v, t.cells[j]? = some v → w4.cell? ⟨q, j, none⟩ = some v := fun j v hv => by
        rw [hw4, World.cell?_alloc_at _ _ _ _ hq]
        have : (List.toArray t.cells)[j]? = some v := by simpa using hv
        exact this
      have H4 : Hid (IR wz w4 a' c' (trueL i F) ∧ TaOk w4 t) := ⟨HI.out.below hb4, HO.out.below hb4⟩
      rw [← hw4, ← hq]
      clear hw4 hq d0 d1 d2 d3 d4 d5 d6 d7 d8 d9 d10 d11 d12 d13 hbl HO hb4
      have d0 := hrun 0 _ rfl
      have d1 := hrun 1 _ rfl
      have d2 := hrun 2 _ rfl
      have d3 := hrun 3 _ rfl
      have d4 := hrun 4 _ rfl
      have d5 := hrun 5 _ rfl
      have d6 := hrun 6 _ rfl
      have d7 := hrun 7 _ rfl
      have d8 := hrun 8 _ rfl
      have d9 := hrun 9 _ rfl
      have d10 := hrun 10 _ rfl
      have d11 := hrun 11 _ rfl
      have d12 := hrun 12 _ rfl
      have d13 := hrun 13 _ rfl
      clear hrun
      go_wp2_with fail
      refine (CK.out _).mono ?_
      rintro e w5 ⟨he, hb5⟩
      subst he
      have H5 : Hid (IR wz w5 a' c' (trueL i F) ∧ RowM 4 Ar.cells ArOk nilAr w5 (sa t) (sl t)) := ⟨H4.out.1.below hb5, HK.out.2.1 t w5 (H4.out.2.below hb5)⟩
      clear d0 d1 d2 d3 d4 d5 d6 d7 d8 d9 d10 d11 d12 d13 hb5 H4 CK
      generalize sa t = sat at *
      generalize sl t = slt at *
      generalize sc t = sct at *
      go_wp2_with fail
      go_loopw [24, 7] (fun v u wr => ∃ k : Nat, v = .int .i64 (k : Int) ∧ u = .slice a' (trueL i F).length c' ∧ k ≤ slt.length ∧ Hid (Below w5.heap.size w5 wr ∧ ∀ j, j < k → ((slt.getD j nilAr).place == place) = false)) (fun v u _ => match v with | .int _ z => slt.length - z.toNat | _ => 0)
      case atStart => exact ⟨0, rfl, rfl, by omega, ⟨Below.refl _ _, fun j hj => absurd hj (Nat.not_lt_zero _)⟩⟩
      case round =>
        obtain ⟨k, rfl, rfl, hk, HJ⟩ := hrel
        by_cases hkl : k < slt.length
        · have hkl' : (k : Int) < slt.length := by omega
          have h6 := H5.out.2.below (fun x g => g.below HJ.out.1) HJ.out.1
          obtain ⟨b2, off2, ha2, ⟨x0, x1, x2, x3⟩, _⟩ := arcs_at h6 hkl
          have hbl2 : b2 < wr.heap.size := World.block_lt_of_cell? _ _ x0
          obtain ⟨x, hx⟩ : ∃ x, x = slt.getD k nilAr := ⟨_, rfl⟩
          rw [← hx] at x0 x1 x2 x3
          have HX : Hid (x = slt.getD k nilAr) := hx
          subst ha2
          clear hx h6
          obtain ⟨w6, hw6⟩ : ∃ w6, w6 = wr.alloc (.cells #[.int .i64 x.place, .int .i64 x.ex.kind, .int .i64 x.ex.num, .slice x.ka x.ex.kids.length x.kc] 65) := ⟨_, rfl⟩
          have hb6 : Below wr.heap.size wr w6 := by rw [hw6]; exact (Below.refl _ _).alloc (Nat.le_refl _) _
          have y0 : w6.cell? ⟨wr.heap.size, 0, none⟩ = some (.int .i64 x.place) := by rw [hw6]; exact World.cell?_alloc_at _ _ _ _ rfl
          have H6 : Hid (Below w5.heap.size w5 w6) := then_ HJ.out.1 hb6
          have hlen := trueL_len i F
          clear hb6
          go_upto_region 8 with fail
          rw [← hw6]
          clear hw6 x0 x1 x2 x3 hbl2
          cases hp : x.place == place with
          | true =>
            have E : Hid (trueL (i + 1) F = trueL i F ++ [(i : Int)]) := trueL_yes (by rw [HFi.out]; exact arcB_at hkl (by rw [← HX.out]; exact hp))
            go_wp2_with (at_builtin; refine wp_push rfl _ _ rfl rfl rfl (H5.out.1.below H6.out) rfl (by simp) (by omega) ?_; intro a2 c2 w2 h2; have NX : Hid (IR wz w2 a2 c2 (trueL (i + 1) F)) := by rw [E.out]; exact h2)
            clear h2
            have hl2 : (trueL i F).length + 1 = (trueL (i + 1) F).length := by rw [E.out, List.length_append]; rfl
            rw [hl2]
            go_roundw
            case rel => exact ⟨i + 1, a2, c2, by simp, by simp, by omega, NX⟩
            case measure => simp; omega
          | false =>
            have NX : Hid (Below w5.heap.size w5 w6 ∧ ∀ j, j < k + 1 → ((slt.getD j nilAr).place == place) = false) := ⟨H6.out, fun j hj => by
              rcases Nat.lt_succ_iff_lt_or_eq.1 hj with h | h
              · exact HJ.out.2 j h
              · rw [h, ← HX.out]; exact hp⟩
            go_wp2_with fail
            go_roundw
            case rel => exact ⟨k + 1, by simp, by simp, by omega, NX⟩
            case measure => simp; omega
        · have hkl' : ¬ (k : Int) < slt.length := by omega
          have E : Hid (trueL (i + 1) F = trueL i F) := trueL_no (by rw [HFi.out]; exact arcB_no fun j hj => HJ.out.2 j (by omega))
          have NX : Hid (IR wz wr a' c' (trueL (i + 1) F)) := by rw [E.out]; exact H5.out.1.below HJ.out.1
          have hl2 : (trueL i F).length = (trueL (i + 1) F).length := by rw [E.out]
          go_wp2_with fail
          rw [hl2]
          go_roundw
          case rel => exact ⟨i + 1, a', c', by simp, by simp, by omega, NX⟩
          case measure => simp; omega
    · have hlt' : ¬ (i : Int) < n.tasks.length := by omega
      have e : i = n.tasks.length := by omega
      rw [e] at HI ⊢
      go_wp2_with fail
      go_ret
      exact ⟨_, _, rfl, HI.out.base HZ.out.1⟩

theorem Takers_any (n : Ne) (place : Int) (w : World) (hn : NeOk w n) (hm : Sm n) : Calls Tryz.prog 23 #[.agg (netC n), .int .i64 place] w (ListPost (trueL n.tasks.length fun k => arcB (n.tasks.getD k nilTa).ins place) w) := by
  obtain ⟨wz, hwz⟩ : ∃ wz, wz = w.alloc (.cells (netC n) 26) := ⟨_, rfl⟩
  have HZ : Hid (Below w.heap.size w wz ∧ NBox wz w.heap.size n) := by rw [hwz]; exact ⟨(Below.refl _ _).alloc (Nat.le_refl _) _, NBox.new w n _⟩
  have I1 : Hid (Calls Tryz.prog 64 #[.agg (netC n), .int .i64 place, .func (.func 65) #[] #[]] wz (ListPost (trueL n.tasks.length fun k => arcB (n.tasks.getD k nilTa).ins place) wz)) :=
    tasksAt_any n place 65 Ta.ia Ta.ins Ta.ic wz (hn.below HZ.out.1) hm goes_takers1 takers1_any (fun t W h => h.2.2.2.1) fun t ht => (hm.2.2.1 t ht).2.1
  obtain ⟨c0, c1, c2, c3, c4⟩ := HZ.out.2
  unfold netC at hwz I1 ⊢
  clear hn hm
  go_enter Tryz.func23, Tryz.ntmps23
  go_upto_region 1 with fail
  rw [← hwz]
  clear hwz
  go_wp2_with fail
  refine I1.out.mono ?_
  rintro e w1 ⟨a, c, he, h1⟩
  subst he
  have H1 : Hid (IR wz w1 a c _) := h1
  clear h1
  go_wp2_with fail
  go_ret
  exact ⟨a, c, rfl, H1.out.base HZ.out.1⟩
theorem Givers_any (n : Ne) (place : Int) (w : World) (hn : NeOk w n) (hm : Sm n) : Calls Tryz.prog 24 #[.agg (netC n), .int .i64 place] w (ListPost (trueL n.tasks.length fun k => arcB (n.tasks.getD k nilTa).outs place) w) := by
  obtain ⟨wz, hwz⟩ : ∃ wz, wz = w.alloc (.cells (netC n) 26) := ⟨_, rfl⟩
  have HZ : Hid (Below w.heap.size w wz ∧ NBox wz w.heap.size n) := by rw [hwz]; exact ⟨(Below.refl _ _).alloc (Nat.le_refl _) _, NBox.new w n _⟩
  have I1 : Hid (Calls Tryz.prog 64 #[.agg (netC n), .int .i64 place, .func (.func 66) #[] #[]] wz (ListPost (trueL n.tasks.length fun k => arcB (n.tasks.getD k nilTa).outs place) wz)) :=
    tasksAt_any n place 66 Ta.oa Ta.outs Ta.oc wz (hn.below HZ.out.1) hm goes_givers1 givers1_any (fun t W h => h.2.2.2.2.1) fun t ht => (hm.2.2.1 t ht).2.2.1
  obtain ⟨c0, c1, c2, c3, c4⟩ := HZ.out.2
  unfold netC at hwz I1 ⊢
  clear hn hm
  go_enter Tryz.func24, Tryz.ntmps24
  go_upto_region 1 with fail
  rw [← hwz]
  clear hwz
  go_wp2_with fail
  refine I1.out.mono ?_
  rintro e w1 ⟨a, c, he, h1⟩
  subst he
  have H1 : Hid (IR wz w1 a c _) := h1
  clear h1
  go_wp2_with fail
  go_ret
  exact ⟨a, c, rfl, H1.out.base HZ.out.1⟩
end Go.Proofs.YtgdkomkflfodaaaGreat.Check
