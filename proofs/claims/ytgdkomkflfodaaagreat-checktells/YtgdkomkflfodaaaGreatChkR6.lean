/- The document's own first wrong colour: a contract of the call, over the turned program. -/
import Derived.Test.YtgdkomkflfodaaaGreatChkR5
import Derived.Test.YtgdkomkflfodaaaGreatMbK
namespace Go.Proofs.YtgdkomkflfodaaaGreat.Check
open Go.RowKit Go.Proofs.YtgdkomkflfodaaaGreat.Frame Go.Proofs.YtgdkomkflfodaaaGreat.Colour Go.Proofs.YtgdkomkflfodaaaGreat.Expr
set_option linter.unusedVariables false
set_option linter.unusedSimpArgs false

def wrongAt (cs : List Col) (k : Nat) : Bool := cutB cs k || badAt cs k
theorem wrong_first (cs : List Col) : FirstAt cs.length (wrongAt cs) (wrongF cs) := by
  have h1 : FirstAt cs.length (cutB cs) (rightN cs) := firstF_at (cutB cs) cs.length
  have h2 : FirstAt (rightN cs) (badAt cs) (wrongF cs) := firstF_at (badAt cs) (rightN cs)
  refine ⟨Nat.le_trans h2.1 h1.1, fun j hj => ?_, fun h => ?_⟩
  · unfold wrongAt
    rw [h1.2.1 j (Nat.lt_of_lt_of_le hj h2.1), h2.2.1 j hj]; rfl
  · unfold wrongAt
    rcases Nat.lt_or_ge (wrongF cs) (rightN cs) with g | g
    · rw [h2.2.2 g]; simp
    · have e : wrongF cs = rightN cs := Nat.le_antisymm h2.1 g
      rw [e] at h ⊢
      rw [h1.2.2 h]; rfl
def wrongZ (cs : List Col) : Int := if wrongF cs < cs.length then (wrongF cs : Int) else -1
theorem wrongZ_at {cs : List Col} {k : Nat} (hk : k < cs.length) (h0 : ∀ j, j < k → wrongAt cs j = false) (h : wrongAt cs k = true) : wrongZ cs = k := by
  have e : wrongF cs = k := (wrong_first cs).uniq ⟨Nat.le_of_lt hk, h0, fun _ => h⟩
  unfold wrongZ; rw [e, if_pos hk]
theorem wrongZ_none {cs : List Col} (h0 : ∀ j, j < cs.length → wrongAt cs j = false) : wrongZ cs = -1 := by
  have e : wrongF cs = cs.length := (wrong_first cs).uniq ⟨Nat.le_refl _, h0, fun h => absurd h (Nat.lt_irrefl _)⟩
  unfold wrongZ; rw [e, if_neg (Nat.lt_irrefl _)]
def okTo (c : Col) (b : Bool) (i : Nat) : Bool := b && (List.range i).all fun j => freeB (c.names.getD j ByteArray.empty)
theorem okTo_zero (c : Col) (b : Bool) : okTo c b 0 = b := by unfold okTo; simp
theorem okTo_succ (c : Col) (b : Bool) (i : Nat) : okTo c b (i + 1) = (okTo c b i && freeB (c.names.getD i ByteArray.empty)) := by
  unfold okTo; rw [List.range_succ, List.all_append, ← Bool.and_assoc]; simp
theorem any_range (l : List ByteArray) : (!anyF l) = (List.range l.length).all fun j => freeB (l.getD j ByteArray.empty) := by
  unfold anyF
  rw [List.not_any_eq_all_not, Bool.eq_iff_iff, List.all_eq_true, List.all_eq_true]
  constructor
  · intro h j hj
    have hj := List.mem_range.1 hj
    have := h (l.getD j ByteArray.empty) (by rw [List.getD_eq_getElem?_getD, List.getElem?_eq_getElem hj]; exact List.getElem_mem _)
    simpa using this
  · intro h x hx
    obtain ⟨j, hj, he⟩ := List.getElem_of_mem hx
    have := h j (List.mem_range.2 hj)
    rw [List.getD_eq_getElem?_getD, List.getElem?_eq_getElem hj] at this
    simp only [Option.getD_some, he] at this
    simpa using this
theorem ok_enum {cs : List Col} {k : Nat} {c : Col} (hc : c = cs.getD k nilCol) (h2 : c.kind = 2) (b : Bool) (hb : b = ((sizesF (cs.take (k + 1))).isSome && freeB c.name)) : okTo c b c.names.length = !wrongAt cs k := by
  unfold okTo wrongAt badAt colBad cutB
  rw [← any_range, hb, ← hc, h2]
  cases (sizesF (cs.take (k + 1))).isSome <;> cases freeB c.name <;> cases anyF c.names <;> rfl
theorem ok_else {cs : List Col} {k : Nat} {c : Col} (hc : c = cs.getD k nilCol) (h2 : (c.kind == 2) = false) (b : Bool) (hb : b = ((sizesF (cs.take (k + 1))).isSome && freeB c.name)) : okTo c b 0 = !wrongAt cs k := by
  rw [okTo_zero]
  unfold wrongAt badAt colBad cutB
  rw [hb, ← hc, h2]
  cases (sizesF (cs.take (k + 1))).isSome <;> cases freeB c.name <;> rfl

set_option maxRecDepth 100000 in
set_option maxHeartbeats 8000000 in
theorem rcolours_any (n : Ne) (w : World) (h : NeOk w n) (hm : Sm n) : Calls Tryz.prog 39 #[.agg #[.slice n.ca n.cols.length n.cc, .slice n.pa n.places.length n.pc, .slice n.ta n.tasks.length n.tc, .int .i64 n.frm, .int .i64 n.too]] w fun e w' => e = .returned (.int .i64 (wrongZ n.cols)) ∧ Below w.heap.size w w' := by
  obtain ⟨q, hq⟩ : ∃ q, q = w.heap.size := ⟨_, rfl⟩
  obtain ⟨wz, hwz⟩ : ∃ wz, wz = w.alloc (.cells #[.slice n.ca n.cols.length n.cc, .slice n.pa n.places.length n.pc, .slice n.ta n.tasks.length n.tc, .int .i64 n.frm, .int .i64 n.too] 26) := ⟨_, rfl⟩
  have HZ : Hid (La w wz q n) := by rw [hwz, hq]; exact ⟨(Below.refl _ _).alloc (Nat.le_refl _) _, NBox.new w n _, h.below ((Below.refl _ _).alloc (Nat.le_refl _) _)⟩
  have HM : Hid (Sm n) := hm
  have hcp : n.cols.length ≤ n.cc := h.1.2.1
  have hlm : n.cols.length ≤ 1000000 := hm.1.1
  clear h hm
  go_enter Tryz.func39, Tryz.ntmps39
  go_upto_region 1 with fail
  rw [← hwz, ← hq]
  clear hwz hq
  go_wp2_with fail
  go_loopw [3] (fun v wr => ∃ k : Nat, v = .int .i64 (k : Int) ∧ k ≤ n.cols.length ∧ Hid (La w wr q n ∧ ∀ j, j < k → wrongAt n.cols j = false)) (fun v _ => n.cols.length - (intOf v).toNat)
  case atStart => exact ⟨0, rfl, by omega, HZ.out, fun j hj => absurd hj (Nat.not_lt_zero _)⟩
  case round =>
    clear HZ
    obtain ⟨k, rfl, hk, HI⟩ := hrel
    obtain ⟨c0, c1, c2, c3, c4⟩ := HI.out.1.2.1
    by_cases hlt : k < n.cols.length
    · have hlt' : (k : Int) < n.cols.length := by omega
      have hk1 : ((k : Int) + 1) ≤ n.cc := by omega
      have hk0 : (0 : Int) ≤ (k : Int) + 1 := by omega
      obtain ⟨b, off, ha⟩ := cols_some HI.out.1.2.2.2.1 (by omega)
      obtain ⟨c, hc⟩ : ∃ c, c = n.cols.getD k nilCol := ⟨_, rfl⟩
      have HCE : Hid (c = n.cols.getD k nilCol ∧ c.names.length ≤ 1000000) := ⟨hc, HM.out.2.2.2 c (by rw [hc, List.getD_eq_getElem?_getD, List.getElem?_eq_getElem hlt]; exact List.getElem_mem _)⟩
      have HA : Hid (∀ W, La w W q n → ColAt W b (off + k * 7) c) := fun W hW => by rw [hc]; exact cols_at (by rw [← ha]; exact hW.2.2.2.1) hlt
      obtain ⟨r, hr⟩ : ∃ r, r = (sizesF (n.cols.take (k + 1))).isSome := ⟨_, rfl⟩
      have RC : Hid (Calls Tryz.prog 103 #[.slice (some ⟨b, off, none⟩) (k + 1) n.cc] wr fun e w' => e = .returned (.bool r) ∧ Below wr.heap.size wr w') := by
        have hl : (n.cols.take (k + 1)).length = k + 1 := by rw [List.length_take]; omega
        have := rright2_any (some ⟨b, off, none⟩) n.cc (n.cols.take (k + 1)) wr (by rw [hl, ← ha]; exact Cols.take HI.out.1.2.2.2.1 hlt) (fun c hc => HM.out.2.2.2 c (List.mem_of_mem_take hc))
        rw [hl, ← hr] at this
        exact this
      obtain ⟨f, hf⟩ : ∃ f, f = freeB c.name := ⟨_, rfl⟩
      have FC : Hid (∀ W, Calls Tryz.prog 43 #[.string c.name] W fun e w' => e = .returned (.bool f) ∧ Below W.heap.size W w') := fun W => by rw [hf]; exact rfree_any c.name W
      obtain ⟨b0, hb0⟩ : ∃ b0, b0 = (r && f) := ⟨_, rfl⟩
      have HB0 : Hid (b0 = ((sizesF (n.cols.take (k + 1))).isSome && freeB c.name)) := by rw [Hid, hb0, hr, hf]
      rw [ha] at c0
      have HAE : Hid (n.ca = some ⟨b, off, none⟩) := ha
      clear hc hr hf ha
      go_upto_region 4 with fail
      go_cut [4] from 6 to 63 (fun s wc => s = .bool b0 ∧ Hid (La w wc q n))
      case first =>
        cases r with
        | false =>
          go_wp2_with fail
          refine RC.out.mono ?_
          rintro e w1 ⟨he, hb⟩
          subst he
          have NX : Hid (La w w1 q n) := HI.out.1.on hb
          clear hb RC c0 c1 c2 c3 c4
          go_wp2_with fail
          go_meet
          exact ⟨by rw [hb0]; rfl, NX⟩
        | true =>
          go_wp2_with fail
          refine RC.out.mono ?_
          rintro e w1 ⟨he, hb⟩
          subst he
          have H1 : Hid (La w w1 q n) := HI.out.1.on hb
          clear hb RC c0 c1 c2 c3 c4
          obtain ⟨c0, c1, c2, c3, c4⟩ := H1.out.2.1
          rw [HAE.out] at c0
          obtain ⟨⟨d0, d1, d2, d3, d4, d5, d6⟩, hst, _⟩ := HA.out w1 H1.out
          clear hst
          go_wp2_with fail
          refine (FC.out _).mono ?_
          rintro e w2 ⟨he, hb⟩
          subst he
          have NX : Hid (La w w2 q n) := H1.out.on hb
          clear hb FC c0 c1 c2 c3 c4 d0 d1 d2 d3 d4 d5 d6
          go_wp2_with fail
          go_meet
          exact ⟨by rw [hb0]; rfl, NX⟩
      case rest =>
        obtain ⟨rfl, HW⟩ := hcut
        clear hb0 RC FC c0 c1 c2 c3 c4
        have hcl : c.names.length ≤ 1000000 := HCE.out.2
        go_wp2_with fail
        go_loopw [4, 5] (fun u v wv => ∃ (ok : Bool) (i : Nat), u = .bool ok ∧ v = .int .i64 (i : Int) ∧ i ≤ c.names.length ∧ (c.kind = 2 ∨ i = 0) ∧ Hid (La w wv q n ∧ ok = okTo c b0 i)) (fun _ v _ => c.names.length - (intOf v).toNat)
        case atStart => exact ⟨b0, 0, rfl, rfl, by omega, .inr rfl, HW.out, (okTo_zero c b0).symm⟩
        case round =>
          clear HW
          obtain ⟨ok, i, rfl, rfl, hi, hk2, HK⟩ := hrel
          obtain ⟨c0, c1, c2, c3, c4⟩ := HK.out.1.2.1
          rw [HAE.out] at c0
          obtain ⟨⟨d0, d1, d2, d3, d4, d5, d6⟩, hst, _⟩ := HA.out wr HK.out.1
          by_cases h2 : c.kind = 2
          · have H2 : Hid (c.kind = 2) := h2
            rw [h2] at d1
            clear h2 hk2
            by_cases hil : i < c.names.length
            · have hil' : (i : Int) < c.names.length := by omega
              obtain ⟨bn, on, hna⟩ := str_some hst (by omega)
              have e0 := str_at hst hna hil
              rw [hna] at d4
              obtain ⟨s, hs⟩ : ∃ s, s = c.names.getD i ByteArray.empty := ⟨_, rfl⟩
              rw [← hs] at e0
              obtain ⟨g, hg⟩ : ∃ g, g = freeB s := ⟨_, rfl⟩
              have SC : Hid (∀ W, Calls Tryz.prog 43 #[.string s] W fun e w' => e = .returned (.bool g) ∧ Below W.heap.size W w') := fun W => by rw [hg]; exact rfree_any s W
              have NX : Hid ((ok && g) = okTo c b0 (i + 1)) := by rw [Hid, okTo_succ, ← HK.out.2, hg, hs]
              clear hna hs hg hst d0 d2 d3 d5 d6
              cases ok with
              | false =>
                go_wp2_with fail
                go_roundw
                case rel => first | exact ⟨false, i + 1, by simp, by simp, by omega, .inl H2.out, HK.out.1, NX.out⟩ | exact ⟨_, _, _, ⟨false, i + 1, by simp, by go_num, by omega, .inl H2.out, HK.out.1, NX.out⟩, rfl, rfl, rfl⟩
                all_goals (simp [intOf]; omega)
              | true =>
                go_wp2_with fail
                refine (SC.out _).mono ?_
                rintro e w2 ⟨he, hb⟩
                subst he
                have N2 : Hid (La w w2 q n) := HK.out.1.on hb
                clear hb SC c0 c1 c2 c3 c4 d1 d4 e0
                go_wp2_with fail
                go_roundw
                case rel => first | exact ⟨g, i + 1, by simp, by simp, by omega, .inl H2.out, N2.out, NX.out⟩ | exact ⟨_, _, _, ⟨g, i + 1, by simp, by go_num, by omega, .inl H2.out, N2.out, NX.out⟩, rfl, rfl, rfl⟩
                all_goals (simp [intOf]; omega)
            · have hil' : ¬ (i : Int) < c.names.length := by omega
              have E : Hid (ok = !wrongAt n.cols k) := by have e : i = c.names.length := (by omega); rw [Hid, HK.out.2, e]; exact ok_enum HCE.out.1 H2.out b0 HB0.out
              clear hst d0 d1 d2 d3 d5 d6
              cases ok with
              | false =>
                have Z : Hid (wrongZ n.cols = k) := wrongZ_at hlt HI.out.2 (by have := E.out; revert this; cases wrongAt n.cols k <;> simp)
                have HE : Hid (Below w.heap.size w wr) := HK.out.1.1
                go_wp2_with fail
                go_ret
                exact ⟨by rw [Z.out]; try rfl, HE.out⟩
              | true =>
                have NW : Hid (∀ j, j < k + 1 → wrongAt n.cols j = false) := fun j hj => by
                  rcases Nat.lt_succ_iff_lt_or_eq.1 hj with h | h
                  · exact HI.out.2 j h
                  · rw [h]; have := E.out; revert this; cases wrongAt n.cols k <;> simp
                go_wp2_with fail
                go_roundw
                case rel => first | exact ⟨k + 1, by simp, by omega, HK.out.1, NW.out⟩ | exact ⟨_, _, ⟨k + 1, by go_num, by omega, HK.out.1, NW.out⟩, rfl, rfl⟩
                all_goals (simp [intOf]; omega)
          · have hi0 : i = 0 := by omega
            subst hi0
            have h2' : (c.kind == 2) = false := beq_eq_false_iff_ne.2 h2
            by_cases hl0 : 0 < c.names.length
            · have hl0' : (0 : Int) < c.names.length := by omega
              have E : Hid (ok = !wrongAt n.cols k) := by rw [Hid, HK.out.2]; exact ok_else HCE.out.1 h2' b0 HB0.out
              clear hst d0 d2 d3 d5 d6
              cases ok with
              | false =>
                have Z : Hid (wrongZ n.cols = k) := wrongZ_at hlt HI.out.2 (by have := E.out; revert this; cases wrongAt n.cols k <;> simp)
                have HE : Hid (Below w.heap.size w wr) := HK.out.1.1
                go_wp2_with fail
                go_ret
                exact ⟨by rw [Z.out]; try rfl, HE.out⟩
              | true =>
                have NW : Hid (∀ j, j < k + 1 → wrongAt n.cols j = false) := fun j hj => by
                  rcases Nat.lt_succ_iff_lt_or_eq.1 hj with h | h
                  · exact HI.out.2 j h
                  · rw [h]; have := E.out; revert this; cases wrongAt n.cols k <;> simp
                go_wp2_with fail
                go_roundw
                case rel => first | exact ⟨k + 1, by simp, by omega, HK.out.1, NW.out⟩ | exact ⟨_, _, ⟨k + 1, by go_num, by omega, HK.out.1, NW.out⟩, rfl, rfl⟩
                all_goals (simp [intOf]; omega)
            · have hl0' : ¬ (0 : Int) < c.names.length := by omega
              have E : Hid (ok = !wrongAt n.cols k) := by rw [Hid, HK.out.2]; exact ok_else HCE.out.1 h2' b0 HB0.out
              clear hst d0 d2 d3 d5 d6
              cases ok with
              | false =>
                have Z : Hid (wrongZ n.cols = k) := wrongZ_at hlt HI.out.2 (by have := E.out; revert this; cases wrongAt n.cols k <;> simp)
                have HE : Hid (Below w.heap.size w wr) := HK.out.1.1
                go_wp2_with fail
                go_ret
                exact ⟨by rw [Z.out]; try rfl, HE.out⟩
              | true =>
                have NW : Hid (∀ j, j < k + 1 → wrongAt n.cols j = false) := fun j hj => by
                  rcases Nat.lt_succ_iff_lt_or_eq.1 hj with h | h
                  · exact HI.out.2 j h
                  · rw [h]; have := E.out; revert this; cases wrongAt n.cols k <;> simp
                go_wp2_with fail
                go_roundw
                case rel => first | exact ⟨k + 1, by simp, by omega, HK.out.1, NW.out⟩ | exact ⟨_, _, ⟨k + 1, by go_num, by omega, HK.out.1, NW.out⟩, rfl, rfl⟩
                all_goals (simp [intOf]; omega)
    · have hlt' : ¬ (k : Int) < n.cols.length := by omega
      have E : Hid (wrongZ n.cols = -1) := wrongZ_none fun j hj => HI.out.2 j (by omega)
      have HE : Hid (Below w.heap.size w wr) := HI.out.1.1
      go_wp2_with fail
      go_ret
      exact ⟨by rw [E.out]; try rfl, HE.out⟩
end Go.Proofs.YtgdkomkflfodaaaGreat.Check
