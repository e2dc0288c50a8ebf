/- The document's own sizes of layer 2: a contract of the call, over the turned program. -/
import Derived.Test.YtgdkomkflfodaaaGreatChkR3
import Derived.Test.YtgdkomkflfodaaaGreatMaR
import Derived.Deep.CutRange
import Derived.Deep.CutBlock
namespace Go.Proofs.YtgdkomkflfodaaaGreat.Check
open Go.RowKit Go.Proofs.YtgdkomkflfodaaaGreat.Frame Go.Proofs.YtgdkomkflfodaaaGreat.Colour Go.Proofs.YtgdkomkflfodaaaGreat.Expr
set_option linter.unusedVariables false
set_option linter.unusedSimpArgs false

/-- what the document reckons of a colour -/
def refN (c : Col) (acc : List Int) : Int :=
  if c.kind = 1 then (if c.lo ≤ c.hi ∧ (0 ≤ c.lo ∨ c.hi < c.lo + 1024) then min (c.hi - c.lo) 1024 + 1 else 0)
  else if c.kind = 2 then (if allB c.names then c.names.length else 0)
  else if c.kind = 3 then (if (0 ≤ c.first ∧ c.first < acc.length) ∧ 0 ≤ c.thn ∧ c.thn < acc.length then acc.getD c.first.toNat 0 * acc.getD c.thn.toNat 0 else 0)
  else 0
theorem within_iff (i : Int) (n : Nat) : withinB i n = true ↔ 0 ≤ i ∧ i < n := by unfold withinB; simp
theorem refN_is (c : Col) (acc : List Int) : (refN c acc = sizeOfF c acc) ∨ ((refN c acc < 1 ∨ 1024 < refN c acc) ∧ (sizeOfF c acc < 1 ∨ 1024 < sizeOfF c acc)) := by
  unfold refN sizeOfF
  by_cases h1 : c.kind = 1
  · rw [if_pos h1, if_pos h1]
    unfold intSizeF
    split <;> split <;> omega
  rw [if_neg h1, if_neg h1]
  by_cases h2 : c.kind = 2
  · rw [if_pos h2, if_pos h2]
    by_cases hl : 1024 < c.names.length
    · rw [if_pos hl]
      split <;> omega
    · rw [if_neg hl]
      exact .inl rfl
  rw [if_neg h2, if_neg h2]
  by_cases h3 : c.kind = 3
  · rw [if_pos h3, if_pos h3]
    left
    by_cases hw : (0 ≤ c.first ∧ c.first < acc.length) ∧ 0 ≤ c.thn ∧ c.thn < acc.length
    · rw [if_pos hw, if_pos (by rw [Bool.and_eq_true, within_iff, within_iff]; exact hw)]
    · rw [if_neg hw, if_neg (by rw [Bool.and_eq_true, within_iff, within_iff]; exact hw)]
  · rw [if_neg h3, if_neg h3]
    exact .inl rfl
def SizesPost (cs : List Col) (w : World) (e : Ending) (w' : World) : Prop := (∃ ns a c, sizesF cs = some ns ∧ e = .returned (.slice a ns.length c) ∧ IR w w' a c ns) ∨ (sizesF cs = none ∧ e = .returned (.slice none 0 0) ∧ Below w.heap.size w w')
def colNames (cs : List Col) : List ByteArray := cs.map (·.name)
theorem colNames_at {cs : List Col} {i : Nat} (hi : i < cs.length) : (colNames cs).getD i ByteArray.empty = (cs.getD i nilCol).name := by
  unfold colNames
  rw [List.getD_eq_getElem?_getD, List.getElem?_map, List.getD_eq_getElem?_getD, List.getElem?_eq_getElem hi]; rfl
theorem cols_some {w : World} {a : Option Addr} {cs : List Col} (h : Cols w a cs.length cs) (hz : 0 < cs.length) : ∃ b off, a = some ⟨b, off, none⟩ := by
  rcases h.2 with h0 | ⟨b', off', ha', hc⟩
  · omega
  · exact ⟨b', off', ha'⟩
theorem cols_at {w : World} {b off : Nat} {cs : List Col} (h : Cols w (some ⟨b, off, none⟩) cs.length cs) {j : Nat} (hj : j < cs.length) : ColAt w b (off + j * 7) (cs.getD j nilCol) := by
  rcases h.2 with h0 | ⟨b', off', ha', hc⟩
  · omega
  · cases ha'
    exact hc j hj
/-- what holds between two rounds -/
def SI (cs : List Col) (i : Nat) (acc : List Int) : Prop := goSizes (cs.drop i) acc = goSizes cs [] ∧ ((∀ j, j < i → newB (colNames cs) j = true) ∧ ∀ z, z ∈ acc → 0 ≤ z ∧ z ≤ 1024) ∧ acc.length = i
theorem SI.end_ {cs : List Col} {i : Nat} {acc : List Int} (h : SI cs i acc) (hi : cs.length ≤ i) (hl : cs.length ≤ 32) : sizesF cs = some acc := by
  refine sizesF_good hl (by rw [← h.1]; exact go_end cs i acc hi) (allB_of fun j hj => h.2.1.1 j ?_)
  unfold colNames at hj
  rw [List.length_map] at hj
  omega
theorem SI.name {cs : List Col} {i : Nat} {acc : List Int} (h : SI cs i acc) (hi : i < cs.length) (hn : newB (colNames cs) i = false) : sizesF cs = none :=
  sizesF_names (allB_not (i := i) (by rw [List.length_map]; exact hi) hn)
theorem SI.bad {cs : List Col} {i : Nat} {acc : List Int} (h : SI cs i acc) (hi : i < cs.length) (hb : refN (cs.getD i nilCol) acc < 1 ∨ 1024 < refN (cs.getD i nilCol) acc) : sizesF cs = none := by
  refine sizesF_bad (h.1.symm.trans (go_bad cs i acc hi ?_))
  rcases refN_is (cs.getD i nilCol) acc with g | g
  · rw [← g]; exact hb
  · exact g.2
theorem SI.next {cs : List Col} {i : Nat} {acc : List Int} (h : SI cs i acc) (hi : i < cs.length) (h1 : 1 ≤ refN (cs.getD i nilCol) acc) (h2 : refN (cs.getD i nilCol) acc ≤ 1024) (hn : newB (colNames cs) i = true) : SI cs (i + 1) (acc ++ [refN (cs.getD i nilCol) acc]) := by
  have e : refN (cs.getD i nilCol) acc = sizeOfF (cs.getD i nilCol) acc := by
    rcases refN_is (cs.getD i nilCol) acc with g | g
    · exact g
    · omega
  rw [e] at h1 h2 ⊢
  refine ⟨by rw [← go_next cs i acc hi h1 h2]; exact h.1, ⟨fun j hj => ?_, fun z hz => ?_⟩, by rw [List.length_append, h.2.2]; rfl⟩
  rotate_left 1
  · rcases List.mem_append.1 hz with g | g
    · exact h.2.1.2 z g
    · rw [List.mem_singleton] at g; omega
  rcases Nat.lt_succ_iff_lt_or_eq.1 hj with g | g
  · exact h.2.1.1 j g
  · rw [g]; exact hn
theorem acc_mem {l : List Int} {j : Nat} (hj : j < l.length) : l.getD j 0 ∈ l := by
  rw [List.getD_eq_getElem?_getD, List.getElem?_eq_getElem hj]; exact List.getElem_mem _
theorem IR.cell {W0 wr : World} {a : Option Addr} {c : Nat} {l : List Int} (h : IR W0 wr a c l) {b off : Nat} (ha : a = some ⟨b, off, none⟩) {j : Nat} (hj : j < l.length) : wr.cell? ⟨b, off + j, none⟩ = some (.int .i64 (l.getD j 0)) := by
  subst ha
  have h1 := h.1.2
  rcases h1 with ⟨_, h0⟩ | ⟨g, cap, cur, hv, _⟩
  · omega
  · simp only [Value.slice.injEq, Option.some.injEq, Addr.mk.injEq] at hv
    obtain ⟨⟨rfl, rfl, _⟩, _⟩ := hv
    rw [Nat.zero_add, h.1.cellAt j (by omega)]
    unfold ints
    rw [List.getElem?_map, List.getD_eq_getElem?_getD, List.getElem?_eq_getElem hj]; rfl
theorem IR.some_ {W0 wr : World} {a : Option Addr} {c : Nat} {l : List Int} (h : IR W0 wr a c l) (hl : 0 < l.length) : ∃ b off, a = some ⟨b, off, none⟩ := by
  rcases h.1.2 with ⟨_, h0⟩ | ⟨g, cap, cur, hv, _⟩
  · omega
  · simp only [Value.slice.injEq] at hv
    exact ⟨g, 0, hv.1⟩
set_option maxRecDepth 100000 in
set_option maxHeartbeats 16000000 in
theorem rsizes2 (a : Option Addr) (cap : Nat) (cs : List Col) (w : World) (h : Cols w a cs.length cs) (hm : ∀ c, c ∈ cs → c.names.length ≤ 1000000) :
    Calls Tryz.prog 106 #[.slice a cs.length cap] w (SizesPost cs w) := by
  obtain ⟨L, hL⟩ : ∃ L, L = cs.length := ⟨_, rfl⟩
  have HLL : Hid (L = cs.length ∧ Cols w a cs.length cs ∧ ∀ c, c ∈ cs → c.names.length ≤ 1000000) := ⟨hL, h, hm⟩
  rw [← hL]
  by_cases h32 : 32 < L
  · have N : Hid (sizesF cs = none) := sizesF_long (by omega)
    have h32' : (32 : Int) < L := by omega
    clear h hL hm
    go_enter Tryz.func106, Tryz.ntmps106
    go_wp2
    go_ret
    exact .inr ⟨N.out, rfl, Below.refl _ _⟩
  have h32' : ¬ (32 : Int) < L := by omega
  clear h hL hm
  go_enter Tryz.func106, Tryz.ntmps106
  go_wp2
  go_loopw [3, 4] (fun u v wr => ∃ (i : Nat) (acc : List Int) (oa : Option Addr) (oc : Nat), u = .slice oa i oc ∧ v = .int .i64 (i : Int) ∧ i ≤ L ∧ Hid (IR w wr oa oc acc ∧ SI cs i acc)) (fun _ v _ => L - (intOf v).toNat)
  case atStart => exact ⟨0, [], none, 0, rfl, rfl, by omega, IR.nil w w (Below.refl _ _), rfl, ⟨fun j hj => absurd hj (Nat.not_lt_zero _), fun z hz => by cases hz⟩, rfl⟩
  case round =>
    obtain ⟨i, acc, oa, oc, rfl, rfl, hi, HI⟩ := hrel
    by_cases hlt : i < L
    · have hlt' : (i : Int) < L := by omega
      have HLT : Hid (i < cs.length ∧ acc.length = i) := ⟨by rw [← HLL.out.1]; exact hlt, HI.out.2.2.2⟩
      obtain ⟨b, off, ha⟩ := cols_some HLL.out.2.1 (by have := HLT.out.1; omega)
      subst ha
      have HC : Hid (∀ W, Below w.heap.size w W → ∀ j, j < L → ColAt W b (off + j * 7) (cs.getD j nilCol)) := fun W hW j hj => cols_at (HLL.out.2.1.below hW) (by rw [← HLL.out.1]; exact hj)
      obtain ⟨⟨e0, e1, e2, e3, e4, e5, e6⟩, hst, hi6⟩ := HC.out wr HI.out.1.2 i hlt
      have hnl : (cs.getD i nilCol).names.length ≤ 1000000 := HLL.out.2.2 _ (by rw [List.getD_eq_getElem?_getD, List.getElem?_eq_getElem HLT.out.1]; exact List.getElem_mem _)
      obtain ⟨c, hc⟩ : ∃ c, c = cs.getD i nilCol := ⟨_, rfl⟩
      rw [← hc] at e0 e1 e2 e3 e4 e5 e6 hst hi6 hnl
      have HCE : Hid (c = cs.getD i nilCol ∧ (colNames cs).getD i ByteArray.empty = c.name) := ⟨hc, by rw [colNames_at HLT.out.1, hc]⟩
      have HST : Hid (Strs wr c.na c.names.length c.names ∧ Ints64 c) := ⟨hst, hi6⟩
      have hbl : b < wr.heap.size := World.block_lt_of_cell? _ _ e0
      clear hst hi6 hc
      go_upto_region 8 with fail
      obtain ⟨w4, hw4⟩ : ∃ w4, w4 = wr.alloc (.cells #[.string c.name, .int .i64 c.kind, .int .i64 c.lo, .int .i64 c.hi, .slice c.na c.names.length c.nc, .int .i64 c.first, .int .i64 c.thn] 62) := ⟨_, rfl⟩
      obtain ⟨q, hq⟩ : ∃ q, q = wr.heap.size := ⟨_, rfl⟩
      have hb4 : Below wr.heap.size wr w4 := by rw [hw4]; exact (Below.refl _ _).alloc (Nat.le_refl _) _
      have HR : Hid (∀ j v, (#[.string c.name, .int .i64 c.kind, .int .i64 c.lo, .int .i64 c.hi, .slice c.na c.names.length c.nc, .int .i64 c.first, .int .i64 c.thn] : Array Value)[j]? = some v → w4.cell? ⟨q, j, none⟩ = some v) := fun j v hv => by
        rw [hw4, World.cell?_alloc_at _ _ _ _ hq]; exact hv
      have H4 : Hid (IR w w4 oa oc acc ∧ Strs w4 c.na c.names.length c.names) := ⟨HI.out.1.below hb4, HST.out.1.below hb4⟩
      have HSI : Hid (SI cs i acc) := HI.out.2
      rw [← hw4, ← hq]
      clear hw4 hq e0 e1 e2 e3 e4 e5 e6 hbl hb4 HI
      have HBX : Below w4.heap.size w4 w4 := Below.refl _ _
      have d0 : w4.cell? ⟨q, 0, none⟩ = some (.string c.name) := box_below (HR.out 0 _ rfl) HBX
      obtain ⟨b0, hb0⟩ : ∃ b0, b0 = nameB c.name := ⟨_, rfl⟩
      have NC : Hid (∀ W, Calls Tryz.prog 104 #[.string c.name] W fun e w' => e = .returned (.bool b0) ∧ w' = W) := fun W => by rw [hb0]; exact rname2 c.name W
      have HB0 : Hid (b0 = newTo (colNames cs) i 0) := by rw [Hid, newTo_zero, hb0, HCE.out.2]
      clear hb0 HBX
      go_wp2_with fail
      refine (NC.out _).mono ?_
      rintro e w5 ⟨he, hw⟩
      subst he
      have hw := hw.symm
      subst hw
      clear NC d0
      go_wp2_with fail
      go_loopw [6, 7] (fun u v wv => ∃ (ok : Bool) (k : Nat), u = .bool ok ∧ v = .int .i64 (k : Int) ∧ k ≤ i ∧ Hid (Below w4.heap.size w4 wv ∧ ok = newTo (colNames cs) i k)) (fun _ v _ => i - (intOf v).toNat)
      case atStart => exact ⟨b0, 0, rfl, rfl, by omega, Below.refl _ _, HB0.out⟩
      case round =>
        obtain ⟨ok, k, rfl, rfl, hk, HK⟩ := hrel
        by_cases hki : k < i
        · have hki' : (k : Int) < i := by omega
          have hkl' : (k : Int) < L := by omega
          have DN : Hid (∀ n, Below w4.heap.size w4 (wr.drewN n)) := fun n => dn' HK.out.1 n
          cases ok with
          | false =>
            have NX : Hid (false = newTo (colNames cs) i (k + 1)) := by rw [Hid, newTo_succ, ← HK.out.2]; rfl
            go_wp2_with fail
            go_quiet (fail)
            go_wp2_with fail
            go_roundw
            case rel => first | exact ⟨false, k + 1, by simp, by simp, by omega, DN.out _, NX.out⟩ | exact ⟨_, _, _, ⟨false, k + 1, by simp, by go_num, by omega, DN.out _, NX.out⟩, rfl, rfl, rfl⟩
            all_goals (simp [intOf]; omega)
          | true =>
            have HBX := HK.out.1
            have d0 : wr.cell? ⟨q, 0, none⟩ = some (.string c.name) := box_below (HR.out 0 _ rfl) HBX
            clear HBX
            obtain ⟨⟨f0, _, _, _, _, _, _⟩, _, _⟩ := HC.out wr (then_ H4.out.1.2 HK.out.1) k (by omega)
            obtain ⟨s2, hs2⟩ : ∃ s2, s2 = (cs.getD k nilCol).name := ⟨_, rfl⟩
            rw [← hs2] at f0
            have HS2 : Hid (s2 = (colNames cs).getD k ByteArray.empty) := by rw [Hid, colNames_at (by have := HLT.out.1; omega), hs2]
            clear hs2
            cases hq : (s2.toList == c.name.toList) with
            | false =>
              have hq' : (s2.toList != c.name.toList) = true := by rw [bne, hq]; rfl
              have NX : Hid (true = newTo (colNames cs) i (k + 1)) := by rw [Hid, newTo_succ, ← HK.out.2, ← HS2.out, HCE.out.2, eqT, hq]; rfl
              go_wp2_with fail
              go_quiet (fail)
              go_wp2_with fail
              go_roundw
              case rel => first | exact ⟨true, k + 1, by simp, by simp, by omega, DN.out _, NX.out⟩ | exact ⟨_, _, _, ⟨true, k + 1, by simp, by go_num, by omega, DN.out _, NX.out⟩, rfl, rfl, rfl⟩
              all_goals (simp [intOf]; omega)
            | true =>
              have hq' : (s2.toList != c.name.toList) = false := by rw [bne, hq]; rfl
              have NX : Hid (false = newTo (colNames cs) i (k + 1)) := by rw [Hid, newTo_succ, ← HK.out.2, ← HS2.out, HCE.out.2, eqT, hq]; rfl
              go_wp2_with fail
              go_quiet (fail)
              go_wp2_with fail
              go_roundw
              case rel => first | exact ⟨false, k + 1, by simp, by simp, by omega, DN.out _, NX.out⟩ | exact ⟨_, _, _, ⟨false, k + 1, by simp, by go_num, by omega, DN.out _, NX.out⟩, rfl, rfl, rfl⟩
              all_goals (simp [intOf]; omega)
        · have hki' : ¬ (k : Int) < i := by omega
          have HOK : Hid (ok = newB (colNames cs) i) := by
            have e : k = i := by omega
            have h2 := HK.out.2
            rw [e] at h2
            rw [Hid, ← newTo_all]
            exact h2
          have HK1 : Hid (Below w4.heap.size w4 wr) := HK.out.1
          obtain ⟨N, hN⟩ : ∃ N, N = refN c acc := ⟨_, rfl⟩
          have HN : Hid (N = refN c acc) := hN
          clear hN HK
          have d1 : wr.cell? ⟨q, 1, none⟩ = some (.int .i64 c.kind) := box_below (HR.out 1 _ rfl) HK1.out
          go_upto_block 4 with (fail)
          go_cut [8] from 42 to 112 (fun s wc => s = .int .i64 N ∧ Hid (Below w4.heap.size w4 wc))
          case first =>
            have HBX := HK1.out
            have d2 : wr.cell? ⟨q, 2, none⟩ = some (.int .i64 c.lo) := box_below (HR.out 2 _ rfl) HBX
            have d3 : wr.cell? ⟨q, 3, none⟩ = some (.int .i64 c.hi) := box_below (HR.out 3 _ rfl) HBX
            have d4 : wr.cell? ⟨q, 4, none⟩ = some (.slice c.na c.names.length c.nc) := box_below (HR.out 4 _ rfl) HBX
            have d5 : wr.cell? ⟨q, 5, none⟩ = some (.int .i64 c.first) := box_below (HR.out 5 _ rfl) HBX
            have d6 : wr.cell? ⟨q, 6, none⟩ = some (.int .i64 c.thn) := box_below (HR.out 6 _ rfl) HBX
            clear HBX
            by_cases k1 : c.kind = 1
            · have hv : N = (if c.lo ≤ c.hi ∧ (0 ≤ c.lo ∨ c.hi < c.lo + 1024) then min (c.hi - c.lo) 1024 + 1 else 0) := by rw [HN.out]; unfold refN; rw [if_pos k1]
              have k1b : (c.kind == 1) = true := by rw [k1]; rfl
              clear k1
              obtain ⟨⟨lo1, lo2⟩, hi1, hi2⟩ := HST.out.2
              by_cases g1 : c.lo ≤ c.hi
              · by_cases g2 : 0 ≤ c.lo
                · have HV : Hid (N = min (c.hi - c.lo) 1024 + 1) := by rw [Hid, hv, if_pos ⟨g1, .inl g2⟩]
                  clear hv d4 d5 d6
                  go_wp2_with fail
                  go_meet
                  exact ⟨by rw [HV.out], HK1⟩
                · by_cases g3 : c.hi < c.lo + 1024
                  · have HV : Hid (N = min (c.hi - c.lo) 1024 + 1) := by rw [Hid, hv, if_pos ⟨g1, .inr g3⟩]
                    clear hv d4 d5 d6
                    go_wp2_with fail
                    go_meet
                    exact ⟨by rw [HV.out], HK1⟩
                  · have HV : Hid (N = 0) := by rw [Hid, hv, if_neg (by omega)]
                    clear hv d4 d5 d6
                    go_wp2_with fail
                    go_meet
                    exact ⟨by rw [HV.out], HK1⟩
              · have HV : Hid (N = 0) := by rw [Hid, hv, if_neg (by omega)]
                clear hv d4 d5 d6
                go_wp2_with fail
                go_meet
                exact ⟨by rw [HV.out], HK1⟩
            have k1' : (c.kind == 1) = false := beq_eq_false_iff_ne.2 k1
            by_cases k2 : c.kind = 2
            · have hv : N = (if allB c.names then (c.names.length : Int) else 0) := by rw [HN.out]; unfold refN; rw [if_neg k1, if_pos k2]
              have k2b : (c.kind == 2) = true := by rw [k2]; rfl
              clear k2
              obtain ⟨ba, hba⟩ : ∃ ba, ba = allB c.names := ⟨_, rfl⟩
              have NC : Hid (Calls Tryz.prog 128 #[.slice c.na c.names.length c.nc] wr fun e w' => e = .returned (.bool ba) ∧ Below wr.heap.size wr w') := by rw [hba]; exact rnames2 c.na c.nc c.names wr (H4.out.2.below HK1.out) hnl
              rw [← hba] at hv
              clear hba d2 d3 d5 d6 k1
              cases ba with
              | true =>
                have HV : Hid (N = c.names.length) := by rw [Hid, hv]; rfl
                clear hv
                go_wp2_with fail
                refine NC.out.mono ?_
                rintro e w6 ⟨he, hb6⟩
                subst he
                have HB6 : Hid (Below w4.heap.size w4 w6) := then_ HK1.out hb6
                have HBX := HB6.out
                clear hb6 NC d1 d4
                have d4 : w6.cell? ⟨q, 4, none⟩ = some (.slice c.na c.names.length c.nc) := box_below (HR.out 4 _ rfl) HBX
                clear HBX
                go_wp2_with fail
                go_meet
                exact ⟨by rw [HV.out], HB6⟩
              | false =>
                have HV : Hid (N = 0) := by rw [Hid, hv]; rfl
                clear hv
                go_wp2_with fail
                refine NC.out.mono ?_
                rintro e w6 ⟨he, hb6⟩
                subst he
                have HB6 : Hid (Below w4.heap.size w4 w6) := then_ HK1.out hb6
                clear hb6 NC d1 d4
                go_wp2_with fail
                go_meet
                exact ⟨by rw [HV.out], HB6⟩
            have k2' : (c.kind == 2) = false := beq_eq_false_iff_ne.2 k2
            by_cases k3 : c.kind = 3
            · have hv : N = (if (0 ≤ c.first ∧ c.first < acc.length) ∧ 0 ≤ c.thn ∧ c.thn < acc.length then acc.getD c.first.toNat 0 * acc.getD c.thn.toNat 0 else 0) := by rw [HN.out]; unfold refN; rw [if_neg k1, if_neg k2, if_pos k3]
              have k3b : (c.kind == 3) = true := by rw [k3]; rfl
              clear k3
              rw [HLT.out.2] at hv
              by_cases g1 : 0 ≤ c.first
              · by_cases g2 : c.first < i
                · by_cases g3 : 0 ≤ c.thn
                  · by_cases g4 : c.thn < i
                    · have HV : Hid (N = acc.getD c.first.toNat 0 * acc.getD c.thn.toNat 0) := by rw [Hid, hv, if_pos ⟨⟨g1, g2⟩, g3, g4⟩]
                      obtain ⟨b3, o3, ho⟩ := H4.out.1.some_ (by rw [HLT.out.2]; omega)
                      have HO : Hid (oa = some ⟨b3, o3, none⟩) := ho
                      obtain ⟨f, hf⟩ : ∃ f : Nat, c.first = f := ⟨c.first.toNat, by omega⟩
                      obtain ⟨g, hg⟩ : ∃ g : Nat, c.thn = g := ⟨c.thn.toNat, by omega⟩
                      have x0 : wr.cell? ⟨b3, o3 + f, none⟩ = some (.int .i64 (acc.getD f 0)) := (H4.out.1.below HK1.out).cell ho (by rw [HLT.out.2]; omega)
                      have x1 : wr.cell? ⟨b3, o3 + g, none⟩ = some (.int .i64 (acc.getD g 0)) := (H4.out.1.below HK1.out).cell ho (by rw [HLT.out.2]; omega)
                      rw [hf] at d5 g2
                      rw [hg] at d6 g4
                      rw [hf, hg] at HV
                      have hfl : (f : Int) < i := g2
                      have hgl : (g : Int) < i := g4
                      obtain ⟨y0, hy0⟩ : ∃ y0, y0 = acc.getD f 0 := ⟨_, rfl⟩
                      obtain ⟨y1, hy1⟩ : ∃ y1, y1 = acc.getD g 0 := ⟨_, rfl⟩
                      have HV2 : Hid (N = y0 * y1 ∧ (0 ≤ y0 ∧ y0 ≤ 1024) ∧ 0 ≤ y1 ∧ y1 ≤ 1024) := ⟨by rw [hy0, hy1]; exact HV.out, by rw [hy0]; exact HSI.out.2.1.2 _ (acc_mem (by rw [HLT.out.2]; omega)), by rw [hy1]; exact HSI.out.2.1.2 _ (acc_mem (by rw [HLT.out.2]; omega))⟩
                      have mw : IntKind.i64.wrap (y0 * y1) = y0 * y1 := by
                        obtain ⟨_, ⟨a1, a2⟩, a3, a4⟩ := HV2.out
                        have p1 : 0 ≤ y0 * y1 := Int.mul_nonneg a1 a3
                        have p2 : y0 * y1 ≤ 1024 * 1024 := Int.mul_le_mul a2 a4 a3 (by omega)
                        exact wrap_id (by omega) (by omega)
                      rw [← hy0] at x0
                      rw [← hy1] at x1
                      subst ho
                      have DN : Hid (∀ n, Below w4.heap.size w4 (wr.drewN n)) := fun n => dn' HK1.out n
                      clear hv d2 d3 d4 hf hg HV hy0 hy1 g1 g3 k1 k2
                      go_wp2_with fail
                      go_quiet (fail)
                      go_wp2_with fail
                      go_meet
                      exact ⟨by rw [HV2.out.1], DN.out _⟩
                    · have HV : Hid (N = 0) := by rw [Hid, hv, if_neg (by omega)]
                      clear hv d2 d3 d4
                      go_wp2_with fail
                      go_meet
                      exact ⟨by rw [HV.out], HK1⟩
                  · have HV : Hid (N = 0) := by rw [Hid, hv, if_neg (by omega)]
                    clear hv d2 d3 d4
                    go_wp2_with fail
                    go_meet
                    exact ⟨by rw [HV.out], HK1⟩
                · have HV : Hid (N = 0) := by rw [Hid, hv, if_neg (by omega)]
                  clear hv d2 d3 d4
                  go_wp2_with fail
                  go_meet
                  exact ⟨by rw [HV.out], HK1⟩
              · have HV : Hid (N = 0) := by rw [Hid, hv, if_neg (by omega)]
                clear hv d2 d3 d4
                go_wp2_with fail
                go_meet
                exact ⟨by rw [HV.out], HK1⟩
            · have k3' : (c.kind == 3) = false := beq_eq_false_iff_ne.2 k3
              have HV : Hid (N = 0) := by rw [Hid, HN.out]; unfold refN; rw [if_neg k1, if_neg k2, if_neg k3]
              clear d2 d3 d4 d5 d6
              go_wp2_with fail
              go_meet
              exact ⟨by rw [HV.out], HK1⟩
          case rest =>
            obtain ⟨rfl, HW⟩ := hcut
            have HIR : Hid (IR w wc oa oc acc) := H4.out.1.below HW.out
            cases ok with
            | false =>
              have NO : Hid (sizesF cs = none) := HSI.out.name HLT.out.1 HOK.out.symm
              go_wp2_with fail
              go_ret
              exact .inr ⟨NO.out, rfl, HIR.out.2⟩
            | true =>
              by_cases n1 : N < 1
              · have NO : Hid (sizesF cs = none) := HSI.out.bad HLT.out.1 (.inl (by rw [← HCE.out.1, ← HN.out]; exact n1))
                go_wp2_with fail
                go_ret
                exact .inr ⟨NO.out, rfl, HIR.out.2⟩
              by_cases n2 : 1024 < N
              · have NO : Hid (sizesF cs = none) := HSI.out.bad HLT.out.1 (.inr (by rw [← HCE.out.1, ← HN.out]; exact n2))
                go_wp2_with fail
                go_ret
                exact .inr ⟨NO.out, rfl, HIR.out.2⟩
              have NX : Hid (SI cs (i + 1) (acc ++ [N])) := by
                have := HSI.out.next HLT.out.1 (by rw [← HCE.out.1, ← HN.out]; omega) (by rw [← HCE.out.1, ← HN.out]; omega) HOK.out.symm
                rw [← HCE.out.1, ← HN.out] at this
                exact this
              have hal : acc.length = i := HLT.out.2
              subst hal
              go_wp2_with (at_builtin; refine wp_push rfl _ _ rfl rfl rfl HIR.out rfl rfl (by omega) ?_; intro a2 c2 w2 h2; have NI : Hid (IR w w2 a2 c2 (acc ++ [N])) := h2)
              clear h2
              go_roundw
              case rel => first | exact ⟨acc.length + 1, acc ++ [N], a2, c2, by simp, by simp, by omega, NI.out, NX.out⟩ | exact ⟨_, _, _, ⟨acc.length + 1, acc ++ [N], a2, c2, by simp, by go_num, by omega, NI.out, NX.out⟩, rfl, rfl, rfl⟩
              all_goals (simp [intOf]; omega)
    · have hlt' : ¬ (i : Int) < L := by omega
      have N : Hid (sizesF cs = some acc) := HI.out.2.end_ (by rw [← HLL.out.1]; omega) (by rw [← HLL.out.1]; omega)
      have hal : acc.length = i := HI.out.2.2.2
      subst hal
      go_wp2_with fail
      go_ret
      exact .inl ⟨acc, oa, oc, N.out, rfl, HI.out.1⟩
end Go.Proofs.YtgdkomkflfodaaaGreat.Check
