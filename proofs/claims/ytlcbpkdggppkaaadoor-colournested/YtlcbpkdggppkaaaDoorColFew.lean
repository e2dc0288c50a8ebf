/- Few, of layer 2's statements: it returns; a contract of the call, over the turned program. -/
import Derived.Test.YtlcbpkdggppkaaaDoorColParts
import Derived.Deep.CutRange
import Derived.Deep.LoopGhost
import Derived.Deep.Light
namespace Go.Proofs.YtlcbpkdggppkaaaDoor.Colour
open Go.RowKit Go.Proofs.YtlcbpkdggppkaaaDoor.Frame Go.Deep
set_option linter.unusedVariables false

/-- the test whether a colour is a pair of two ahead -/
def PairTest (t : Value) (c : Col) (k : Nat) : Prop := ∃ bb, t = .bool bb ∧ (bb = true → 0 ≤ c.first ∧ c.first < k ∧ 0 ≤ c.thn ∧ c.thn < k)
/-- it returned a bool -/
def BoolRet (e : Ending) : Prop := ∃ b, e = .returned (.bool b)

/-- what holds between two rounds: 'long' is a row of the call's own -/
def FInv (w : World) (v : Value) (k : Nat) (wr : World) : Prop := (∃ xs : List Int, xs.length = k ∧ wr.ownsRow w.heap.size 3 1 v k (xs.map (.int .i64))) ∧ Below w.heap.size w wr

theorem FInv.drewN {w : World} {v : Value} {k : Nat} {wr : World} (h : FInv w v k wr) (n : Nat) : FInv w v k (wr.drewN n) := by
  obtain ⟨⟨xs, hx, ho⟩, hb⟩ := h
  exact ⟨⟨xs, hx, ho⟩, below_drewN hb n⟩
theorem news_one (w : World) (z : Value) (t : TypeId) : ∀ j u, [z][j]? = some u → (w.alloc (.cells #[z] t)).cell? (Addr.add ⟨w.heap.size, 0, none⟩ j) = some u := by
  intro j u hj
  cases j with
  | zero => simp at hj; subst hj; simp [Addr.add, go_sem]
  | succ j => simp at hj
/-- the row, and two of its numbers -/
theorem FInv.shape {w : World} {v : Value} {k : Nat} {wr : World} (h : FInv w v k wr) (hk : 0 < k) {p q : Int} (p1 : 0 ≤ p) (p2 : p < k) (q1 : 0 ≤ q) (q2 : q < k) :
    ∃ g cp, v = .slice (some ⟨g, 0, none⟩) k cp ∧ k ≤ cp ∧ (∃ x, wr.cell? ⟨g, p.toNat, none⟩ = some (.int .i64 x)) ∧ ∃ y, wr.cell? ⟨g, q.toNat, none⟩ = some (.int .i64 y) := by
  obtain ⟨⟨xs, hx, ho⟩, hb⟩ := h
  have ho' := ho
  rcases ho.2 with ⟨_, h0⟩ | ⟨g, cap, cur, rfl, _, _, h1, _⟩
  · omega
  refine ⟨g, cap, rfl, h1, ?_, ?_⟩
  · rw [ho'.cellAt p.toNat (by omega), List.getElem?_map, List.getElem?_eq_getElem (by omega)]; exact ⟨_, rfl⟩
  · rw [ho'.cellAt q.toNat (by omega), List.getElem?_map, List.getElem?_eq_getElem (by omega)]; exact ⟨_, rfl⟩

set_option maxRecDepth 100000 in
set_option maxHeartbeats 4000000 in
theorem few_any (a : Option Addr) (len cap : Nat) (cs : List Col) (w : World) (h : Cols w a len cs) :
    Calls Tryd.prog 5 #[.slice a len cap] w fun e w' => BoolRet e ∧ Below w.heap.size w w' := by
  have HC : Hid (Cols w a len cs) := h
  clear h
  go_enter Tryd.func5, Tryd.ntmps5
  go_wp2
  go_loopg [3, 4, 5] 50 (fun g n v i wr => ∃ (k : Nat) (x : Int), k ≤ len ∧ g + k = 50 ∧ n = .int .i64 x ∧ i = .int .i64 k ∧ FInv w v k wr)
  case atStart => exact ⟨0, 0, by omega, by omega, rfl, rfl, ⟨[], rfl, rfl, .inl ⟨rfl, rfl⟩⟩, Below.refl _ _⟩
  case round =>
    obtain ⟨k, x, hk, hg, rfl, rfl, hR⟩ := hrel
    by_cases hlt : k < len
    · have hlt' : (k : Int) < len := by omega
      by_cases h50 : k < 50
      · have h50' : (k : Int) < 50 := by omega
        obtain ⟨b, off, rfl, hbl, hcol⟩ := (HC.out.below hR.2).at hlt
        generalize cs.getD k nilCol = c at hcol
        obtain ⟨⟨c0, c1, c2, c3, c4, c5, c6⟩, hs, hi6⟩ := hcol
        have HS : Hid (Strs wr c.na c.names.length c.names) := hs
        have HR : Hid (FInv w _ k wr) := hR
        clear hs hi6 c0 c2 c3 hR
        go_wp2
        generalize wrap64 (x + (c.names.length : Int)) = x2
        have hM : c.names.length ≤ 200 ∨ 200 < c.names.length := by omega
        go_loop [6, 7] (fun s kv => ∃ (j : Nat) (y : Int), s = .int .i64 y ∧ kv = .int .i64 j ∧ j ≤ 200 ∧ j ≤ c.names.length) (fun _ kv => 200 - (intOf kv).toNat)
        case atStart => exact ⟨0, 22, rfl, rfl, by omega, by omega⟩
        case round =>
          obtain ⟨j, y, rfl, rfl, hj, hj'⟩ := hrel
          by_cases hjn : j < c.names.length ∧ j < 200
          · obtain ⟨hjn, hj2⟩ := hjn
            have hjn' : (j : Int) < c.names.length := by omega
            have hj2' : (j : Int) < 200 := by omega
            obtain ⟨b2, o2, hna, hcn⟩ : ∃ b2 o2, c.na = some ⟨b2, o2, none⟩ ∧ wr.cell? ⟨b2, o2 + j, none⟩ = some (.string (c.names.getD j ByteArray.empty)) := by
              rcases HS.out.2 with h0 | ⟨b2, o2, hna, hcn⟩
              · omega
              · exact ⟨b2, o2, hna, hcn j hjn⟩
            rw [hna] at c4
            clear hM hna
            go_wp2
            go_round
            case rel => exact ⟨j + 1, _, rfl, by go_num, by omega, by omega⟩
            case measure => simp [intOf]; omega
          · have hE : (¬ (j : Int) < c.names.length) ∨ ((j : Int) < c.names.length ∧ ¬ (j : Int) < 200) := by omega
            clear hjn hj hj' hM
            rcases hE with hE | ⟨hE, hE2⟩
            · go_upto_region 14 with (fail)
              go_cut [86] from 10 to 102 (fun t wc => PairTest t c k ∧ wc = wr)
              case first =>
                clear HR HS hE c4 c5 c6
                go_wp2
                all_goals go_meet
                all_goals go_light
                all_goals exact ⟨⟨_, rfl, fun h => by first | (exact absurd h (by decide)) | (simp at h; omega)⟩, rfl⟩
              case rest =>
                obtain ⟨⟨bb, rfl, hp⟩, rfl⟩ := hcut
                have HP : Hid (bb = true → 0 ≤ c.first ∧ c.first < k ∧ 0 ≤ c.thn ∧ c.thn < k) := hp
                clear hp hE
                go_upto_if 86 with (fail)
                go_cut [6] from 10 to 102 (fun s wd => (∃ z, s = .int .i64 z) ∧ FInv w u4 k wd)
                case first =>
                  cases bb with
                  | false =>
                    go_wp2
                    go_meet
                    go_light
                    exact ⟨⟨_, rfl⟩, HR.out⟩
                  | true =>
                    obtain ⟨p1, p2, q1, q2⟩ := HP.out rfl
                    obtain ⟨g, cp, rfl, hcp, ⟨e1, hgp⟩, ⟨e2, hgq⟩⟩ := HR.out.shape (by omega) p1 p2 q1 q2
                    have hcp' : (k : Int) ≤ cp := by omega
                    go_wp2
                    go_quiet (fail)
                    go_wp2
                    go_meet
                    go_light
                    exact ⟨⟨_, rfl⟩, HR.out.drewN _⟩
                case rest =>
                  obtain ⟨⟨z, rfl⟩, hF⟩ := hcut
                  by_cases hz4 : 4000 < z
                  · go_wp2
                    go_ret
                    exact ⟨⟨_, rfl⟩, hF.2⟩
                  · have HF : Hid (FInv w u4 k wc) := hF
                    obtain ⟨xs, hxl, hown⟩ := hF.1
                    clear hF
                    have HO : Hid (wc.ownsRow w.heap.size 3 1 u4 k (xs.map (.int .i64))) := hown
                    have HX : Hid (xs.length = k) := hxl
                    clear hown hxl HP c1 c4 c5 c6
                    obtain ⟨i0, hi, hz0, hz1, hz2⟩ := info_parts infoInt
                    go_wp2_with (at_builtin; refine wpList_append_own _ rfl _ _ 38 rfl w.heap.size 3 i0 (.int .i64 0) 1 8 Tryd.underlying38 hi hz0 hz1 hz2 rfl (by decide) _ _ _ rfl (HO.out.alloc _) ⟨wc.heap.size, 0, none⟩ 1 1 [.int .i64 z] rfl rfl (news_one _ _ _) (by intro u hu; simp at hu; subst hu; rfl) (by unfold maxLen; omega) (by omega) (by have := HF.out.2.size; simp; omega) ?_)
                    intro v' w' hown' hgrow hnil
                    have HO' : Hid (w'.ownsRow w.heap.size 3 1 v' (k + 1) ((xs ++ [z]).map (.int .i64))) := by rw [List.map_append]; exact hown'
                    have HB' : Hid (Below w.heap.size w w') := (HF.out.2.alloc HF.out.2.size _).grown hgrow (by have := HF.out.2.size; simp; omega) (fun j hj => (HO.out.lt j hj).1)
                    clear hown' hgrow hnil hi hz0 hz1 hz2 i0
                    go_wp2
                    go_roundg (gk - 1)
                    case measure => omega
                    case rel => exact ⟨k + 1, x2, by omega, by omega, rfl, by go_num, ⟨xs ++ [z], by have := HX.out; simp; omega, HO'.out⟩, HB'.out⟩
            · go_upto_region 14 with (fail)
              go_cut [86] from 10 to 102 (fun t wc => PairTest t c k ∧ wc = wr)
              case first =>
                clear HR HS hE c4 c5 c6
                go_wp2
                all_goals go_meet
                all_goals go_light
                all_goals exact ⟨⟨_, rfl, fun h => by first | (exact absurd h (by decide)) | (simp at h; omega)⟩, rfl⟩
              case rest =>
                obtain ⟨⟨bb, rfl, hp⟩, rfl⟩ := hcut
                have HP : Hid (bb = true → 0 ≤ c.first ∧ c.first < k ∧ 0 ≤ c.thn ∧ c.thn < k) := hp
                clear hp hE
                go_upto_if 86 with (fail)
                go_cut [6] from 10 to 102 (fun s wd => (∃ z, s = .int .i64 z) ∧ FInv w u4 k wd)
                case first =>
                  cases bb with
                  | false =>
                    go_wp2
                    go_meet
                    go_light
                    exact ⟨⟨_, rfl⟩, HR.out⟩
                  | true =>
                    obtain ⟨p1, p2, q1, q2⟩ := HP.out rfl
                    obtain ⟨g, cp, rfl, hcp, ⟨e1, hgp⟩, ⟨e2, hgq⟩⟩ := HR.out.shape (by omega) p1 p2 q1 q2
                    have hcp' : (k : Int) ≤ cp := by omega
                    go_wp2
                    go_quiet (fail)
                    go_wp2
                    go_meet
                    go_light
                    exact ⟨⟨_, rfl⟩, HR.out.drewN _⟩
                case rest =>
                  obtain ⟨⟨z, rfl⟩, hF⟩ := hcut
                  by_cases hz4 : 4000 < z
                  · go_wp2
                    go_ret
                    exact ⟨⟨_, rfl⟩, hF.2⟩
                  · have HF : Hid (FInv w u4 k wc) := hF
                    obtain ⟨xs, hxl, hown⟩ := hF.1
                    clear hF
                    have HO : Hid (wc.ownsRow w.heap.size 3 1 u4 k (xs.map (.int .i64))) := hown
                    have HX : Hid (xs.length = k) := hxl
                    clear hown hxl HP c1 c4 c5 c6
                    obtain ⟨i0, hi, hz0, hz1, hz2⟩ := info_parts infoInt
                    go_wp2_with (at_builtin; refine wpList_append_own _ rfl _ _ 38 rfl w.heap.size 3 i0 (.int .i64 0) 1 8 Tryd.underlying38 hi hz0 hz1 hz2 rfl (by decide) _ _ _ rfl (HO.out.alloc _) ⟨wc.heap.size, 0, none⟩ 1 1 [.int .i64 z] rfl rfl (news_one _ _ _) (by intro u hu; simp at hu; subst hu; rfl) (by unfold maxLen; omega) (by omega) (by have := HF.out.2.size; simp; omega) ?_)
                    intro v' w' hown' hgrow hnil
                    have HO' : Hid (w'.ownsRow w.heap.size 3 1 v' (k + 1) ((xs ++ [z]).map (.int .i64))) := by rw [List.map_append]; exact hown'
                    have HB' : Hid (Below w.heap.size w w') := (HF.out.2.alloc HF.out.2.size _).grown hgrow (by have := HF.out.2.size; simp; omega) (fun j hj => (HO.out.lt j hj).1)
                    clear hown' hgrow hnil hi hz0 hz1 hz2 i0
                    go_wp2
                    go_roundg (gk - 1)
                    case measure => omega
                    case rel => exact ⟨k + 1, x2, by omega, by omega, rfl, by go_num, ⟨xs ++ [z], by have := HX.out; simp; omega, HO'.out⟩, HB'.out⟩
      · have h50' : ¬ (k : Int) < 50 := by omega
        go_wp2
        all_goals go_ret
        all_goals exact ⟨⟨_, rfl⟩, hR.2⟩
    · have hlt' : ¬ (k : Int) < len := by omega
      go_wp2
      all_goals go_ret
      all_goals exact ⟨⟨_, rfl⟩, hR.2⟩
end Go.Proofs.YtlcbpkdggppkaaaDoor.Colour
