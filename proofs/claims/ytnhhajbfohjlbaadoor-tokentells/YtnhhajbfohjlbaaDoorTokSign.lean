/- name, sign and piece of package token: contracts of the calls, over the turned program. -/
import Derived.Test.YtnhhajbfohjlbaaDoorTokNum
import Derived.Test.YtnhhajbfohjlbaaDoorColName
namespace Go.Proofs.YtnhhajbfohjlbaaDoor.Token
open Go.RowKit Go.Proofs.YtnhhajbfohjlbaaDoor.Colour Go.Proofs.YtnhhajbfohjlbaaDoor.Frame
set_option linter.unusedVariables false
set_option linter.unusedSimpArgs false

set_option maxHeartbeats 2000000 in
theorem pie_name (s : ByteArray) (i : Nat) (w : World) (hs : s.size ≤ 1000000) (hi : i ≤ s.size) (hl : let8 ((s.data.toList.drop i).headD 0) = true) :
    Calls Tryd.prog 40 #[.string s, .int .i64 i] w fun e w' => e = pieR s.data.toList i ∧ w' = w := by
  obtain ⟨m, hm⟩ : ∃ m, m = runF ok8 s.data.toList i := ⟨_, rfl⟩
  have hml : m ≤ s.size := by have := runF_le (p := ok8) (l := s.data.toList) (i := i) (by rw [size_list]; exact hi); rw [size_list] at this; omega
  have him : i ≤ m := by rw [hm]; exact runF_ge
  have him' : (i : Int) ≤ m := by omega
  have hml' : (m : Int) ≤ s.size := by omega
  have HM : Hid (runF ok8 s.data.toList i = m) := hm.symm
  have hr : runL ok8 (s.data.toList.drop i) = m - i := by rw [hm]; unfold runF; omega
  have hX : (s.extract i m).data.toList = (s.data.toList.drop i).takeWhile ok8 := by rw [cut_list, ← hr, run_take]
  have hok : ok8 ((s.data.toList.drop i).headD 0) = true := by unfold ok8 okB; unfold let8 at hl; rw [hl]; rfl
  have hne : s.data.toList.drop i ≠ [] := fun e => by rw [e] at hl; exact absurd hl (by decide)
  have hp := run_pos hne hok
  have hN : nameB (s.extract i m) = decide (m - i ≤ 32) := by
    rw [nameB_eq, hX]
    unfold nmB
    rw [show ((s.data.toList.drop i).takeWhile ok8).length = m - i from hr, all_run, ← run_take, headD_take hp, hl]
    rw [hr] at hp
    rw [decide_eq_true (show 1 ≤ m - i from hp)]; simp
  by_cases h32 : 32 < m - i
  · have HN : Hid (nameB (s.extract i m) = false) := hN.trans (decide_eq_false (by omega))
    have R : Hid (pieR s.data.toList i = _) := pieR_err (show pieceL (s.data.toList.drop i) = (0, 0, 2) by unfold pieceL; rw [if_pos hl, hr, if_pos h32]) (by decide)
    clear hr hX hok hne hp hN hl hm
    go_enter Tryd.func40, Tryd.ntmps40
    go_wp2_with (first
      | (go_at_call 26; refine (run_named _ _ _ hs hi).mono ?_; rintro e w' ⟨he, hw⟩; subst he; have hw := hw.symm; subst hw; rw [HM.out])
      | (go_at_call 18; refine (name_any _ _).mono ?_; rintro e w' ⟨he, hw⟩; subst he; have hw := hw.symm; subst hw; rw [HN.out]))
    go_ret3
    exact ⟨by rw [R.out]; rfl, rfl⟩
  · have HN : Hid (nameB (s.extract i m) = true) := hN.trans (decide_eq_true (by omega))
    have R : Hid (pieR s.data.toList i = .returned (.tuple #[.int .i64 1, .int .i64 m, .int .i64 0])) := by
      show pieR _ _ = _
      rw [pieR_is (show pieceL (s.data.toList.drop i) = (1, m - i, 0) by unfold pieceL; rw [if_pos hl, hr, if_neg h32]), show i + (m - i) = m by omega]
    clear hr hX hok hne hp hN hl hm
    go_enter Tryd.func40, Tryd.ntmps40
    go_wp2_with (first
      | (go_at_call 26; refine (run_named _ _ _ hs hi).mono ?_; rintro e w' ⟨he, hw⟩; subst he; have hw := hw.symm; subst hw; rw [HM.out])
      | (go_at_call 18; refine (name_any _ _).mono ?_; rintro e w' ⟨he, hw⟩; subst he; have hw := hw.symm; subst hw; rw [HN.out]))
    go_ret3
    exact ⟨by rw [R.out]; rfl, rfl⟩

theorem best_snoc (t r : List UInt8) : ∀ ts, best (ts ++ [t]) r = max (best ts r) (if t.isPrefixOf r then t.length else 0)
  | [] => by simp [best]
  | u :: ts => by
    rw [List.cons_append, best, best, best_snoc t r ts, Nat.max_assoc]
theorem best_take {k : Nat} (h : k < 21) (r : List UInt8) : best (signsL.take (k + 1)) r = max (best (signsL.take k) r) (if (signsL.getD k []).isPrefixOf r then (signsL.getD k []).length else 0) := by
  have hk : k < signsL.length := h
  rw [List.take_add_one, List.getElem?_eq_getElem hk, List.getD_eq_getElem?_getD, List.getElem?_eq_getElem hk]
  exact best_snoc _ _ _
/-- the signs, as a value -/
def signsA : Array Value := (signsL.map fun l => Value.string (str l)).toArray
theorem load_signs {w : World} (h : Fx w) : (loadVar 57 ⟨0, 0, none⟩).run Tryd.prog w = .ok (.agg signsA) w := by
  have hl : (loadCells ⟨0, 0, none⟩ (signsL.map fun l => Value.string (str l)).length).run Tryd.prog w = .ok (signsL.map fun l => Value.string (str l)).toArray w :=
    run_loadCells_list (P := Tryd.prog) w ⟨0, 0, none⟩ _ (fun j v hv => by
      have hj : j < 21 := by
        rcases Nat.lt_or_ge j 21 with h | h
        · exact h
        · rw [List.getElem?_eq_none (by simpa [signsL] using h)] at hv; cases hv
      rw [Go.WideShapes.add_plain, Nat.zero_add, h.1 j hj, ← hv, List.getElem?_map, List.getD_eq_getElem?_getD, List.getElem?_eq_getElem (show j < signsL.length from hj)]; rfl)
  have hagg : (isAgg 57).run Tryd.prog w = .ok true w := by
    unfold isAgg
    rw [Sem.run_bind, run_underlying Tryd.underlying57 w]; rfl
  have hq : (Tryd.prog.info? 57).map (·.size) = some 21 := by kernel_rfl
  cases hi : Tryd.prog.info? 57 with
  | none => rw [hi] at hq; cases hq
  | some i =>
    have hsz : i.size = 21 := by rw [hi] at hq; simpa using hq
    have hl' : (loadCells ⟨0, 0, none⟩ 21).run Tryd.prog w = .ok signsA w := hl
    simp [loadVar, Sem.run_bind, hagg, sizeOf, typeInfo, hi, hsz, hl']

theorem wpl_signs {ops : Array Oper} {rest : List Oper} {o : Oper} {a : Act} {w : World} {Q : Exit → Act → World → Prop} (hgd : o.guard = none) (ho : o.op = .load 57 (.global 0)) (hF : Fx w)
    (h : wpList Tryd.prog ops Q rest (a.put o.dst (.agg signsA)) w) : wpList Tryd.prog ops Q (o :: rest) a w :=
  wpList_plain hgd fun _ hK => by
    have hx : a.eval (.global 0) = .pointer (some ⟨0, 0, none⟩) := rfl
    unfold Oper.wp execOp
    simp only [ho, hx, Instr.loadAt, Instr.sureAddr, Sem.run_bind, Sem.run_pure, Result.andThen_ok, load_signs hF]
    exact hK _ _ h

theorem index_signs {k : Nat} (hk : k < 21) (w : World) : Sem.run Tryd.prog (Instr.index 57 (.agg signsA) (.int .i64 k)) w = .ok (.string (str (signsL.getD k []))) w := by
  have hg : signsA[k]? = some (.string (str (signsL.getD k []))) := by
    unfold signsA
    rw [List.getElem?_toArray, List.getElem?_map, List.getD_eq_getElem?_getD, List.getElem?_eq_getElem (show k < signsL.length from hk)]; rfl
  have hq : (Tryd.prog.info? 9).map (·.size) = some 1 := by kernel_rfl
  cases hi : Tryd.prog.info? 9 with
  | none => rw [hi] at hq; cases hq
  | some i =>
    have hsz : i.size = 1 := by rw [hi] at hq; simpa using hq
    have hn : (0 : Int) ≤ (k : Int) ∧ (k : Int) < (21 : Nat) := ⟨by omega, by omega⟩
    simp [Instr.index, run_underlying Tryd.underlying57, run_underlying Tryd.underlying9, asIntOf, hn, part, isAgg, sizeOf, typeInfo, hi, hsz, hg, go_sem]
    omega

set_option maxHeartbeats 2000000 in
theorem pie_sign (s : ByteArray) (i : Nat) (w : World) (hs : s.size ≤ 1000000) (hi : i ≤ s.size) (hl : let8 ((s.data.toList.drop i).headD 0) = false) (hd : dig8 ((s.data.toList.drop i).headD 0) = false) (hF : Fx w) :
    Calls Tryd.prog 42 #[.string s, .int .i64 i] w fun e w' => e = pieR s.data.toList i ∧ w' = w := by
  have HF : Hid (Fx w) := hF
  have hi' : (i : Int) ≤ s.size := by omega
  have hX : (s.extract i s.size).data.toList = s.data.toList.drop i := by rw [cut_list, List.take_of_length_le (by simp)]
  have HX : Hid ((s.extract i s.size).data.toList = s.data.toList.drop i) := hX
  have hP : pieceL (s.data.toList.drop i) = if best signsL (s.data.toList.drop i) = 0 then (0, 0, 4) else (3, best signsL (s.data.toList.drop i), 0) := by
    unfold pieceL; rw [if_neg (by rw [hl]; decide), if_neg (by rw [hd]; decide)]
  have HP : Hid (pieceL (s.data.toList.drop i) = if best signsL (s.data.toList.drop i) = 0 then (0, 0, 4) else (3, best signsL (s.data.toList.drop i), 0)) := hP
  clear hF hl hd hX hP
  go_enter Tryd.func42, Tryd.ntmps42
  go_wp2_with (refine wpl_signs rfl rfl HF.out ?_)
  go_loop [7, 11] (fun v j => ∃ k : Nat, k ≤ 21 ∧ j = .int .i64 k ∧ ∃ b : Nat, b ≤ 2 ∧ v = .int .i64 b ∧ Hid (b = best (signsL.take k) (s.data.toList.drop i))) (fun _ j => 21 - (intOf j).toNat)
  case atStart => exact ⟨0, by omega, rfl, 0, by omega, rfl, rfl⟩
  case round =>
    obtain ⟨k, hk, rfl, b, hb, rfl, HB⟩ := hrel
    by_cases hlt : k < 21
    · have hlt' : (k : Int) < 21 := by omega
      have IX : ∀ W, Sem.run Tryd.prog (Instr.index 57 (.agg signsA) (.int .i64 k)) W = .ok (.string (str (signsL.getD k []))) W := index_signs hlt
      have HS := best_take hlt (s.data.toList.drop i)
      rw [← HB.out] at HS
      have hlen2 : (signsL.getD k []).length ≤ 2 := (show ∀ k, k < 21 → (signsL.getD k []).length ≤ 2 by decide) k hlt
      have HD : Hid ((str (signsL.getD k [])).data.toList = signsL.getD k []) := str_data _
      have hsz : (str (signsL.getD k [])).size = (signsL.getD k []).length := str_size _
      have HSZ : Hid ((str (signsL.getD k [])).size = (signsL.getD k []).length) := hsz
      cases hp : (signsL.getD k []).isPrefixOf (s.data.toList.drop i) with
      | true =>
        rw [hp, if_pos rfl] at HS
        have HH : Hid (Lib.hasPrefix (s.extract i s.size).data.toList (str (signsL.getD k [])).data.toList = true) := by show Lib.hasPrefix _ _ = true; unfold Lib.hasPrefix; rw [HX.out, HD.out]; exact hp
        obtain ⟨n, hn⟩ : ∃ n, n = (signsL.getD k []).length := ⟨_, rfl⟩
        rw [← hn] at HS hlen2 hsz
        have HS' : Hid (max b n = best (signsL.take (k + 1)) (s.data.toList.drop i)) := HS.symm
        generalize str (signsL.getD k []) = T at *
        clear HS hp HD HSZ hn
        go_wp2_with (go_at_call 48; refine (Tryd.strings_HasPrefix _ _ _).mono ?_; rintro e w' ⟨he, hw⟩; subst he; have hw := hw.symm; subst hw; rw [HH.out])
        go_round
        case rel => exact ⟨k + 1, by omega, by go_num, max b n, by omega, by congr 1; omega, HS'⟩
        case measure => simp [intOf]; omega
      | false =>
        rw [hp, if_neg (by decide)] at HS
        have HH : Hid (Lib.hasPrefix (s.extract i s.size).data.toList (str (signsL.getD k [])).data.toList = false) := by show Lib.hasPrefix _ _ = false; unfold Lib.hasPrefix; rw [HX.out, HD.out]; exact hp
        have HS' : Hid (b = best (signsL.take (k + 1)) (s.data.toList.drop i)) := (show b = _ by rw [HS]; omega)
        generalize str (signsL.getD k []) = T at *
        clear HS hp HD HSZ
        go_wp2_with (go_at_call 48; refine (Tryd.strings_HasPrefix _ _ _).mono ?_; rintro e w' ⟨he, hw⟩; subst he; have hw := hw.symm; subst hw; rw [HH.out])
        go_round
        case rel => exact ⟨k + 1, by omega, by go_num, b, by omega, rfl, HS'⟩
        case measure => simp [intOf]; omega
    · have hlt' : ¬ (k : Int) < 21 := by omega
      have HE : Hid (b = best signsL (s.data.toList.drop i)) := HB.out.trans (by rw [List.take_of_length_le (by show 21 ≤ k; omega)])
      by_cases hb0 : b = 0
      · have hb0' : ((b : Int) == 0) = true := by simp; omega
        have R : Hid (pieR s.data.toList i = _) := pieR_err (HP.out.trans (by rw [← HE.out, if_pos hb0])) (by decide)
        subst hb0
        go_wp2
        go_ret3
        exact ⟨by rw [R.out]; rfl, rfl⟩
      · have hb0' : ((b : Int) == 0) = false := by simp; omega
        have R : Hid (pieR s.data.toList i = .returned (.tuple #[.int .i64 3, .int .i64 ((i + b : Nat) : Int), .int .i64 0])) := pieR_is (HP.out.trans (by rw [← HE.out, if_neg hb0]))
        go_wp2
        go_ret3
        exact ⟨by rw [R.out]; rfl, rfl⟩

set_option maxHeartbeats 2000000 in
theorem piece_any (s : ByteArray) (i : Nat) (w : World) (hs : s.size ≤ 1000000) (hi : i ≤ s.size) (hF : Fx w) :
    Calls Tryd.prog 20 #[.string s, .int .i64 i] w fun e w' => e = pieR s.data.toList i ∧ Below w.heap.size w w' := by
  have h1 : onB let8 s.data.toList i = let8 ((s.data.toList.drop i).headD 0) := on_drop (by decide)
  have h2 : onB dig8 s.data.toList i = dig8 ((s.data.toList.drop i).headD 0) := on_drop (by decide)
  have HF : Hid (Fx w) := hF
  clear hF
  obtain ⟨x, y, z, hR⟩ : ∃ x y z : Int, pieR s.data.toList i = .returned (.tuple #[.int .i64 x, .int .i64 y, .int .i64 z]) := ⟨_, _, _, rfl⟩
  have HR : Hid (pieR s.data.toList i = .returned (.tuple #[.int .i64 x, .int .i64 y, .int .i64 z])) := hR
  clear hR
  cases hl : let8 ((s.data.toList.drop i).headD 0) with
  | true =>
    have H1 : Hid (onB let8 s.data.toList i = true) := h1.trans hl
    have HL : Hid (let8 ((s.data.toList.drop i).headD 0) = true) := hl
    clear h1 h2 hl
    go_enter Tryd.func20, Tryd.ntmps20
    go_wp2_with (first
      | (go_at_call 36; refine (on_letter _ _ _).mono ?_; rintro e w' ⟨he, hw⟩; subst he; have hw := hw.symm; subst hw; rw [H1.out])
      | (go_at_call 40; refine (pie_name _ _ _ hs hi HL.out).mono ?_; rintro e w' ⟨he, hw⟩; have he := he.trans HR.out; subst he; have hw := hw.symm; subst hw))
    go_ret3
    exact ⟨by rw [HR.out]; rfl, Below.refl _ _⟩
  | false =>
    have H1 : Hid (onB let8 s.data.toList i = false) := h1.trans hl
    have HL : Hid (let8 ((s.data.toList.drop i).headD 0) = false) := hl
    cases hd : dig8 ((s.data.toList.drop i).headD 0) with
    | true =>
      have H2 : Hid (onB dig8 s.data.toList i = true) := h2.trans hd
      have HD : Hid (dig8 ((s.data.toList.drop i).headD 0) = true) := hd
      clear h1 h2 hl hd
      go_enter Tryd.func20, Tryd.ntmps20
      go_wp2_with fail
      refine (on_letter _ _ _).mono ?_; rintro e w' ⟨he, hw⟩; subst he; have hw := hw.symm; subst hw; rw [H1.out]
      go_wp2_with fail
      refine (on_digit _ _ _).mono ?_; rintro e w' ⟨he, hw⟩; subst he; have hw := hw.symm; subst hw; rw [H2.out]
      go_wp2_with (go_at_call 41; refine (pie_number _ _ _ hs hi HD.out HF.out).mono ?_; rintro e w' ⟨he, hb⟩; have he := he.trans HR.out; subst he)
      go_ret3
      exact ⟨by rw [HR.out]; rfl, hb⟩
    | false =>
      have H2 : Hid (onB dig8 s.data.toList i = false) := h2.trans hd
      have HD : Hid (dig8 ((s.data.toList.drop i).headD 0) = false) := hd
      clear h1 h2 hl hd
      go_enter Tryd.func20, Tryd.ntmps20
      go_wp2_with fail
      refine (on_letter _ _ _).mono ?_; rintro e w' ⟨he, hw⟩; subst he; have hw := hw.symm; subst hw; rw [H1.out]
      go_wp2_with fail
      refine (on_digit _ _ _).mono ?_; rintro e w' ⟨he, hw⟩; subst he; have hw := hw.symm; subst hw; rw [H2.out]
      go_wp2_with (go_at_call 42; refine (pie_sign _ _ _ hs hi HL.out HD.out HF.out).mono ?_; rintro e w' ⟨he, hw⟩; have he := he.trans HR.out; subst he; have hw := hw.symm; subst hw)
      go_ret3
      exact ⟨by rw [HR.out]; rfl, Below.refl _ _⟩
end Go.Proofs.YtnhhajbfohjlbaaDoor.Token
