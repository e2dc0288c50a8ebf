/- The document's own Lex: a contract of the call, over the turned program. -/
import Derived.Test.YtnhhajbfohjlbaaDoorTokRef3
namespace Go.Proofs.YtnhhajbfohjlbaaDoor.Token
open Go.RowKit Go.Proofs.YtnhhajbfohjlbaaDoor.Colour Go.Proofs.YtnhhajbfohjlbaaDoor.Frame
set_option linter.unusedVariables false
set_option linter.unusedSimpArgs false

theorem lex_step {s : ByteArray} {out : List Tok} {k m : Nat} {kd : Int} (hE : lexF s.data.toList = before out (lexR s.size (s.data.toList.drop k))) (hk : k < s.size) (hkm : k < m) (hm : m ≤ s.size) (hp : pieceL (s.data.toList.drop k) = (kd, m - k, 0)) :
    lexF s.data.toList = before (out ++ [⟨kd, (s.data.toList.drop k).take (m - k), k⟩]) (lexR s.size (s.data.toList.drop (gapF s.data.toList m))) := by
  have hne : s.data.toList.drop k ≠ [] := fun e => by rw [List.drop_eq_nil_iff, size_list] at e; omega
  have hat : s.size - (s.data.toList.drop k).length = k := by rw [List.length_drop, size_list]; omega
  rw [lexR_ok hne (by rw [hp]), hat, before_before, hp] at hE
  simp only at hE
  rw [List.drop_drop, show k + (m - k) = m by omega, ← gapF_drop (by rw [size_list]; exact hm)] at hE
  exact hE
theorem lex_fail {s : ByteArray} {out : List Tok} {k : Nat} {e : Int} (hE : lexF s.data.toList = before out (lexR s.size (s.data.toList.drop k))) (hk : k < s.size) (he : e ≠ 0) (hp : pieceL (s.data.toList.drop k) = (0, 0, e)) : lexF s.data.toList = ([], k, e) := by
  have hne : s.data.toList.drop k ≠ [] := fun e => by rw [List.drop_eq_nil_iff, size_list] at e; omega
  have hat : s.size - (s.data.toList.drop k).length = k := by rw [List.length_drop, size_list]; omega
  rw [lexR_bad hne (by rw [hp]; exact he), hat, before_bad _ _ _ (by rw [hp]; exact he), hp] at hE
  exact hE
theorem head_at' {s : ByteArray} {k : Nat} (h : k < s.size) : (s.data.toList.drop k).headD 0 = s[k] := by rw [drop_at h]; rfl
theorem pie_nm {s : ByteArray} {k m : Nat} (hk : k < s.size) (hl : let8 s[k] = true) (hr : runF ok8 s.data.toList k = m) : pieceL (s.data.toList.drop k) = if 32 < m - k then (0, 0, 2) else (1, m - k, 0) := by
  have h1 : runL ok8 (s.data.toList.drop k) = m - k := by rw [← hr]; unfold runF; omega
  unfold pieceL
  rw [head_at' hk, if_pos hl, h1]
theorem ok_parts (c : UInt8) : ok8 c = (let8 c || dig8 c || (c.toNat : Int) == 95) := rfl
theorem pie_nu {s : ByteArray} {k m : Nat} (hk : k < s.size) (hl : let8 s[k] = false) (hd : dig8 s[k] = true) (hr : runF dig8 s.data.toList k = m) :
    pieceL (s.data.toList.drop k) = if zero8 (s.extract k m).data.toList || onB ok8 s.data.toList m then (0, 0, 4) else if numB (s.extract k m).data.toList then (2, m - k, 0) else (0, 0, 6) := by
  have h1 : runL dig8 (s.data.toList.drop k) = m - k := by rw [← hr]; unfold runF; omega
  have hkm : k ≤ m := by rw [← hr]; exact runF_ge
  have hX : (s.extract k m).data.toList = (s.data.toList.drop k).takeWhile dig8 := by rw [cut_list, ← h1, run_take]
  have ho : ok8 (((s.data.toList.drop k).drop (m - k)).headD 0) = onB ok8 s.data.toList m := by
    rw [on_drop (by decide), List.drop_drop, show k + (m - k) = m by omega]
  unfold pieceL
  rw [head_at' hk, if_neg (by rw [hl]; decide), if_pos hd, h1, ho, hX]
theorem pie_sg {s : ByteArray} {k : Nat} (hk : k < s.size) (hl : let8 s[k] = false) (hd : dig8 s[k] = false) : pieceL (s.data.toList.drop k) = if best signsL (s.data.toList.drop k) = 0 then (0, 0, 4) else (3, best signsL (s.data.toList.drop k), 0) := by
  unfold pieceL
  rw [head_at' hk, if_neg (by rw [hl]; decide), if_neg (by rw [hd]; decide)]
/-- a 0 ahead, of a part -/
theorem zero_cut {s : ByteArray} {k m : Nat} (hk : k < s.size) (hkm : k < m) (hm : m ≤ s.size) : zero8 (s.extract k m).data.toList = (decide (1 < m - k) && (s[k]).toNat == 48) := by
  unfold zero8
  rw [cut_list, List.length_take, List.length_drop, size_list, headD_take (by omega), head_at' hk, Nat.min_eq_left (by omega)]
theorem run_gt {p : UInt8 → Bool} {s : ByteArray} {k : Nat} (hk : k < s.size) (hp : p s[k] = true) : k < runF p s.data.toList k := by
  have := run_pos (p := p) (r := s.data.toList.drop k) (by rw [drop_at hk]; simp) (by rw [head_at' hk]; exact hp)
  unfold runF; omega

set_option maxRecDepth 100000 in
set_option maxHeartbeats 16000000 in
theorem r_lex (s : ByteArray) (w : World) (hs : s.size ≤ 1000000) :
    Calls Tryd.prog 10 #[.string s] w (LexPost (lexF s.data.toList) w) := by
  by_cases hL : 16384 < s.size
  · have hL' : (16384 : Int) < s.size := by omega
    have E : Hid (lexF s.data.toList = ([], 0, 2)) := lexF_long (by rw [size_list]; exact hL)
    go_enter Tryd.func10, Tryd.ntmps10
    go_wp2
    go_ret3
    rw [E.out]
    exact ⟨none, 0, rfl, .inl rfl, Below.refl _ _⟩
  have hL' : ¬ (16384 : Int) < s.size := by omega
  obtain ⟨i0, hi, hz0, hz1, hz2⟩ := info_parts infoTok
  have hml : (1000000 : Nat) ≤ maxLen := by decide
  have hE0 : lexF s.data.toList = before [] (lexR s.size (s.data.toList.drop (gapF s.data.toList 0))) := by
    rw [lexF_eq (by rw [size_list]; omega), size_list, gapF_drop (Nat.zero_le _), List.drop_zero]
    exact (before_nil _ (lex_err _ _ _)).symm
  have hg0 : gapF s.data.toList 0 ≤ s.size := by have := (gapF_le (l := s.data.toList) (i := 0) (Nat.zero_le _)).2; rwa [size_list] at this
  have HE0 : Hid (lexF s.data.toList = before [] (lexR s.size (s.data.toList.drop (gapF s.data.toList 0)))) := hE0
  clear hE0
  go_enter Tryd.func10, Tryd.ntmps10
  go_wp2_with (go_at_call 22; refine (r_skip _ 0 _ hs (Nat.zero_le _)).mono ?_; rintro e w' ⟨he, hw⟩; subst he; have hw := hw.symm; subst hw)
  go_loopw [5, 6] (fun v i wr => ∃ (k : Nat) (out : List Tok) (oa : Option Addr) (oc : Nat), k ≤ s.size ∧ i = .int .i64 k ∧ v = .slice oa out.length oc ∧ out.length ≤ k ∧ Hid (Tw w wr out oa oc) ∧ Hid (lexF s.data.toList = before out (lexR s.size (s.data.toList.drop k)))) (fun _ i _ => s.size - (intOf i).toNat)
  case atStart => exact ⟨_, [], none, 0, hg0, rfl, rfl, by simp, Tw.nil w w (Below.refl _ _), HE0⟩
  case round =>
    obtain ⟨k, out, oa, oc, hk, rfl, rfl, ho, hO, hE⟩ := hrel
    clear HE0 hg0
    by_cases hlt : k < s.size
    · have hlt' : (k : Int) < s.size := by omega
      cases hl : let8 s[k] with
      | true =>
        have HL : Hid (let8 s[k] = true) := hl
        clear hl
        go_wp2_with (go_at_call 23; refine (r_letter _ _).mono ?_; rintro e w' ⟨he, hw⟩; subst he; have hw := hw.symm; subst hw; rw [HL.out])
        go_loop [7] (fun v => ∃ m : Nat, k ≤ m ∧ m ≤ s.size ∧ v = .int .i64 m ∧ Hid (runF ok8 s.data.toList k = runF ok8 s.data.toList m)) (fun v => s.size - (intOf v).toNat)
        case atStart => exact ⟨k, by omega, by omega, rfl, rfl⟩
        case round =>
          obtain ⟨m, hkm0, hms, rfl, hr⟩ := hrel
          by_cases hml2 : m < s.size
          · have hml2' : (m : Int) < s.size := by omega
            have hon : onB ok8 s.data.toList m = (let8 s[m] || dig8 s[m] || ((s[m]).toNat : Int) == 95) := onB_in hml2
            have NX : Hid (onB ok8 s.data.toList m = true → runF ok8 s.data.toList k = runF ok8 s.data.toList (m + 1)) := fun h => hr.out.trans (runF_on h).2
            cases h1 : let8 s[m] with
            | true =>
              have H1 : Hid (let8 s[m] = true) := h1
              have HR2 : Hid (runF ok8 s.data.toList k = runF ok8 s.data.toList (m + 1)) := NX.out (by rw [hon, h1]; rfl)
              clear hon h1 NX
              go_wp2_with (go_at_call 23; refine (r_letter _ _).mono ?_; rintro e w' ⟨he, hw⟩; subst he; have hw := hw.symm; subst hw; rw [H1.out])
              go_round
              case rel => exact ⟨m + 1, by omega, by omega, by go_num, HR2⟩
              case measure => simp [intOf]; omega
            | false =>
              have H1 : Hid (let8 s[m] = false) := h1
              cases h2 : dig8 s[m] with
              | true =>
                have H2 : Hid (dig8 s[m] = true) := h2
                have HR2 : Hid (runF ok8 s.data.toList k = runF ok8 s.data.toList (m + 1)) := NX.out (by rw [hon, h1, h2]; rfl)
                clear hon h1 h2 NX
                go_wp2_with (first | (go_at_call 23; refine (r_letter _ _).mono ?_; rintro e w' ⟨he, hw⟩; subst he; have hw := hw.symm; subst hw; rw [H1.out]) | (go_at_call 24; refine (r_digit _ _).mono ?_; rintro e w' ⟨he, hw⟩; subst he; have hw := hw.symm; subst hw; rw [H2.out]))
                go_round
                case rel => exact ⟨m + 1, by omega, by omega, by go_num, HR2⟩
                case measure => simp [intOf]; omega
              | false =>
                have H2 : Hid (dig8 s[m] = false) := h2
                cases h3 : (((s[m]).toNat : Int) == 95) with
                | true =>
                  have HR2 : Hid (runF ok8 s.data.toList k = runF ok8 s.data.toList (m + 1)) := NX.out (by rw [hon, h1, h2, h3]; rfl)
                  clear hon h1 h2 NX
                  go_wp2_with (first | (go_at_call 23; refine (r_letter _ _).mono ?_; rintro e w' ⟨he, hw⟩; subst he; have hw := hw.symm; subst hw; rw [H1.out]) | (go_at_call 24; refine (r_digit _ _).mono ?_; rintro e w' ⟨he, hw⟩; subst he; have hw := hw.symm; subst hw; rw [H2.out]))
                  go_round
                  case rel => exact ⟨m + 1, by omega, by omega, by go_num, HR2⟩
                  case measure => simp [intOf]; omega
                | false =>
                  have HR : Hid (runF ok8 s.data.toList k = m) := hr.out.trans (runF_off (by rw [hon, h1, h2, h3]; rfl))
                  clear hon h1 h2 NX hr
                  have hkm : k < m := by rw [← HR.out]; exact run_gt hlt (by rw [ok_parts, HL.out]; rfl)
                  by_cases h32 : 32 < m - k
                  · have h32' : (32 : Int) < (m : Int) - (k : Int) := by omega
                    have HP : Hid (pieceL (s.data.toList.drop k) = (0, 0, 2)) := (pie_nm hlt HL.out HR.out).trans (if_pos h32)
                    have HX : Hid (lexF s.data.toList = ([], k, 2)) := lex_fail hE.out hlt (by decide) HP.out
                    clear hE HP
                    go_wp2_with (first
                      | (go_at_call 23; refine (r_letter _ _).mono ?_; rintro e w' ⟨he, hw⟩; subst he; have hw := hw.symm; subst hw; rw [H1.out])
                      | (go_at_call 24; refine (r_digit _ _).mono ?_; rintro e w' ⟨he, hw⟩; subst he; have hw := hw.symm; subst hw; rw [H2.out]))
                    go_ret3
                    rw [HX.out]
                    exact ⟨none, 0, rfl, .inl rfl, hO.out.2⟩
                  · have h32' : ¬ (32 : Int) < (m : Int) - (k : Int) := by omega
                    have HP : Hid (pieceL (s.data.toList.drop k) = (1, m - k, 0)) := (pie_nm hlt HL.out HR.out).trans (if_neg h32)
                    obtain ⟨tx, htx⟩ : ∃ tx, tx = (s.data.toList.drop k).take (m - k) := ⟨_, rfl⟩
                    have hx := lex_step hE.out hlt hkm hms HP.out
                    rw [← htx] at hx
                    have HT : Hid (s.extract k m = str tx) := (show _ = _ by rw [← str_list (s.extract k m), cut_list, htx])
                    obtain ⟨q1, q2⟩ := gapF_le (l := s.data.toList) (i := m) (by rw [size_list]; exact hms)
                    rw [size_list] at q2
                    obtain ⟨q, hq⟩ : ∃ q, q = gapF s.data.toList m := ⟨_, rfl⟩
                    rw [← hq] at hx q1 q2
                    have HQ : Hid (gapF s.data.toList m = q) := hq.symm
                    have HX : Hid (lexF s.data.toList = before (out ++ [Tok.mk 1 tx k]) (lexR s.size (s.data.toList.drop q))) := hx
                    have hmk : (k : Int) ≤ (m : Int) := by omega
                    have hmS : (m : Int) ≤ (s.size : Int) := by omega
                    have O2 := hO.out
                    have hw2 := O2.2.size
                    clear hx htx hq hE HP
                    go_wp2_with (first
                      | (go_at_call 23; refine (r_letter _ _).mono ?_; rintro e w' ⟨he, hw⟩; subst he; have hw := hw.symm; subst hw; rw [H1.out])
                      | (go_at_call 24; refine (r_digit _ _).mono ?_; rintro e w' ⟨he, hw⟩; subst he; have hw := hw.symm; subst hw; rw [H2.out])
                      | (at_builtin; (try rw [HT.out]); refine wpList_append_own _ rfl _ _ 23 rfl w.heap.size 33 i0 (.agg #[.int .i64 0, .string ⟨#[]⟩, .int .i64 0]) 3 32 Tryd.underlying23 hi hz0 hz1 hz2 rfl (by decide) _ _ _ rfl (O2.1.alloc _) ⟨_, 0, none⟩ 1 1 [.int .i64 1, .string (str tx), .int .i64 k] rfl rfl (cells_three _ _ _ _ _) (by simp [Value.oneCell']) (by omega) (by omega) (by simp; omega) ?_; intro v1 w3 hown1 hg1 hnil1; obtain ⟨a1, c1, hv1⟩ := own_slice hown1; subst hv1; have A1 := O2.add (t := Tok.mk 1 tx k) hown1 hg1)
                      | (go_at_call 22; refine (r_skip _ _ _ hs hms).mono ?_; rintro e w' ⟨he, hw⟩; subst he; have hw := hw.symm; subst hw; rw [HQ.out])
                      | go_in)
                    go_roundw
                    case rel => exact ⟨q, out ++ [Tok.mk 1 tx k], a1, c1, q2, rfl, by simp, by simp; omega, A1, HX⟩
                    case measure => simp [intOf]; omega
          · have hml2' : ¬ (m : Int) < s.size := by omega
            have HR : Hid (runF ok8 s.data.toList k = m) := hr.out.trans (runF_off (onB_out (by rw [size_list]; omega)))
            clear hr
            have hkm : k < m := by rw [← HR.out]; exact run_gt hlt (by rw [ok_parts, HL.out]; rfl)
            by_cases h32 : 32 < m - k
            · have h32' : (32 : Int) < (m : Int) - (k : Int) := by omega
              have HP : Hid (pieceL (s.data.toList.drop k) = (0, 0, 2)) := (pie_nm hlt HL.out HR.out).trans (if_pos h32)
              have HX : Hid (lexF s.data.toList = ([], k, 2)) := lex_fail hE.out hlt (by decide) HP.out
              clear hE HP
              go_wp2
              go_ret3
              rw [HX.out]
              exact ⟨none, 0, rfl, .inl rfl, hO.out.2⟩
            · have h32' : ¬ (32 : Int) < (m : Int) - (k : Int) := by omega
              have HP : Hid (pieceL (s.data.toList.drop k) = (1, m - k, 0)) := (pie_nm hlt HL.out HR.out).trans (if_neg h32)
              obtain ⟨tx, htx⟩ : ∃ tx, tx = (s.data.toList.drop k).take (m - k) := ⟨_, rfl⟩
              have hx := lex_step hE.out hlt hkm hms HP.out
              rw [← htx] at hx
              have HT : Hid (s.extract k m = str tx) := (show _ = _ by rw [← str_list (s.extract k m), cut_list, htx])
              obtain ⟨q1, q2⟩ := gapF_le (l := s.data.toList) (i := m) (by rw [size_list]; exact hms)
              rw [size_list] at q2
              obtain ⟨q, hq⟩ : ∃ q, q = gapF s.data.toList m := ⟨_, rfl⟩
              rw [← hq] at hx q1 q2
              have HQ : Hid (gapF s.data.toList m = q) := hq.symm
              have HX : Hid (lexF s.data.toList = before (out ++ [Tok.mk 1 tx k]) (lexR s.size (s.data.toList.drop q))) := hx
              have hmk : (k : Int) ≤ (m : Int) := by omega
              have hmS : (m : Int) ≤ (s.size : Int) := by omega
              have O2 := hO.out
              have hw2 := O2.2.size
              clear hx htx hq hE HP
              go_wp2_with (first
                | (at_builtin; (try rw [HT.out]); refine wpList_append_own _ rfl _ _ 23 rfl w.heap.size 33 i0 (.agg #[.int .i64 0, .string ⟨#[]⟩, .int .i64 0]) 3 32 Tryd.underlying23 hi hz0 hz1 hz2 rfl (by decide) _ _ _ rfl (O2.1.alloc _) ⟨_, 0, none⟩ 1 1 [.int .i64 1, .string (str tx), .int .i64 k] rfl rfl (cells_three _ _ _ _ _) (by simp [Value.oneCell']) (by omega) (by omega) (by simp; omega) ?_; intro v1 w3 hown1 hg1 hnil1; obtain ⟨a1, c1, hv1⟩ := own_slice hown1; subst hv1; have A1 := O2.add (t := Tok.mk 1 tx k) hown1 hg1)
                | (go_at_call 22; refine (r_skip _ _ _ hs hms).mono ?_; rintro e w' ⟨he, hw⟩; subst he; have hw := hw.symm; subst hw; rw [HQ.out])
                | go_in)
              go_roundw
              case rel => exact ⟨q, out ++ [Tok.mk 1 tx k], a1, c1, q2, rfl, by simp, by simp; omega, A1, HX⟩
              case measure => simp [intOf]; omega
      | false =>
        have HL : Hid (let8 s[k] = false) := hl
        clear hl
        cases hd : dig8 s[k] with
        | true =>
          have HD : Hid (dig8 s[k] = true) := hd
          clear hd
          go_wp2_with (first | (go_at_call 23; refine (r_letter _ _).mono ?_; rintro e w' ⟨he, hw⟩; subst he; have hw := hw.symm; subst hw; rw [HL.out]) | (go_at_call 24; refine (r_digit _ _).mono ?_; rintro e w' ⟨he, hw⟩; subst he; have hw := hw.symm; subst hw; rw [HD.out]))
          go_loop [7] (fun v => ∃ m : Nat, k ≤ m ∧ m ≤ s.size ∧ v = .int .i64 m ∧ Hid (runF dig8 s.data.toList k = runF dig8 s.data.toList m)) (fun v => s.size - (intOf v).toNat)
          case atStart => exact ⟨k, by omega, by omega, rfl, rfl⟩
          case round =>
            obtain ⟨m, hkm0, hms, rfl, hr⟩ := hrel
            by_cases hml2 : m < s.size
            · have hml2' : (m : Int) < s.size := by omega
              have hon : onB dig8 s.data.toList m = dig8 s[m] := onB_in hml2
              cases h2 : dig8 s[m] with
              | true =>
                have H2 : Hid (dig8 s[m] = true) := h2
                have HR2 : Hid (runF dig8 s.data.toList k = runF dig8 s.data.toList (m + 1)) := hr.out.trans (runF_on (hon.trans h2)).2
                clear hon h2 hr
                go_wp2_with (go_at_call 24; refine (r_digit _ _).mono ?_; rintro e w' ⟨he, hw⟩; subst he; have hw := hw.symm; subst hw; rw [H2.out])
                go_round
                case rel => exact ⟨m + 1, by omega, by omega, by go_num, HR2⟩
                case measure => simp [intOf]; omega
              | false =>
                have H2 : Hid (dig8 s[m] = false) := h2
                have HR : Hid (runF dig8 s.data.toList k = m) := hr.out.trans (runF_off (hon.trans h2))
                have hkm : k < m := by rw [← HR.out]; exact run_gt hlt HD.out
                have hoo : onB ok8 s.data.toList m = (let8 s[m] || dig8 s[m] || ((s[m]).toNat : Int) == 95) := onB_in hml2
                rw [h2, Bool.or_false] at hoo
                clear hon h2 hr
                cases h1 : let8 s[m] with
                | true =>
                  have H1 : Hid (let8 s[m] = true) := h1
                  have HP : Hid (pieceL (s.data.toList.drop k) = (0, 0, 4)) := (pie_nu hlt HL.out HD.out HR.out).trans (by rw [hoo, h1, Bool.true_or, Bool.or_true]; rfl)
                  clear h1 hoo
                  have HX : Hid (lexF s.data.toList = ([], k, 4)) := lex_fail hE.out hlt (by decide) HP.out
                  clear hE HP
                  go_wp2_with (first
                    | (go_at_call 23; refine (r_letter _ _).mono ?_; rintro e w' ⟨he, hw⟩; subst he; have hw := hw.symm; subst hw; rw [H1.out])
                    | (go_at_call 24; refine (r_digit _ _).mono ?_; rintro e w' ⟨he, hw⟩; subst he; have hw := hw.symm; subst hw; rw [H2.out]))
                  go_ret3
                  rw [HX.out]
                  exact ⟨none, 0, rfl, .inl rfl, hO.out.2⟩
                | false =>
                  have H1 : Hid (let8 s[m] = false) := h1
                  cases h3 : (((s[m]).toNat : Int) == 95) with
                  | true =>
                    have HP : Hid (pieceL (s.data.toList.drop k) = (0, 0, 4)) := (pie_nu hlt HL.out HD.out HR.out).trans (by rw [hoo, h1, h3, Bool.false_or, Bool.or_true]; rfl)
                    clear h1 hoo
                    have HX : Hid (lexF s.data.toList = ([], k, 4)) := lex_fail hE.out hlt (by decide) HP.out
                    clear hE HP
                    go_wp2_with (first
                      | (go_at_call 23; refine (r_letter _ _).mono ?_; rintro e w' ⟨he, hw⟩; subst he; have hw := hw.symm; subst hw; rw [H1.out])
                      | (go_at_call 24; refine (r_digit _ _).mono ?_; rintro e w' ⟨he, hw⟩; subst he; have hw := hw.symm; subst hw; rw [H2.out]))
                    go_ret3
                    rw [HX.out]
                    exact ⟨none, 0, rfl, .inl rfl, hO.out.2⟩
                  | false =>
                    have hof : onB ok8 s.data.toList m = false := by rw [hoo, h1, h3]; rfl
                    have HOF : Hid (onB ok8 s.data.toList m = false) := hof
                    clear hof hoo h1
                    have HON : Hid (onB ok8 s.data.toList m = false) := HOF.out
                    have hzc := zero_cut hlt hkm hms
                    have hX6 : (s.extract k m).size ≤ 1000000 := by rw [← size_list, cut_list, List.length_take, List.length_drop, size_list]; omega
                    by_cases h1 : 1 < m - k
                    · have h1' : (1 : Int) < (m : Int) - (k : Int) := by omega
                      cases h48 : (((s[k]).toNat : Int) == 48) with
                      | true =>
                        have hz : zero8 (s.extract k m).data.toList = true := by rw [hzc, decide_eq_true h1, Bool.true_and]; simp at h48 ⊢; omega
                        have HP : Hid (pieceL (s.data.toList.drop k) = (0, 0, 4)) := (pie_nu hlt HL.out HD.out HR.out).trans (by rw [hz]; rfl)
                        clear hz hzc
                        have HX : Hid (lexF s.data.toList = ([], k, 4)) := lex_fail hE.out hlt (by decide) HP.out
                        clear hE HP
                        go_wp2_with (first
                          | (go_at_call 23; refine (r_letter _ _).mono ?_; rintro e w' ⟨he, hw⟩; subst he; have hw := hw.symm; subst hw; rw [H1.out])
                          | (go_at_call 24; refine (r_digit _ _).mono ?_; rintro e w' ⟨he, hw⟩; subst he; have hw := hw.symm; subst hw; rw [H2.out]))
                        go_ret3
                        rw [HX.out]
                        exact ⟨none, 0, rfl, .inl rfl, hO.out.2⟩
                      | false =>
                        have HZ : Hid (zero8 (s.extract k m).data.toList = false) := (show _ = _ by rw [hzc, decide_eq_true h1, Bool.true_and]; simp at h48 ⊢; omega)
                        clear hzc
                        cases hn : numB (s.extract k m).data.toList with
                        | true =>
                          have HN : Hid (numB (s.extract k m).data.toList = true) := hn
                          have HP : Hid (pieceL (s.data.toList.drop k) = (2, m - k, 0)) := (pie_nu hlt HL.out HD.out HR.out).trans (by rw [HZ.out, HON.out, hn]; rfl)
                          clear hn
                          obtain ⟨tx, htx⟩ : ∃ tx, tx = (s.data.toList.drop k).take (m - k) := ⟨_, rfl⟩
                          have hx := lex_step hE.out hlt hkm hms HP.out
                          rw [← htx] at hx
                          have HT : Hid (s.extract k m = str tx) := (show _ = _ by rw [← str_list (s.extract k m), cut_list, htx])
                          obtain ⟨q1, q2⟩ := gapF_le (l := s.data.toList) (i := m) (by rw [size_list]; exact hms)
                          rw [size_list] at q2
                          obtain ⟨q, hq⟩ : ∃ q, q = gapF s.data.toList m := ⟨_, rfl⟩
                          rw [← hq] at hx q1 q2
                          have HQ : Hid (gapF s.data.toList m = q) := hq.symm
                          have HX : Hid (lexF s.data.toList = before (out ++ [Tok.mk 2 tx k]) (lexR s.size (s.data.toList.drop q))) := hx
                          have hmk : (k : Int) ≤ (m : Int) := by omega
                          have hmS : (m : Int) ≤ (s.size : Int) := by omega
                          have O2 := hO.out
                          have hw2 := O2.2.size
                          clear hx htx hq hE HP
                          go_wp2_with (first
                            | (go_at_call 23; refine (r_letter _ _).mono ?_; rintro e w' ⟨he, hw⟩; subst he; have hw := hw.symm; subst hw; rw [H1.out])
                            | (go_at_call 24; refine (r_digit _ _).mono ?_; rintro e w' ⟨he, hw⟩; subst he; have hw := hw.symm; subst hw; rw [H2.out])
                            | (go_at_call 12; refine (r_number _ _ hX6).mono ?_; rintro e w' ⟨he, hw⟩; unfold numR at he; rw [HN.out] at he; subst he; have hw := hw.symm; subst hw)
                            | (at_builtin; (try rw [HT.out]); refine wpList_append_own _ rfl _ _ 23 rfl w.heap.size 33 i0 (.agg #[.int .i64 0, .string ⟨#[]⟩, .int .i64 0]) 3 32 Tryd.underlying23 hi hz0 hz1 hz2 rfl (by decide) _ _ _ rfl (O2.1.alloc _) ⟨_, 0, none⟩ 1 1 [.int .i64 2, .string (str tx), .int .i64 k] rfl rfl (cells_three _ _ _ _ _) (by simp [Value.oneCell']) (by omega) (by omega) (by simp; omega) ?_; intro v1 w3 hown1 hg1 hnil1; obtain ⟨a1, c1, hv1⟩ := own_slice hown1; subst hv1; have A1 := O2.add (t := Tok.mk 2 tx k) hown1 hg1)
                            | (go_at_call 22; refine (r_skip _ _ _ hs hms).mono ?_; rintro e w' ⟨he, hw⟩; subst he; have hw := hw.symm; subst hw; rw [HQ.out])
                            | go_in)
                          go_roundw
                          case rel => exact ⟨q, out ++ [Tok.mk 2 tx k], a1, c1, q2, rfl, by simp, by simp; omega, A1, HX⟩
                          case measure => simp [intOf]; omega
                        | false =>
                          have HN : Hid (numB (s.extract k m).data.toList = false) := hn
                          have HP : Hid (pieceL (s.data.toList.drop k) = (0, 0, 6)) := (pie_nu hlt HL.out HD.out HR.out).trans (by rw [HZ.out, HON.out, hn]; rfl)
                          clear hn
                          have hmk : (k : Int) ≤ (m : Int) := by omega
                          have hmS : (m : Int) ≤ (s.size : Int) := by omega
                          have HX : Hid (lexF s.data.toList = ([], k, 6)) := lex_fail hE.out hlt (by decide) HP.out
                          clear hE HP
                          go_wp2_with (first
                            | (go_at_call 23; refine (r_letter _ _).mono ?_; rintro e w' ⟨he, hw⟩; subst he; have hw := hw.symm; subst hw; rw [H1.out])
                            | (go_at_call 24; refine (r_digit _ _).mono ?_; rintro e w' ⟨he, hw⟩; subst he; have hw := hw.symm; subst hw; rw [H2.out])
                            | (go_at_call 12; refine (r_number _ _ hX6).mono ?_; rintro e w' ⟨he, hw⟩; unfold numR at he; rw [HN.out] at he; subst he; have hw := hw.symm; subst hw))
                          go_ret3
                          rw [HX.out]
                          exact ⟨none, 0, rfl, .inl rfl, hO.out.2⟩
                    · have h1' : ¬ (1 : Int) < (m : Int) - (k : Int) := by omega
                      have HZ : Hid (zero8 (s.extract k m).data.toList = false) := (show _ = _ by rw [hzc, decide_eq_false h1]; rfl)
                      clear hzc
                      cases hn : numB (s.extract k m).data.toList with
                      | true =>
                        have HN : Hid (numB (s.extract k m).data.toList = true) := hn
                        have HP : Hid (pieceL (s.data.toList.drop k) = (2, m - k, 0)) := (pie_nu hlt HL.out HD.out HR.out).trans (by rw [HZ.out, HON.out, hn]; rfl)
                        clear hn
                        obtain ⟨tx, htx⟩ : ∃ tx, tx = (s.data.toList.drop k).take (m - k) := ⟨_, rfl⟩
                        have hx := lex_step hE.out hlt hkm hms HP.out
                        rw [← htx] at hx
                        have HT : Hid (s.extract k m = str tx) := (show _ = _ by rw [← str_list (s.extract k m), cut_list, htx])
                        obtain ⟨q1, q2⟩ := gapF_le (l := s.data.toList) (i := m) (by rw [size_list]; exact hms)
                        rw [size_list] at q2
                        obtain ⟨q, hq⟩ : ∃ q, q = gapF s.data.toList m := ⟨_, rfl⟩
                        rw [← hq] at hx q1 q2
                        have HQ : Hid (gapF s.data.toList m = q) := hq.symm
                        have HX : Hid (lexF s.data.toList = before (out ++ [Tok.mk 2 tx k]) (lexR s.size (s.data.toList.drop q))) := hx
                        have hmk : (k : Int) ≤ (m : Int) := by omega
                        have hmS : (m : Int) ≤ (s.size : Int) := by omega
                        have O2 := hO.out
                        have hw2 := O2.2.size
                        clear hx htx hq hE HP
                        go_wp2_with (first
                          | (go_at_call 23; refine (r_letter _ _).mono ?_; rintro e w' ⟨he, hw⟩; subst he; have hw := hw.symm; subst hw; rw [H1.out])
                          | (go_at_call 24; refine (r_digit _ _).mono ?_; rintro e w' ⟨he, hw⟩; subst he; have hw := hw.symm; subst hw; rw [H2.out])
                          | (go_at_call 12; refine (r_number _ _ hX6).mono ?_; rintro e w' ⟨he, hw⟩; unfold numR at he; rw [HN.out] at he; subst he; have hw := hw.symm; subst hw)
                          | (at_builtin; (try rw [HT.out]); refine wpList_append_own _ rfl _ _ 23 rfl w.heap.size 33 i0 (.agg #[.int .i64 0, .string ⟨#[]⟩, .int .i64 0]) 3 32 Tryd.underlying23 hi hz0 hz1 hz2 rfl (by decide) _ _ _ rfl (O2.1.alloc _) ⟨_, 0, none⟩ 1 1 [.int .i64 2, .string (str tx), .int .i64 k] rfl rfl (cells_three _ _ _ _ _) (by simp [Value.oneCell']) (by omega) (by omega) (by simp; omega) ?_; intro v1 w3 hown1 hg1 hnil1; obtain ⟨a1, c1, hv1⟩ := own_slice hown1; subst hv1; have A1 := O2.add (t := Tok.mk 2 tx k) hown1 hg1)
                          | (go_at_call 22; refine (r_skip _ _ _ hs hms).mono ?_; rintro e w' ⟨he, hw⟩; subst he; have hw := hw.symm; subst hw; rw [HQ.out])
                          | go_in)
                        go_roundw
                        case rel => exact ⟨q, out ++ [Tok.mk 2 tx k], a1, c1, q2, rfl, by simp, by simp; omega, A1, HX⟩
                        case measure => simp [intOf]; omega
                      | false =>
                        have HN : Hid (numB (s.extract k m).data.toList = false) := hn
                        have HP : Hid (pieceL (s.data.toList.drop k) = (0, 0, 6)) := (pie_nu hlt HL.out HD.out HR.out).trans (by rw [HZ.out, HON.out, hn]; rfl)
                        clear hn
                        have hmk : (k : Int) ≤ (m : Int) := by omega
                        have hmS : (m : Int) ≤ (s.size : Int) := by omega
                        have HX : Hid (lexF s.data.toList = ([], k, 6)) := lex_fail hE.out hlt (by decide) HP.out
                        clear hE HP
                        go_wp2_with (first
                          | (go_at_call 23; refine (r_letter _ _).mono ?_; rintro e w' ⟨he, hw⟩; subst he; have hw := hw.symm; subst hw; rw [H1.out])
                          | (go_at_call 24; refine (r_digit _ _).mono ?_; rintro e w' ⟨he, hw⟩; subst he; have hw := hw.symm; subst hw; rw [H2.out])
                          | (go_at_call 12; refine (r_number _ _ hX6).mono ?_; rintro e w' ⟨he, hw⟩; unfold numR at he; rw [HN.out] at he; subst he; have hw := hw.symm; subst hw))
                        go_ret3
                        rw [HX.out]
                        exact ⟨none, 0, rfl, .inl rfl, hO.out.2⟩
            · have hml2' : ¬ (m : Int) < s.size := by omega
              have HR : Hid (runF dig8 s.data.toList k = m) := hr.out.trans (runF_off (onB_out (by rw [size_list]; omega)))
              have hkm : k < m := by rw [← HR.out]; exact run_gt hlt HD.out
              clear hr
              have HON : Hid (onB ok8 s.data.toList m = false) := onB_out (by rw [size_list]; omega)
              have hzc := zero_cut hlt hkm hms
              have hX6 : (s.extract k m).size ≤ 1000000 := by rw [← size_list, cut_list, List.length_take, List.length_drop, size_list]; omega
              by_cases h1 : 1 < m - k
              · have h1' : (1 : Int) < (m : Int) - (k : Int) := by omega
                cases h48 : (((s[k]).toNat : Int) == 48) with
                | true =>
                  have hz : zero8 (s.extract k m).data.toList = true := by rw [hzc, decide_eq_true h1, Bool.true_and]; simp at h48 ⊢; omega
                  have HP : Hid (pieceL (s.data.toList.drop k) = (0, 0, 4)) := (pie_nu hlt HL.out HD.out HR.out).trans (by rw [hz]; rfl)
                  clear hz hzc
                  have HX : Hid (lexF s.data.toList = ([], k, 4)) := lex_fail hE.out hlt (by decide) HP.out
                  clear hE HP
                  go_wp2
                  go_ret3
                  rw [HX.out]
                  exact ⟨none, 0, rfl, .inl rfl, hO.out.2⟩
                | false =>
                  have HZ : Hid (zero8 (s.extract k m).data.toList = false) := (show _ = _ by rw [hzc, decide_eq_true h1, Bool.true_and]; simp at h48 ⊢; omega)
                  clear hzc
                  cases hn : numB (s.extract k m).data.toList with
                  | true =>
                    have HN : Hid (numB (s.extract k m).data.toList = true) := hn
                    have HP : Hid (pieceL (s.data.toList.drop k) = (2, m - k, 0)) := (pie_nu hlt HL.out HD.out HR.out).trans (by rw [HZ.out, HON.out, hn]; rfl)
                    clear hn
                    obtain ⟨tx, htx⟩ : ∃ tx, tx = (s.data.toList.drop k).take (m - k) := ⟨_, rfl⟩
                    have hx := lex_step hE.out hlt hkm hms HP.out
                    rw [← htx] at hx
                    have HT : Hid (s.extract k m = str tx) := (show _ = _ by rw [← str_list (s.extract k m), cut_list, htx])
                    obtain ⟨q1, q2⟩ := gapF_le (l := s.data.toList) (i := m) (by rw [size_list]; exact hms)
                    rw [size_list] at q2
                    obtain ⟨q, hq⟩ : ∃ q, q = gapF s.data.toList m := ⟨_, rfl⟩
                    rw [← hq] at hx q1 q2
                    have HQ : Hid (gapF s.data.toList m = q) := hq.symm
                    have HX : Hid (lexF s.data.toList = before (out ++ [Tok.mk 2 tx k]) (lexR s.size (s.data.toList.drop q))) := hx
                    have hmk : (k : Int) ≤ (m : Int) := by omega
                    have hmS : (m : Int) ≤ (s.size : Int) := by omega
                    have O2 := hO.out
                    have hw2 := O2.2.size
                    clear hx htx hq hE HP
                    go_wp2_with (first
                      | (go_at_call 12; refine (r_number _ _ hX6).mono ?_; rintro e w' ⟨he, hw⟩; unfold numR at he; rw [HN.out] at he; subst he; have hw := hw.symm; subst hw)
                      | (at_builtin; (try rw [HT.out]); refine wpList_append_own _ rfl _ _ 23 rfl w.heap.size 33 i0 (.agg #[.int .i64 0, .string ⟨#[]⟩, .int .i64 0]) 3 32 Tryd.underlying23 hi hz0 hz1 hz2 rfl (by decide) _ _ _ rfl (O2.1.alloc _) ⟨_, 0, none⟩ 1 1 [.int .i64 2, .string (str tx), .int .i64 k] rfl rfl (cells_three _ _ _ _ _) (by simp [Value.oneCell']) (by omega) (by omega) (by simp; omega) ?_; intro v1 w3 hown1 hg1 hnil1; obtain ⟨a1, c1, hv1⟩ := own_slice hown1; subst hv1; have A1 := O2.add (t := Tok.mk 2 tx k) hown1 hg1)
                      | (go_at_call 22; refine (r_skip _ _ _ hs hms).mono ?_; rintro e w' ⟨he, hw⟩; subst he; have hw := hw.symm; subst hw; rw [HQ.out])
                      | go_in)
                    go_roundw
                    case rel => exact ⟨q, out ++ [Tok.mk 2 tx k], a1, c1, q2, rfl, by simp, by simp; omega, A1, HX⟩
                    case measure => simp [intOf]; omega
                  | false =>
                    have HN : Hid (numB (s.extract k m).data.toList = false) := hn
                    have HP : Hid (pieceL (s.data.toList.drop k) = (0, 0, 6)) := (pie_nu hlt HL.out HD.out HR.out).trans (by rw [HZ.out, HON.out, hn]; rfl)
                    clear hn
                    have hmk : (k : Int) ≤ (m : Int) := by omega
                    have hmS : (m : Int) ≤ (s.size : Int) := by omega
                    have HX : Hid (lexF s.data.toList = ([], k, 6)) := lex_fail hE.out hlt (by decide) HP.out
                    clear hE HP
                    go_wp2_with (first
                      | (go_at_call 12; refine (r_number _ _ hX6).mono ?_; rintro e w' ⟨he, hw⟩; unfold numR at he; rw [HN.out] at he; subst he; have hw := hw.symm; subst hw))
                    go_ret3
                    rw [HX.out]
                    exact ⟨none, 0, rfl, .inl rfl, hO.out.2⟩
              · have h1' : ¬ (1 : Int) < (m : Int) - (k : Int) := by omega
                have HZ : Hid (zero8 (s.extract k m).data.toList = false) := (show _ = _ by rw [hzc, decide_eq_false h1]; rfl)
                clear hzc
                cases hn : numB (s.extract k m).data.toList with
                | true =>
                  have HN : Hid (numB (s.extract k m).data.toList = true) := hn
                  have HP : Hid (pieceL (s.data.toList.drop k) = (2, m - k, 0)) := (pie_nu hlt HL.out HD.out HR.out).trans (by rw [HZ.out, HON.out, hn]; rfl)
                  clear hn
                  obtain ⟨tx, htx⟩ : ∃ tx, tx = (s.data.toList.drop k).take (m - k) := ⟨_, rfl⟩
                  have hx := lex_step hE.out hlt hkm hms HP.out
                  rw [← htx] at hx
                  have HT : Hid (s.extract k m = str tx) := (show _ = _ by rw [← str_list (s.extract k m), cut_list, htx])
                  obtain ⟨q1, q2⟩ := gapF_le (l := s.data.toList) (i := m) (by rw [size_list]; exact hms)
                  rw [size_list] at q2
                  obtain ⟨q, hq⟩ : ∃ q, q = gapF s.data.toList m := ⟨_, rfl⟩
                  rw [← hq] at hx q1 q2
                  have HQ : Hid (gapF s.data.toList m = q) := hq.symm
                  have HX : Hid (lexF s.data.toList = before (out ++ [Tok.mk 2 tx k]) (lexR s.size (s.data.toList.drop q))) := hx
                  have hmk : (k : Int) ≤ (m : Int) := by omega
                  have hmS : (m : Int) ≤ (s.size : Int) := by omega
                  have O2 := hO.out
                  have hw2 := O2.2.size
                  clear hx htx hq hE HP
                  go_wp2_with (first
                    | (go_at_call 12; refine (r_number _ _ hX6).mono ?_; rintro e w' ⟨he, hw⟩; unfold numR at he; rw [HN.out] at he; subst he; have hw := hw.symm; subst hw)
                    | (at_builtin; (try rw [HT.out]); refine wpList_append_own _ rfl _ _ 23 rfl w.heap.size 33 i0 (.agg #[.int .i64 0, .string ⟨#[]⟩, .int .i64 0]) 3 32 Tryd.underlying23 hi hz0 hz1 hz2 rfl (by decide) _ _ _ rfl (O2.1.alloc _) ⟨_, 0, none⟩ 1 1 [.int .i64 2, .string (str tx), .int .i64 k] rfl rfl (cells_three _ _ _ _ _) (by simp [Value.oneCell']) (by omega) (by omega) (by simp; omega) ?_; intro v1 w3 hown1 hg1 hnil1; obtain ⟨a1, c1, hv1⟩ := own_slice hown1; subst hv1; have A1 := O2.add (t := Tok.mk 2 tx k) hown1 hg1)
                    | (go_at_call 22; refine (r_skip _ _ _ hs hms).mono ?_; rintro e w' ⟨he, hw⟩; subst he; have hw := hw.symm; subst hw; rw [HQ.out])
                    | go_in)
                  go_roundw
                  case rel => exact ⟨q, out ++ [Tok.mk 2 tx k], a1, c1, q2, rfl, by simp, by simp; omega, A1, HX⟩
                  case measure => simp [intOf]; omega
                | false =>
                  have HN : Hid (numB (s.extract k m).data.toList = false) := hn
                  have HP : Hid (pieceL (s.data.toList.drop k) = (0, 0, 6)) := (pie_nu hlt HL.out HD.out HR.out).trans (by rw [HZ.out, HON.out, hn]; rfl)
                  clear hn
                  have hmk : (k : Int) ≤ (m : Int) := by omega
                  have hmS : (m : Int) ≤ (s.size : Int) := by omega
                  have HX : Hid (lexF s.data.toList = ([], k, 6)) := lex_fail hE.out hlt (by decide) HP.out
                  clear hE HP
                  go_wp2_with (first
                    | (go_at_call 12; refine (r_number _ _ hX6).mono ?_; rintro e w' ⟨he, hw⟩; unfold numR at he; rw [HN.out] at he; subst he; have hw := hw.symm; subst hw))
                  go_ret3
                  rw [HX.out]
                  exact ⟨none, 0, rfl, .inl rfl, hO.out.2⟩
        | false =>
          have HD : Hid (dig8 s[k] = false) := hd
          clear hd
          obtain ⟨b, hb⟩ : ∃ b, b = best signsL (s.data.toList.drop k) := ⟨_, rfl⟩
          have HB : Hid (best signsL (s.data.toList.drop k) = b) := hb.symm
          have hps := pie_sg hlt HL.out HD.out
          rw [← hb] at hps
          by_cases hb0 : b = 0
          · have HP : Hid (pieceL (s.data.toList.drop k) = (0, 0, 4)) := hps.trans (if_pos hb0)
            subst hb0
            clear hps hb
            have HX : Hid (lexF s.data.toList = ([], k, 4)) := lex_fail hE.out hlt (by decide) HP.out
            clear hE HP
            go_wp2_with (first
              | (go_at_call 23; refine (r_letter _ _).mono ?_; rintro e w' ⟨he, hw⟩; subst he; have hw := hw.symm; subst hw; rw [HL.out])
              | (go_at_call 24; refine (r_digit _ _).mono ?_; rintro e w' ⟨he, hw⟩; subst he; have hw := hw.symm; subst hw; rw [HD.out])
              | (go_at_call 25; refine (r_sign _ _ _ hs hlt).mono ?_; rintro e w1 ⟨he, b1⟩; rw [HB.out] at he; subst he))
            go_ret3
            rw [HX.out]
            exact ⟨none, 0, rfl, .inl rfl, then_ hO.out.2 b1⟩
          · have hbl := (sign_self (r := s.data.toList.drop k) (by rw [← hb]; exact hb0)).2
            rw [← hb, List.length_drop, size_list] at hbl
            obtain ⟨m, hm⟩ : ∃ m, m = k + b := ⟨_, rfl⟩
            have hkm : k < m := by omega
            have hms : m ≤ s.size := by omega
            have HP : Hid (pieceL (s.data.toList.drop k) = (3, m - k, 0)) := (hps.trans (if_neg hb0)).trans (by rw [hm, Nat.add_sub_cancel_left])
            have hsum : (k : Int) + (b : Int) = (m : Int) := by omega
            have hne2 : ((m : Int) == (k : Int)) = false := beq_eq_false_iff_ne.2 (by omega)
            clear hps hb hm hb0
            go_wp2_with fail
            refine (r_letter _ _).mono ?_; rintro e w' ⟨he, hw⟩; subst he; have hw := hw.symm; subst hw; rw [HL.out]
            go_wp2_with fail
            refine (r_digit _ _).mono ?_; rintro e w' ⟨he, hw⟩; subst he; have hw := hw.symm; subst hw; rw [HD.out]
            go_wp2_with fail
            refine (r_sign _ _ _ hs hlt).mono ?_; rintro e w1 ⟨he, b1⟩; rw [HB.out] at he; subst he
            obtain ⟨tx, htx⟩ : ∃ tx, tx = (s.data.toList.drop k).take (m - k) := ⟨_, rfl⟩
            have hx := lex_step hE.out hlt hkm hms HP.out
            rw [← htx] at hx
            have HT : Hid (s.extract k m = str tx) := (show _ = _ by rw [← str_list (s.extract k m), cut_list, htx])
            obtain ⟨q1, q2⟩ := gapF_le (l := s.data.toList) (i := m) (by rw [size_list]; exact hms)
            rw [size_list] at q2
            obtain ⟨q, hq⟩ : ∃ q, q = gapF s.data.toList m := ⟨_, rfl⟩
            rw [← hq] at hx q1 q2
            have HQ : Hid (gapF s.data.toList m = q) := hq.symm
            have HX : Hid (lexF s.data.toList = before (out ++ [Tok.mk 3 tx k]) (lexR s.size (s.data.toList.drop q))) := hx
            have hmk : (k : Int) ≤ (m : Int) := by omega
            have hmS : (m : Int) ≤ (s.size : Int) := by omega
            have O2 := hO.out.up b1
            have hw2 := O2.2.size
            clear hx htx hq hE HP
            go_wp2_with (first
              | (at_builtin; (try rw [HT.out]); refine wpList_append_own _ rfl _ _ 23 rfl w.heap.size 33 i0 (.agg #[.int .i64 0, .string ⟨#[]⟩, .int .i64 0]) 3 32 Tryd.underlying23 hi hz0 hz1 hz2 rfl (by decide) _ _ _ rfl (O2.1.alloc _) ⟨_, 0, none⟩ 1 1 [.int .i64 3, .string (str tx), .int .i64 k] rfl rfl (cells_three _ _ _ _ _) (by simp [Value.oneCell']) (by omega) (by omega) (by simp; omega) ?_; intro v1 w3 hown1 hg1 hnil1; obtain ⟨a1, c1, hv1⟩ := own_slice hown1; subst hv1; have A1 := O2.add (t := Tok.mk 3 tx k) hown1 hg1)
              | (go_at_call 22; refine (r_skip _ _ _ hs hms).mono ?_; rintro e w' ⟨he, hw⟩; subst he; have hw := hw.symm; subst hw; rw [HQ.out])
              | go_in)
            go_roundw
            case rel => exact ⟨q, out ++ [Tok.mk 3 tx k], a1, c1, q2, rfl, by simp, by simp; omega, A1, HX⟩
            case measure => simp [intOf]; omega
    · have hlt' : ¬ (k : Int) < s.size := by omega
      have hx := hE.out
      rw [List.drop_of_length_le (by rw [size_list]; omega), lexR_nil, before_ok _ _ rfl, List.append_nil] at hx
      have HX : Hid (lexF s.data.toList = (out, s.size, 0)) := hx
      clear hx hE
      go_wp2
      go_ret3
      rw [HX.out]
      exact ⟨oa, oc, rfl, hO.out.toks, hO.out.2⟩
end Go.Proofs.YtnhhajbfohjlbaaDoor.Token
