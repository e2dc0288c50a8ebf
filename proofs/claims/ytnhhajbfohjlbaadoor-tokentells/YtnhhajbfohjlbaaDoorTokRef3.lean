/- The document's own Join, Tokens, Word, sign: contracts of the calls, over the turned program. -/
import Derived.Test.YtnhhajbfohjlbaaDoorTokRef2
namespace Go.Proofs.YtnhhajbfohjlbaaDoor.Token
open Go.RowKit Go.Proofs.YtnhhajbfohjlbaaDoor.Colour Go.Proofs.YtnhhajbfohjlbaaDoor.Frame
set_option linter.unusedVariables false
set_option linter.unusedSimpArgs false

theorem str_append (a b : List UInt8) : str (a ++ b) = str a ++ str b := by
  unfold str; exact (Go.ByteArray.mk_append_mk a b).symm

set_option maxRecDepth 100000 in
set_option maxHeartbeats 2000000 in
theorem r_join (a : Option Addr) (c : Nat) (l : List Tok) (w : World) (h : Toks w a l) (hl : l.length ≤ 1000000) (hj : (joinL l).length ≤ 1000000) :
    Calls Tryd.prog 17 #[.slice a l.length c] w fun e w' => e = .returned (.string (str (joinL l))) ∧ w' = w := by
  have HT : Hid (Toks w a l) := h
  have HJ : Hid ((joinL l).length ≤ 1000000) := hj
  obtain ⟨n, hn⟩ : ∃ n, n = l.length := ⟨_, rfl⟩
  have HN : Hid (n = l.length) := hn
  rw [← hn] at hl ⊢
  clear h hj hn
  go_enter Tryd.func17, Tryd.ntmps17
  go_wp2
  go_loop [3, 4] (fun v i => ∃ (k : Nat) (S : ByteArray), k ≤ n ∧ i = .int .i64 k ∧ v = .string S ∧ Hid (S = str (joinL (l.take k)))) (fun _ i => n - (intOf i).toNat)
  case atStart => exact ⟨0, ⟨#[]⟩, by omega, rfl, rfl, rfl⟩
  case round =>
    obtain ⟨k, S, hk, rfl, rfl, hS⟩ := hrel
    by_cases hlt : k < n
    · have hlt' : (k : Int) < n := by omega
      have hkl : k < l.length := by rw [← HN.out]; exact hlt
      obtain ⟨b, off, ha, hbl, hat⟩ := HT.out.row hkl
      subst ha
      obtain ⟨_, c1, _⟩ := hat k hkl
      have hJ := join_take hkl
      have hm := join_mono (l := l) (k := k + 1)
      rw [hJ] at hm
      have hjl := HJ.out
      have hSs : S.size = (joinL (l.take k)).length := by rw [hS.out, str_size]
      generalize l.getD k tk0 = t at *
      simp only [List.length_append] at hm
      have hS6 : S.size ≤ 1000000 := by omega
      have ht6 : (str t.text).size ≤ 1000000 := by rw [str_size]; omega
      by_cases hk0 : k = 0
      · have hk0' : ¬ (0 : Int) < (k : Int) := by omega
        have E : Hid (S ++ str t.text = str (joinL (l.take (k + 1)))) := (show _ = _ by rw [hJ, if_pos hk0, hS.out, ← str_append]; rfl)
        generalize str t.text = T at *
        clear hk0 hJ hm hSs hat hkl hS
        go_wp2
        go_round
        case rel => exact ⟨k + 1, S ++ T, by omega, by go_num, rfl, E⟩
        case measure => simp [intOf]; omega
      · have hk0' : (0 : Int) < (k : Int) := by omega
        have E : Hid (S ++ (⟨#[32]⟩ : ByteArray) ++ str t.text = str (joinL (l.take (k + 1)))) := (show _ = _ by rw [hJ, if_neg hk0, hS.out, str_append, str_append, ByteArray.append_assoc]; rfl)
        generalize str t.text = T at *
        clear hk0 hJ hm hSs hat hkl hS
        go_wp2
        go_round
        case rel => exact ⟨k + 1, S ++ (⟨#[32]⟩ : ByteArray) ++ T, by omega, by go_num, rfl, E⟩
        case measure => simp [intOf]; omega
    · have hlt' : ¬ (k : Int) < n := by omega
      have E : Hid (S = str (joinL l)) := (show _ = _ by rw [hS.out, List.take_of_length_le (by rw [← HN.out]; omega)])
      clear hS
      go_wp2
      go_ret
      exact ⟨by rw [← E.out]; rfl, rfl⟩

set_option maxRecDepth 100000 in
set_option maxHeartbeats 2000000 in
theorem r_tokens (a a' : Option Addr) (c c' : Nat) (l : List Tok) (w : World) (h : Toks w a l) (h' : Toks w a' l) (hl : l.length ≤ 1000000) :
    Calls Tryd.prog 13 #[.slice a l.length c, .slice a' l.length c'] w fun e w' => e = .returned (.bool true) ∧ Below w.heap.size w w' := by
  have HT : Hid (Toks w a l) := h
  have HU : Hid (Toks w a' l) := h'
  obtain ⟨n, hn⟩ : ∃ n, n = l.length := ⟨_, rfl⟩
  have HN : Hid (n = l.length) := hn
  rw [← hn] at hl ⊢
  clear h h' hn
  go_enter Tryd.func13, Tryd.ntmps13
  go_wp2
  go_loopw [5] (fun i wr => ∃ k : Nat, k ≤ n ∧ i = .int .i64 k ∧ Hid (Below w.heap.size w wr)) (fun i _ => n - (intOf i).toNat)
  case atStart => exact ⟨0, by omega, rfl, Below.refl _ _⟩
  case round =>
    obtain ⟨k, hk, rfl, hB⟩ := hrel
    by_cases hlt : k < n
    · have hlt' : (k : Int) < n := by omega
      have hkl : k < l.length := by rw [← HN.out]; exact hlt
      obtain ⟨b, off, ha, hbl, hat⟩ := (HT.out.below hB.out).row hkl
      obtain ⟨b', off', ha', hbl', hat'⟩ := (HU.out.below hB.out).row hkl
      subst ha ha'
      obtain ⟨c0, c1, c2⟩ := hat k hkl
      obtain ⟨d0, d1, d2⟩ := hat' k hkl
      generalize l.getD k tk0 = t at *
      clear hat hat' hkl
      go_wp2
      go_quiet (fail)
      go_wp2
      go_roundw
      case rel => exact ⟨k + 1, by omega, by go_num, dn' hB.out _⟩
      case measure => simp [intOf]; omega
    · have hlt' : ¬ (k : Int) < n := by omega
      go_wp2
      go_ret
      exact ⟨rfl, hB.out⟩

theorem cells_strs {w : World} {g : Nat} {t : TypeId} (zs : List (List UInt8)) (h : w.heap[g]? = some (.cells (zs.map fun l => Value.string (str l)).toArray t)) (j : Nat) (hj : j < zs.length) : w.cell? ⟨g, j, none⟩ = some (.string (str (zs.getD j []))) := by
  rw [box_cell h, List.getElem?_toArray, List.getElem?_map, List.getD_eq_getElem?_getD, List.getElem?_eq_getElem hj]; rfl

set_option maxRecDepth 100000 in
set_option maxHeartbeats 2000000 in
theorem r_word (s : ByteArray) (w : World) :
    Calls Tryd.prog 15 #[.string s] w fun e w' => e = .returned (.bool (wordB s.data.toList)) ∧ Below w.heap.size w w' := by
  go_enter Tryd.func15, Tryd.ntmps15
  go_wp2
  generalize hW0 : w.alloc _ = W
  have hW : W = w.alloc (.cells (wordsL.map fun l => Value.string (str l)).toArray 9) := by rw [← hW0]; rfl
  have hb : Below w.heap.size w W := by rw [hW]; exact (Below.refl _ _).alloc (Nat.le_refl _) _
  have hc : ∀ j, j < 21 → W.cell? ⟨w.heap.size, j, none⟩ = some (.string (str (wordsL.getD j []))) := fun j hj => cells_strs wordsL (by rw [hW]; exact heap_alloc_new w _) j hj
  have HB : Hid (Below w.heap.size w W) := hb
  have HC : Hid (∀ j, j < 21 → W.cell? ⟨w.heap.size, j, none⟩ = some (.string (str (wordsL.getD j [])))) := hc
  clear hb hc hW hW0
  go_loop [4] (fun i => ∃ k : Nat, k ≤ 21 ∧ i = .int .i64 k ∧ Hid (∀ j, j < k → s.data.toList ≠ wordsL.getD j [])) (fun i => 21 - (intOf i).toNat)
  case atStart => exact ⟨0, by omega, rfl, fun j h => by omega⟩
  case round =>
    obtain ⟨k, hk, rfl, hN⟩ := hrel
    by_cases hlt : k < 21
    · have hlt' : (k : Int) < 21 := by omega
      have c0 := HC.out k hlt
      have hbl := World.block_lt_of_cell? W _ c0
      by_cases he : s.data.toList = wordsL.getD k []
      · have hT : str (wordsL.getD k []) = s := by rw [← he, str_list]
        have E : Hid (wordB s.data.toList = true) := decide_eq_true (by rw [he, List.getD_eq_getElem?_getD, List.getElem?_eq_getElem (show k < wordsL.length from hlt)]; exact List.getElem_mem _)
        rw [hT] at c0
        clear he hT
        go_wp2
        go_ret
        exact ⟨by rw [E.out]; rfl, HB.out⟩
      · have hne : ((str (wordsL.getD k [])).toList == s.toList) = false := by
          rw [Go.ByteArray.toList_eq, Go.ByteArray.toList_eq, str_data]
          exact beq_eq_false_iff_ne.2 (fun e => he e.symm)
        have hN2 : Hid (∀ j, j < k + 1 → s.data.toList ≠ wordsL.getD j []) := fun j hj => by
          rcases Nat.lt_or_ge j k with h | h
          · exact hN.out j h
          · obtain rfl : j = k := by omega
            exact he
        generalize str (wordsL.getD k []) = T at *
        clear he
        go_wp2
        go_round
        case rel => exact ⟨k + 1, by omega, by go_num, hN2⟩
        case measure => simp [intOf]; omega
    · have hlt' : ¬ (k : Int) < 21 := by omega
      have E : Hid (wordB s.data.toList = false) := decide_eq_false fun hm => by
        obtain ⟨j, hj, he⟩ := List.getElem_of_mem hm
        have hj' : j < 21 := hj
        refine hN.out j (by omega) ?_
        rw [List.getD_eq_getElem?_getD, List.getElem?_eq_getElem hj]; exact he.symm
      go_wp2
      go_ret
      exact ⟨by rw [E.out]; rfl, HB.out⟩

/-- of the first two bytes -/
theorem pre_two {s : ByteArray} {i : Nat} {t : List UInt8} (hi : i + 2 ≤ s.size) (ht : t.length = 2) : t.isPrefixOf (s.data.toList.drop i) = decide ((s.extract i (i + 2)).data.toList = t) := by
  rw [cut_list, Nat.add_sub_cancel_left, Bool.eq_iff_iff, List.isPrefixOf_iff_prefix, List.prefix_iff_eq_take, ht]
  simp; exact ⟨fun h => h.symm, fun h => h.symm⟩
theorem pre_short {s : ByteArray} {i : Nat} {t : List UInt8} (hi : ¬ i + 2 ≤ s.size) (ht : t.length = 2) : t.isPrefixOf (s.data.toList.drop i) = false := by
  cases h : t.isPrefixOf (s.data.toList.drop i) with
  | false => rfl
  | true => have := (pre_take h).2; rw [List.length_drop, size_list] at this; omega
theorem two_len {k : Nat} (h : k < 6) : (twoL.getD k []).length = 2 := (show ∀ k, k < 6 → (twoL.getD k []).length = 2 by decide) k h
theorem two_mem {k : Nat} (h : k < 6) : twoL.getD k [] ∈ twoL := by
  rw [List.getD_eq_getElem?_getD, List.getElem?_eq_getElem (show k < twoL.length from h)]; exact List.getElem_mem _
theorem one_next {c : UInt8} {k : Nat} (h : ∀ j, j < k → c ≠ oneL.getD j 0) (he : c ≠ oneL.getD k 0) : ∀ j, j < k + 1 → c ≠ oneL.getD j 0 := fun j hj => by
  rcases Nat.lt_or_ge j k with g | g
  · exact h j g
  · obtain rfl : j = k := by omega
    exact he
theorem one_mem {k : Nat} (h : k < 15) : oneL.getD k 0 ∈ oneL := by
  rw [List.getD_eq_getElem?_getD, List.getElem?_eq_getElem (show k < oneL.length from h)]; exact List.getElem_mem _

set_option maxRecDepth 100000 in
set_option maxHeartbeats 8000000 in
theorem r_sign (s : ByteArray) (i : Nat) (w : World) (hs : s.size ≤ 1000000) (hi : i < s.size) :
    Calls Tryd.prog 25 #[.string s, .int .i64 i] w fun e w' => e = .returned (.int .i64 (best signsL (s.data.toList.drop i))) ∧ Below w.heap.size w w' := by
  have hi' : (i : Int) < s.size := by omega
  have hne : s.data.toList.drop i ≠ [] := fun e => by rw [List.drop_eq_nil_iff, size_list] at e; omega
  have hhd : (s.data.toList.drop i).headD 0 = s[i] := by rw [drop_at hi]; rfl
  have HNE : Hid (s.data.toList.drop i ≠ []) := hne
  have HHD : Hid ((s.data.toList.drop i).headD 0 = s[i]) := hhd
  clear hne hhd
  go_enter Tryd.func25, Tryd.ntmps25
  go_wp2
  generalize hW0 : w.alloc _ = W
  have hW : W = w.alloc (.cells (twoL.map fun l => Value.string (str l)).toArray 9) := by rw [← hW0]; rfl
  have hb : Below w.heap.size w W := by rw [hW]; exact (Below.refl _ _).alloc (Nat.le_refl _) _
  have hc : ∀ j, j < 6 → W.cell? ⟨w.heap.size, j, none⟩ = some (.string (str (twoL.getD j []))) := fun j hj => cells_strs twoL (by rw [hW]; exact heap_alloc_new w _) j hj
  have HB : Hid (Below w.heap.size w W) := hb
  have HC : Hid (∀ j, j < 6 → W.cell? ⟨w.heap.size, j, none⟩ = some (.string (str (twoL.getD j [])))) := hc
  clear hb hc hW hW0
  go_loopw [6] (fun v wr => ∃ k : Nat, k ≤ 6 ∧ v = .int .i64 k ∧ Hid (∀ j, j < k → (twoL.getD j []).isPrefixOf (s.data.toList.drop i) = false) ∧ Hid (Below W.heap.size W wr)) (fun v _ => 6 - (intOf v).toNat)
  case atStart => exact ⟨0, by omega, rfl, fun j h => by omega, Below.refl _ _⟩
  case round =>
    obtain ⟨k, hk, rfl, hN, hB⟩ := hrel
    by_cases hlt : k < 6
    · have hlt' : (k : Int) < 6 := by omega
      have c00 := HC.out k hlt
      have c0 := (hB.out.cell (p := ⟨w.heap.size, k, none⟩) (World.block_lt_of_cell? W _ c00)).trans c00
      have hbl := World.block_lt_of_cell? _ _ c0
      clear c00
      by_cases h2 : i + 2 ≤ s.size
      · have h2' : decide ((i : Int) + 2 ≤ (s.size : Int)) = true := decide_eq_true (by omega)
        have h2n : (i : Int) + 2 ≤ (s.size : Int) := by omega
        have hP := pre_two h2 (two_len hlt)
        by_cases he : (s.extract i (i + 2)).data.toList = twoL.getD k []
        · have hT : s.extract i (i + 2) = str (twoL.getD k []) := by rw [← he, str_list]
          have E : Hid (best signsL (s.data.toList.drop i) = 2) := sign_two ⟨_, two_mem hlt, by rw [hP, decide_eq_true he]⟩
          generalize str (twoL.getD k []) = T at *
          clear hP he hN
          go_wp2
          go_quiet (fail)
          go_wp2
          go_ret
          exact ⟨by rw [E.out]; rfl, then_ HB.out (dn' hB.out _)⟩
        · have hx : ((s.extract i (i + 2)).toList == (str (twoL.getD k [])).toList) = false := by
            rw [Go.ByteArray.toList_eq, Go.ByteArray.toList_eq, str_data]; exact beq_eq_false_iff_ne.2 he
          have hN2 : Hid (∀ j, j < k + 1 → (twoL.getD j []).isPrefixOf (s.data.toList.drop i) = false) := fun j hj => by
            rcases Nat.lt_or_ge j k with h | h
            · exact hN.out j h
            · obtain rfl : j = k := by omega
              rw [hP, decide_eq_false he]
          generalize str (twoL.getD k []) = T at *
          clear hP he hN
          go_wp2
          go_quiet (fail)
          go_wp2
          go_roundw
          case rel => exact ⟨k + 1, by omega, by go_num, hN2, dn' hB.out _⟩
          case measure => simp [intOf]; omega
      · have h2' : decide ((i : Int) + 2 ≤ (s.size : Int)) = false := decide_eq_false (by omega)
        have h2n : decide (i + 2 ≤ s.size) = false := decide_eq_false (by omega)
        have hN2 : Hid (∀ j, j < k + 1 → (twoL.getD j []).isPrefixOf (s.data.toList.drop i) = false) := fun j hj => by
          rcases Nat.lt_or_ge j k with h | h
          · exact hN.out j h
          · obtain rfl : j = k := by omega
            exact pre_short h2 (two_len hlt)
        generalize str (twoL.getD k []) = T at *
        clear hN
        go_wp2
        go_quiet (fail)
        go_wp2
        go_roundw
        case rel => exact ⟨k + 1, by omega, by go_num, hN2, dn' hB.out _⟩
        case measure => simp [intOf]; omega
    · have hlt' : ¬ (k : Int) < 6 := by omega
      have NT : Hid (∀ t ∈ twoL, t.isPrefixOf (s.data.toList.drop i) = false) := fun t ht => by
        obtain ⟨j, hj, rfl⟩ := List.getElem_of_mem ht
        have hj' : j < 6 := hj
        have := hN.out j (by omega)
        rwa [List.getD_eq_getElem?_getD, List.getElem?_eq_getElem hj] at this
      have hB1 : Hid (Below w.heap.size w wr) := then_ HB.out hB.out
      clear hN hB HB HC
      go_wp2
      go_loopw [8] (fun v wz => ∃ m : Nat, m ≤ 15 ∧ v = .int .i64 m ∧ Hid (∀ j, j < m → s[i] ≠ oneL.getD j 0) ∧ Hid (Below w.heap.size w wz)) (fun v _ => 15 - (intOf v).toNat)
      case atStart => exact ⟨0, by omega, rfl, fun j h => by omega, hB1⟩
      case round =>
        obtain ⟨m, hm, rfl, hM, hZ⟩ := hrel
        by_cases hml : m < 15
        · have hml' : (m : Int) < 15 := by omega
          have hmO : m < (⟨#[59, 58, 61, 44, 40, 41, 123, 125, 42, 43, 45, 47, 37, 60, 33]⟩ : ByteArray).size := hml
          have hO : (⟨#[59, 58, 61, 44, 40, 41, 123, 125, 42, 43, 45, 47, 37, 60, 33]⟩ : ByteArray)[m]'hmO = oneL.getD m 0 := (at_list hmO).symm
          by_cases he : s[i] = oneL.getD m 0
          · have he' : (((s[i]).toNat : Int) == (((⟨#[59, 58, 61, 44, 40, 41, 123, 125, 42, 43, 45, 47, 37, 60, 33]⟩ : ByteArray)[m]'hmO).toNat : Int)) = true := by rw [hO, he]; simp
            have E : Hid (best signsL (s.data.toList.drop i) = 1) := sign_one NT.out HNE.out (by rw [HHD.out, he]; exact one_mem hml)
            clear he hO
            go_wp2
            go_quiet (fail)
            go_wp2
            go_ret
            exact ⟨by rw [E.out]; rfl, dn' hZ.out _⟩
          · have he' : (((s[i]).toNat : Int) == (((⟨#[59, 58, 61, 44, 40, 41, 123, 125, 42, 43, 45, 47, 37, 60, 33]⟩ : ByteArray)[m]'hmO).toNat : Int)) = false := by
              rw [hO]
              exact beq_eq_false_iff_ne.2 (fun e => he (UInt8.toNat_inj.1 (by omega)))
            have M2 : Hid (∀ j, j < m + 1 → s[i] ≠ oneL.getD j 0) := one_next hM.out he
            clear he hO
            go_wp2
            go_quiet (fail)
            go_wp2
            go_roundw
            case rel => exact ⟨m + 1, by omega, by go_num, M2, dn' hZ.out _⟩
            case measure => simp [intOf]; omega
        · have hml' : ¬ (m : Int) < 15 := by omega
          have E : Hid (best signsL (s.data.toList.drop i) = 0) := sign_none NT.out HNE.out (by
            rw [HHD.out]
            intro hin
            obtain ⟨j, hj, he⟩ := List.getElem_of_mem hin
            have hj' : j < 15 := hj
            refine hM.out j (by omega) ?_
            rw [List.getD_eq_getElem?_getD, List.getElem?_eq_getElem hj]; exact he.symm)
          go_wp2
          go_ret
          exact ⟨by rw [E.out]; rfl, hZ.out⟩
end Go.Proofs.YtnhhajbfohjlbaaDoor.Token
