/- Lex of package token: a contract of the call, over the turned program. -/
import Derived.Test.YtnhhajbfohjlbaaDoorTokMem
namespace Go.Proofs.YtnhhajbfohjlbaaDoor.Token
open Go.RowKit Go.Proofs.YtnhhajbfohjlbaaDoor.Colour Go.Proofs.YtnhhajbfohjlbaaDoor.Frame
set_option linter.unusedVariables false
set_option linter.unusedSimpArgs false

theorem lexF_long {l : List UInt8} (h : 16384 < l.length) : lexF l = ([], 0, 2) := by unfold lexF; rw [if_pos h]
theorem before_ok (acc : List Tok) (x : Lexed) (h : x.2.2 = 0) : before acc x = (acc ++ x.1, x.2.1, 0) := by unfold before; rw [if_pos h]
theorem before_bad (acc : List Tok) (a : Nat) (e : Int) (h : e ≠ 0) : before acc ([], a, e) = ([], a, e) := by unfold before; rw [if_neg h]

set_option maxRecDepth 100000 in
set_option maxHeartbeats 4000000 in
theorem lex_any (s : ByteArray) (w : World) (hs : s.size ≤ 1000000) (hF : Fx w) :
    Calls Tryd.prog 9 #[.string s] w (LexPost (lexF s.data.toList) w) := by
  by_cases hL : 16384 < s.size
  · have hL' : (16384 : Int) < s.size := by omega
    have E : Hid (lexF s.data.toList = ([], 0, 2)) := lexF_long (by rw [size_list]; exact hL)
    clear hF
    go_enter Tryd.func9, Tryd.ntmps9
    go_wp2
    go_ret3
    rw [E.out]
    exact ⟨none, 0, rfl, .inl rfl, Below.refl _ _⟩
  have hL' : ¬ (16384 : Int) < s.size := by omega
  obtain ⟨i0, hi, hz0, hz1, hz2⟩ := info_parts infoTok
  have hml : (1000000 : Nat) ≤ maxLen := by decide
  have HF : Hid (Fx w) := hF
  have hE0 : lexF s.data.toList = before [] (lexR s.size (s.data.toList.drop (gapF s.data.toList 0))) := by
    rw [lexF_eq (by rw [size_list]; omega), size_list, gapF_drop (Nat.zero_le _), List.drop_zero]
    exact (before_nil _ (lex_err _ _ _)).symm
  have hg0 : gapF s.data.toList 0 ≤ s.size := by have := (gapF_le (l := s.data.toList) (i := 0) (Nat.zero_le _)).2; rwa [size_list] at this
  have HE0 : Hid (lexF s.data.toList = before [] (lexR s.size (s.data.toList.drop (gapF s.data.toList 0)))) := hE0
  clear hF hE0
  go_enter Tryd.func9, Tryd.ntmps9
  go_wp2_with (go_at_call 19; refine (gap_any _ 0 _ hs (Nat.zero_le _)).mono ?_; rintro e w' ⟨he, hw⟩; subst he; have hw := hw.symm; subst hw)
  go_loopw [5, 6] (fun v i wr => ∃ (k : Nat) (out : List Tok) (oa : Option Addr) (oc : Nat), k ≤ s.size ∧ i = .int .i64 k ∧ v = .slice oa out.length oc ∧ out.length ≤ k ∧ Hid (Tw w wr out oa oc) ∧ Hid (lexF s.data.toList = before out (lexR s.size (s.data.toList.drop k)))) (fun _ i _ => s.size - (intOf i).toNat)
  case atStart => exact ⟨_, [], none, 0, hg0, rfl, rfl, by simp, Tw.nil w w (Below.refl _ _), HE0⟩
  case round =>
    obtain ⟨k, out, oa, oc, hk, rfl, rfl, ho, hO, hE⟩ := hrel
    clear HE0 hg0
    by_cases hlt : k < s.size
    · have hlt' : (k : Int) < s.size := by omega
      have hne : s.data.toList.drop k ≠ [] := fun e => by rw [List.drop_eq_nil_iff, size_list] at e; omega
      have hat : s.size - (s.data.toList.drop k).length = k := by rw [List.length_drop, size_list]; omega
      by_cases hp : (pieceL (s.data.toList.drop k)).2.2 = 0
      · obtain ⟨p1, p2, _⟩ := piece_ok hne hp
        rw [List.length_drop, size_list] at p2
        have hx := hE.out
        rw [lexR_ok hne hp, hat, before_before] at hx
        have hR : pieR s.data.toList k = .returned (.tuple #[.int .i64 (pieceL (s.data.toList.drop k)).1, .int .i64 ((k + (pieceL (s.data.toList.drop k)).2.1 : Nat) : Int), .int .i64 0]) := pieR_is (by rw [← hp])
        have hT : s.extract k (k + (pieceL (s.data.toList.drop k)).2.1) = str ((s.data.toList.drop k).take (pieceL (s.data.toList.drop k)).2.1) := by
          rw [← str_list (s.extract k _), cut_list, Nat.add_sub_cancel_left]
        obtain ⟨kd, hkd⟩ : ∃ kd, kd = (pieceL (s.data.toList.drop k)).1 := ⟨_, rfl⟩
        obtain ⟨m, hm⟩ : ∃ m, m = (pieceL (s.data.toList.drop k)).2.1 := ⟨_, rfl⟩
        rw [← hm, ← hkd] at hx
        rw [← hm] at p1 p2 hT
        rw [← hm, ← hkd] at hR
        obtain ⟨tx, htx⟩ : ∃ tx, tx = (s.data.toList.drop k).take m := ⟨_, rfl⟩
        rw [← htx] at hx hT
        obtain ⟨q, hq⟩ : ∃ q, q = gapF s.data.toList (k + m) := ⟨_, rfl⟩
        have hkm : k + m ≤ s.size := by omega
        have hkm' : ((k + m : Nat) : Int) ≤ s.size := by omega
        have hk1 : (k : Int) ≤ ((k + m : Nat) : Int) := by omega
        obtain ⟨q1, q2⟩ := gapF_le (l := s.data.toList) (i := k + m) (by rw [size_list]; exact hkm)
        rw [← hq] at q1 q2
        rw [size_list] at q2
        have HQ : Hid (gapF s.data.toList (k + m) = q) := hq.symm
        rw [List.drop_drop, ← gapF_drop (by rw [size_list]; exact hkm), ← hq] at hx
        have HX : Hid (lexF s.data.toList = before (out ++ [⟨kd, tx, k⟩]) (lexR s.size (s.data.toList.drop q))) := hx
        have HR : Hid (pieR s.data.toList k = .returned (.tuple #[.int .i64 kd, .int .i64 ((k + m : Nat) : Int), .int .i64 0])) := hR
        have HT : Hid (s.extract k (k + m) = str tx) := hT
        have hts : (s.extract k (k + m)).size ≤ 1000000 := by rw [← size_list, cut_list, List.length_take, List.length_drop, size_list]; omega
        generalize he : k + m = e at *
        clear hx hR hT hne hat hp hkd hm htx hq hE
        go_wp2_with (first
          | (go_at_call 20; refine (piece_any _ _ _ hs hk (HF.out.below hO.out.2)).mono ?_; rintro e w1 ⟨he, hb1⟩; have he := he.trans HR.out; subst he)
          | (go_at_call 21; refine (clone_any _ _ hts).mono ?_; rintro e w2 ⟨he, hb2⟩; rw [HT.out] at he; subst he; have O2 := (hO.out.up hb1).up hb2; have hw2 := O2.2.size)
          | (at_builtin; refine wpList_append_own _ rfl _ _ 23 rfl w.heap.size 33 i0 (.agg #[.int .i64 0, .string ⟨#[]⟩, .int .i64 0]) 3 32 Tryd.underlying23 hi hz0 hz1 hz2 rfl (by decide) _ _ _ rfl (O2.1.alloc _) ⟨_, 0, none⟩ 1 1 [.int .i64 kd, .string (str tx), .int .i64 k] rfl rfl (cells_three _ _ _ _ _) (by simp [Value.oneCell']) (by omega) (by omega) (by simp; omega) ?_; intro v1 w3 hown1 hg1 hnil1; obtain ⟨a1, c1, hv1⟩ := own_slice hown1; subst hv1; have A1 := O2.add (t := ⟨kd, tx, k⟩) hown1 hg1)
          | (go_at_call 19; refine (gap_any _ _ _ hs hkm).mono ?_; rintro e w' ⟨he, hw⟩; subst he; have hw := hw.symm; subst hw; rw [HQ.out])
          | go_in)
        go_roundw
        case rel => exact ⟨q, out ++ [Tok.mk kd tx k], a1, c1, q2, rfl, by simp, by simp; omega, A1, HX⟩
        case measure => simp [intOf]; omega
      · have hx := hE.out
        rw [lexR_bad hne hp, hat, before_bad _ _ _ hp] at hx
        have hR : pieR s.data.toList k = .returned (.tuple #[.int .i64 (pieceL (s.data.toList.drop k)).1, .int .i64 0, .int .i64 (pieceL (s.data.toList.drop k)).2.2]) := by unfold pieR; rw [if_neg hp]
        generalize (pieceL (s.data.toList.drop k)).1 = kd at *
        generalize (pieceL (s.data.toList.drop k)).2.2 = er at *
        have HX : Hid (lexF s.data.toList = ([], k, er)) := hx
        have HR : Hid (pieR s.data.toList k = .returned (.tuple #[.int .i64 kd, .int .i64 0, .int .i64 er])) := hR
        have hp' : (er != 0) = true := by simpa using hp
        clear hx hR hne hat hE
        go_wp2_with (go_at_call 20; refine (piece_any _ _ _ hs hk (HF.out.below hO.out.2)).mono ?_; rintro e w1 ⟨he, hb1⟩; have he := he.trans HR.out; subst he)
        go_ret3
        rw [HX.out]
        exact ⟨none, 0, rfl, .inl rfl, then_ hO.out.2 hb1⟩
    · have hlt' : ¬ (k : Int) < s.size := by omega
      have hx := hE.out
      rw [List.drop_of_length_le (by rw [size_list]; omega), lexR_nil, before_ok _ _ rfl, List.append_nil] at hx
      have HX : Hid (lexF s.data.toList = (out, s.size, 0)) := hx
      clear hx hE
      go_wp2
      go_ret3
      rw [HX.out]
      exact ⟨oa, oc, rfl, hO.out.toks, hO.out.2⟩
end Go.Proofs.YtnhhajbfohjlbaaDoor.Token
