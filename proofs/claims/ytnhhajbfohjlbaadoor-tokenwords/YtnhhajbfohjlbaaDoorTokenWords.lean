/- TokenWords holds: for all texts s the law returns true. No condition; what the card lists of the program's and the library's variables is tied to the program's text. -/
import Derived.Test.YtnhhajbfohjlbaaDoorTokSmall
import Derived.Test.YtnhhajbfohjlbaaDoorCards
import Derived.Test.YtnhhajbfohjlbaaDoorTie
import Derived.LaidMore
import Derived.Stop.Joined
import Derived.SevenTiedAt
namespace Go.Proofs.YtnhhajbfohjlbaaDoor.tokenWords
open Go.ChangeShapes Go.WideShapes Go.ChangeAt Go.ChangeMaps Go.RowKit Go.Proofs.YtnhhajbfohjlbaaDoor.Token Go.Proofs.YtnhhajbfohjlbaaDoor.Colour Go.Proofs.YtnhhajbfohjlbaaDoor.Frame
set_option linter.unusedVariables false
set_option linter.unusedSimpArgs false

set_option maxRecDepth 100000 in
set_option maxHeartbeats 4000000 in
theorem words_1 (s : ByteArray) (w : World) (hF : Fx w) (h : 200 < s.size) :
    Calls Tryd.prog 7 #[.string s] w fun e w' => e = .returned (.bool true) ∧ Below w.heap.size w w' := by
  have HF : Hid (Fx w) := hF
  have h' : (200 : Int) < s.size := by omega
  clear hF
  go_enter Tryd.func7, Tryd.ntmps7
  go_wp2_with (go_at_call 8; refine (small_any _ HF.out).mono ?_; rintro e w1 ⟨he, b1⟩; subst he)
  go_ret
  exact ⟨rfl, b1⟩

/-- what is told of a text that is a number or a name -/
theorem one_tok {w : World} {a : Option Addr} {k : Int} {s : ByteArray} (h : Toks w a [⟨k, s.data.toList, 0⟩]) : ∃ b off, a = some ⟨b, off, none⟩ ∧ b < w.heap.size ∧ w.cell? ⟨b, off, none⟩ = some (.int .i64 k) ∧ w.cell? ⟨b, off + 1, none⟩ = some (.string s) ∧ w.cell? ⟨b, off + 2, none⟩ = some (.int .i64 0) := by
  obtain ⟨b, off, ha, hb, hat⟩ := h.row (k := 0) (by simp)
  obtain ⟨c0, c1, c2⟩ := hat 0 (by simp)
  refine ⟨b, off, ha, hb, c0, ?_, c2⟩
  rw [show str ([Tok.mk k s.data.toList 0].getD 0 tk0).text = s from str_list s] at c1
  exact c1

set_option maxRecDepth 100000 in
set_option maxHeartbeats 4000000 in
theorem words_2 (s : ByteArray) (w : World) (hF : Fx w) (h : ¬ 200 < s.size) (hn : numB s.data.toList = true) :
    Calls Tryd.prog 7 #[.string s] w fun e w' => e = .returned (.bool true) ∧ Below w.heap.size w w' := by
  have HF : Hid (Fx w) := hF
  have h' : ¬ (200 : Int) < s.size := by omega
  have hs6 : s.size ≤ 1000000 := by omega
  obtain ⟨hx, hm⟩ := lex_num hn s.data.toList.length
  rw [← lexF_eq (by rw [size_list]; omega), Nat.sub_self] at hx
  have HX : Hid (lexF s.data.toList = ([⟨2, s.data.toList, 0⟩], s.data.toList.length, 0)) := hx
  have hwd : wordB s.data.toList = false := by
    cases hw : wordB s.data.toList with
    | false => rfl
    | true => rw [word_name hw] at hm; cases hm
  have HW : Hid (wordB s.data.toList = false) := hwd
  have HNM : Hid (nameB s = false) := (nameB_eq s).trans hm
  obtain ⟨v, hv⟩ : ∃ v : Nat, v = valL 0 s.data.toList := ⟨_, rfl⟩
  have HN : Hid (numR s.data.toList = .returned (.tuple #[.int .i64 (v : Int), .bool true])) := (show numR _ = _ by unfold numR numV; rw [hn, hv]; rfl)
  have hv0 : ¬ (v : Int) < 0 := by omega
  clear hF hx hm hwd hv hn
  go_enter Tryd.func7, Tryd.ntmps7
  go_wp2_with (first
    | (go_at_call 8; refine (small_any _ HF.out).mono ?_; rintro e w1 ⟨he, b1⟩; subst he)
    | (go_at_call 9; refine (lex_is _ hs6 (HF.out.below b1) HX.out).mono ?_; rintro e w2 ⟨a, c, he, t2, b2⟩; replace he : e = .returned (.tuple #[.slice a 1 c, .int .i64 (s.data.toList.length : Nat), .int .i64 0]) := he; subst he)
    | (go_at_call 11; refine (number_any _ _ hs6 (HF.out.below (then_ b1 b2))).mono ?_; rintro e w3 ⟨he, b3⟩; replace he := he.trans HN.out; subst he; obtain ⟨b, off, ha, hb, c0, c1, c2⟩ := one_tok (t2.below b3); subst ha)
    | (go_at_call 14; refine (word_any _ _).mono ?_; rintro e w' ⟨he, hw⟩; rw [HW.out] at he; subst he; have hw := hw.symm; subst hw)
    | (go_at_call 18; refine (name_any _ _).mono ?_; rintro e w' ⟨he, hw⟩; rw [HNM.out] at he; subst he; have hw := hw.symm; subst hw))
  go_ret
  exact ⟨rfl, then_ (then_ b1 b2) b3⟩

set_option maxRecDepth 100000 in
set_option maxHeartbeats 4000000 in
theorem words_3 (s : ByteArray) (w : World) (hF : Fx w) (h : ¬ 200 < s.size) (hm : nmB s.data.toList = true) :
    Calls Tryd.prog 7 #[.string s] w fun e w' => e = .returned (.bool true) ∧ Below w.heap.size w w' := by
  have HF : Hid (Fx w) := hF
  have h' : ¬ (200 : Int) < s.size := by omega
  have hs6 : s.size ≤ 1000000 := by omega
  obtain ⟨hx, hn⟩ := lex_name hm s.data.toList.length
  rw [← lexF_eq (by rw [size_list]; omega), Nat.sub_self] at hx
  have HX : Hid (lexF s.data.toList = ([⟨1, s.data.toList, 0⟩], s.data.toList.length, 0)) := hx
  have HNM : Hid (nameB s = true) := (nameB_eq s).trans hm
  have HN : Hid (numR s.data.toList = .returned (.tuple #[.int .i64 0, .bool false])) := numR_no hn
  cases hwd : wordB s.data.toList
  all_goals
    have HW : Hid (wordB s.data.toList = _) := hwd
    clear hF hx hm hn hwd
    go_enter Tryd.func7, Tryd.ntmps7
    go_wp2_with (first
      | (go_at_call 8; refine (small_any _ HF.out).mono ?_; rintro e w1 ⟨he, b1⟩; subst he)
      | (go_at_call 9; refine (lex_is _ hs6 (HF.out.below b1) HX.out).mono ?_; rintro e w2 ⟨a, c, he, t2, b2⟩; replace he : e = .returned (.tuple #[.slice a 1 c, .int .i64 (s.data.toList.length : Nat), .int .i64 0]) := he; subst he)
      | (go_at_call 11; refine (number_any _ _ hs6 (HF.out.below (then_ b1 b2))).mono ?_; rintro e w3 ⟨he, b3⟩; replace he := he.trans HN.out; subst he; obtain ⟨b, off, ha, hb, c0, c1, c2⟩ := one_tok (t2.below b3); subst ha)
      | (go_at_call 14; refine (word_any _ _).mono ?_; rintro e w' ⟨he, hw⟩; rw [HW.out] at he; subst he; have hw := hw.symm; subst hw)
      | (go_at_call 18; refine (name_any _ _).mono ?_; rintro e w' ⟨he, hw⟩; rw [HNM.out] at he; subst he; have hw := hw.symm; subst hw))
    go_ret
    exact ⟨rfl, then_ (then_ b1 b2) b3⟩

set_option maxRecDepth 100000 in
set_option maxHeartbeats 4000000 in
theorem words_4 (s : ByteArray) (w : World) (hF : Fx w) (h : ¬ 200 < s.size) (hn : numB s.data.toList = false) (hm : nmB s.data.toList = false) :
    Calls Tryd.prog 7 #[.string s] w fun e w' => e = .returned (.bool true) ∧ Below w.heap.size w w' := by
  have HF : Hid (Fx w) := hF
  have h' : ¬ (200 : Int) < s.size := by omega
  have hs6 : s.size ≤ 1000000 := by omega
  have HNM : Hid (nameB s = false) := (nameB_eq s).trans hm
  have HN : Hid (numR s.data.toList = .returned (.tuple #[.int .i64 0, .bool false])) := numR_no hn
  have hwd : wordB s.data.toList = false := by
    cases hw : wordB s.data.toList with
    | false => rfl
    | true => rw [word_name hw] at hm; cases hm
  have HW : Hid (wordB s.data.toList = false) := hwd
  clear hF hm hn hwd
  go_enter Tryd.func7, Tryd.ntmps7
  go_wp2_with (first
    | (go_at_call 8; refine (small_any _ HF.out).mono ?_; rintro e w1 ⟨he, b1⟩; subst he)
    | (go_at_call 9; refine (lex_any _ _ hs6 (HF.out.below b1)).mono ?_; rintro e w2 ⟨a, c, he, t2, b2⟩; subst he)
    | (go_at_call 11; refine (number_any _ _ hs6 (HF.out.below (then_ b1 b2))).mono ?_; rintro e w3 ⟨he, b3⟩; replace he := he.trans HN.out; subst he)
    | (go_at_call 14; refine (word_any _ _).mono ?_; rintro e w' ⟨he, hw⟩; rw [HW.out] at he; subst he; have hw := hw.symm; subst hw)
    | (go_at_call 18; refine (name_any _ _).mono ?_; rintro e w' ⟨he, hw⟩; rw [HNM.out] at he; subst he; have hw := hw.symm; subst hw))
  go_ret
  exact ⟨rfl, then_ (then_ b1 b2) b3⟩

theorem walk (s : ByteArray) (w : World) (hs : s.size ≤ maxLen) (hF : Fx w) :
    Calls Tryd.prog 7 #[.string s] w fun e w' => e = .returned (.bool true) ∧ Below w.heap.size w w' := by
  by_cases h : 200 < s.size
  · exact words_1 s w hF h
  · cases hn : numB s.data.toList with
    | true => exact words_2 s w hF h hn
    | false =>
      cases hm : nmB s.data.toList with
      | true => exact words_3 s w hF h hm
      | false => exact words_4 s w hF h hn hm

theorem door_met (os : Os) (args : Array Value) : laidMetH Tryd.prog Rows.tokenWordsRow.laid ((World.doorLaid Tryd.prog 400 os).forCall (fun _ _ => 0) ⟨#[], args, []⟩).memory :=
  laidMetH_of_parts3 (fuel := 8) (laidMet_of_run' 8 (by kernel_rfl) (by kernel_rfl)) (by kernel_rfl) (by kernel_rfl)

set_option maxRecDepth 100000 in
theorem lifted (os : Os) (started : os.Started) (H : Type) (enc : TypeId × Value → H) :
    ReturnsInHanded {} Tryd.checked os 7 .any (fun w args => (Rows.tokenWordsSpec.pre enc Tryd.prog Tryd.f7 [] false w args ∧ laidMetH Tryd.prog Rows.tokenWordsRow.laid w) ∧ sizedMet enc Tryd.prog Tryd.f7 (OpenSpec.ofChange Rows.tokenWordsSpec) false w args)
      (Rows.tokenWordsSpec.post enc Tryd.prog Tryd.f7 false true false false) := by
  refine returnsInHanded_of_change_and (C := Tryd.checked) (X := fun w _ => laidMetH Tryd.prog Rows.tokenWordsRow.laid w) (fun _ _ _ hh h => h.of_heap hh) Frame.own started (by kernel_rfl) Tryd.func7
    (ChangeSpec.witness_shaped (enc := enc) (C := Tryd.checked) (os := os) (X := fun w _ => laidMetH Tryd.prog Rows.tokenWordsRow.laid w) false (World.doorLaid Tryd.prog 400 os) #[.string ByteArray.empty] 8 rfl (World.shaped_of_RefB (by kernel_rfl) (by kernel_rfl)) (by kernel_rfl) (by kernel_rfl) (by kernel_rfl) (door_met os _)) ?_
  intro W base args ds gs before hval0 hW _ _ hL _
  have hval : ∀ (j : Nat) t v, Tryd.f7.params[j]? = some t → args[j]? = some v → Value.okWide Tryd.prog W .any base t v := hval0
  have hW' := hW
  obtain ⟨p, q, hA0, hV, rfl, hfz, hnd⟩ := hW
  have hA : DataW.TrodAll enc Tryd.prog W 0 (fun _ => true) true Tryd.f7.params.toList args.toList ds p := hA0
  rw [Tryd.params7] at hA hval
  obtain ⟨v0, vs0, d0, ds0, p0, q0, hargs, rfl, rfl, h0, r0⟩ := trodAll_cons hA
  obtain ⟨rfl, rfl, rfl⟩ := trodAll_nil r0
  obtain rfl : args = #[v0] := by cases args; simp_all
  obtain ⟨rfl, rfl⟩ := trodVars_none hV
  obtain ⟨a0, rfl, rfl, rfl, w0⟩ := open_string Tryd.underlying9 (hval 0 9 v0 rfl rfl) h0
  have hF := Token.fx_of Rows.tokenWordsRow.laid (Rows.tokenWordsRow.named.getLastD Rows.tokenWordsRow.func) (Rows.tokenWordsRow.named.getD 1 Rows.tokenWordsRow.func) "*errors.errorString" [118, 97, 108, 117, 101, 32, 111, 117, 116, 32, 111, 102, 32, 114, 97, 110, 103, 101] (by kernel_rfl) (by kernel_rfl) (by kernel_rfl) (by kernel_rfl) Token.errRow hL
  clear hA0 hval0
  refine (walk a0 W w0 hF).mono fun e W' ⟨he, bel⟩ => ?_
  subst he
  exact ⟨_, rfl, _, _, _, [], _, [], hW', trodAll_mk1 (shut_bool Tryd.underlying4 _), (trodAll_cons_mk (shut_string Tryd.underlying9 w0) trodAll_mk0), rfl, bel.frame _, fun h => by cases h⟩

theorem over : Rows.TokenWordsSaid :=
  OpenClaim.holds_of_wide 7 Tryd.f7 rfl rfl rfl rfl rfl rfl rfl ⟨rfl, rfl, rfl, rfl, rfl⟩ rfl rfl rfl rfl rfl (by kernel_rfl) Tryd.func7 (by kernel_rfl)
    (of_decide_eq_true (by kernel_rfl)) (by unfold Func.isWrapper; first | (rw [if_pos (by decide +kernel)]; kernel_rfl) | (rw [if_neg (by decide +kernel)]; exact ⟨rfl, rfl⟩))
    (fun os started H enc _ => lifted os started H enc)

theorem proved : Rows.TokenWordsCardSaid :=
  Claim7.holds_tied_plain_at .later [] [.data, .data, .data, .sentinel, .sentinel, .data] true (true, "1a10154f10ee64ff25eb189bd2cbe8032336dc6a30303186797988d0730a78e1") true
    over (fun _ h => by cases h) (by kernel_rfl) (fun _ h => by cases h) tokenWords_row_tie rfl ⟨rfl, rfl⟩ (by kernel_rfl) rfl
    (fun f fn hf hfn => by
      obtain rfl : f = 7 := Option.some.inj ((show Tryd.prog.funcNamed Rows.tokenWordsRow.func = some 7 by kernel_rfl).symm.trans hf) |>.symm
      obtain rfl : fn = Tryd.f7 := (Option.some.inj (Tryd.func7.symm.trans hfn)).symm
      exact ⟨by kernel_rfl, fun j t ht => by
        rw [Tryd.params7] at ht
        have hm : t ∈ [9] := by simpa using Array.mem_of_getElem? ht
        have hall : ([9].all fun u => !Tryd.prog.wantsStandIn u) = true := by kernel_rfl
        exact (show Tryd.prog.wantsStandIn t = false by simpa using List.all_eq_true.1 hall t hm)⟩)
    (by kernel_rfl)
end Go.Proofs.YtnhhajbfohjlbaaDoor.tokenWords
