/- TokenJoins, THE STAGE'S THEOREM, holds: for all texts s the law returns true. No condition; what the card lists of the program's and the library's variables is tied to the program's text. -/
import Derived.Test.YtnhhajbfohjlbaaDoorTokLaws
import Derived.Test.YtnhhajbfohjlbaaDoorCards
import Derived.Test.YtnhhajbfohjlbaaDoorTie
import Derived.LaidMore
import Derived.Stop.Joined
import Derived.SevenTiedAt
namespace Go.Proofs.YtnhhajbfohjlbaaDoor.tokenJoins
open Go.ChangeShapes Go.WideShapes Go.ChangeAt Go.ChangeMaps Go.RowKit Go.Proofs.YtnhhajbfohjlbaaDoor.Token Go.Proofs.YtnhhajbfohjlbaaDoor.Colour Go.Proofs.YtnhhajbfohjlbaaDoor.Frame
set_option linter.unusedVariables false
set_option linter.unusedSimpArgs false

set_option maxRecDepth 100000 in
set_option maxHeartbeats 4000000 in
theorem joins_1 (s : ByteArray) (w : World) (hF : Fx w) (h : 4096 < s.size) :
    Calls Tryd.prog 4 #[.string s] w fun e w' => e = .returned (.bool true) ∧ Below w.heap.size w w' := by
  have HF : Hid (Fx w) := hF
  have h' : (4096 : Int) < s.size := by omega
  clear hF
  go_enter Tryd.func4, Tryd.ntmps4
  go_wp2_with (go_at_call 8; refine (small_any _ HF.out).mono ?_; rintro e w1 ⟨he, b1⟩; subst he)
  go_ret
  exact ⟨rfl, b1⟩

set_option maxRecDepth 100000 in
set_option maxHeartbeats 4000000 in
theorem joins_2 (s : ByteArray) (w : World) (hF : Fx w) (h : ¬ 4096 < s.size) (hE : (lexF s.data.toList).2.2 ≠ 0) :
    Calls Tryd.prog 4 #[.string s] w fun e w' => e = .returned (.bool true) ∧ Below w.heap.size w w' := by
  have HF : Hid (Fx w) := hF
  have h' : ¬ (4096 : Int) < s.size := by omega
  have hs6 : s.size ≤ 1000000 := by omega
  obtain ⟨p1, p2, p3, p4, p5⟩ := lexF_parts (l := s.data.toList) (by rw [size_list]; omega)
  obtain ⟨q1, q2⟩ := p3 hE
  rw [size_list] at q1
  generalize hx : lexF s.data.toList = x at *
  obtain ⟨l, at_, e⟩ := x
  simp only at hE q1 q2
  subst q2
  have HX : Hid (lexF s.data.toList = ([], at_, e)) := hx
  have hE' : (e != 0) = true := by simpa using hE
  have hq' : (at_ : Int) < s.size := by omega
  have hq0 : (0 : Int) ≤ at_ := by omega
  clear hF hx p1 p2 p3 p4 p5 hE
  go_enter Tryd.func4, Tryd.ntmps4
  go_wp2_with (first
    | (go_at_call 8; refine (small_any _ HF.out).mono ?_; rintro e w1 ⟨he, b1⟩; subst he)
    | (go_at_call 9; refine (lex_is _ hs6 (HF.out.below b1) HX.out).mono ?_; rintro e2 w2 ⟨a, c, he, t2, b2⟩; replace he : e2 = .returned (.tuple #[.slice a 0 c, .int .i64 at_, .int .i64 e]) := he; subst he))
  go_ret
  exact ⟨rfl, then_ b1 b2⟩

set_option maxRecDepth 100000 in
set_option maxHeartbeats 8000000 in
theorem joins_3 (s : ByteArray) (w : World) (hF : Fx w) (h : ¬ 4096 < s.size) (hE : (lexF s.data.toList).2.2 = 0) :
    Calls Tryd.prog 4 #[.string s] w fun e w' => e = .returned (.bool true) ∧ Below w.heap.size w w' := by
  have HF : Hid (Fx w) := hF
  have h' : ¬ (4096 : Int) < s.size := by omega
  have hs6 : s.size ≤ 1000000 := by omega
  obtain ⟨p1, p2, p3, p4, p5⟩ := lexF_parts (l := s.data.toList) (by rw [size_list]; omega)
  have q1 := p2 hE
  rw [size_list] at q1 p1 p4
  generalize hx : lexF s.data.toList = x at *
  obtain ⟨l, at_, e⟩ := x
  simp only at hE q1 p1 p4 p5
  subst hE q1
  have HX : Hid (lexF s.data.toList = (l, s.size, 0)) := hx
  obtain ⟨r1, r2⟩ := lexF_join p5 (by omega)
  have r3 := lexed_is _ r1
  obtain ⟨m, hm⟩ : ∃ m, m = (lexF (joinL l)).1 := ⟨_, rfl⟩
  rw [← hm] at r2 r3
  have hml : m.length = l.length := alike_len r2
  have HA : Hid (Token.Alike m l) := r2
  have HM : Hid (lexF (str (joinL l)).data.toList = (m, (joinL l).length, 0)) := (show lexF _ = _ by rw [str_data]; exact r3)
  have HJ : Hid (joinL m = joinL l) := alike_join r2
  have hjs : (str (joinL l)).size ≤ 1000000 := by rw [str_size]; omega
  have HJL : Hid ((joinL l).length ≤ 1000000) := (show _ ≤ _ by omega)
  have hll : l.length ≤ 1000000 := by omega
  obtain ⟨n, hn⟩ : ∃ n, n = l.length := ⟨_, rfl⟩
  have HN : Hid (n = l.length ∧ n = m.length) := ⟨hn, by omega⟩
  have hn6 : n ≤ 1000000 := by omega
  clear hF hx p1 p2 p3 p4 p5 r1 r2 r3 hm hml hn
  go_enter Tryd.func4, Tryd.ntmps4
  go_wp2_with fail
  refine (small_any _ HF.out).mono ?_
  rintro e w1 ⟨he, b1⟩
  subst he
  go_wp2_with fail
  refine (lex_is _ hs6 (HF.out.below b1) HX.out).mono ?_
  rintro e w2 ⟨a, c, he, t2, b2⟩
  replace he : e = .returned (.tuple #[.slice a l.length c, .int .i64 s.size, .int .i64 0]) := he
  have B2 : Hid (Below w.heap.size w w2) := then_ b1 b2
  have T2 : Hid (Toks w2 a l) := t2
  rw [← HN.out.1] at he
  subst he
  clear b1 b2 t2
  go_wp2_with fail
  refine (show Calls Tryd.prog 16 #[.slice a n c] w2 fun e w' => e = .returned (.string (str (joinL l))) ∧ Below w2.heap.size w2 w' by rw [HN.out.1]; exact join_any a c l w2 T2.out hll HJL.out).mono ?_
  rintro e w3 ⟨he, b3⟩
  subst he
  have B3 : Hid (Below w.heap.size w w3) := then_ B2.out b3
  have T3 : Hid (Toks w3 a l) := T2.out.below b3
  clear b3 T2 B2
  go_wp2_with fail
  refine (lex_is _ hjs (HF.out.below B3.out) HM.out).mono ?_
  rintro e w4 ⟨a', c', he, t4, b4⟩
  replace he : e = .returned (.tuple #[.slice a' m.length c', .int .i64 (joinL l).length, .int .i64 0]) := he
  have B4 : Hid (Below w.heap.size w w4) := then_ B3.out b4
  have T4 : Hid (Toks w4 a l) := T3.out.below b4
  have U4 : Hid (Toks w4 a' m) := t4
  rw [← HN.out.2] at he
  subst he
  clear b4 t4 T3 B3
  go_wp2_with fail
  go_loopw [11] (fun i wr => ∃ k : Nat, k ≤ n ∧ i = .int .i64 k ∧ Hid (Below w4.heap.size w4 wr)) (fun i _ => n - (intOf i).toNat)
  case atStart => exact ⟨0, by omega, rfl, Below.refl _ _⟩
  case round =>
    obtain ⟨k, hk, rfl, hB⟩ := hrel
    by_cases hlt : k < n
    · have hlt' : (k : Int) < n := by omega
      obtain ⟨b, off, ha, hbl, hat⟩ := (T4.out.below hB.out).row (k := k) (by rw [← HN.out.1]; exact hlt)
      obtain ⟨b', off', ha', hbl', hat'⟩ := (U4.out.below hB.out).row (k := k) (by rw [← HN.out.2]; exact hlt)
      subst ha ha'
      obtain ⟨c0, c1, c2⟩ := hat k (by rw [← HN.out.1]; exact hlt)
      obtain ⟨d0, d1, d2⟩ := hat' k (by rw [← HN.out.2]; exact hlt)
      obtain ⟨x1, x2⟩ := alike_at (i := k) HA.out
      rw [x1] at d0
      rw [x2] at d1
      generalize l.getD k tk0 = t at *
      clear hat hat' x1 x2 c2 d2
      go_wp2
      go_quiet (fail)
      go_wp2
      go_roundw
      case rel => exact ⟨k + 1, by omega, by go_num, dn' hB.out _⟩
      case measure => simp [intOf]; omega
    · have hlt' : ¬ (k : Int) < n := by omega
      have J : Hid (Calls Tryd.prog 16 #[.slice a' n c'] wr fun e w' => e = .returned (.string (str (joinL l))) ∧ Below wr.heap.size wr w') := (show Calls Tryd.prog 16 #[.slice a' n c'] wr _ by
        have := join_any a' c' m wr (U4.out.below hB.out) (by rw [← HN.out.2]; omega) (by rw [HJ.out]; exact HJL.out)
        rw [HJ.out, ← HN.out.2] at this
        exact this)
      go_wp2_with (go_at_call 16; refine J.out.mono ?_; rintro e w5 ⟨he, b5⟩; subst he)
      go_ret
      exact ⟨rfl, then_ (then_ B4.out hB.out) b5⟩

theorem walk (s : ByteArray) (w : World) (hs : s.size ≤ maxLen) (hF : Fx w) :
    Calls Tryd.prog 4 #[.string s] w fun e w' => e = .returned (.bool true) ∧ Below w.heap.size w w' := by
  by_cases h : 4096 < s.size
  · exact joins_1 s w hF h
  · by_cases hE : (lexF s.data.toList).2.2 = 0
    · exact joins_3 s w hF h hE
    · exact joins_2 s w hF h hE

theorem door_met (os : Os) (args : Array Value) : laidMetH Tryd.prog Rows.tokenJoinsRow.laid ((World.doorLaid Tryd.prog 400 os).forCall (fun _ _ => 0) ⟨#[], args, []⟩).memory :=
  laidMetH_of_parts3 (fuel := 8) (laidMet_of_run' 8 (by kernel_rfl) (by kernel_rfl)) (by kernel_rfl) (by kernel_rfl)

set_option maxRecDepth 100000 in
theorem lifted (os : Os) (started : os.Started) (H : Type) (enc : TypeId × Value → H) :
    ReturnsInHanded {} Tryd.checked os 4 .any (fun w args => (Rows.tokenJoinsSpec.pre enc Tryd.prog Tryd.f4 [] false w args ∧ laidMetH Tryd.prog Rows.tokenJoinsRow.laid w) ∧ sizedMet enc Tryd.prog Tryd.f4 (OpenSpec.ofChange Rows.tokenJoinsSpec) false w args)
      (Rows.tokenJoinsSpec.post enc Tryd.prog Tryd.f4 false true false false) := by
  refine returnsInHanded_of_change_and (C := Tryd.checked) (X := fun w _ => laidMetH Tryd.prog Rows.tokenJoinsRow.laid w) (fun _ _ _ hh h => h.of_heap hh) Frame.own started (by kernel_rfl) Tryd.func4
    (ChangeSpec.witness_shaped (enc := enc) (C := Tryd.checked) (os := os) (X := fun w _ => laidMetH Tryd.prog Rows.tokenJoinsRow.laid w) false (World.doorLaid Tryd.prog 400 os) #[.string ByteArray.empty] 8 rfl (World.shaped_of_RefB (by kernel_rfl) (by kernel_rfl)) (by kernel_rfl) (by kernel_rfl) (by kernel_rfl) (door_met os _)) ?_
  intro W base args ds gs before hval0 hW _ _ hL _
  have hval : ∀ (j : Nat) t v, Tryd.f4.params[j]? = some t → args[j]? = some v → Value.okWide Tryd.prog W .any base t v := hval0
  have hW' := hW
  obtain ⟨p, q, hA0, hV, rfl, hfz, hnd⟩ := hW
  have hA : DataW.TrodAll enc Tryd.prog W 0 (fun _ => true) true Tryd.f4.params.toList args.toList ds p := hA0
  rw [Tryd.params4] at hA hval
  obtain ⟨v0, vs0, d0, ds0, p0, q0, hargs, rfl, rfl, h0, r0⟩ := trodAll_cons hA
  obtain ⟨rfl, rfl, rfl⟩ := trodAll_nil r0
  obtain rfl : args = #[v0] := by cases args; simp_all
  obtain ⟨rfl, rfl⟩ := trodVars_none hV
  obtain ⟨a0, rfl, rfl, rfl, w0⟩ := open_string Tryd.underlying9 (hval 0 9 v0 rfl rfl) h0
  have hF := Token.fx_of Rows.tokenJoinsRow.laid (Rows.tokenJoinsRow.named.getLastD Rows.tokenJoinsRow.func) (Rows.tokenJoinsRow.named.getD 1 Rows.tokenJoinsRow.func) "*errors.errorString" [118, 97, 108, 117, 101, 32, 111, 117, 116, 32, 111, 102, 32, 114, 97, 110, 103, 101] (by kernel_rfl) (by kernel_rfl) (by kernel_rfl) (by kernel_rfl) Token.errRow hL
  clear hA0 hval0
  refine (walk a0 W w0 hF).mono fun e W' ⟨he, bel⟩ => ?_
  subst he
  exact ⟨_, rfl, _, _, _, [], _, [], hW', trodAll_mk1 (shut_bool Tryd.underlying4 _), (trodAll_cons_mk (shut_string Tryd.underlying9 w0) trodAll_mk0), rfl, bel.frame _, fun h => by cases h⟩

theorem over : Rows.TokenJoinsSaid :=
  OpenClaim.holds_of_wide 4 Tryd.f4 rfl rfl rfl rfl rfl rfl rfl ⟨rfl, rfl, rfl, rfl, rfl⟩ rfl rfl rfl rfl rfl (by kernel_rfl) Tryd.func4 (by kernel_rfl)
    (of_decide_eq_true (by kernel_rfl)) (by unfold Func.isWrapper; first | (rw [if_pos (by decide +kernel)]; kernel_rfl) | (rw [if_neg (by decide +kernel)]; exact ⟨rfl, rfl⟩))
    (fun os started H enc _ => lifted os started H enc)

theorem proved : Rows.TokenJoinsCardSaid :=
  Claim7.holds_tied_plain_at .later [] [.data, .data, .data, .sentinel, .sentinel, .data] true (true, "1a10154f10ee64ff25eb189bd2cbe8032336dc6a30303186797988d0730a78e1") true
    over (fun _ h => by cases h) (by kernel_rfl) (fun _ h => by cases h) tokenJoins_row_tie rfl ⟨rfl, rfl⟩ (by kernel_rfl) rfl
    (fun f fn hf hfn => by
      obtain rfl : f = 4 := Option.some.inj ((show Tryd.prog.funcNamed Rows.tokenJoinsRow.func = some 4 by kernel_rfl).symm.trans hf) |>.symm
      obtain rfl : fn = Tryd.f4 := (Option.some.inj (Tryd.func4.symm.trans hfn)).symm
      exact ⟨by kernel_rfl, fun j t ht => by
        rw [Tryd.params4] at ht
        have hm : t ∈ [9] := by simpa using Array.mem_of_getElem? ht
        have hall : ([9].all fun u => !Tryd.prog.wantsStandIn u) = true := by kernel_rfl
        exact (show Tryd.prog.wantsStandIn t = false by simpa using List.all_eq_true.1 hall t hm)⟩)
    (by kernel_rfl)
end Go.Proofs.YtnhhajbfohjlbaaDoor.tokenJoins
