/- The ways through TokenPlaces, over the turned program. -/
import Derived.Test.YtnhhajbfohjlbaaDoorTokLaws
namespace Go.Proofs.YtnhhajbfohjlbaaDoor.Token
open Go.RowKit Go.Proofs.YtnhhajbfohjlbaaDoor.Colour Go.Proofs.YtnhhajbfohjlbaaDoor.Frame
set_option linter.unusedVariables false
set_option linter.unusedSimpArgs false

set_option maxRecDepth 100000 in
set_option maxHeartbeats 4000000 in
theorem places_1 (s : ByteArray) (w : World) (hF : Fx w) (h : 4096 < s.size) :
    Calls Tryd.prog 5 #[.string s] w fun e w' => e = .returned (.bool true) ∧ Below w.heap.size w w' := by
  have HF : Hid (Fx w) := hF
  have h' : (4096 : Int) < s.size := by omega
  clear hF
  go_enter Tryd.func5, Tryd.ntmps5
  go_wp2_with (go_at_call 8; refine (small_any _ HF.out).mono ?_; rintro e w1 ⟨he, b1⟩; subst he)
  go_ret
  exact ⟨rfl, b1⟩

theorem places_step {l : List UInt8} {ts : List Tok} {k lo : Nat} (hk : k < ts.length) (h : Places l lo (ts.drop k)) :
    lo ≤ (ts.getD k tk0).at_ ∧ (ts.getD k tk0).at_ + (ts.getD k tk0).text.length ≤ l.length ∧ (l.drop (ts.getD k tk0).at_).take (ts.getD k tk0).text.length = (ts.getD k tk0).text ∧ Places l ((ts.getD k tk0).at_ + (ts.getD k tk0).text.length) (ts.drop (k + 1)) := by
  rw [List.drop_eq_getElem_cons hk] at h
  rw [List.getD_eq_getElem?_getD, List.getElem?_eq_getElem hk]
  exact ⟨h.1.1, h.1.2.1, h.1.2.2, h.2⟩
theorem good_at {ts : List Tok} {k : Nat} (hk : k < ts.length) (h : ∀ t ∈ ts, Good t) : Good (ts.getD k tk0) := by
  rw [List.getD_eq_getElem?_getD, List.getElem?_eq_getElem hk]; exact h _ (List.getElem_mem hk)

set_option maxRecDepth 100000 in
set_option maxHeartbeats 8000000 in
theorem places_2 (s : ByteArray) (w : World) (hF : Fx w) (h : ¬ 4096 < s.size) :
    Calls Tryd.prog 5 #[.string s] w fun e w' => e = .returned (.bool true) ∧ Below w.heap.size w w' := by
  have HF : Hid (Fx w) := hF
  have h' : ¬ (4096 : Int) < s.size := by omega
  have hs6 : s.size ≤ 1000000 := by omega
  obtain ⟨p1, p2, p3, p4, p5⟩ := lexF_parts (l := s.data.toList) (by rw [size_list]; omega)
  have hpl := lexF_places (l := s.data.toList) (by rw [size_list]; omega)
  rw [size_list] at p1
  generalize hx : lexF s.data.toList = x at *
  obtain ⟨l, at0, e0⟩ := x
  simp only at p1 p5 hpl
  have HX : Hid (lexF s.data.toList = (l, at0, e0)) := hx
  have HG : Hid (∀ t ∈ l, Good t) := p5
  have HP : Hid (Places s.data.toList 0 (l.drop 0)) := hpl
  obtain ⟨n, hn⟩ : ∃ n, n = l.length := ⟨_, rfl⟩
  have HN : Hid (n = l.length) := hn
  have hn6 : n ≤ 4096 := by omega
  clear hF hx p1 p2 p3 p4 p5 hpl hn
  go_enter Tryd.func5, Tryd.ntmps5
  go_wp2_with fail
  refine (small_any _ HF.out).mono ?_
  rintro e w1 ⟨he, b1⟩
  subst he
  go_wp2_with fail
  refine (lex_is _ hs6 (HF.out.below b1) HX.out).mono ?_
  rintro e w2 ⟨a, c, he, t2, b2⟩
  replace he : e = .returned (.tuple #[.slice a l.length c, .int .i64 at0, .int .i64 e0]) := he
  have B2 : Hid (Below w.heap.size w w2) := then_ b1 b2
  have T2 : Hid (Toks w2 a l) := t2
  rw [← HN.out] at he
  subst he
  clear b1 b2 t2
  go_wp2_with fail
  go_loopw [7, 8] (fun v i wr => ∃ k lo : Nat, k ≤ n ∧ i = .int .i64 k ∧ v = .int .i64 lo ∧ Hid (Places s.data.toList lo (l.drop k)) ∧ Hid (Below w2.heap.size w2 wr)) (fun _ i _ => n - (intOf i).toNat)
  case atStart => exact ⟨0, 0, by omega, rfl, rfl, HP, Below.refl _ _⟩
  case round =>
    obtain ⟨k, lo, hk, rfl, rfl, hP, hB⟩ := hrel
    clear HP
    by_cases hlt : k < n
    · have hlt' : (k : Int) < n := by omega
      have hkl : k < l.length := by rw [← HN.out]; exact hlt
      obtain ⟨b, off, ha, hbl, hat⟩ := (T2.out.below hB.out).row hkl
      subst ha
      obtain ⟨c0, c1, c2⟩ := hat k hkl
      obtain ⟨r1, r2, r3, r4⟩ := places_step hkl hP.out
      obtain ⟨g1, _, g3, g4, g5⟩ := good_at hkl HG.out
      rw [size_list] at r2
      generalize l.getD k tk0 = u at *
      obtain ⟨kd, tx, at_⟩ := u
      simp only at c0 c1 c2 r1 r2 r3 r4 g1 g3 g4 g5
      obtain ⟨en, hen⟩ : ∃ en, en = at_ + tx.length := ⟨_, rfl⟩
      have hX : s.extract at_ en = str tx := by rw [← str_list (s.extract at_ en), cut_list, hen, Nat.add_sub_cancel_left, r3]
      have htp : 0 < tx.length := List.length_pos_iff.2 g1
      have HP2 : Hid (Places s.data.toList en (l.drop (k + 1))) := (show Places _ _ _ by rw [hen]; exact r4)
      have HNU : Hid (numR (str tx).data.toList = .returned (.tuple #[.int .i64 (numV tx), .bool (decide (kd = 2))])) := (show numR _ = _ by rw [str_data]; unfold numR; rw [g4])
      have HNA : Hid (nameB (str tx) = decide (kd = 1)) := (show nameB _ = _ by rw [nameB_eq, str_data, g5])
      have hsz : (str tx).size = tx.length := str_size tx
      have hT6 : (str tx).size ≤ 1000000 := by rw [hsz]; omega
      obtain ⟨nv, hnv⟩ : ∃ nv, nv = numV tx := ⟨_, rfl⟩
      rw [← hnv] at HNU
      obtain ⟨len, hln⟩ : ∃ len, len = tx.length := ⟨_, rfl⟩
      rw [← hln] at hsz hen r2 htp
      generalize str tx = T at *
      clear hat r3 r4 g1 g4 g5 hnv hln hkl hP
      have hadd : (at_ : Int) + (len : Int) = (en : Int) := by omega
      have f1 : decide ((at_ : Int) < (lo : Int)) = false := decide_eq_false (by omega)
      have f1n : decide (at_ < lo) = false := decide_eq_false (by omega)
      have f3n : decide (s.size < en) = false := decide_eq_false (by omega)
      have f2 : decide ((len : Int) < 1) = false := decide_eq_false (by omega)
      have f3 : decide ((s.size : Int) < (en : Int)) = false := decide_eq_false (by omega)
      have hae : (at_ : Int) ≤ (en : Int) := by omega
      have hes : (en : Int) ≤ (s.size : Int) := by omega
      have haeN : at_ ≤ en := by omega
      have hesN : en ≤ s.size := by omega
      have HEN : Hid (en = at_ + len) := hen
      clear hen r2
      have hB1 : Hid (Below w2.heap.size w2 (wr.alloc (.cells #[.int .i64 kd, .string T, .int .i64 at_] 33))) := hB.out.alloc hB.out.size _
      have Q : Hid (∀ wx, Calls Tryd.prog 18 #[.string T] wx fun e w' => e = .returned (.bool (decide (kd = 1))) ∧ w' = wx) := fun wx => (name_any T wx).mono fun e w' h => ⟨h.1.trans (by rw [HNA.out]), h.2⟩
      obtain ⟨g6, g7⟩ := g3
      have f4 : decide (kd < 1) = false := decide_eq_false (by omega)
      have f5 : decide (3 < kd) = false := decide_eq_false (by omega)
      have hkd : kd = 1 ∨ kd = 2 ∨ kd = 3 := by omega
      have HKD : Hid (kd = 1 ∨ kd = 2 ∨ kd = 3) := hkd
      clear HNA g6 g7 hkd
      go_wp2
      go_quiet (fail)
      go_wp2_with fail
      have hB2 := dn' hB1.out nq
      have hg0 : ((wr.alloc (.cells #[.int .i64 kd, .string T, .int .i64 at_] 33)).drewN nq).heap[wr.heap.size]? = some (.cells #[.int .i64 kd, .string T, .int .i64 at_] 33) := heap_alloc_new wr _
      generalize (wr.alloc (.cells #[.int .i64 kd, .string T, .int .i64 at_] 33)).drewN nq = V at *
      refine (number_any T V hT6 (HF.out.below (then_ B2.out hB2))).mono ?_
      rintro e w3 ⟨he, b3⟩
      replace he := he.trans HNU.out
      have hB3 : Hid (Below w2.heap.size w2 w3) := then_ hB2 b3
      have d0 : w3.cell? ⟨wr.heap.size, 0, none⟩ = some (.int .i64 kd) := (b3.cell (p := ⟨wr.heap.size, 0, none⟩) (World.block_lt_of_cell? V _ (box_cell hg0 0))).trans (box_cell hg0 0)
      have d1 : w3.cell? ⟨wr.heap.size, 1, none⟩ = some (.string T) := (b3.cell (p := ⟨wr.heap.size, 1, none⟩) (World.block_lt_of_cell? V _ (box_cell hg0 1))).trans (box_cell hg0 1)
      have d2 : w3.cell? ⟨wr.heap.size, 2, none⟩ = some (.int .i64 at_) := (b3.cell (p := ⟨wr.heap.size, 2, none⟩) (World.block_lt_of_cell? V _ (box_cell hg0 2))).trans (box_cell hg0 2)
      have hl3 : wr.heap.size < w3.heap.size := World.block_lt_of_cell? w3 _ d0
      generalize wr.heap.size = C at *
      clear hg0 hB2 b3 c0 c1 c2 f1 f1n f2 f3 f3n f4 f5 hX hbl hB hB1 HNU
      rcases HKD.out with h1 | h1 | h1
      all_goals
        rw [h1] at d0 he
        have Q2 : Hid (∀ wx, Calls Tryd.prog 18 #[.string T] wx fun e w' => e = .returned (.bool _) ∧ w' = wx) := fun wx => by have := Q.out wx; rw [h1] at this; exact this
        clear h1 HKD Q
        subst he
        go_wp2
        go_quiet (first | (go_at_call 18; refine Calls.quiet_of_same (Q2.out _)))
        go_wp2
        go_roundw
        case rel => exact ⟨k + 1, en, by omega, by go_num, by first | rfl | (rw [← hadd]; rfl) | skip, HP2, dn' hB3.out _⟩
        case measure => simp [intOf]; omega
    · have hlt' : ¬ (k : Int) < n := by omega
      go_wp2
      go_ret
      exact ⟨rfl, then_ B2.out hB.out⟩
end Go.Proofs.YtnhhajbfohjlbaaDoor.Token
