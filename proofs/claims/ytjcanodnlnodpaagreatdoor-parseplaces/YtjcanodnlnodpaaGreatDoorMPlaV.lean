/- Contracts and plain mathematics, together: ParPlaW, ParPlaV. -/
import Derived.Test.YtjcanodnlnodpaaGreatDoorMSmall
import Derived.Test.YtjcanodnlnodpaaGreatDoorMPlaP
import Derived.Test.YtjcanodnlnodpaaGreatDoorMSame3
/- The ways through ParsePlaces, over the turned program. -/
namespace Go.Proofs.YtjcanodnlnodpaaGreatDoor.Parse
open Go.RowKit Go.Maps Go.Proofs.YtjcanodnlnodpaaGreatDoor.Frame Go.Proofs.YtjcanodnlnodpaaGreatDoor.Token Go.Proofs.YtjcanodnlnodpaaGreatDoor.Expr Go.Proofs.YtjcanodnlnodpaaGreatDoor.Calc
set_option linter.unusedVariables false
set_option linter.unusedSimpArgs false

/-- what is told is a net that was read -/
theorem out_rd (en : Int) (r : List TI) : RdN (outF en (netF en r)).1 := by
  unfold netF
  cases h : netI (r.map ktI) with
  | ok n => exact net_ok h
  | error e => exact fun t ht => by cases ht
theorem text_rd (s : List UInt8) : RdN (textF s).1 := by
  unfold textF
  split
  · exact out_rd _ _
  · exact fun t ht => by cases ht
/-- a net, as a value -/
def netC (n : PNet) (a1 : Option Addr) (c1 : Nat) (a2 : Option Addr) (c2 : Nat) (a3 : Option Addr) (c3 : Nat) : List Value := [.slice a1 n.colours.length c1, .slice a2 n.places.length c2, .slice a3 n.tasks.length c3, .int .i64 n.frm, .int .i64 n.too]
/-- .. in a box -/
def NBx (W : World) (q : Nat) (n : PNet) (a1 : Option Addr) (c1 : Nat) (a2 : Option Addr) (c2 : Nat) (a3 : Option Addr) (c3 : Nat) : Prop := Bx W q (netC n a1 c1 a2 c2 a3 c3) ∧ NetR W n (.agg #[.slice a1 n.colours.length c1, .slice a2 n.places.length c2, .slice a3 n.tasks.length c3, .int .i64 n.frm, .int .i64 n.too])
theorem NBx.on {W W' : World} {q : Nat} {n : PNet} {a1 : Option Addr} {c1 : Nat} {a2 : Option Addr} {c2 : Nat} {a3 : Option Addr} {c3 : Nat} (h : NBx W q n a1 c1 a2 c2 a3 c3) (hb : Below W.heap.size W W') : NBx W' q n a1 c1 a2 c2 a3 c3 := ⟨h.1.below hb, h.2.below hb⟩
theorem NBx.new {W : World} {n : PNet} {a1 : Option Addr} {c1 : Nat} {a2 : Option Addr} {c2 : Nat} {a3 : Option Addr} {c3 : Nat} (h : NetR W n (.agg #[.slice a1 n.colours.length c1, .slice a2 n.places.length c2, .slice a3 n.tasks.length c3, .int .i64 n.frm, .int .i64 n.too])) (t : TypeId) : NBx (W.alloc (.cells #[.slice a1 n.colours.length c1, .slice a2 n.places.length c2, .slice a3 n.tasks.length c3, .int .i64 n.frm, .int .i64 n.too] t)) W.heap.size n a1 c1 a2 c2 a3 c3 :=
  ⟨Bx.new W #[.slice a1 n.colours.length c1, .slice a2 n.places.length c2, .slice a3 n.tasks.length c3, .int .i64 n.frm, .int .i64 n.too] t, h.below ((Below.refl _ _).alloc (Nat.le_refl _) _)⟩
theorem NBx.cells {W : World} {q : Nat} {n : PNet} {a1 : Option Addr} {c1 : Nat} {a2 : Option Addr} {c2 : Nat} {a3 : Option Addr} {c3 : Nat} (h : NBx W q n a1 c1 a2 c2 a3 c3) : W.cell? ⟨q, 0, none⟩ = some (.slice a1 n.colours.length c1) ∧ W.cell? ⟨q, 1, none⟩ = some (.slice a2 n.places.length c2) ∧ W.cell? ⟨q, 2, none⟩ = some (.slice a3 n.tasks.length c3) ∧ W.cell? ⟨q, 3, none⟩ = some (.int .i64 n.frm) ∧ W.cell? ⟨q, 4, none⟩ = some (.int .i64 n.too) ∧ q < W.heap.size := h.1.five
theorem blank_list (s : ByteArray) : ((⟨#[32, 32]⟩ : ByteArray) ++ s).data.toList = 32 :: 32 :: s.data.toList := by simp
theorem blank_size (s : ByteArray) : ((⟨#[32, 32]⟩ : ByteArray) ++ s).size = 2 + s.size := by simp [ByteArray.size_append]; rfl

set_option maxRecDepth 100000 in
set_option maxHeartbeats 4000000 in
theorem pla_1 (s : ByteArray) (w : World) (hF : Fx w) (hT : Tb w) (h : 4096 < s.size) : Calls Tryz.prog 6 #[.string s] w fun e w' => e = .returned (.bool true) ∧ Below w.heap.size w w' := by
  have HF : Hid (Fx w ∧ Tb w) := ⟨hF, hT⟩
  have h' : (4096 : Int) < s.size := by omega
  clear hF hT
  go_enter Tryz.func6, Tryz.ntmps6
  go_wp2_with (go_at_call 11; refine (small_any _ HF.out.1 HF.out.2).mono ?_; rintro e w1 ⟨he, b1⟩; subst he)
  go_ret
  exact ⟨rfl, b1⟩

set_option maxRecDepth 100000 in
set_option maxHeartbeats 8000000 in
theorem pla_2 (s : ByteArray) (w : World) (hF : Fx w) (hT : Tb w) (h : ¬ 4096 < s.size) (h0 : (lexF s.data.toList).2.2 ≠ 0) : Calls Tryz.prog 6 #[.string s] w fun e w' => e = .returned (.bool true) ∧ Below w.heap.size w w' := by
  have HF : Hid (Fx w ∧ Tb w) := ⟨hF, hT⟩
  have h' : ¬ (4096 : Int) < s.size := by omega
  have hs6 : s.size ≤ 1000000 := by omega
  have HT : Hid (textF s.data.toList = (net0, ((lexF s.data.toList).2.1 : Int), (lexF s.data.toList).2.2)) := text_bad h0
  have HL : Hid (∀ W, Fx W → Calls Tryz.prog 21 #[.string s] W (LexPost (lexF s.data.toList) W)) := fun W hW => lex_any s W hs6 hW
  generalize lexF s.data.toList = x at *
  obtain ⟨l, at0, er⟩ := x
  have h0 : er ≠ 0 := h0
  have h0' : (er != 0) = true := by simpa using h0
  have h00 : (er == er) = true := by simp
  clear hF hT h0
  go_enter Tryz.func6, Tryz.ntmps6
  go_wp2_with fail
  refine (small_any _ HF.out.1 HF.out.2).mono ?_
  rintro e w1 ⟨he, b1⟩
  subst he
  go_wp2_with fail
  refine (HL.out w1 (HF.out.1.below b1)).mono ?_
  rintro e w2 ⟨a, c, he, ht, hb⟩
  replace he : e = .returned (.tuple #[.slice a l.length c, .int .i64 at0, .int .i64 er]) := he
  subst he
  have B2 : Hid (Below w.heap.size w w2) := then_ b1 hb
  clear b1 ht hb
  go_wp2_with fail
  refine (text_is (x := (net0, (at0 : Int), er)) w2 hs6 (HF.out.1.below B2.out) HT.out).mono ?_
  rintro e w3 ⟨v, he, hn, hb⟩
  obtain ⟨a1, c1, a2, c2, a3, c3, rfl, -⟩ := hn.now
  replace he : e = .returned (.tuple #[.agg #[.slice a1 0 c1, .slice a2 0 c2, .slice a3 0 c3, .int .i64 0, .int .i64 0], .int .i64 at0, .int .i64 er]) := he
  subst he
  have B3 : Hid (Below w.heap.size w w3) := then_ B2.out hb
  clear hn hb B2
  go_wp2_with fail
  go_ret
  exact ⟨by simp, B3.out.alloc B3.out.size _⟩
end Go.Proofs.YtjcanodnlnodpaaGreatDoor.Parse
/- The main way through ParsePlaces, over the turned program. -/
namespace Go.Proofs.YtjcanodnlnodpaaGreatDoor.Parse
open Go.RowKit Go.Maps Go.Proofs.YtjcanodnlnodpaaGreatDoor.Frame Go.Proofs.YtjcanodnlnodpaaGreatDoor.Token Go.Proofs.YtjcanodnlnodpaaGreatDoor.Expr Go.Proofs.YtjcanodnlnodpaaGreatDoor.Calc
set_option linter.unusedVariables false
set_option linter.unusedSimpArgs false

/-- is it the end, or one of the first so many tokens' places? -/
def isAt (l : List Tok) (len at_ : Int) (k : Nat) : Bool := at_ == len || (l.take k).any fun t => (t.at_ : Int) == at_
theorem isAt_0 (l : List Tok) (len at_ : Int) : isAt l len at_ 0 = (at_ == len) := by simp [isAt]
theorem isAt_1 {l : List Tok} {len at_ : Int} {k : Nat} (hk : k < l.length) : isAt l len at_ (k + 1) = (isAt l len at_ k || (((l.getD k tk0).at_ : Int) == at_)) := by
  have e : l.take (k + 1) = l.take k ++ [l.getD k tk0] := by
    rw [List.take_succ_eq_append_getElem hk, List.getD_eq_getElem?_getD, List.getElem?_eq_getElem hk]; rfl
  unfold isAt
  rw [e, List.any_append, List.any_cons, List.any_nil, Bool.or_false, Bool.or_assoc]
theorem isAt_end {l : List Tok} {len at_ : Int} (h : at_ = len ∨ ∃ i, i < l.length ∧ ((l.getD i tk0).at_ : Int) = at_) : isAt l len at_ l.length = true := by
  unfold isAt
  rw [List.take_of_length_le (Nat.le_refl _)]
  rcases h with h | ⟨i, hi, h⟩
  · rw [h]; simp
  · have : (l.any fun t => (t.at_ : Int) == at_) = true := List.any_eq_true.2 ⟨l.getD i tk0, List.mem_of_getElem? (get_at tk0 hi), by rw [h]; simp⟩
    rw [this, Bool.or_true]
theorem pl_bound {s : List UInt8} (hs : s.length ≤ 4096) (h0 : (lexF s).2.2 = 0) : 0 ≤ (textF s).2.1 ∧ (textF s).2.1 ≤ 4096 := by
  rcases text_in hs h0 with h | ⟨i, hi, h⟩
  · omega
  · have hp := lexF_places (l := s) (by omega)
    have hb : ∀ (ts : List Tok) (lo : Nat), Places s lo ts → ∀ t ∈ ts, t.at_ ≤ s.length := by
      intro ts
      induction ts with
      | nil => intro lo _ t ht; cases ht
      | cons u ts ih =>
        intro lo h t ht
        rcases List.mem_cons.1 ht with rfl | ht
        · have := h.1.2.1; omega
        · exact ih _ h.2 t ht
    have := hb _ _ hp _ (List.mem_of_getElem? (get_at tk0 hi))
    omega

set_option maxRecDepth 100000 in
set_option maxHeartbeats 16000000 in
theorem pla_3 (s : ByteArray) (w : World) (hF : Fx w) (hT : Tb w) (h : ¬ 4096 < s.size) (h0 : (lexF s.data.toList).2.2 = 0) : Calls Tryz.prog 6 #[.string s] w fun e w' => e = .returned (.bool true) ∧ Below w.heap.size w w' := by
  have HF : Hid (Fx w ∧ Tb w) := ⟨hF, hT⟩
  have h' : ¬ (4096 : Int) < s.size := by omega
  have hs6 : s.size ≤ 1000000 := by omega
  have hsl : s.data.toList.length ≤ 4096 := by rw [size_list]; omega
  have HL : Hid (∀ W, Fx W → Calls Tryz.prog 21 #[.string s] W (LexPost (lexF s.data.toList) W)) := fun W hW => lex_any s W hs6 hW
  obtain ⟨p1, -, -, p4, -⟩ := lexF_parts (l := s.data.toList) (by omega)
  have hJ := text_join hsl h0
  have hB := text_blank (s := s.data.toList) (by omega) h0
  have hI := text_in hsl h0
  have hbd := pl_bound hsl h0
  have hR := text_rd s.data.toList
  have HTX : Hid (∀ W, Fx W → Calls Tryz.prog 16 #[.string s] W (NetPost (textF s.data.toList) W)) := fun W hW => text_any s W hs6 hW
  have HTB : Hid (∀ W, Fx W → Calls Tryz.prog 16 #[.string ((⟨#[32, 32]⟩ : ByteArray) ++ s)] W (NetPost (textF (32 :: 32 :: s.data.toList)) W)) := fun W hW => by
    have := text_any ((⟨#[32, 32]⟩ : ByteArray) ++ s) W (by rw [blank_size]; omega) hW
    rw [blank_list] at this
    exact this
  rw [size_list] at hI p4
  generalize textF (32 :: 32 :: s.data.toList) = xb at *
  generalize textF s.data.toList = x at *
  generalize lexF s.data.toList = lx at *
  obtain ⟨l, at0, er⟩ := lx
  have h0 : er = 0 := h0
  subst h0
  have p1 : l.length ≤ s.data.toList.length := p1
  have p4 : (joinL l).length ≤ 2 * s.size := p4
  have HTJ : Hid (∀ W, Fx W → Calls Tryz.prog 16 #[.string (str (joinL l))] W (NetPost (textF (joinL l)) W)) := fun W hW => by
    have := text_any (str (joinL l)) W (by rw [str_size]; omega) hW
    rw [str_data] at this
    exact this
  have hJ : (textF (joinL l)).1 = x.1 ∧ (textF (joinL l)).2.2 = x.2.2 := hJ
  generalize textF (joinL l) = xj at *
  obtain ⟨n, pl, ec⟩ := x
  obtain ⟨nj, plj, ecj⟩ := xj
  obtain ⟨nb, plb, ecb⟩ := xb
  obtain ⟨rfl, rfl⟩ : nj = n ∧ ecj = ec := hJ
  obtain ⟨rfl, rfl, rfl⟩ : nb = nj ∧ plb = pl + 2 ∧ ecb = ecj := hB
  have HI : Hid (isAt l s.size pl l.length = true) := isAt_end hI
  have HJ : Hid (∀ (W : World) (a : Option Addr) (c : Nat), Toks W a l → Calls Tryz.prog 22 #[.slice a l.length c] W fun e w' => e = .returned (.string (str (joinL l))) ∧ Below W.heap.size W w') := fun W a c h => Token.join_any a c l W h (by rw [size_list] at p1; omega) (by omega)
  have HR : Hid (RdN nb) := hR
  have hpl : 0 ≤ pl ∧ pl ≤ 4096 := hbd
  obtain ⟨hpl0, hpl1⟩ := hpl
  have hl4 : l.length ≤ 4096 := by rw [size_list] at p1; omega
  generalize str (joinL l) = sj at *
  generalize hn : nb = n at *
  clear hF hT h0 hsl hI hR hbd p1 p4 hn
  obtain ⟨ln, hln⟩ : ∃ ln, ln = l.length := ⟨_, rfl⟩
  have HLN : Hid (ln = l.length) := hln
  rw [← hln] at hl4 HJ
  clear hln
  go_enter Tryz.func6, Tryz.ntmps6
  go_wp2_with fail
  refine (small_any _ HF.out.1 HF.out.2).mono ?_
  rintro e w1 ⟨he, b1⟩
  subst he
  go_wp2_with fail
  refine (HL.out w1 (HF.out.1.below b1)).mono ?_
  rintro e w2 ⟨a, c, he, ht, hb⟩
  replace he : e = .returned (.tuple #[.slice a l.length c, .int .i64 at0, .int .i64 0]) := he
  rw [← HLN.out] at he
  subst he
  have H2 : Hid (Below w.heap.size w w2 ∧ Toks w2 a l) := ⟨then_ b1 hb, ht⟩
  clear b1 ht hb HL
  go_wp2_with fail
  refine (HTX.out w2 (HF.out.1.below H2.out.1)).mono ?_
  rintro e w3 ⟨v, he, hn, hb⟩
  have hn := hn.now
  obtain ⟨b11, d11, b12, d12, b13, d13, rfl, hq⟩ := hn
  replace he : e = .returned (.tuple #[.agg #[.slice b11 n.colours.length d11, .slice b12 n.places.length d12, .slice b13 n.tasks.length d13, .int .i64 n.frm, .int .i64 n.too], .int .i64 pl, .int .i64 ecb]) := he
  subst he
  have HN1 : Hid (NBx (w3.alloc (.cells #[.slice b11 n.colours.length d11, .slice b12 n.places.length d12, .slice b13 n.tasks.length d13, .int .i64 n.frm, .int .i64 n.too] 28)) w3.heap.size n b11 d11 b12 d12 b13 d13) := NBx.new ⟨_, _, _, _, _, _, rfl, hq⟩ _
  have H3 : Hid (Below w.heap.size w (w3.alloc (.cells #[.slice b11 n.colours.length d11, .slice b12 n.places.length d12, .slice b13 n.tasks.length d13, .int .i64 n.frm, .int .i64 n.too] 28)) ∧ Toks (w3.alloc (.cells #[.slice b11 n.colours.length d11, .slice b12 n.places.length d12, .slice b13 n.tasks.length d13, .int .i64 n.frm, .int .i64 n.too] 28)) a l) := ⟨(then_ H2.out.1 hb).alloc (then_ H2.out.1 hb).size _, (H2.out.2.below hb).below ((Below.refl _ _).alloc (Nat.le_refl _) _)⟩
  clear hq hb H2 HTX
  go_wp2_with fail
  refine (HJ.out _ a c H3.out.2).mono ?_
  rintro e w4 ⟨he, hb⟩
  subst he
  have HN2 : Hid (NBx w4 w3.heap.size n b11 d11 b12 d12 b13 d13) := HN1.out.on hb
  have H4 : Hid (Below w.heap.size w w4 ∧ Toks w4 a l) := ⟨then_ H3.out.1 hb, H3.out.2.below hb⟩
  clear hb H3 HN1 HJ
  go_wp2_with fail
  refine (HTJ.out w4 (HF.out.1.below H4.out.1)).mono ?_
  rintro e w5 ⟨v, he, hn, hb⟩
  have hn := hn.now
  obtain ⟨b21, d21, b22, d22, b23, d23, rfl, hq⟩ := hn
  replace he : e = .returned (.tuple #[.agg #[.slice b21 n.colours.length d21, .slice b22 n.places.length d22, .slice b23 n.tasks.length d23, .int .i64 n.frm, .int .i64 n.too], .int .i64 plj, .int .i64 ecb]) := he
  subst he
  have hal : Below w5.heap.size w5 (w5.alloc (.cells #[.slice b21 n.colours.length d21, .slice b22 n.places.length d22, .slice b23 n.tasks.length d23, .int .i64 n.frm, .int .i64 n.too] 28)) := (Below.refl _ _).alloc (Nat.le_refl _) _
  have HN3 : Hid (NBx (w5.alloc (.cells #[.slice b21 n.colours.length d21, .slice b22 n.places.length d22, .slice b23 n.tasks.length d23, .int .i64 n.frm, .int .i64 n.too] 28)) w3.heap.size n b11 d11 b12 d12 b13 d13 ∧ NBx (w5.alloc (.cells #[.slice b21 n.colours.length d21, .slice b22 n.places.length d22, .slice b23 n.tasks.length d23, .int .i64 n.frm, .int .i64 n.too] 28)) w5.heap.size n b21 d21 b22 d22 b23 d23) := ⟨(HN2.out.on hb).on hal, NBx.new ⟨_, _, _, _, _, _, rfl, hq⟩ _⟩
  have H5 : Hid (Below w.heap.size w (w5.alloc (.cells #[.slice b21 n.colours.length d21, .slice b22 n.places.length d22, .slice b23 n.tasks.length d23, .int .i64 n.frm, .int .i64 n.too] 28)) ∧ Toks (w5.alloc (.cells #[.slice b21 n.colours.length d21, .slice b22 n.places.length d22, .slice b23 n.tasks.length d23, .int .i64 n.frm, .int .i64 n.too] 28)) a l) := ⟨then_ (then_ H4.out.1 hb) hal, (H4.out.2.below hb).below hal⟩
  clear hq hb hal H4 HN2 HTJ
  go_wp2_with fail
  refine (HTB.out _ (HF.out.1.below H5.out.1)).mono ?_
  rintro e w6 ⟨v, he, hn, hb⟩
  have hn := hn.now
  obtain ⟨b31, d31, b32, d32, b33, d33, rfl, hq⟩ := hn
  replace he : e = .returned (.tuple #[.agg #[.slice b31 n.colours.length d31, .slice b32 n.places.length d32, .slice b33 n.tasks.length d33, .int .i64 n.frm, .int .i64 n.too], .int .i64 (pl + 2), .int .i64 ecb]) := he
  subst he
  have hal : Below w6.heap.size w6 (w6.alloc (.cells #[.slice b31 n.colours.length d31, .slice b32 n.places.length d32, .slice b33 n.tasks.length d33, .int .i64 n.frm, .int .i64 n.too] 28)) := (Below.refl _ _).alloc (Nat.le_refl _) _
  have HN4 : Hid (NBx (w6.alloc (.cells #[.slice b31 n.colours.length d31, .slice b32 n.places.length d32, .slice b33 n.tasks.length d33, .int .i64 n.frm, .int .i64 n.too] 28)) w3.heap.size n b11 d11 b12 d12 b13 d13 ∧ NBx (w6.alloc (.cells #[.slice b31 n.colours.length d31, .slice b32 n.places.length d32, .slice b33 n.tasks.length d33, .int .i64 n.frm, .int .i64 n.too] 28)) w5.heap.size n b21 d21 b22 d22 b23 d23 ∧ NBx (w6.alloc (.cells #[.slice b31 n.colours.length d31, .slice b32 n.places.length d32, .slice b33 n.tasks.length d33, .int .i64 n.frm, .int .i64 n.too] 28)) w6.heap.size n b31 d31 b32 d32 b33 d33) := ⟨(HN3.out.1.on hb).on hal, (HN3.out.2.on hb).on hal, NBx.new ⟨_, _, _, _, _, _, rfl, hq⟩ _⟩
  have H6 : Hid (Below w.heap.size w (w6.alloc (.cells #[.slice b31 n.colours.length d31, .slice b32 n.places.length d32, .slice b33 n.tasks.length d33, .int .i64 n.frm, .int .i64 n.too] 28)) ∧ Toks (w6.alloc (.cells #[.slice b31 n.colours.length d31, .slice b32 n.places.length d32, .slice b33 n.tasks.length d33, .int .i64 n.frm, .int .i64 n.too] 28)) a l) := ⟨then_ (then_ H5.out.1 hb) hal, (H5.out.2.below hb).below hal⟩
  clear hq hb hal H5 HN3 HTB HF
  obtain ⟨W, hW⟩ : ∃ W, W = (w6.alloc (.cells #[.slice b31 n.colours.length d31, .slice b32 n.places.length d32, .slice b33 n.tasks.length d33, .int .i64 n.frm, .int .i64 n.too] 28)) := ⟨_, rfl⟩
  rw [← hW] at HN4 H6
  have HW : Hid (W = (w6.alloc (.cells #[.slice b31 n.colours.length d31, .slice b32 n.places.length d32, .slice b33 n.tasks.length d33, .int .i64 n.frm, .int .i64 n.too] 28))) := hW
  clear hW
  go_wp2_with fail
  rw [← HW.out]
  clear HW
  go_loop [16, 17] (fun v i => ∃ k : Nat, k ≤ ln ∧ i = .int .i64 k ∧ ∃ bb : Bool, v = .bool bb ∧ Hid (bb = isAt l s.size pl k)) (fun _ i => ln - (intOf i).toNat)
  case atStart => exact ⟨0, Nat.zero_le _, rfl, _, rfl, (isAt_0 l s.size pl).symm⟩
  case round =>
    obtain ⟨k, hk, rfl, bb, rfl, HBB⟩ := hrel
    by_cases hlt : k < ln
    · have hlt' : (k : Int) < ln := by omega
      have hkl : k < l.length := by rw [← HLN.out]; exact hlt
      obtain ⟨b, off, ha, hbl, hat⟩ := H6.out.2.row hkl
      subst ha
      obtain ⟨-, -, c2⟩ := hat k hkl
      have HS : Hid (isAt l s.size pl (k + 1) = (bb || (((l.getD k tk0).at_ : Int) == pl))) := by show _ = _; rw [isAt_1 hkl, HBB.out]
      generalize (l.getD k tk0).at_ = z at *
      clear hat hkl
      cases bb with
      | true =>
        have HS : Hid (true = isAt l s.size pl (k + 1)) := by show _ = _; rw [HS.out]; rfl
        clear HBB
        go_wp2_with fail
        go_round
        case rel => exact ⟨k + 1, by omega, by go_num, true, rfl, HS⟩
        case measure => simp [intOf]; omega
      | false =>
        have HS : Hid (((z : Int) == pl) = isAt l s.size pl (k + 1)) := by show _ = _; rw [HS.out]; rfl
        clear HBB
        go_wp2_with fail
        go_round
        case rel => exact ⟨k + 1, by omega, by go_num, _, rfl, HS⟩
        case measure => simp [intOf]; omega
    · have hlt' : ¬ (k : Int) < ln := by omega
      have hbb : bb = true := by rw [HBB.out, show k = l.length by rw [← HLN.out]; omega]; exact HI.out
      subst hbb
      obtain ⟨g0, g1, g2, g3, g4, gl⟩ := HN4.out.1.cells
      obtain ⟨k0, k1, k2, k3, k4, kl⟩ := HN4.out.2.1.cells
      have hee : (ecb == ecb) = true := by simp
      clear HBB HI
      go_wp2_with fail
      refine (rnet_yes n W _ _ HN4.out.1.2 HN4.out.2.1.2 HR.out).mono ?_
      rintro e w7 ⟨he, hb⟩
      subst he
      have HN5 : Hid (NBx w7 w3.heap.size n b11 d11 b12 d12 b13 d13 ∧ NBx w7 w6.heap.size n b31 d31 b32 d32 b33 d33 ∧ Below w.heap.size w w7) := ⟨HN4.out.1.on hb, HN4.out.2.2.on hb, then_ H6.out.1 hb⟩
      clear g0 g1 g2 g3 g4 gl k0 k1 k2 k3 k4 kl HN4 hb
      obtain ⟨g0, g1, g2, g3, g4, gl⟩ := HN5.out.1.cells
      obtain ⟨k0, k1, k2, k3, k4, kl⟩ := HN5.out.2.1.cells
      go_wp2_with fail
      refine (rnet_yes n w7 _ _ HN5.out.1.2 HN5.out.2.1.2 HR.out).mono ?_
      rintro e w8 ⟨he, hb⟩
      subst he
      have B8 : Hid (Below w.heap.size w w8) := then_ HN5.out.2.2 hb
      clear hb HN5 g0 g1 g2 g3 g4 gl k0 k1 k2 k3 k4 kl
      go_wp2_with fail
      go_ret
      exact ⟨rfl, B8.out⟩
end Go.Proofs.YtjcanodnlnodpaaGreatDoor.Parse
