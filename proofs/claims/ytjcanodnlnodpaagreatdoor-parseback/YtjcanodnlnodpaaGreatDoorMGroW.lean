/- The ways through ParseGroups, over the turned program. -/
import Derived.Test.YtjcanodnlnodpaaGreatDoorMSmall
import Derived.Test.YtjcanodnlnodpaaGreatDoorMGroP
import Derived.Test.YtjcanodnlnodpaaGreatDoorMESame
namespace Go.Proofs.YtjcanodnlnodpaaGreatDoor.Parse
open Go.RowKit Go.Maps Go.Proofs.YtjcanodnlnodpaaGreatDoor.Frame Go.Proofs.YtjcanodnlnodpaaGreatDoor.Token Go.Proofs.YtjcanodnlnodpaaGreatDoor.Expr Go.Proofs.YtjcanodnlnodpaaGreatDoor.Calc
set_option linter.unusedVariables false
set_option linter.unusedSimpArgs false

set_option maxRecDepth 100000 in
set_option maxHeartbeats 4000000 in
theorem gro_1 (s : ByteArray) (w : World) (hF : Fx w) (hT : Tb w) (h : 400 < s.size) : Calls Tryz.prog 8 #[.string s] w fun e w' => e = .returned (.bool true) ∧ Below w.heap.size w w' := by
  have HF : Hid (Fx w ∧ Tb w) := ⟨hF, hT⟩
  have h' : (400 : Int) < s.size := by omega
  clear hF hT
  go_enter Tryz.func8, Tryz.ntmps8
  go_wp2_with (go_at_call 11; refine (small_any _ HF.out.1 HF.out.2).mono ?_; rintro e w1 ⟨he, b1⟩; subst he)
  go_ret
  exact ⟨rfl, b1⟩

set_option maxRecDepth 100000 in
set_option maxHeartbeats 4000000 in
theorem gro_2 (s : ByteArray) (w : World) (hF : Fx w) (hT : Tb w) (h : ¬ 400 < s.size) (h0 : (lexF s.data.toList).2.2 ≠ 0) : Calls Tryz.prog 8 #[.string s] w fun e w' => e = .returned (.bool true) ∧ Below w.heap.size w w' := by
  have HF : Hid (Fx w ∧ Tb w) := ⟨hF, hT⟩
  have h' : ¬ (400 : Int) < s.size := by omega
  have hs6 : s.size ≤ 1000000 := by omega
  have HL : Hid (∀ W, Fx W → Calls Tryz.prog 21 #[.string s] W (LexPost (lexF s.data.toList) W)) := fun W hW => lex_any s W hs6 hW
  generalize lexF s.data.toList = x at *
  obtain ⟨l, at0, er⟩ := x
  have h0 : er ≠ 0 := h0
  have h0' : (er != 0) = true := by simpa using h0
  clear hF hT h0
  go_enter Tryz.func8, Tryz.ntmps8
  go_wp2_with fail
  refine (small_any _ HF.out.1 HF.out.2).mono ?_
  rintro e w1 ⟨he, b1⟩
  subst he
  go_wp2_with fail
  refine (HL.out _ (HF.out.1.below (b1.alloc b1.size _))).mono ?_
  rintro e w2 ⟨a, c, he, ht, hb⟩
  replace he : e = .returned (.tuple #[.slice a l.length c, .int .i64 at0, .int .i64 er]) := he
  subst he
  have B2 : Hid (Below w.heap.size w w2) := then_ (b1.alloc b1.size _) hb
  clear b1 ht hb
  go_wp2_with fail
  go_ret
  exact ⟨rfl, B2.out⟩

def xyz : List (List UInt8) := [[120], [121], [122]]
theorem group_list (s : ByteArray) : ((⟨#[40]⟩ : ByteArray) ++ s ++ (⟨#[10, 41]⟩ : ByteArray)).data.toList = 40 :: s.data.toList ++ [10, 41] := by simp
theorem group_size (s : ByteArray) : ((⟨#[40]⟩ : ByteArray) ++ s ++ (⟨#[10, 41]⟩ : ByteArray)).size = 1 + s.size + 2 := by simp [ByteArray.size_append]; rfl
theorem xyz_names {W : World} {q : Nat} (h : Bx W q [.string (str [120]), .string (str [121]), .string (str [122])]) : NMs W.heap.size W (some ⟨q, 0, none⟩) xyz := by
  refine ⟨.inr ⟨q, 0, rfl, h.2.2, fun i hi => ?_⟩, fun s hs => ?_⟩
  · have hi : i < 3 := hi
    have : i = 0 ∨ i = 1 ∨ i = 2 := by omega
    rcases this with rfl | rfl | rfl
    · exact h.1 0
    · exact h.1 1
    · exact h.1 2
  · simp only [xyz, List.mem_cons, List.not_mem_nil, or_false] at hs
    rcases hs with rfl | rfl | rfl <;> decide
/-- what parse.Expr tells of a text's tokens -/
theorem pex_of {W : World} {a : Option Addr} {c q : Nat} {l : List Tok} {en : Int} (hF : Fx W) (ht : Toks W a l) (hlc : l.length ≤ c) (hcm : c ≤ maxLen) (hb : Bx W q [.string (str [120]), .string (str [121]), .string (str [122])]) (hl : ∀ t ∈ l, t.text.length ≤ 16384) :
    Calls Tryz.prog 18 #[.slice a l.length c, .int .i64 en, .slice (some ⟨q, 0, none⟩) 3 3] W (ExPost (exprF en xyz (l.map tiT)) W) := by
  have := pex_any a c (l.map tiT) en (some ⟨q, 0, none⟩) 3 xyz W (tis_of ht) (by rw [List.length_map]; exact hlc) hcm (pk_of hl (by decide)) (xyz_names hb) (by decide) hF (fx_lt hF)
  rw [List.length_map] at this
  exact this

set_option maxRecDepth 100000 in
set_option maxHeartbeats 16000000 in
theorem gro_3 (s : ByteArray) (w : World) (hF : Fx w) (hT : Tb w) (h : ¬ 400 < s.size) (h0 : (lexF s.data.toList).2.2 = 0) : Calls Tryz.prog 8 #[.string s] w fun e w' => e = .returned (.bool true) ∧ Below w.heap.size w w' := by
  have HF : Hid (Fx w ∧ Tb w) := ⟨hF, hT⟩
  have h' : ¬ (400 : Int) < s.size := by omega
  have hs6 : s.size ≤ 1000000 := by omega
  have HL : Hid (∀ W, Fx W → Calls Tryz.prog 21 #[.string s] W (LexPost2 (lexF s.data.toList) W)) := fun W hW => lex_any2 s W hs6 hW
  have HM : Hid (∀ W, Fx W → Calls Tryz.prog 21 #[.string ((⟨#[40]⟩ : ByteArray) ++ s ++ (⟨#[10, 41]⟩ : ByteArray))] W (LexPost2 (lexF (40 :: s.data.toList ++ [10, 41])) W)) := fun W hW => by
    have := lex_any2 ((⟨#[40]⟩ : ByteArray) ++ s ++ (⟨#[10, 41]⟩ : ByteArray)) W (by rw [group_size]; omega) hW
    rw [group_list] at this
    exact this
  obtain ⟨k1, k2⟩ := lexF_group (l := s.data.toList) (by rw [size_list]; omega) h0
  have hs1 := (lex_small s.data.toList).2
  have hs2 := (lex_small (40 :: s.data.toList ++ [10, 41])).2
  generalize lexF (40 :: s.data.toList ++ [10, 41]) = y at *
  generalize lexF s.data.toList = x at *
  obtain ⟨l, at0, er⟩ := x
  obtain ⟨m, at1, er1⟩ := y
  have h0 : er = 0 := h0
  have k1 : er1 = 0 := k1
  subst h0 k1
  have k2 : (m.map tiT).map ktI = (3, [40]) :: ((l.map tiT).map ktI ++ [(3, [41])]) := k2
  have hs1 : ∀ t ∈ l, t.text.length ≤ 16384 := hs1
  have hs2 : ∀ t ∈ m, t.text.length ≤ 16384 := hs2
  -- what both tell
  have hrel : (∃ t, exprF at0 xyz (l.map tiT) = (t, (at0 : Int), (0 : Int)) ∧ RdE t ∧ (exprF at1 xyz (m.map tiT) = (t, (at1 : Int), (0 : Int)) ∨ ∃ z : Int, exprF at1 xyz (m.map tiT) = ((⟨0, 0, []⟩ : Ex), z, (2 : Int)))) ∨ ((exprF at0 xyz (l.map tiT)).2.2 ≠ 0) := by
    unfold exprF
    rw [k2]
    cases hx : exprI xyz ((l.map tiT).map ktI) with
    | error e => exact .inr (exprI_err hx)
    | ok t =>
      refine .inl ⟨t, rfl, ⟨_, exprI_ok hx⟩, ?_⟩
      rcases groups hx with hg | ⟨z, hg⟩
      · rw [hg]; exact .inl rfl
      · rw [hg]; exact .inr ⟨_, rfl⟩
  have PX : Hid (∀ (W : World) (a : Option Addr) (c q : Nat), Fx W → Toks W a l → l.length ≤ c → c ≤ maxLen → Bx W q [.string (str [120]), .string (str [121]), .string (str [122])] → Calls Tryz.prog 18 #[.slice a l.length c, .int .i64 at0, .slice (some ⟨q, 0, none⟩) 3 3] W (ExPost (exprF at0 xyz (l.map tiT)) W)) := fun W a c q h1 h2 h3 h4 h5 => pex_of h1 h2 h3 h4 h5 hs1
  have PY : Hid (∀ (W : World) (a : Option Addr) (c q : Nat), Fx W → Toks W a m → m.length ≤ c → c ≤ maxLen → Bx W q [.string (str [120]), .string (str [121]), .string (str [122])] → Calls Tryz.prog 18 #[.slice a m.length c, .int .i64 at1, .slice (some ⟨q, 0, none⟩) 3 3] W (ExPost (exprF at1 xyz (m.map tiT)) W)) := fun W a c q h1 h2 h3 h4 h5 => pex_of h1 h2 h3 h4 h5 hs2
  generalize exprF at0 xyz (l.map tiT) = p at *
  generalize exprF at1 xyz (m.map tiT) = r at *
  have HREL : Hid ((∃ t, p = (t, (at0 : Int), (0 : Int)) ∧ RdE t ∧ (r = (t, (at1 : Int), (0 : Int)) ∨ ∃ z : Int, r = ((⟨0, 0, []⟩ : Ex), z, (2 : Int)))) ∨ p.2.2 ≠ 0) := hrel
  clear hF hT k2 hs1 hs2 hrel
  go_enter Tryz.func8, Tryz.ntmps8
  go_wp2_with fail
  refine (small_any _ HF.out.1 HF.out.2).mono ?_
  rintro e w1 ⟨he, b1⟩
  subst he
  have B1 : Hid (Below w.heap.size w w1) := b1
  clear b1
  go_wp2_with fail
  refine (HL.out _ (HF.out.1.below (B1.out.alloc B1.out.size _))).mono ?_
  rintro e w2 ⟨a, c, he, ht, hb, hlc, hcm⟩
  replace he : e = .returned (.tuple #[.slice a l.length c, .int .i64 at0, .int .i64 0]) := he
  subst he
  have hbx : Bx w2 w1.heap.size [.string (str [120]), .string (str [121]), .string (str [122])] := (Bx.mk _ rfl rfl).below hb
  have H2 : Hid (Below w.heap.size w w2 ∧ Bx w2 w1.heap.size [.string (str [120]), .string (str [121]), .string (str [122])] ∧ Toks w2 a l ∧ l.length ≤ c ∧ c ≤ maxLen) := ⟨then_ (B1.out.alloc B1.out.size _) hb, hbx, ht, hlc, hcm⟩
  clear hbx ht hb hlc hcm B1
  go_wp2_with fail
  refine (PX.out w2 a c w1.heap.size (HF.out.1.below H2.out.1) H2.out.2.2.1 H2.out.2.2.2.1 H2.out.2.2.2.2 H2.out.2.1).mono ?_
  rintro e w3 ⟨ax, cx, he, hx, hb⟩
  obtain ⟨pt, pp, pe⟩ := p
  replace he : e = .returned (.tuple #[.agg #[.int .i64 pt.kind, .int .i64 pt.num, .slice ax pt.kids.length cx], .int .i64 pp, .int .i64 pe]) := he
  subst he
  have hal : Below w3.heap.size w3 (w3.alloc (.cells #[.int .i64 pt.kind, .int .i64 pt.num, .slice ax pt.kids.length cx] 40)) := (Below.refl _ _).alloc (Nat.le_refl _) _
  have H3 : Hid (Below w.heap.size w (w3.alloc (.cells #[.int .i64 pt.kind, .int .i64 pt.num, .slice ax pt.kids.length cx] 40)) ∧ Bx (w3.alloc (.cells #[.int .i64 pt.kind, .int .i64 pt.num, .slice ax pt.kids.length cx] 40)) w1.heap.size [.string (str [120]), .string (str [121]), .string (str [122])] ∧ Bx (w3.alloc (.cells #[.int .i64 pt.kind, .int .i64 pt.num, .slice ax pt.kids.length cx] 40)) w3.heap.size [.int .i64 pt.kind, .int .i64 pt.num, .slice ax pt.kids.length cx] ∧ X (w3.alloc (.cells #[.int .i64 pt.kind, .int .i64 pt.num, .slice ax pt.kids.length cx] 40)) pt ax) := ⟨then_ (then_ H2.out.1 hb) hal, (H2.out.2.1.below hb).below hal, Bx.mk _ rfl rfl, hx.below hal⟩
  clear hx hb hal H2 PX
  go_wp2_with fail
  refine (HM.out _ (HF.out.1.below H3.out.1)).mono ?_
  rintro e w4 ⟨a', c', he, ht, hb, hlc, hcm⟩
  replace he : e = .returned (.tuple #[.slice a' m.length c', .int .i64 at1, .int .i64 0]) := he
  subst he
  have H4 : Hid (Below w.heap.size w w4 ∧ Bx w4 w1.heap.size [.string (str [120]), .string (str [121]), .string (str [122])] ∧ Bx w4 w3.heap.size [.int .i64 pt.kind, .int .i64 pt.num, .slice ax pt.kids.length cx] ∧ X w4 pt ax) := ⟨then_ H3.out.1 hb, H3.out.2.1.below hb, H3.out.2.2.1.below hb, H3.out.2.2.2.below hb⟩
  have T4 : Hid (Toks w4 a' m ∧ m.length ≤ c' ∧ c' ≤ maxLen) := ⟨ht, hlc, hcm⟩
  clear ht hb hlc hcm H3
  go_wp2_with fail
  refine (PY.out w4 a' c' w1.heap.size (HF.out.1.below H4.out.1) T4.out.1 T4.out.2.1 T4.out.2.2 H4.out.2.1).mono ?_
  rintro e w5 ⟨ay, cy, he, hy, hb⟩
  obtain ⟨rt, rp, re⟩ := r
  replace he : e = .returned (.tuple #[.agg #[.int .i64 rt.kind, .int .i64 rt.num, .slice ay rt.kids.length cy], .int .i64 rp, .int .i64 re]) := he
  subst he
  have hal : Below w5.heap.size w5 (w5.alloc (.cells #[.int .i64 rt.kind, .int .i64 rt.num, .slice ay rt.kids.length cy] 40)) := (Below.refl _ _).alloc (Nat.le_refl _) _
  have H5 : Hid (Below w.heap.size w w5 ∧ Bx w5 w3.heap.size [.int .i64 pt.kind, .int .i64 pt.num, .slice ax pt.kids.length cx] ∧ X w5 pt ax ∧ X w5 rt ay) := ⟨then_ H4.out.1 hb, H4.out.2.2.1.below hb, H4.out.2.2.2.below hb, hy⟩
  clear hy hb hal H4 T4 PY
  obtain ⟨g0, g1, g2, gl⟩ := H5.out.2.1.three
  have hRel := HREL.out
  rcases hRel with ⟨t, hp, hrd, hr⟩ | hne
  · obtain ⟨rfl, rfl, rfl⟩ : pt = t ∧ pp = (at0 : Int) ∧ pe = 0 := by injection hp with h1 h2; injection h2 with h2 h3; exact ⟨h1, h2, h3⟩
    rcases hr with hr | ⟨z, hr⟩
    · obtain ⟨rfl, rfl, rfl⟩ : rt = pt ∧ rp = (at1 : Int) ∧ re = 0 := by injection hr with h1 h2; injection h2 with h2 h3; exact ⟨h1, h2, h3⟩
      have HR : Hid (RdE rt) := hrd
      clear hrd hp hr HREL
      go_wp2_with fail
      refine (esame_yes rt HR.out _ ax ay cx cy (H5.out.2.2.1.below ((Below.refl _ _).alloc (Nat.le_refl _) _)) (H5.out.2.2.2.below ((Below.refl _ _).alloc (Nat.le_refl _) _))).mono ?_
      rintro e w6 ⟨he, hb⟩
      subst he
      have B6 : Hid (Below w.heap.size w w6) := then_ (H5.out.1.alloc H5.out.1.size _) hb
      clear hb
      go_wp2_with fail
      go_ret
      exact ⟨rfl, B6.out⟩
    · obtain ⟨rfl, rfl, rfl⟩ : rt = ⟨0, 0, []⟩ ∧ rp = z ∧ re = 2 := by injection hr with h1 h2; injection h2 with h2 h3; exact ⟨h1, h2, h3⟩
      clear hrd hp hr HREL
      go_wp2_with fail
      go_ret
      exact ⟨rfl, H5.out.1.alloc H5.out.1.size _⟩
  · have hne' : (pe != 0) = true := by have h : pe ≠ 0 := hne; simpa using h
    clear hne HREL
    go_wp2_with fail
    go_ret
    exact ⟨rfl, H5.out.1.alloc H5.out.1.size _⟩
end Go.Proofs.YtjcanodnlnodpaaGreatDoor.Parse
