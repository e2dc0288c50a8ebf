/- Contracts and plain mathematics, together: TokJoin, TokLawP. -/
import Derived.Test.YtjcanodnlnodpaaGreatDoorMLex
import Derived.Test.YtjcanodnlnodpaaGreatDoorMBuild
import Derived.Test.YtjcanodnlnodpaaGreatDoorMRun
import Derived.Deep.QuietTactic
import Derived.BigQuiet
/- Join of package token: a contract of the call, over the turned program. -/
namespace Go.Proofs.YtjcanodnlnodpaaGreatDoor.Token
open Go.RowKit Go.Proofs.YtjcanodnlnodpaaGreatDoor.Colour Go.Proofs.YtjcanodnlnodpaaGreatDoor.Frame
set_option linter.unusedVariables false
set_option linter.unusedSimpArgs false

/-- a builder of the call's own that holds these bytes -/
def Bld (B b : Nat) (bs : List UInt8) (w : World) : Prop := Lib.IsBuilderF 103 5 B b (Lib.byteCells bs) w ∧ B ≤ w.heap.size ∧ b < w.heap.size
theorem Bld.alloc {B b : Nat} {bs : List UInt8} {w : World} (h : Bld B b bs w) (o : Obj) : Bld B b bs (w.alloc o) := ⟨h.1.alloc o, by have := h.2.1; simp; omega, by have := h.2.2; simp; omega⟩
theorem byteCells_append (l m : List UInt8) : Lib.byteCells (l ++ m) = Lib.byteCells l ++ Lib.byteCells m := by simp [Lib.byteCells]
theorem fresh_bld (w : World) : Bld w.heap.size w.heap.size [] (w.alloc (.cells #[.pointer none, .slice none 0 0] 103)) :=
  ⟨Lib.IsBuilderF.of (Lib.fresh_isBuilder _ _ w), by simp, by simp⟩
/-- what a writer leaves as it was: all below B, and a box beside the builder -/
def KeptB (B b : Nat) (w w' : World) : Prop := Below B w w' ∧ Lib.OthersKept 5 (some b) w w'
theorem KeptB.box {B b C : Nat} {w w' : World} {cs : Array Value} {fz : Nat × Nat} (h : KeptB B b w w') (hC : w.heap[C]? = some (.cells cs 49 fz)) (hne : C ≠ b) : w'.heap[C]? = some (.cells cs 49 fz) :=
  h.2 C _ hC (fun e => hne (Option.some.inj e)) (fun c f e => by injection e with e1 e2; exact absurd e2 (by decide))
theorem wByte (B b : Nat) (bs : List UInt8) (c : UInt8) (w : World) (h : Bld B b bs w) (hl : bs.length ≤ 10000000) :
    Calls Tryz.prog 55 #[.pointer (some ⟨b, 0, none⟩), .int .u8 c.toNat] w fun e w' => e = .returned .nilIface ∧ Bld B b (bs ++ [c]) w' ∧ KeptB B b w w' := by
  refine (Build.writeByte B b _ _ w h.1 (by rw [Lib.byteCells_length]; omega) h.2.1).mono ?_
  rintro e w' ⟨he, hb, hbel, hk⟩
  exact ⟨he, ⟨.inr (by rw [byteCells_append]; exact hb), Nat.le_trans h.2.1 hbel.size, Nat.lt_of_lt_of_le h.2.2 hbel.size⟩, hbel, hk⟩
theorem wString (B b : Nat) (bs : List UInt8) (s : ByteArray) (w : World) (h : Bld B b bs w) (hl : bs.length + s.size ≤ 10000000) :
    Calls Tryz.prog 56 #[.pointer (some ⟨b, 0, none⟩), .string s] w fun e w' => e = .returned (.tuple #[.int .i64 s.size, .nilIface]) ∧ Bld B b (bs ++ s.data.toList) w' ∧ KeptB B b w w' := by
  refine (Build.writeString B b _ s w h.1 (by rw [Lib.byteCells_length]; omega) h.2.1).mono ?_
  rintro e w' ⟨he, hb, hbel, hk⟩
  exact ⟨he, ⟨.inr (by rw [byteCells_append]; exact hb), Nat.le_trans h.2.1 hbel.size, Nat.lt_of_lt_of_le h.2.2 hbel.size⟩, hbel, hk⟩

/-- the first k, joined -/
theorem join_take {l : List Tok} : ∀ {k : Nat}, k < l.length → joinL (l.take (k + 1)) = joinL (l.take k) ++ ((if k = 0 then [] else [32]) ++ (l.getD k tk0).text) := by
  intro k
  induction k generalizing l with
  | zero =>
    intro h
    cases l with
    | nil => cases h
    | cons t l => simp [joinL]
  | succ k ih =>
    intro h
    cases l with
    | nil => cases h
    | cons t l =>
      cases l with
      | nil => simp at h
      | cons u l =>
        have h' : k < (u :: l).length := by simpa using h
        have := ih h'
        have hj : ∀ m : List Tok, m ≠ [] → joinL (t :: m) = t.text ++ 32 :: joinL m := fun m hm => by
          cases m with
          | nil => exact absurd rfl hm
          | cons v m => rfl
        show joinL (t :: (u :: l).take (k + 1)) = joinL (t :: (u :: l).take k) ++ _
        rw [hj ((u :: l).take (k + 1)) (by simp), this, List.getD_cons_succ]
        cases k with
        | zero => simp [joinL]
        | succ k => rw [hj _ (by simp)]; simp
theorem join_mono {l : List Tok} {k : Nat} : (joinL (l.take k)).length ≤ (joinL l).length := by
  have : ∀ d, (joinL (l.take k)).length ≤ (joinL (l.take (k + d))).length := by
    intro d
    induction d with
    | zero => exact Nat.le_refl _
    | succ d ih =>
      by_cases h : k + d < l.length
      · rw [← Nat.add_assoc, join_take h, List.length_append]; omega
      · rw [List.take_of_length_le (show l.length ≤ k + (d + 1) by omega)]
        rw [List.take_of_length_le (show l.length ≤ k + d by omega)] at ih
        exact ih
  have h := this l.length
  rwa [List.take_of_length_le (show l.length ≤ k + l.length by omega)] at h

set_option maxRecDepth 100000 in
set_option maxHeartbeats 4000000 in
theorem join_any (a : Option Addr) (c : Nat) (l : List Tok) (w : World) (h : Toks w a l) (hl : l.length ≤ 1000000) (hj : (joinL l).length ≤ 1000000) :
    Calls Tryz.prog 22 #[.slice a l.length c] w fun e w' => e = .returned (.string (str (joinL l))) ∧ Below w.heap.size w w' := by
  have HT : Hid (Toks w a l) := h
  have F0 : Hid (Bld w.heap.size w.heap.size [] (w.alloc (.cells #[.pointer none, .slice none 0 0] 103))) := fresh_bld w
  have HJ : Hid ((joinL l).length ≤ 1000000) := hj
  have HB0 : Hid (Below w.heap.size w (w.alloc (.cells #[.pointer none, .slice none 0 0] 103))) := (Below.refl _ _).alloc (Nat.le_refl _) _
  obtain ⟨n, hn⟩ : ∃ n, n = l.length := ⟨_, rfl⟩
  have HN : Hid (n = l.length) := hn
  rw [← hn] at hl ⊢
  clear h hj hn
  go_enter Tryz.func22, Tryz.ntmps22
  go_wp2
  go_loopw [8] (fun i wr => ∃ k : Nat, k ≤ n ∧ i = .int .i64 k ∧ Hid (Bld w.heap.size w.heap.size (joinL (l.take k)) wr) ∧ Hid (Below w.heap.size w wr)) (fun i _ => n - (intOf i).toNat)
  case atStart => exact ⟨0, by omega, rfl, F0, HB0⟩
  case round =>
    obtain ⟨k, hk, rfl, hB, hW⟩ := hrel
    clear F0 HB0
    by_cases hlt : k < n
    · have hlt' : (k : Int) < n := by omega
      have hkl : k < l.length := by rw [← HN.out]; exact hlt
      obtain ⟨b, off, ha, hbl, hat⟩ := HT.out.row hkl
      subst ha
      obtain ⟨u0, u1, u2⟩ := hat k hkl
      have c0 := (hW.out.cell (p := ⟨b, off + k * 3, none⟩) hbl).trans u0
      have c1 := (hW.out.cell (p := ⟨b, off + k * 3 + 1, none⟩) hbl).trans u1
      have c2 := (hW.out.cell (p := ⟨b, off + k * 3 + 2, none⟩) hbl).trans u2
      have hbw : b < wr.heap.size := Nat.lt_of_lt_of_le hbl hW.out.size
      have hJ := join_take hkl
      have hm := join_mono (l := l) (k := k + 1)
      rw [hJ] at hm
      have hjl := HJ.out
      obtain ⟨t, ht⟩ : ∃ t, t = l.getD k tk0 := ⟨_, rfl⟩
      rw [← ht] at c0 c1 c2 hJ hm
      simp only [List.length_append] at hm
      have hws := hW.out.size
      have hbs : w.heap.size < wr.heap.size := hB.out.2.2
      have HL1 : Hid ((joinL (l.take k)).length ≤ 10000000) := (show _ ≤ _ by omega)
      have HJJ : Hid (joinL (l.take (k + 1)) = joinL (l.take k) ++ ((if k = 0 then [] else [32]) ++ t.text)) := hJ
      have HTS : Hid ((str t.text).size = t.text.length) := str_size _
      have HTD : Hid ((str t.text).data.toList = t.text) := str_data _
      clear u0 u1 u2 hat hJ ht hkl
      by_cases hk0 : k = 0
      · have hj0 : ¬ (0 : Int) < (k : Int) := by omega
        have HL2 : Hid ((joinL (l.take k)).length + (str t.text).size ≤ 10000000) := (show _ ≤ _ by rw [HTS.out]; omega)
        have HJ2 : Hid (joinL (l.take (k + 1)) = joinL (l.take k) ++ (str t.text).data.toList) := (show _ = _ by rw [HJJ.out, HTD.out, if_pos hk0]; rfl)
        clear hk0
        go_wp2_with (go_at_call 56; refine (wString w.heap.size w.heap.size _ _ _ (hB.out.alloc _) HL2.out).mono ?_; rintro e w1 ⟨he, hb1, hk1⟩; subst he)
        have B1 : Hid (Bld w.heap.size w.heap.size (joinL (l.take (k + 1))) w1) := (show Bld _ _ _ _ by rw [HJ2.out]; exact hb1)
        have W1 : Hid (Below w.heap.size w w1) := (hW.out.alloc hws _).trans hk1.1
        go_roundw
        case rel => exact ⟨k + 1, by omega, by go_num, B1, W1⟩
        case measure => simp [intOf]; omega
      · have hj0 : (0 : Int) < (k : Int) := by omega
        have hm2 : (joinL (l.take (k))).length + (1 + t.text.length) ≤ (joinL l).length := by rw [if_neg hk0] at hm; simp at hm; omega
        have HL2 : Hid ((joinL (l.take (k)) ++ [32]).length + (str t.text).size ≤ 10000000) := (show _ ≤ _ by rw [HTS.out, List.length_append]; simp; omega)
        have HJ2 : Hid (joinL (l.take (k + 1)) = joinL (l.take (k)) ++ [32] ++ (str t.text).data.toList) := (show _ = _ by rw [HJJ.out, HTD.out, if_neg hk0]; simp)
        go_wp2_with fail
        refine (wByte w.heap.size w.heap.size _ 32 _ (hB.out.alloc _) HL1.out).mono ?_
        rintro e w1 ⟨he, hb1, hk1⟩
        subst he
        have hbox := hk1.box (C := wr.heap.size) (heap_alloc_new wr _) (by omega)
        have d1 : w1.cell? ⟨wr.heap.size, 1, none⟩ = some (.string (str t.text)) := box_cell hbox 1
        have hl1 : wr.heap.size < w1.heap.size := World.block_lt_of_cell? w1 _ d1
        have W1 : Hid (Below w.heap.size w w1) := (hW.out.alloc hws _).trans hk1.1
        have HB1 : Hid (Bld w.heap.size w.heap.size (joinL (l.take (k)) ++ [32]) w1) := hb1
        clear hb1 hk1 hbox
        go_wp2_with (go_at_call 56; refine (wString w.heap.size w.heap.size _ _ _ HB1.out HL2.out).mono ?_; rintro e w2 ⟨he, hb2, hk2⟩; subst he)
        have B2 : Hid (Bld w.heap.size w.heap.size (joinL (l.take (k + 1))) w2) := (show Bld _ _ _ _ by rw [HJ2.out]; exact hb2)
        have W2 : Hid (Below w.heap.size w w2) := W1.out.trans hk2.1
        go_roundw
        case rel => exact ⟨k + 1, by omega, by go_num, B2, W2⟩
        case measure => simp [intOf]; omega
    · have hlt' : ¬ (k : Int) < n := by omega
      have E : Hid (joinL (l.take k) = joinL l) := (show _ = _ by rw [List.take_of_length_le (by rw [← HN.out]; omega)])
      go_wp2_with (go_at_call 57; refine (Build.string w.heap.size w.heap.size _ _ hB.out.1 hB.out.2.1).mono ?_; rintro e w1 ⟨he, hb1⟩; subst he)
      go_ret
      exact ⟨by rw [← E.out]; rfl, hW.out.trans hb1⟩
end Go.Proofs.YtjcanodnlnodpaaGreatDoor.Token
/- What later layers' laws lean on of layer 5, in plain Lean. -/
namespace Go.Proofs.YtjcanodnlnodpaaGreatDoor.Token
open Go.RowKit Go.Proofs.YtjcanodnlnodpaaGreatDoor.Colour Go.Proofs.YtjcanodnlnodpaaGreatDoor.Frame
set_option linter.unusedVariables false
set_option linter.unusedSimpArgs false

theorem lex_is {s : ByteArray} {x : Lexed} (w : World) (hs : s.size ≤ 1000000) (hF : Fx w) (h : lexF s.data.toList = x) : Calls Tryz.prog 21 #[.string s] w (LexPost x w) := h ▸ lex_any s w hs hF
theorem dn' {B : Nat} {a w : World} (h : Below B a w) (n : Nat) : Below B a (w.drewN n) := ⟨h.os, h.tape, h.output, h.size, h.block⟩
theorem lex_count (n : Nat) (r : List UInt8) : (lexR n r).1.length ≤ r.length := by
  refine lex_ind (P := fun r => (lexR n r).1.length ≤ r.length) ?_ ?_ ?_ r
  · simp [lexR_nil]
  · intro r hr h; rw [lexR_bad hr h]; simp
  · intro r hr h ih
    rw [lexR_ok hr h]
    have := less_of hr h
    unfold before
    split
    · simp only [List.singleton_append, List.length_cons]; omega
    · simp
/-- what is told of every text that is not too long -/
theorem lexF_parts {l : List UInt8} (h : l.length ≤ 16384) : (lexF l).1.length ≤ l.length ∧ ((lexF l).2.2 = 0 → (lexF l).2.1 = l.length) ∧ ((lexF l).2.2 ≠ 0 → (lexF l).2.1 < l.length ∧ (lexF l).1 = []) ∧ (joinL (lexF l).1).length ≤ 2 * l.length ∧ ∀ t ∈ (lexF l).1, Good t := by
  rw [lexF_eq h]
  have hg := gap_le false l
  have h1 := lex_count l.length (gapL false l)
  have h2 := lex_ends l.length (gapL false l) hg
  have h3 := join_len l.length (gapL false l)
  exact ⟨by omega, h2.1, h2.2, by omega, lex_good _ _⟩
theorem lexF_places {l : List UInt8} (h : l.length ≤ 16384) : Places l 0 (lexF l).1 := by
  rw [lexF_eq h]
  exact lex_places l _ 0 (by have := gap_le false l; omega) (gap_drop false l)
/-- what is joined is cut as it was -/
theorem lexF_join {l : List Tok} (h : ∀ t ∈ l, Good t) (hl : (joinL l).length ≤ 16384) : (lexF (joinL l)).2 = ((joinL l).length, 0) ∧ Alike (lexF (joinL l)).1 l := by
  rw [lexF_eq hl, join_gap h]
  exact join_back _ l h
theorem alike_at : ∀ {l m : List Tok} {i : Nat}, Alike l m → (l.getD i tk0).kind = (m.getD i tk0).kind ∧ (l.getD i tk0).text = (m.getD i tk0).text
  | [], [], i, _ => ⟨rfl, rfl⟩
  | t :: l, u :: m, 0, h => ⟨h.1, h.2.1⟩
  | t :: l, u :: m, i + 1, h => alike_at (l := l) (m := m) (i := i) h.2.2
theorem lexed_is (x : Lexed) {a : Nat} {e : Int} (h : x.2 = (a, e)) : x = (x.1, a, e) := by rw [← h]
/-- two texts, with a line feed between -/
theorem lexF_more {s t : List UInt8} (hs : s.length ≤ 2048) (ht : t.length ≤ 2048) :
    lexF (s ++ 10 :: t) = if (lexF s).2.2 = 0 then before (lexF s).1 (shift (s.length + 1) (lexF t)) else lexF s := by
  rw [lexF_eq (by simp; omega), lexF_eq (by omega), lexF_eq (by omega), gap_feed]
  have h1 : (s ++ 10 :: t).length = s.length + (1 + t.length) := by simp; omega
  have h2 := lex_shift t.length (s.length + 1) (gapL false t) (gap_le false t)
  rw [h1, lex_more _ _ _ (gap_le false s), show s.length + (1 + t.length) = t.length + (s.length + 1) by omega, h2]
end Go.Proofs.YtjcanodnlnodpaaGreatDoor.Token
