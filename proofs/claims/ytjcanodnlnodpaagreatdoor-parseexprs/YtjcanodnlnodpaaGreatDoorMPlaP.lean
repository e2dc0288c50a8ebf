/- Contracts and plain mathematics, together: ParPlaP, ParTx. -/
import Derived.Test.YtjcanodnlnodpaaGreatDoorMReadN
import Derived.Test.YtjcanodnlnodpaaGreatDoorMJoin
/- What the law of places leans on, in plain Lean. -/
namespace Go.Proofs.YtjcanodnlnodpaaGreatDoor.Parse
open Go.Proofs.YtjcanodnlnodpaaGreatDoor.Token Go.Proofs.YtjcanodnlnodpaaGreatDoor.Expr Go.Proofs.YtjcanodnlnodpaaGreatDoor.Calc
set_option linter.unusedVariables false
set_option linter.unusedSimpArgs false

theorem kt_len {r1 r2 : List TI} (h : r1.map ktI = r2.map ktI) : r1.length = r2.length := by
  have := congrArg List.length h
  simpa using this
/-- places do not matter to what is told beside them -/
theorem out_kt {e1 e2 : Int} {r1 r2 : List TI} (h : r1.map ktI = r2.map ktI) : (outF e1 (netF e1 r1)).1 = (outF e2 (netF e2 r2)).1 ∧ (outF e1 (netF e1 r1)).2.2 = (outF e2 (netF e2 r2)).2.2 := by
  unfold netF
  rw [h]
  cases netI (r2.map ktI) with
  | ok n => exact ⟨rfl, rfl⟩
  | error e => exact ⟨rfl, rfl⟩
def upT (d : Int) (t : TI) : TI := ⟨t.kind, t.text, t.at_ + d⟩
theorem plc_up (e d : Int) (r : List TI) : plc (e + d) (r.map (upT d)) = plc e r + d := by cases r <;> rfl
/-- all places further on -/
theorem out_up (e d : Int) (r : List TI) : (outF (e + d) (netF (e + d) (r.map (upT d)))).2.1 = (outF e (netF e r)).2.1 + d := by
  have h : (r.map (upT d)).map ktI = r.map ktI := by rw [List.map_map]; rfl
  unfold netF
  rw [h]
  cases netI (r.map ktI) with
  | ok n => rfl
  | error x =>
    show plcOf (e + d) (r.map (upT d)) x.1 = plcOf e r x.1 + d
    unfold plcOf
    rw [List.length_map, ← List.map_drop, plc_up]
theorem plc_in (e : Int) (r : List TI) : plc e r = e ∨ ∃ t, t ∈ r ∧ t.at_ = plc e r := by
  cases r with
  | nil => exact .inl rfl
  | cons t r => exact .inr ⟨t, by simp, rfl⟩
/-- a place that is told is one of the tokens', or the end -/
theorem out_in (e : Int) (r : List TI) : (outF e (netF e r)).2.1 = e ∨ ∃ t, t ∈ r ∧ t.at_ = (outF e (netF e r)).2.1 := by
  unfold netF
  cases netI (r.map ktI) with
  | ok n => exact .inl rfl
  | error x =>
    rcases plc_in e (r.drop (r.length - x.1.length)) with h | ⟨t, h1, h2⟩
    · exact .inl h
    · exact .inr ⟨t, List.mem_of_mem_drop h1, h2⟩
theorem alike_kt : ∀ {l m : List Tok}, Token.Alike l m → (l.map tiT).map ktI = (m.map tiT).map ktI
  | [], [], _ => rfl
  | t :: l, u :: m, h => by
    obtain ⟨h1, h2, h3⟩ := h
    simp only [List.map_cons]
    rw [alike_kt h3]
    show (t.kind, t.text) :: _ = (u.kind, u.text) :: _
    rw [h1, h2]
  | [], _ :: _, h => h.elim
  | _ :: _, [], h => h.elim
/-- two blanks ahead -/
theorem lexF_blank {l : List UInt8} (h : l.length + 2 ≤ 16384) : lexF (32 :: 32 :: l) = shift 2 (lexF l) := by
  rw [lexF_eq (by simp; omega), lexF_eq (by omega), gap_blank, gap_blank]
  exact lex_shift l.length 2 _ (gap_le false l)
theorem shift_ti (d : Nat) (x : Lexed) : (shift d x).1.map tiT = (x.1.map tiT).map (upT d) := by
  unfold shift
  rw [List.map_map, List.map_map]
  refine List.map_congr_left fun t _ => ?_
  show (⟨t.kind, t.text, ((t.at_ + d : Nat) : Int)⟩ : TI) = ⟨t.kind, t.text, (t.at_ : Int) + (d : Int)⟩
  rw [Int.natCast_add]
/-- what a text tells, two blanks further on -/
theorem text_blank {s : List UInt8} (hs : s.length + 2 ≤ 16384) (h0 : (lexF s).2.2 = 0) : (textF (32 :: 32 :: s)).1 = (textF s).1 ∧ (textF (32 :: 32 :: s)).2.1 = (textF s).2.1 + 2 ∧ (textF (32 :: 32 :: s)).2.2 = (textF s).2.2 := by
  unfold textF
  rw [lexF_blank hs, if_pos (show (shift 2 (lexF s)).2.2 = 0 from h0), if_pos h0, shift_ti]
  have h : (((lexF s).1.map tiT).map (upT (2 : Nat))).map ktI = ((lexF s).1.map tiT).map ktI := by rw [List.map_map]; rfl
  have e : (((shift 2 (lexF s)).2.1 : Nat) : Int) = ((lexF s).2.1 : Int) + ((2 : Nat) : Int) := Int.natCast_add _ _
  rw [e]
  exact ⟨(out_kt h).1, out_up _ _ _, (out_kt h).2⟩
/-- what joined tokens tell -/
theorem text_join {s : List UInt8} (hs : s.length ≤ 4096) (h0 : (lexF s).2.2 = 0) : (textF (joinL (lexF s).1)).1 = (textF s).1 ∧ (textF (joinL (lexF s).1)).2.2 = (textF s).2.2 := by
  obtain ⟨-, -, -, p4, p5⟩ := lexF_parts (l := s) (by omega)
  obtain ⟨j1, j2⟩ := lexF_join p5 (by omega)
  unfold textF
  rw [if_pos h0, if_pos (by rw [j1])]
  exact out_kt (alike_kt j2)
theorem text_in {s : List UInt8} (hs : s.length ≤ 4096) (h0 : (lexF s).2.2 = 0) : (textF s).2.1 = (s.length : Int) ∨ ∃ i, i < (lexF s).1.length ∧ (((lexF s).1.getD i tk0).at_ : Int) = (textF s).2.1 := by
  obtain ⟨-, p2, -, -, -⟩ := lexF_parts (l := s) (by omega)
  unfold textF
  rw [if_pos h0]
  rcases out_in ((lexF s).2.1 : Int) ((lexF s).1.map tiT) with h | ⟨t, h1, h2⟩
  · left; rw [h, p2 h0]
  · right
    obtain ⟨u, hu, rfl⟩ := List.mem_map.1 h1
    obtain ⟨i, hi, rfl⟩ := List.getElem_of_mem hu
    refine ⟨i, hi, ?_⟩
    rw [List.getD_eq_getElem?_getD, List.getElem?_eq_getElem hi]
    exact h2
theorem text_bad {s : List UInt8} (h0 : (lexF s).2.2 ≠ 0) : textF s = (net0, ((lexF s).2.1 : Int), (lexF s).2.2) := by
  unfold textF
  rw [if_neg h0]
end Go.Proofs.YtjcanodnlnodpaaGreatDoor.Parse
/- Fixed texts, and what they tell: by computation. No program stands in it. -/
namespace Go.Proofs.YtjcanodnlnodpaaGreatDoor.Parse
open Go.Proofs.YtjcanodnlnodpaaGreatDoor.Token Go.Proofs.YtjcanodnlnodpaaGreatDoor.Expr Go.Proofs.YtjcanodnlnodpaaGreatDoor.Calc
set_option maxRecDepth 100000
def tx1 : List UInt8 := [99, 111, 108, 111, 117, 114, 32, 110, 32, 61, 32, 105, 110, 116, 32, 48, 32, 46, 46, 32, 51, 59, 32, 112, 108, 97, 99, 101, 32, 97, 58, 32, 110, 32, 61, 32, 48, 42, 50, 59, 32, 112, 108, 97, 99, 101, 32, 98, 58, 32, 110, 59, 32, 116, 97, 115, 107, 32, 116, 32, 123, 32, 118, 97, 114, 32, 120, 58, 32, 110, 59, 32, 119, 104, 101, 110, 32, 120, 32, 60, 32, 51, 59, 32, 105, 110, 32, 97, 40, 120, 41, 59, 32, 111, 117, 116, 32, 98, 40, 120, 32, 43, 32, 49, 41, 59, 32, 99, 97, 110, 99, 101, 108, 32, 98, 59, 32, 115, 112, 108, 105, 116, 32, 120, 111, 114, 59, 32, 97, 102, 116, 101, 114, 32, 53, 59, 32, 109, 97, 110, 121, 32, 49, 44, 32, 50, 44, 32, 49, 59, 32, 125, 32, 102, 114, 111, 109, 32, 97, 59, 32, 116, 111, 32, 98, 59]
def tx2 : List UInt8 := [112, 108, 97, 99, 101, 32, 97, 58, 32, 110, 59]
theorem tx2_is : textF tx2 = (net0, 9, 3) := by rfl
def tx4 : List UInt8 := [102, 114, 111, 109]
theorem tx4_is : textF tx4 = (net0, 4, 4) := by rfl
def tx3 : List UInt8 := [99, 111, 108, 111, 117, 114, 32, 110, 32, 61, 32, 105, 110, 116, 32, 48, 32, 46, 46, 32, 49, 59, 32, 99, 111, 108, 111, 117, 114, 32, 110, 32, 61, 32, 101, 110, 117, 109, 32, 97, 59]
theorem tx3_is : textF tx3 = (net0, 30, 5) := by rfl
def nt1 : PNet := ⟨[⟨[110], 1, 0, 3, [], 0, 0⟩], [⟨[97], 0, [(0, 2)]⟩, ⟨[98], 0, []⟩], [⟨[116], [([120], 0)], ⟨5, 8, [⟨2, 0, []⟩, ⟨1, 3, []⟩]⟩, 1, 2, [(0, ⟨2, 0, []⟩)], [(1, ⟨5, 1, [⟨2, 0, []⟩, ⟨1, 1, []⟩]⟩)], [1], 5, 1, 2, 1⟩], 0, 1⟩
theorem tx1_is : textF tx1 = (nt1, 166, 0) := by rfl
end Go.Proofs.YtjcanodnlnodpaaGreatDoor.Parse
