/- What the laws of layer 5 lean on, in plain Lean. -/
import Derived.Test.YtnhhajbfohjlbaaDoorTokSmall
import Derived.Deep.QuietTactic
import Derived.BigQuiet
namespace Go.Proofs.YtnhhajbfohjlbaaDoor.Token
open Go.RowKit Go.Proofs.YtnhhajbfohjlbaaDoor.Colour Go.Proofs.YtnhhajbfohjlbaaDoor.Frame
set_option linter.unusedVariables false
set_option linter.unusedSimpArgs false

theorem dn' {B : Nat} {a w : World} (h : Below B a w) (n : Nat) : Below B a (w.drewN n) := ⟨h.os, h.tape, h.output, h.size, h.block⟩
theorem lex_count (n : Nat) (r : List UInt8) : (lexR n r).1.length ≤ r.length := by
  refine lex_ind (P := fun r => (lexR n r).1.length ≤ r.length) ?_ ?_ ?_ r
  · simp [lexR_nil]
  · intro r hr h; rw [lexR_bad hr h]; simp
  · intro r hr h ih
    rw [lexR_ok hr h]
    have := less_of hr h
    unfold before
    split
    · simp only [List.singleton_append, List.length_cons]; omega
    · simp
/-- what is told of every text that is not too long -/
theorem lexF_parts {l : List UInt8} (h : l.length ≤ 16384) : (lexF l).1.length ≤ l.length ∧ ((lexF l).2.2 = 0 → (lexF l).2.1 = l.length) ∧ ((lexF l).2.2 ≠ 0 → (lexF l).2.1 < l.length ∧ (lexF l).1 = []) ∧ (joinL (lexF l).1).length ≤ 2 * l.length ∧ ∀ t ∈ (lexF l).1, Good t := by
  rw [lexF_eq h]
  have hg := gap_le false l
  have h1 := lex_count l.length (gapL false l)
  have h2 := lex_ends l.length (gapL false l) hg
  have h3 := join_len l.length (gapL false l)
  exact ⟨by omega, h2.1, h2.2, by omega, lex_good _ _⟩
theorem lexF_places {l : List UInt8} (h : l.length ≤ 16384) : Places l 0 (lexF l).1 := by
  rw [lexF_eq h]
  exact lex_places l _ 0 (by have := gap_le false l; omega) (gap_drop false l)
/-- what is joined is cut as it was -/
theorem lexF_join {l : List Tok} (h : ∀ t ∈ l, Good t) (hl : (joinL l).length ≤ 16384) : (lexF (joinL l)).2 = ((joinL l).length, 0) ∧ Alike (lexF (joinL l)).1 l := by
  rw [lexF_eq hl, join_gap h]
  exact join_back _ l h
theorem alike_at : ∀ {l m : List Tok} {i : Nat}, Alike l m → (l.getD i tk0).kind = (m.getD i tk0).kind ∧ (l.getD i tk0).text = (m.getD i tk0).text
  | [], [], i, _ => ⟨rfl, rfl⟩
  | t :: l, u :: m, 0, h => ⟨h.1, h.2.1⟩
  | t :: l, u :: m, i + 1, h => alike_at (l := l) (m := m) (i := i) h.2.2
theorem lexed_is (x : Lexed) {a : Nat} {e : Int} (h : x.2 = (a, e)) : x = (x.1, a, e) := by rw [← h]
/-- two texts, with a line feed between -/
theorem lexF_more {s t : List UInt8} (hs : s.length ≤ 2048) (ht : t.length ≤ 2048) :
    lexF (s ++ 10 :: t) = if (lexF s).2.2 = 0 then before (lexF s).1 (shift (s.length + 1) (lexF t)) else lexF s := by
  rw [lexF_eq (by simp; omega), lexF_eq (by omega), lexF_eq (by omega), gap_feed]
  have h1 : (s ++ 10 :: t).length = s.length + (1 + t.length) := by simp; omega
  have h2 := lex_shift t.length (s.length + 1) (gapL false t) (gap_le false t)
  rw [h1, lex_more _ _ _ (gap_le false s), show s.length + (1 + t.length) = t.length + (s.length + 1) by omega, h2]
end Go.Proofs.YtnhhajbfohjlbaaDoor.Token
