/- Contracts and plain mathematics, together: TokMem, TokLex, TokLex2. -/
import Derived.Test.YtjcanodnlnodpaaGreatDoorMNum
import Derived.WalkSmall
/- How tokens lie in memory. -/
namespace Go.Proofs.YtjcanodnlnodpaaGreatDoor.Token
open Go.RowKit Go.Proofs.YtjcanodnlnodpaaGreatDoor.Colour Go.Proofs.YtjcanodnlnodpaaGreatDoor.Frame
set_option linter.unusedVariables false
set_option linter.unusedSimpArgs false

theorem box_cell {C : Nat} {w : World} {cs : Array Value} {t : TypeId} {fz : Nat × Nat} (h : w.heap[C]? = some (.cells cs t fz)) (j : Nat) : w.cell? ⟨C, j, none⟩ = cs[j]? := by
  simp [World.cell?, h]
def tk0 : Tok := ⟨0, [], 0⟩
def cellsT : List Tok → List Value
  | [] => []
  | t :: l => .int .i64 t.kind :: .string (str t.text) :: .int .i64 t.at_ :: cellsT l
theorem cellsT_length : ∀ l, (cellsT l).length = l.length * 3
  | [] => rfl
  | t :: l => by simp only [cellsT, List.length_cons, cellsT_length l]; omega
theorem cellsT_snoc : ∀ (l : List Tok) (t : Tok), cellsT (l ++ [t]) = cellsT l ++ [.int .i64 t.kind, .string (str t.text), .int .i64 t.at_]
  | [], t => rfl
  | u :: l, t => by simp only [List.cons_append, cellsT, cellsT_snoc l t]
theorem cellsT_at : ∀ (l : List Tok) (i : Nat), i < l.length → (cellsT l)[i * 3]? = some (.int .i64 (l.getD i tk0).kind) ∧ (cellsT l)[i * 3 + 1]? = some (.string (str (l.getD i tk0).text)) ∧ (cellsT l)[i * 3 + 2]? = some (.int .i64 (l.getD i tk0).at_)
  | [], i, h => by cases h
  | t :: l, 0, h => ⟨rfl, rfl, rfl⟩
  | t :: l, i + 1, h => by
    have := cellsT_at l i (by simpa using h)
    rw [show (i + 1) * 3 = i * 3 + 1 + 1 + 1 by omega]
    simpa [cellsT] using this
/-- tokens in memory -/
def TAt (w : World) (b off : Nat) (l : List Tok) : Prop :=
  ∀ i, i < l.length → w.cell? ⟨b, off + i * 3, none⟩ = some (.int .i64 (l.getD i tk0).kind) ∧ w.cell? ⟨b, off + i * 3 + 1, none⟩ = some (.string (str (l.getD i tk0).text)) ∧ w.cell? ⟨b, off + i * 3 + 2, none⟩ = some (.int .i64 (l.getD i tk0).at_)
def Toks (w : World) (a : Option Addr) (l : List Tok) : Prop := l = [] ∨ ∃ b off, a = some ⟨b, off, none⟩ ∧ TAt w b off l
theorem TAt.below {w w' : World} {b off : Nat} {l : List Tok} (h : TAt w b off l) (hb : Below w.heap.size w w') : TAt w' b off l := fun i hi => by
  obtain ⟨h0, h1, h2⟩ := h i hi
  have hl : b < w.heap.size := World.block_lt_of_cell? w _ h0
  exact ⟨(hb.cell (p := ⟨b, off + i * 3, none⟩) hl).trans h0, (hb.cell (p := ⟨b, off + i * 3 + 1, none⟩) hl).trans h1, (hb.cell (p := ⟨b, off + i * 3 + 2, none⟩) hl).trans h2⟩
theorem Toks.below {w w' : World} {a : Option Addr} {l : List Tok} (h : Toks w a l) (hb : Below w.heap.size w w') : Toks w' a l := by
  rcases h with h0 | ⟨b, off, ha, hc⟩
  · exact .inl h0
  · exact .inr ⟨b, off, ha, hc.below hb⟩
theorem Toks.row {w : World} {a : Option Addr} {l : List Tok} (h : Toks w a l) {k : Nat} (hk : k < l.length) : ∃ b off, a = some ⟨b, off, none⟩ ∧ b < w.heap.size ∧ TAt w b off l := by
  rcases h with h0 | ⟨b, off, ha, hc⟩
  · rw [h0] at hk; cases hk
  · exact ⟨b, off, ha, World.block_lt_of_cell? w _ (hc k hk).1, hc⟩
theorem infoTok : (Tryz.prog.info? 49).map (fun i => (i.zero, i.size, i.bytes)) = some (some (.agg #[.int .i64 0, .string ⟨#[]⟩, .int .i64 0]), 3, 32) := by kernel_rfl
/-- tokens of the call's own, as far as they go -/
def Tw (w wr : World) (out : List Tok) (a : Option Addr) (c : Nat) : Prop :=
  wr.ownsRow w.heap.size 49 3 (.slice a out.length c) out.length (cellsT out) ∧ Below w.heap.size w wr
theorem Tw.add {w wr w1 : World} {out : List Tok} {a a' : Option Addr} {c c' : Nat} {t : Tok} {o : Obj} (h : Tw w wr out a c)
    (h1 : w1.ownsRow w.heap.size 49 3 (.slice a' (out.length + 1) c') (out.length + 1) (cellsT out ++ [.int .i64 t.kind, .string (str t.text), .int .i64 t.at_])) (hg : (wr.alloc o).grownBy w1 (Value.slice a out.length c).ownBlock) : Tw w w1 (out ++ [t]) a' c' := by
  refine ⟨by rw [List.length_append, cellsT_snoc]; exact h1, (h.2.alloc h.2.size o).grown hg (by simp; have := h.2.size; omega) (fun k hk => (h.1.lt k hk).1)⟩
theorem Tw.up {w wr w1 : World} {out : List Tok} {a : Option Addr} {c : Nat} (h : Tw w wr out a c) (hb : Below wr.heap.size wr w1) : Tw w w1 out a c :=
  ⟨h.1.kept (row := none) ⟨hb.os, hb.tape, hb.output, hb.size, fun k hk _ => hb.block k hk⟩ (by cases hv : (Value.slice a out.length c).ownBlock <;> simp), then_ h.2 hb⟩
theorem own_slice {w : World} {base : Nat} {e : TypeId} {size : Nat} {v : Value} {n : Nat} {xs : List Value} (h : w.ownsRow base e size v n xs) : ∃ a c, v = .slice a n c := by
  rcases h.2 with ⟨h1, h2⟩ | ⟨g, c, cur, h1, _⟩
  · exact ⟨none, 0, by rw [h1, h2]⟩
  · exact ⟨_, c, h1⟩
theorem Tw.toks {w wr : World} {out : List Tok} {a : Option Addr} {c : Nat} (h : Tw w wr out a c) : Toks wr a out := by
  rcases h.1.2 with ⟨h1, h0⟩ | ⟨g, c', cur, hv, _, hg, hc, hmx, hsz, ht⟩
  · exact .inl (List.eq_nil_of_length_eq_zero h0)
  · simp only [Value.slice.injEq] at hv
    obtain ⟨rfl, _, rfl⟩ := hv
    refine .inr ⟨g, 0, rfl, fun i hi => ?_⟩
    have hrow : ∀ j v, (cellsT out)[j]? = some v → wr.cell? ⟨g, 0 + j, none⟩ = some v := fun j v hj => by
      rw [Nat.zero_add, box_cell hg, ← Array.getElem?_toList]
      rw [← ht, List.getElem?_take] at hj
      split at hj
      · exact hj
      · cases hj
    obtain ⟨c0, c1, c2⟩ := cellsT_at out i hi
    exact ⟨hrow _ _ c0, by rw [Nat.add_assoc]; exact hrow _ _ c1, by rw [Nat.add_assoc]; exact hrow _ _ c2⟩
theorem Tw.nil (w wr : World) (h : Below w.heap.size w wr) : Tw w wr [] none 0 := ⟨World.ownsRow_nil _ _ _ _, h⟩
theorem cells_three (w : World) (x y z : Value) (t : TypeId) : ∀ j v, [x, y, z][j]? = some v → (w.alloc (.cells #[x, y, z] t)).cell? ((⟨w.heap.size, 0, none⟩ : Addr).add j) = some v := fun j v hj => by
  rw [Go.WideShapes.add_plain, Nat.zero_add]
  have : (w.alloc (.cells #[x, y, z] t)).heap[w.heap.size]? = some (.cells #[x, y, z] t) := heap_alloc_new w _
  rw [box_cell this]
  simpa using hj
/-- what Lex tells -/
def LexPost (x : Lexed) (w : World) (e : Ending) (w' : World) : Prop := ∃ a c, e = .returned (.tuple #[.slice a x.1.length c, .int .i64 x.2.1, .int .i64 x.2.2]) ∧ Toks w' a x.1 ∧ Below w.heap.size w w'
theorem clone_any (s : ByteArray) (w : World) (hs : s.size ≤ 140737488355328) : Calls Tryz.prog 54 #[.string s] w fun e w' => e = .returned (.string s) ∧ Below w.heap.size w w' := by
  go_enter Tryz.func54, Tryz.ntmps54
  go_wp2_with (go_at_call 115; refine (Tryz.stringslite_Clone s _ (by omega)).mono ?_; rintro e w' ⟨he, hb⟩; subst he)
  go_ret
  exact ⟨rfl, hb⟩
end Go.Proofs.YtjcanodnlnodpaaGreatDoor.Token
/- Lex of package token: a contract of the call, over the turned program. -/
namespace Go.Proofs.YtjcanodnlnodpaaGreatDoor.Token
open Go.RowKit Go.Proofs.YtjcanodnlnodpaaGreatDoor.Colour Go.Proofs.YtjcanodnlnodpaaGreatDoor.Frame
set_option linter.unusedVariables false
set_option linter.unusedSimpArgs false

theorem lexF_long {l : List UInt8} (h : 16384 < l.length) : lexF l = ([], 0, 2) := by unfold lexF; rw [if_pos h]
theorem before_ok (acc : List Tok) (x : Lexed) (h : x.2.2 = 0) : before acc x = (acc ++ x.1, x.2.1, 0) := by unfold before; rw [if_pos h]
theorem before_bad (acc : List Tok) (a : Nat) (e : Int) (h : e ≠ 0) : before acc ([], a, e) = ([], a, e) := by unfold before; rw [if_neg h]

set_option maxRecDepth 100000 in
set_option maxHeartbeats 4000000 in
theorem lex_any (s : ByteArray) (w : World) (hs : s.size ≤ 1000000) (hF : Fx w) :
    Calls Tryz.prog 21 #[.string s] w (LexPost (lexF s.data.toList) w) := by
  by_cases hL : 16384 < s.size
  · have hL' : (16384 : Int) < s.size := by omega
    have E : Hid (lexF s.data.toList = ([], 0, 2)) := lexF_long (by rw [size_list]; exact hL)
    clear hF
    go_enter Tryz.func21, Tryz.ntmps21
    go_wp2
    go_ret3
    rw [E.out]
    exact ⟨none, 0, rfl, .inl rfl, Below.refl _ _⟩
  have hL' : ¬ (16384 : Int) < s.size := by omega
  obtain ⟨i0, hi, hz0, hz1, hz2⟩ := info_parts infoTok
  have hml : (1000000 : Nat) ≤ maxLen := by decide
  have HF : Hid (Fx w) := hF
  have hE0 : lexF s.data.toList = before [] (lexR s.size (s.data.toList.drop (gapF s.data.toList 0))) := by
    rw [lexF_eq (by rw [size_list]; omega), size_list, gapF_drop (Nat.zero_le _), List.drop_zero]
    exact (before_nil _ (lex_err _ _ _)).symm
  have hg0 : gapF s.data.toList 0 ≤ s.size := by have := (gapF_le (l := s.data.toList) (i := 0) (Nat.zero_le _)).2; rwa [size_list] at this
  have HE0 : Hid (lexF s.data.toList = before [] (lexR s.size (s.data.toList.drop (gapF s.data.toList 0)))) := hE0
  clear hF hE0
  go_enter Tryz.func21, Tryz.ntmps21
  go_wp2_with (go_at_call 52; refine (gap_any _ 0 _ hs (Nat.zero_le _)).mono ?_; rintro e w' ⟨he, hw⟩; subst he; have hw := hw.symm; subst hw)
  go_loopw [5, 6] (fun v i wr => ∃ (k : Nat) (out : List Tok) (oa : Option Addr) (oc : Nat), k ≤ s.size ∧ i = .int .i64 k ∧ v = .slice oa out.length oc ∧ out.length ≤ k ∧ Hid (Tw w wr out oa oc) ∧ Hid (lexF s.data.toList = before out (lexR s.size (s.data.toList.drop k)))) (fun _ i _ => s.size - (intOf i).toNat)
  case atStart => exact ⟨_, [], none, 0, hg0, rfl, rfl, by simp, Tw.nil w w (Below.refl _ _), HE0⟩
  case round =>
    obtain ⟨k, out, oa, oc, hk, rfl, rfl, ho, hO, hE⟩ := hrel
    clear HE0 hg0
    by_cases hlt : k < s.size
    · have hlt' : (k : Int) < s.size := by omega
      have hne : s.data.toList.drop k ≠ [] := fun e => by rw [List.drop_eq_nil_iff, size_list] at e; omega
      have hat : s.size - (s.data.toList.drop k).length = k := by rw [List.length_drop, size_list]; omega
      by_cases hp : (pieceL (s.data.toList.drop k)).2.2 = 0
      · obtain ⟨p1, p2, _⟩ := piece_ok hne hp
        rw [List.length_drop, size_list] at p2
        have hx := hE.out
        rw [lexR_ok hne hp, hat, before_before] at hx
        have hR : pieR s.data.toList k = .returned (.tuple #[.int .i64 (pieceL (s.data.toList.drop k)).1, .int .i64 ((k + (pieceL (s.data.toList.drop k)).2.1 : Nat) : Int), .int .i64 0]) := pieR_is (by rw [← hp])
        have hT : s.extract k (k + (pieceL (s.data.toList.drop k)).2.1) = str ((s.data.toList.drop k).take (pieceL (s.data.toList.drop k)).2.1) := by
          rw [← str_list (s.extract k _), cut_list, Nat.add_sub_cancel_left]
        obtain ⟨kd, hkd⟩ : ∃ kd, kd = (pieceL (s.data.toList.drop k)).1 := ⟨_, rfl⟩
        obtain ⟨m, hm⟩ : ∃ m, m = (pieceL (s.data.toList.drop k)).2.1 := ⟨_, rfl⟩
        rw [← hm, ← hkd] at hx
        rw [← hm] at p1 p2 hT
        rw [← hm, ← hkd] at hR
        obtain ⟨tx, htx⟩ : ∃ tx, tx = (s.data.toList.drop k).take m := ⟨_, rfl⟩
        rw [← htx] at hx hT
        obtain ⟨q, hq⟩ : ∃ q, q = gapF s.data.toList (k + m) := ⟨_, rfl⟩
        have hkm : k + m ≤ s.size := by omega
        have hkm' : ((k + m : Nat) : Int) ≤ s.size := by omega
        have hk1 : (k : Int) ≤ ((k + m : Nat) : Int) := by omega
        obtain ⟨q1, q2⟩ := gapF_le (l := s.data.toList) (i := k + m) (by rw [size_list]; exact hkm)
        rw [← hq] at q1 q2
        rw [size_list] at q2
        have HQ : Hid (gapF s.data.toList (k + m) = q) := hq.symm
        rw [List.drop_drop, ← gapF_drop (by rw [size_list]; exact hkm), ← hq] at hx
        have HX : Hid (lexF s.data.toList = before (out ++ [⟨kd, tx, k⟩]) (lexR s.size (s.data.toList.drop q))) := hx
        have HR : Hid (pieR s.data.toList k = .returned (.tuple #[.int .i64 kd, .int .i64 ((k + m : Nat) : Int), .int .i64 0])) := hR
        have HT : Hid (s.extract k (k + m) = str tx) := hT
        have hts : (s.extract k (k + m)).size ≤ 140737488355328 := by rw [← size_list, cut_list, List.length_take, List.length_drop, size_list]; omega
        generalize he : k + m = e at *
        clear hx hR hT hne hat hp hkd hm htx hq hE
        go_wp2_with (first
          | (go_at_call 53; refine (piece_any _ _ _ hs hk (HF.out.below hO.out.2)).mono ?_; rintro e w1 ⟨he, hb1⟩; have he := he.trans HR.out; subst he)
          | (go_at_call 54; refine (clone_any _ _ hts).mono ?_; rintro e w2 ⟨he, hb2⟩; rw [HT.out] at he; subst he; have O2 := (hO.out.up hb1).up hb2; have hw2 := O2.2.size)
          | (at_builtin; refine wpList_append_own _ rfl _ _ 22 rfl w.heap.size 49 i0 (.agg #[.int .i64 0, .string ⟨#[]⟩, .int .i64 0]) 3 32 Tryz.underlying22 hi hz0 hz1 hz2 rfl (by decide) _ _ _ rfl (O2.1.alloc _) ⟨_, 0, none⟩ 1 1 [.int .i64 kd, .string (str tx), .int .i64 k] rfl rfl (cells_three _ _ _ _ _) (by simp [Value.oneCell']) (by omega) (by omega) (by simp; omega) ?_; intro v1 w3 hown1 hg1 hnil1; obtain ⟨a1, c1, hv1⟩ := own_slice hown1; subst hv1; have A1 := O2.add (t := ⟨kd, tx, k⟩) hown1 hg1)
          | (go_at_call 52; refine (gap_any _ _ _ hs hkm).mono ?_; rintro e w' ⟨he, hw⟩; subst he; have hw := hw.symm; subst hw; rw [HQ.out])
          | go_in)
        go_roundw
        case rel => exact ⟨q, out ++ [Tok.mk kd tx k], a1, c1, q2, rfl, by simp, by simp; omega, A1, HX⟩
        case measure => simp [intOf]; omega
      · have hx := hE.out
        rw [lexR_bad hne hp, hat, before_bad _ _ _ hp] at hx
        have hR : pieR s.data.toList k = .returned (.tuple #[.int .i64 (pieceL (s.data.toList.drop k)).1, .int .i64 0, .int .i64 (pieceL (s.data.toList.drop k)).2.2]) := by unfold pieR; rw [if_neg hp]
        generalize (pieceL (s.data.toList.drop k)).1 = kd at *
        generalize (pieceL (s.data.toList.drop k)).2.2 = er at *
        have HX : Hid (lexF s.data.toList = ([], k, er)) := hx
        have HR : Hid (pieR s.data.toList k = .returned (.tuple #[.int .i64 kd, .int .i64 0, .int .i64 er])) := hR
        have hp' : (er != 0) = true := by simpa using hp
        clear hx hR hne hat hE
        go_wp2_with (go_at_call 53; refine (piece_any _ _ _ hs hk (HF.out.below hO.out.2)).mono ?_; rintro e w1 ⟨he, hb1⟩; have he := he.trans HR.out; subst he)
        go_ret3
        rw [HX.out]
        exact ⟨none, 0, rfl, .inl rfl, then_ hO.out.2 hb1⟩
    · have hlt' : ¬ (k : Int) < s.size := by omega
      have hx := hE.out
      rw [List.drop_of_length_le (by rw [size_list]; omega), lexR_nil, before_ok _ _ rfl, List.append_nil] at hx
      have HX : Hid (lexF s.data.toList = (out, s.size, 0)) := hx
      clear hx hE
      go_wp2
      go_ret3
      rw [HX.out]
      exact ⟨oa, oc, rfl, hO.out.toks, hO.out.2⟩
end Go.Proofs.YtjcanodnlnodpaaGreatDoor.Token
/- Lex of package token, with the room of its answer: a contract of the call, over the turned program. -/
namespace Go.Proofs.YtjcanodnlnodpaaGreatDoor.Token
open Go.RowKit Go.Proofs.YtjcanodnlnodpaaGreatDoor.Colour Go.Proofs.YtjcanodnlnodpaaGreatDoor.Frame
set_option linter.unusedVariables false
set_option linter.unusedSimpArgs false

def LexPost2 (x : Lexed) (w : World) (e : Ending) (w' : World) : Prop := ∃ a c, e = .returned (.tuple #[.slice a x.1.length c, .int .i64 x.2.1, .int .i64 x.2.2]) ∧ Toks w' a x.1 ∧ Below w.heap.size w w' ∧ x.1.length ≤ c ∧ c ≤ maxLen
theorem Tw.cap {w wr : World} {out : List Tok} {a : Option Addr} {c : Nat} (h : Tw w wr out a c) : out.length ≤ c ∧ c ≤ maxLen := by
  rcases h.1.2 with ⟨h1, h0⟩ | ⟨g, c', cur, hv, _, hg, hc, hmx, hsz, ht⟩
  · simp only [Value.slice.injEq] at h1
    rw [h0, h1.2.2]; exact ⟨Nat.le_refl _, Nat.zero_le _⟩
  · simp only [Value.slice.injEq] at hv
    obtain ⟨rfl, _, rfl⟩ := hv
    exact ⟨hc, hmx⟩

set_option maxRecDepth 100000 in
set_option maxHeartbeats 4000000 in
theorem lex_any2 (s : ByteArray) (w : World) (hs : s.size ≤ 1000000) (hF : Fx w) :
    Calls Tryz.prog 21 #[.string s] w (LexPost2 (lexF s.data.toList) w) := by
  by_cases hL : 16384 < s.size
  · have hL' : (16384 : Int) < s.size := by omega
    have E : Hid (lexF s.data.toList = ([], 0, 2)) := lexF_long (by rw [size_list]; exact hL)
    clear hF
    go_enter Tryz.func21, Tryz.ntmps21
    go_wp2
    go_ret3
    rw [E.out]
    exact ⟨none, 0, rfl, .inl rfl, Below.refl _ _, Nat.le_refl _, Nat.zero_le _⟩
  have hL' : ¬ (16384 : Int) < s.size := by omega
  obtain ⟨i0, hi, hz0, hz1, hz2⟩ := info_parts infoTok
  have hml : (1000000 : Nat) ≤ maxLen := by decide
  have HF : Hid (Fx w) := hF
  have hE0 : lexF s.data.toList = before [] (lexR s.size (s.data.toList.drop (gapF s.data.toList 0))) := by
    rw [lexF_eq (by rw [size_list]; omega), size_list, gapF_drop (Nat.zero_le _), List.drop_zero]
    exact (before_nil _ (lex_err _ _ _)).symm
  have hg0 : gapF s.data.toList 0 ≤ s.size := by have := (gapF_le (l := s.data.toList) (i := 0) (Nat.zero_le _)).2; rwa [size_list] at this
  have HE0 : Hid (lexF s.data.toList = before [] (lexR s.size (s.data.toList.drop (gapF s.data.toList 0)))) := hE0
  clear hF hE0
  go_enter Tryz.func21, Tryz.ntmps21
  go_wp2_with (go_at_call 52; refine (gap_any _ 0 _ hs (Nat.zero_le _)).mono ?_; rintro e w' ⟨he, hw⟩; subst he; have hw := hw.symm; subst hw)
  go_loopw [5, 6] (fun v i wr => ∃ (k : Nat) (out : List Tok) (oa : Option Addr) (oc : Nat), k ≤ s.size ∧ i = .int .i64 k ∧ v = .slice oa out.length oc ∧ out.length ≤ k ∧ Hid (Tw w wr out oa oc) ∧ Hid (lexF s.data.toList = before out (lexR s.size (s.data.toList.drop k)))) (fun _ i _ => s.size - (intOf i).toNat)
  case atStart => exact ⟨_, [], none, 0, hg0, rfl, rfl, by simp, Tw.nil w w (Below.refl _ _), HE0⟩
  case round =>
    obtain ⟨k, out, oa, oc, hk, rfl, rfl, ho, hO, hE⟩ := hrel
    clear HE0 hg0
    by_cases hlt : k < s.size
    · have hlt' : (k : Int) < s.size := by omega
      have hne : s.data.toList.drop k ≠ [] := fun e => by rw [List.drop_eq_nil_iff, size_list] at e; omega
      have hat : s.size - (s.data.toList.drop k).length = k := by rw [List.length_drop, size_list]; omega
      by_cases hp : (pieceL (s.data.toList.drop k)).2.2 = 0
      · obtain ⟨p1, p2, _⟩ := piece_ok hne hp
        rw [List.length_drop, size_list] at p2
        have hx := hE.out
        rw [lexR_ok hne hp, hat, before_before] at hx
        have hR : pieR s.data.toList k = .returned (.tuple #[.int .i64 (pieceL (s.data.toList.drop k)).1, .int .i64 ((k + (pieceL (s.data.toList.drop k)).2.1 : Nat) : Int), .int .i64 0]) := pieR_is (by rw [← hp])
        have hT : s.extract k (k + (pieceL (s.data.toList.drop k)).2.1) = str ((s.data.toList.drop k).take (pieceL (s.data.toList.drop k)).2.1) := by
          rw [← str_list (s.extract k _), cut_list, Nat.add_sub_cancel_left]
        obtain ⟨kd, hkd⟩ : ∃ kd, kd = (pieceL (s.data.toList.drop k)).1 := ⟨_, rfl⟩
        obtain ⟨m, hm⟩ : ∃ m, m = (pieceL (s.data.toList.drop k)).2.1 := ⟨_, rfl⟩
        rw [← hm, ← hkd] at hx
        rw [← hm] at p1 p2 hT
        rw [← hm, ← hkd] at hR
        obtain ⟨tx, htx⟩ : ∃ tx, tx = (s.data.toList.drop k).take m := ⟨_, rfl⟩
        rw [← htx] at hx hT
        obtain ⟨q, hq⟩ : ∃ q, q = gapF s.data.toList (k + m) := ⟨_, rfl⟩
        have hkm : k + m ≤ s.size := by omega
        have hkm' : ((k + m : Nat) : Int) ≤ s.size := by omega
        have hk1 : (k : Int) ≤ ((k + m : Nat) : Int) := by omega
        obtain ⟨q1, q2⟩ := gapF_le (l := s.data.toList) (i := k + m) (by rw [size_list]; exact hkm)
        rw [← hq] at q1 q2
        rw [size_list] at q2
        have HQ : Hid (gapF s.data.toList (k + m) = q) := hq.symm
        rw [List.drop_drop, ← gapF_drop (by rw [size_list]; exact hkm), ← hq] at hx
        have HX : Hid (lexF s.data.toList = before (out ++ [⟨kd, tx, k⟩]) (lexR s.size (s.data.toList.drop q))) := hx
        have HR : Hid (pieR s.data.toList k = .returned (.tuple #[.int .i64 kd, .int .i64 ((k + m : Nat) : Int), .int .i64 0])) := hR
        have HT : Hid (s.extract k (k + m) = str tx) := hT
        have hts : (s.extract k (k + m)).size ≤ 140737488355328 := by rw [← size_list, cut_list, List.length_take, List.length_drop, size_list]; omega
        generalize he : k + m = e at *
        clear hx hR hT hne hat hp hkd hm htx hq hE
        go_wp2_with (first
          | (go_at_call 53; refine (piece_any _ _ _ hs hk (HF.out.below hO.out.2)).mono ?_; rintro e w1 ⟨he, hb1⟩; have he := he.trans HR.out; subst he)
          | (go_at_call 54; refine (clone_any _ _ hts).mono ?_; rintro e w2 ⟨he, hb2⟩; rw [HT.out] at he; subst he; have O2 := (hO.out.up hb1).up hb2; have hw2 := O2.2.size)
          | (at_builtin; refine wpList_append_own _ rfl _ _ 22 rfl w.heap.size 49 i0 (.agg #[.int .i64 0, .string ⟨#[]⟩, .int .i64 0]) 3 32 Tryz.underlying22 hi hz0 hz1 hz2 rfl (by decide) _ _ _ rfl (O2.1.alloc _) ⟨_, 0, none⟩ 1 1 [.int .i64 kd, .string (str tx), .int .i64 k] rfl rfl (cells_three _ _ _ _ _) (by simp [Value.oneCell']) (by omega) (by omega) (by simp; omega) ?_; intro v1 w3 hown1 hg1 hnil1; obtain ⟨a1, c1, hv1⟩ := own_slice hown1; subst hv1; have A1 := O2.add (t := ⟨kd, tx, k⟩) hown1 hg1)
          | (go_at_call 52; refine (gap_any _ _ _ hs hkm).mono ?_; rintro e w' ⟨he, hw⟩; subst he; have hw := hw.symm; subst hw; rw [HQ.out])
          | go_in)
        go_roundw
        case rel => exact ⟨q, out ++ [Tok.mk kd tx k], a1, c1, q2, rfl, by simp, by simp; omega, A1, HX⟩
        case measure => simp [intOf]; omega
      · have hx := hE.out
        rw [lexR_bad hne hp, hat, before_bad _ _ _ hp] at hx
        have hR : pieR s.data.toList k = .returned (.tuple #[.int .i64 (pieceL (s.data.toList.drop k)).1, .int .i64 0, .int .i64 (pieceL (s.data.toList.drop k)).2.2]) := by unfold pieR; rw [if_neg hp]
        generalize (pieceL (s.data.toList.drop k)).1 = kd at *
        generalize (pieceL (s.data.toList.drop k)).2.2 = er at *
        have HX : Hid (lexF s.data.toList = ([], k, er)) := hx
        have HR : Hid (pieR s.data.toList k = .returned (.tuple #[.int .i64 kd, .int .i64 0, .int .i64 er])) := hR
        have hp' : (er != 0) = true := by simpa using hp
        clear hx hR hne hat hE
        go_wp2_with (go_at_call 53; refine (piece_any _ _ _ hs hk (HF.out.below hO.out.2)).mono ?_; rintro e w1 ⟨he, hb1⟩; have he := he.trans HR.out; subst he)
        go_ret3
        rw [HX.out]
        exact ⟨none, 0, rfl, .inl rfl, then_ hO.out.2 hb1, Nat.le_refl _, Nat.zero_le _⟩
    · have hlt' : ¬ (k : Int) < s.size := by omega
      have hx := hE.out
      rw [List.drop_of_length_le (by rw [size_list]; omega), lexR_nil, before_ok _ _ rfl, List.append_nil] at hx
      have HX : Hid (lexF s.data.toList = (out, s.size, 0)) := hx
      clear hx hE
      go_wp2
      go_ret3
      rw [HX.out]
      exact ⟨oa, oc, rfl, hO.out.toks, hO.out.2, hO.out.cap⟩
end Go.Proofs.YtjcanodnlnodpaaGreatDoor.Token
