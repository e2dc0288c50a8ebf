/- Contracts and plain mathematics, together: ExText, ExText2, ExText3, ExText4. -/
import Derived.Test.YtjcanodnlnodpaaGreatDoorMExRow
import Derived.Test.YtjcanodnlnodpaaGreatDoorMCalc
import Derived.Deep.RegionHeld3
import Derived.Deep.QuietTactic
import Derived.BigQuiet
import Derived.Test.YtjcanodnlnodpaaGreatDoorShelf
/- How expressions are written: in plain Lean; and the small writers of package expr. -/
namespace Go.Proofs.YtjcanodnlnodpaaGreatDoor.Expr
open Go.RowKit Go.Proofs.YtjcanodnlnodpaaGreatDoor.Frame Go.Proofs.YtjcanodnlnodpaaGreatDoor.Calc
set_option linter.unusedVariables false
set_option linter.unusedSimpArgs false

/-- in brackets, or not -/
def br (b : Bool) (l : List UInt8) : List UInt8 := if b then 40 :: (l ++ [41]) else l
def isBin (x : Ex) : Bool := decide (x.kind = 5)
def textN (names : List ByteArray) (k n : Int) (ks : List Ex) (l : List (List UInt8)) : List UInt8 :=
  if k = 1 then br (decide (n < 0)) (Lib.itoa n)
  else if k = 2 then (if n < 0 ∨ (names.length : Int) ≤ n then [63] else (names.getD n.toNat ByteArray.empty).data.toList)
  else if k = 3 then 45 :: br (isBin (ks.getD 0 nilEx)) (l.getD 0 [63])
  else if k = 4 then 33 :: br (isBin (ks.getD 0 nilEx)) (l.getD 0 [63])
  else if k = 5 then br (isBin (ks.getD 0 nilEx) && decide (strengthF (ks.getD 0 nilEx).num < strengthF n)) (l.getD 0 [63]) ++ [32] ++ (signF n).data.toList ++ [32] ++ br (isBin (ks.getD 1 nilEx) && decide (strengthF (ks.getD 1 nilEx).num ≤ strengthF n)) (l.getD 1 [63])
  else if k = 6 then [105, 102, 40] ++ l.getD 0 [63] ++ [44, 32] ++ l.getD 1 [63] ++ [44, 32] ++ l.getD 2 [63] ++ [41]
  else [63]
def textF (names : List ByteArray) : Ex → List UInt8 := fold (textN names)
theorem text_eq (names : List ByteArray) (k n : Int) (ks : List Ex) : textF names ⟨k, n, ks⟩ = textN names k n ks (ks.map (textF names)) := fold_eq ..
theorem text_nil (names : List ByteArray) : textF names nilEx = [63] := text_eq names 0 0 []
theorem text_kid (names : List ByteArray) (ks : List Ex) (i : Nat) : (ks.map (textF names)).getD i [63] = textF names (ks.getD i nilEx) := by
  by_cases h : i < ks.length
  · rw [List.getD_eq_getElem?_getD, List.getElem?_map, List.getD_eq_getElem?_getD, List.getElem?_eq_getElem h]; rfl
  · rw [List.getD_eq_getElem?_getD, List.getElem?_eq_none (by simpa using h), List.getD_eq_getElem?_getD, List.getElem?_eq_none (by omega)]; exact (text_nil names).symm

/-- the kid i, wherever it lies -/
theorem kid_at {B : Nat} {w : World} {k n : Int} {ks : List Ex} {a : Option Addr} (h : XG (fun b _ => b < B) w ⟨k, n, ks⟩ a) (i : Nat) : ∃ ai ci, XG (fun b _ => b < B) w (ks.getD i nilEx) ai ∧
    (ks.length ≤ i ∧ ks.getD i nilEx = nilEx ∧ ai = none ∧ ci = 0 ∨ i < ks.length ∧ ∃ b off, a = some ⟨b, off, none⟩ ∧ b < B ∧ b < w.heap.size ∧ w.cell? ⟨b, off + i * 3, none⟩ = some (.int .i64 (ks.getD i nilEx).kind) ∧ w.cell? ⟨b, off + i * 3 + 1, none⟩ = some (.int .i64 (ks.getD i nilEx).num) ∧ w.cell? ⟨b, off + i * 3 + 2, none⟩ = some (.slice ai (ks.getD i nilEx).kids.length ci)) := by
  by_cases hi : i < ks.length
  · obtain ⟨b, off, x, ai, ci, ha, hbl, hok, hm, he, c0, c1, c2, hx⟩ := kid_lt h hi
    subst he
    exact ⟨ai, ci, hx, .inr ⟨hi, b, off, ha, hok, hbl, c0, c1, c2⟩⟩
  · have e : ks.getD i nilEx = nilEx := by rw [List.getD_eq_getElem?_getD, List.getElem?_eq_none (by omega)]; rfl
    refine ⟨none, 0, ?_, .inl ⟨by omega, e, rfl, rfl⟩⟩
    rw [e]
    exact (xg_eq _ _ _ _ _ _).2 ⟨⟨⟨by decide, by decide⟩, by decide, by decide⟩, .inl rfl⟩

set_option maxHeartbeats 1000000 in
theorem kidAt_exact (B : Nat) (w : World) (k n : Int) (ks : List Ex) (a : Option Addr) (c i : Nat) (h : XG (fun b _ => b < B) w ⟨k, n, ks⟩ a) (hl : ks.length ≤ 1000000) (hi : i ≤ 3) : ∃ ai ci, XG (fun b _ => b < B) w (ks.getD i nilEx) ai ∧
    ∀ wx, Below B w wx → Calls Tryz.prog 209 #[.agg #[.int .i64 k, .int .i64 n, .slice a ks.length c], .int .i64 i] wx fun e w' => e = .returned (.agg #[.int .i64 (ks.getD i nilEx).kind, .int .i64 (ks.getD i nilEx).num, .slice ai (ks.getD i nilEx).kids.length ci]) ∧ w' = (wx.alloc (.cells #[.int .i64 k, .int .i64 n, .slice a ks.length c] 40)).alloc (.cells #[.int .i64 (ks.getD i nilEx).kind, .int .i64 (ks.getD i nilEx).num, .slice ai (ks.getD i nilEx).kids.length ci] 40) := by
  obtain ⟨ai, ci, hx, hc⟩ := kid_at h i
  refine ⟨ai, ci, hx, fun wx hb => ?_⟩
  rcases hc with ⟨h1, h2, rfl, rfl⟩ | ⟨h1, b, off, rfl, hB, hbl, c0, c1, c2⟩
  · rw [h2]
    generalize ks.length = len at *
    clear h hx h2 hb
    have h1' : (len : Int) ≤ i := by omega
    go_enter Tryz.func209, Tryz.ntmps209
    go_wp2
    refine bodyPost_ret (v := .agg #[.int .i64 0, .int .i64 0, .slice none 0 0]) ?_ rfl ⟨rfl, ?_⟩
    · simp [results, Tryz.results209, go_sem]
    · rfl
  · have d0 := (hb.cell (p := ⟨b, off + i * 3, none⟩) hB).trans c0
    have d1 := (hb.cell (p := ⟨b, off + i * 3 + 1, none⟩) hB).trans c1
    have d2 := (hb.cell (p := ⟨b, off + i * 3 + 2, none⟩) hB).trans c2
    have hbx : b < wx.heap.size := Nat.lt_of_lt_of_le hbl hb.size
    generalize ks.getD i nilEx = x at *
    generalize ks.length = len at *
    clear h hx c0 c1 c2 hb
    have h1' : (i : Int) < len := by omega
    go_enter Tryz.func209, Tryz.ntmps209
    go_wp2
    refine bodyPost_ret (v := .agg #[.int .i64 x.kind, .int .i64 x.num, .slice ai x.kids.length ci]) ?_ rfl ⟨rfl, ?_⟩
    · simp [results, Tryz.results209, go_sem]
    · rfl

theorem kidAt_any (B : Nat) (w : World) (k n : Int) (ks : List Ex) (a : Option Addr) (c i : Nat) (h : XG (fun b _ => b < B) w ⟨k, n, ks⟩ a) (hl : ks.length ≤ 1000000) (hi : i ≤ 3) : ∃ ai ci, XG (fun b _ => b < B) w (ks.getD i nilEx) ai ∧
    ∀ wx, Below B w wx → Calls Tryz.prog 209 #[.agg #[.int .i64 k, .int .i64 n, .slice a ks.length c], .int .i64 i] wx fun e w' => e = .returned (.agg #[.int .i64 (ks.getD i nilEx).kind, .int .i64 (ks.getD i nilEx).num, .slice ai (ks.getD i nilEx).kids.length ci]) ∧ Below wx.heap.size wx w' := by
  obtain ⟨ai, ci, hx, hk⟩ := kidAt_exact B w k n ks a c i h hl hi
  refine ⟨ai, ci, hx, fun wx hb => (hk wx hb).mono ?_⟩
  rintro e w' ⟨he, hw⟩
  subst hw
  exact ⟨he, ((Below.refl _ _).alloc (Nat.le_refl _) _).alloc (by simp) _⟩

set_option maxHeartbeats 1000000 in
theorem tunknown_any (B : Nat) (bs : List UInt8) (u v : Value) (k n : Int) (a : Option Addr) (len c : Nat) (w : World) (hr : Row B bs v w) (hl : bs.length + 1 ≤ 1000000) :
    Calls Tryz.prog 169 #[u, v, .agg #[.int .i64 k, .int .i64 n, .slice a len c]] w (TPost B (bs ++ [63]) w) := by
  have HR : Hid (Row B bs v w) := hr
  clear hr
  go_enter Tryz.func169, Tryz.ntmps169
  go_wp2_with (at_builtin; refine wp_app1 (B := B) (bs := bs) (z := 63) 63 rfl _ _ rfl rfl rfl rfl (HR.out.up (((Below.refl _ _).alloc (Nat.le_refl _) _).alloc (by simp) _)) (by simp) (by omega) ?_; intro v' w' hr' hk'; have R1 : Hid (Row B (bs ++ [63]) v' w') := hr'; have K1 : Hid (Keep B w w') := (Keep.of HR.out.2 (((Below.refl _ _).alloc (Nat.le_refl _) _).alloc (by simp) _)).trans hk'; clear hr' hk')
  go_ret
  exact ⟨_, rfl, R1.out, K1.out⟩

theorem names_at {B : Nat} {na : Option Addr} {names : List ByteArray} {w : World} (h : Env B na names w) {i : Nat} (hi : i < names.length) : ∃ b off, na = some ⟨b, off, none⟩ ∧ b < B ∧ b < w.heap.size ∧ w.cell? ⟨b, off + i, none⟩ = some (.string (names.getD i ByteArray.empty)) := by
  rcases h.1 with h0 | ⟨b, off, ha, hB, hc⟩
  · omega
  · exact ⟨b, off, ha, hB, World.block_lt_of_cell? w _ (hc i hi), hc i hi⟩

set_option maxRecDepth 100000 in
set_option maxHeartbeats 1000000 in
theorem tvariable_any (B : Nat) (bs : List UInt8) (na : Option Addr) (names : List ByteArray) (v : Value) (n : Int) (a : Option Addr) (len nlen nc c : Nat) (w : World) (hnl : nlen = names.length) (hE : Env B na names w) (hr : Row B bs v w) (hl : bs.length + (textF names ⟨2, n, []⟩).length ≤ 1000000) :
    Calls Tryz.prog 164 #[.slice na nlen nc, v, .agg #[.int .i64 2, .int .i64 n, .slice a len c]] w (TPost B (bs ++ textF names ⟨2, n, []⟩) w) := by
  have HR : Hid (Row B bs v w) := hr
  clear hr
  by_cases h0 : n < 0 ∨ (names.length : Int) ≤ n
  · have e : textF names ⟨2, n, []⟩ = [63] := by rw [text_eq]; simp [textN, h0]
    rw [e] at hl ⊢
    rw [← hnl] at h0
    simp at hl
    by_cases h1 : n < 0
    · clear hE h0
      go_enter Tryz.func164, Tryz.ntmps164
      go_wp2_with (at_builtin; refine wp_app1 (B := B) (bs := bs) (z := 63) 63 rfl _ _ rfl rfl rfl rfl (HR.out.up (((Below.refl _ _).alloc (Nat.le_refl _) _).alloc (by simp) _)) (by simp) (by omega) ?_; intro v' w' hr' hk'; have R1 : Hid (Row B (bs ++ [63]) v' w') := hr'; have K1 : Hid (Keep B w w') := (Keep.of HR.out.2 (((Below.refl _ _).alloc (Nat.le_refl _) _).alloc (by simp) _)).trans hk'; clear hr' hk')
      go_ret
      exact ⟨_, rfl, R1.out, K1.out⟩
    · have h2 : (nlen : Int) ≤ n := by omega
      clear hE h0
      go_enter Tryz.func164, Tryz.ntmps164
      go_wp2_with (at_builtin; refine wp_app1 (B := B) (bs := bs) (z := 63) 63 rfl _ _ rfl rfl rfl rfl (HR.out.up (((Below.refl _ _).alloc (Nat.le_refl _) _).alloc (by simp) _)) (by simp) (by omega) ?_; intro v' w' hr' hk'; have R1 : Hid (Row B (bs ++ [63]) v' w') := hr'; have K1 : Hid (Keep B w w') := (Keep.of HR.out.2 (((Below.refl _ _).alloc (Nat.le_refl _) _).alloc (by simp) _)).trans hk'; clear hr' hk')
      go_ret
      exact ⟨_, rfl, R1.out, K1.out⟩
  · obtain ⟨m, rfl⟩ := Int.eq_ofNat_of_zero_le (show 0 ≤ n by omega)
    have hm : m < names.length := by omega
    obtain ⟨b, off, rfl, hB, hbl, hc⟩ := names_at hE hm
    generalize hs : names.getD m ByteArray.empty = s at hc
    have e : textF names ⟨2, m, []⟩ = s.data.toList := by rw [text_eq]; simp only [textN]; rw [if_neg (by decide), if_pos trivial, if_neg h0, Int.toNat_natCast, hs]
    rw [e] at hl ⊢
    have hm' : (m : Int) < nlen := by omega
    clear hE h0 hs e
    have HLs : Hid (bs.length + s.data.toList.length ≤ 1000000) := hl
    clear hl
    go_enter Tryz.func164, Tryz.ntmps164
    go_wp2_with (at_builtin; refine wp_appS (B := B) (bs := bs) s rfl _ _ rfl rfl rfl (HR.out.up ((Below.refl _ _).alloc (Nat.le_refl _) _)) (Nat.le_trans HLs.out (by decide)) ?_; intro v' w' hr' hk'; have R1 : Hid (Row B (bs ++ s.data.toList) v' w') := hr'; have K1 : Hid (Keep B w w') := (Keep.of HR.out.2 ((Below.refl _ _).alloc (Nat.le_refl _) _)).trans hk'; clear hr' hk')
    go_ret
    exact ⟨_, rfl, R1.out, K1.out⟩
end Go.Proofs.YtjcanodnlnodpaaGreatDoor.Expr
/- The writers of package expr: contracts of the calls, over the turned program. -/
namespace Go.Proofs.YtjcanodnlnodpaaGreatDoor.Expr
open Go.RowKit Go.Proofs.YtjcanodnlnodpaaGreatDoor.Frame Go.Proofs.YtjcanodnlnodpaaGreatDoor.Calc
set_option linter.unusedVariables false
set_option linter.unusedSimpArgs false

theorem hp1 (w : World) (o : Obj) : (w.alloc o).heap[w.heap.size]? = some o := heap_alloc_new w o
theorem hpU {w : World} {C : Nat} {o : Obj} (h : w.heap[C]? = some o) (p : Obj) : (w.alloc p).heap[C]? = some o := by
  have hlt : C < w.heap.size := (Array.getElem?_eq_some_iff.1 h).1
  exact (Below.heap_alloc w p C hlt).trans h
theorem hpB {w w' : World} {C : Nat} {o : Obj} (h : w.heap[C]? = some o) (hb : Below w.heap.size w w') : w'.heap[C]? = some o := by
  have hlt : C < w.heap.size := (Array.getElem?_eq_some_iff.1 h).1
  exact (hb.block C hlt).trans h
theorem al1 (w : World) (o : Obj) : Below w.heap.size w (w.alloc o) := (Below.refl _ _).alloc (Nat.le_refl _) _
theorem al2 (w : World) (o p : Obj) : Below w.heap.size w ((w.alloc o).alloc p) := ((Below.refl _ _).alloc (Nat.le_refl _) _).alloc (by simp) _
theorem Keep.then {B : Nat} {u w w' : World} (h : Keep B u w) (hB : B ≤ w.heap.size) (hb : Below w.heap.size w w') : Keep B u w' := h.trans (Keep.of hB hb)

theorem appendInt_row (B : Nat) (bs : List UInt8) (v : Value) (w : World) (n : Int) (hn : In64 n) (hr : Row B bs v w) (hT : Lib.TabBelow Tryz.prog B w tabName .u64 Lib.pow10Tab) (hl : bs.length ≤ 1000000) :
    Calls Tryz.prog 207 #[v, .int .i64 n, .int .i64 10] w (TPost B (bs ++ Lib.itoa n) w) := by
  refine (Tryz.strconv_AppendInt_10 B bs.length n hn.1 hn.2 v _ w hr.1 hr.2 (by omega) hT).mono ?_
  rintro e w' ⟨v', he, ho, hb, hk⟩
  exact ⟨v', he, ⟨by rw [bytes_append, List.length_append]; exact ho, Nat.le_trans hr.2 hb.size⟩, hb, hk⟩

/-- what write tells of an expression -/
def WrAt (names : List ByteArray) (t : Ex) : Prop := ∀ (B : Nat) (w : World) (a na : Option Addr) (c nc : Nat) (bs : List UInt8) (v : Value), XG (fun b _ => b < B) w t a → Env B na names w → Row B bs v w → bs.length + (textF names t).length ≤ 1000000 →
  Calls Tryz.prog 60 #[.slice na names.length nc, v, .agg #[.int .i64 t.kind, .int .i64 t.num, .slice a t.kids.length c]] w (TPost B (bs ++ textF names t) w)
def BrAt (names : List ByteArray) (t : Ex) (b : Bool) : Prop := ∀ (B : Nat) (w : World) (a na : Option Addr) (c nc : Nat) (bs : List UInt8) (v : Value), XG (fun b _ => b < B) w t a → Env B na names w → Row B bs v w → bs.length + (br b (textF names t)).length ≤ 1000000 →
  Calls Tryz.prog 210 #[.slice na names.length nc, v, .agg #[.int .i64 t.kind, .int .i64 t.num, .slice a t.kids.length c], .bool b] w (TPost B (bs ++ br b (textF names t)) w)

set_option maxRecDepth 100000 in
set_option maxHeartbeats 2000000 in
theorem tnumber_any (B : Nat) (bs : List UInt8) (names : List ByteArray) (u v : Value) (na : Option Addr) (n : Int) (a : Option Addr) (len c : Nat) (w : World) (hn : In64 n) (hE : Env B na names w) (hr : Row B bs v w) (hl : bs.length + (textF names ⟨1, n, []⟩).length ≤ 1000000) :
    Calls Tryz.prog 163 #[u, v, .agg #[.int .i64 1, .int .i64 n, .slice a len c]] w (TPost B (bs ++ textF names ⟨1, n, []⟩) w) := by
  have R0 : Hid (Row B bs v w) := hr
  have E0 : Hid (Env B na names w) := hE
  have HN : Hid (In64 n) := hn
  clear hr hE hn
  by_cases h0 : n < 0
  · have e : textF names ⟨1, n, []⟩ = [40] ++ Lib.itoa n ++ [41] := by rw [text_eq]; simp [textN, br, h0]
    rw [e] at hl ⊢
    generalize hq : Lib.itoa n = q at hl ⊢
    have HQ : Hid (Lib.itoa n = q) := hq
    clear hq e
    have L0 : Hid ((bs).length ≤ 1000000) := by unfold Hid; simp at hl ⊢; omega
    have L1 : Hid ((bs ++ [40]).length ≤ 1000000) := by unfold Hid; simp at hl ⊢; omega
    have L2 : Hid ((bs ++ [40] ++ q).length ≤ 1000000) := by unfold Hid; simp at hl ⊢; omega
    rw [← List.append_assoc, ← List.append_assoc]
    go_enter Tryz.func163, Tryz.ntmps163
    replace L0 : Hid (bs.length ≤ 10000000) := Nat.le_trans L0.out (by decide)
    replace L2 : Hid ((bs ++ [40] ++ q).length ≤ 10000000) := Nat.le_trans L2.out (by decide)
    go_wp2_with (at_builtin; refine wp_app1 (B := B) (bs := bs) (z := 40) 40 rfl _ _ rfl rfl rfl rfl (R0.out.up (al2 _ _ _)) (by simp) L0.out ?_; intro v1 w1 hr hk; have R1 : Hid (Row B (bs ++ [40]) v1 w1) := hr; have K1 : Hid (Keep B w w1) := (Keep.of R0.out.2 (al2 _ _ _)).trans hk; have b1_0 : w1.heap[w.heap.size]? = some (.cells #[Value.int IntKind.i64 1, Value.int IntKind.i64 n, Value.slice a len c] 40) := hk.box (by first | exact hp1 _ _ | exact hpU (hp1 _ _) _ | exact hpU (hpU (hp1 _ _) _) _ | exact b0_0.out | exact hpU b0_0.out _); clear hr hk; refine Hid.out ?_)
    refine Lib.hid ?_
    have c1_0_0 : w1.cell? ⟨w.heap.size, 0, none⟩ = some (Value.int IntKind.i64 1) := (box_cell b1_0 0).trans rfl
    have c1_0_1 : w1.cell? ⟨w.heap.size, 1, none⟩ = some (Value.int IntKind.i64 n) := (box_cell b1_0 1).trans rfl
    have c1_0_2 : w1.cell? ⟨w.heap.size, 2, none⟩ = some (Value.slice a len c) := (box_cell b1_0 2).trans rfl
    replace b1_0 : Hid (_ = _) := b1_0
    have z1_0 : w.heap.size < w1.heap.size := World.block_lt_of_cell? w1 _ c1_0_0
    have CA : Hid (∀ wx, wx = w1 → Calls Tryz.prog 207 #[v1, .int .i64 n, .int .i64 10] wx (TPost B (bs ++ [40] ++ q) wx)) := fun wx hx => by rw [hx, ← HQ.out]; exact appendInt_row B _ v1 w1 n HN.out R1.out ((E0.out.on K1.out.1).2) L1.out
    go_wp2_with (go_at_call 207; refine (CA.out _ rfl).mono ?_; rintro e w2 ⟨v2, he, hr, hk⟩; subst he; have R2 : Hid (Row B (bs ++ [40] ++ q) v2 w2) := hr; have K2 : Hid (Keep B w w2) := (K1.out.then R1.out.2 (Below.refl _ _)).trans hk; have b2_0 : w2.heap[w.heap.size]? = some (.cells #[Value.int IntKind.i64 1, Value.int IntKind.i64 n, Value.slice a len c] 40) := hk.box (by first | exact hp1 _ _ | exact hpU (hp1 _ _) _ | exact hpU (hpU (hp1 _ _) _) _ | exact b1_0.out | exact hpU b1_0.out _); clear hr hk; refine Hid.out ?_)
    refine Lib.hid ?_
    clear c1_0_0 c1_0_1 c1_0_2 z1_0
    have c2_0_0 : w2.cell? ⟨w.heap.size, 0, none⟩ = some (Value.int IntKind.i64 1) := (box_cell b2_0 0).trans rfl
    have c2_0_1 : w2.cell? ⟨w.heap.size, 1, none⟩ = some (Value.int IntKind.i64 n) := (box_cell b2_0 1).trans rfl
    have c2_0_2 : w2.cell? ⟨w.heap.size, 2, none⟩ = some (Value.slice a len c) := (box_cell b2_0 2).trans rfl
    replace b2_0 : Hid (_ = _) := b2_0
    have z2_0 : w.heap.size < w2.heap.size := World.block_lt_of_cell? w2 _ c2_0_0
    go_wp2_with (at_builtin; refine wp_app1 (B := B) (bs := bs ++ [40] ++ q) (z := 41) 41 rfl _ _ rfl rfl rfl rfl (R2.out.up (al1 _ _)) (by simp) L2.out ?_; intro v3 w3 hr hk; have R3 : Hid (Row B (bs ++ [40] ++ q ++ [41]) v3 w3) := hr; have K3 : Hid (Keep B w w3) := (K2.out.then R2.out.2 (al1 _ _)).trans hk; have b3_0 : w3.heap[w.heap.size]? = some (.cells #[Value.int IntKind.i64 1, Value.int IntKind.i64 n, Value.slice a len c] 40) := hk.box (by first | exact hp1 _ _ | exact hpU (hp1 _ _) _ | exact hpU (hpU (hp1 _ _) _) _ | exact b2_0.out | exact hpU b2_0.out _); clear hr hk; refine Hid.out ?_)
    refine Lib.hid ?_
    go_wp2_with fail
    go_ret
    exact ⟨_, rfl, R3.out, K3.out⟩
  · have e : textF names ⟨1, n, []⟩ = Lib.itoa n := by rw [text_eq]; simp [textN, br, h0]
    rw [e] at hl ⊢
    generalize hq : Lib.itoa n = q at hl ⊢
    have HQ : Hid (Lib.itoa n = q) := hq
    clear hq e
    have h1 : 0 ≤ n := by omega
    have hl0 : bs.length ≤ 1000000 := by omega
    have CA : Hid (∀ wx, Below w.heap.size w wx → Calls Tryz.prog 207 #[v, .int .i64 n, .int .i64 10] wx (TPost B (bs ++ q) wx)) := fun wx hx => by rw [← HQ.out]; exact appendInt_row B _ v wx n HN.out (R0.out.up hx) ((E0.out.on (hx.mono R0.out.2)).2) hl0
    go_enter Tryz.func163, Tryz.ntmps163
    go_wp2_with (go_at_call 207; refine (CA.out _ (al1 _ _)).mono ?_; rintro e w1 ⟨v1, he, hr, hk⟩; subst he; have R1 : Hid (Row B (bs ++ q) v1 w1) := hr; have K1 : Hid (Keep B w w1) := (Keep.of R0.out.2 (al1 _ _)).trans hk; clear hr hk)
    go_ret
    exact ⟨_, rfl, R1.out, K1.out⟩

set_option maxRecDepth 100000 in
set_option maxHeartbeats 2000000 in
theorem bracketed_any (names : List ByteArray) (t : Ex) (b : Bool) (hW : WrAt names t) : BrAt names t b := by
  intro B w a na c nc bs v hX hE hr hl
  have R0 : Hid (Row B bs v w) := hr
  have CW : Hid (∀ wx bs' v', Below B w wx → Row B bs' v' wx → bs'.length + (textF names t).length ≤ 1000000 → Calls Tryz.prog 60 #[.slice na names.length nc, v', .agg #[.int .i64 t.kind, .int .i64 t.num, .slice a t.kids.length c]] wx (TPost B (bs' ++ textF names t) wx)) :=
    fun wx bs' v' hb hr' hl' => hW B wx a na c nc bs' v' (hX.belowB (fun _ _ h => h) hb) (hE.on hb) hr' hl'
  clear hr hX hE hW
  cases b with
  | false =>
    have e : br false (textF names t) = textF names t := rfl
    rw [e] at hl ⊢
    generalize textF names t = q at *
    have L0 : Hid (bs.length + q.length ≤ 1000000) := hl
    clear hl e
    generalize names.length = nl at *
    obtain ⟨k, n, ks⟩ := t
    generalize ks.length = len at *
    go_enter Tryz.func210, Tryz.ntmps210
    go_wp2_with (go_at_call 60; refine (CW.out _ _ _ ((al1 _ _).mono R0.out.2) (R0.out.up (al1 _ _)) L0.out).mono ?_; rintro e w1 ⟨v1, he, hr, hk⟩; subst he; have R1 : Hid (Row B (bs ++ q) v1 w1) := hr; have K1 : Hid (Keep B w w1) := (Keep.of R0.out.2 (al1 _ _)).trans hk; clear hr hk)
    go_ret
    exact ⟨_, rfl, R1.out, K1.out⟩
  | true =>
    have e : br true (textF names t) = [40] ++ textF names t ++ [41] := by simp [br]
    rw [e] at hl ⊢
    generalize textF names t = q at *
    clear e
    rw [← List.append_assoc, ← List.append_assoc]
    have L0 : Hid ((bs).length ≤ 1000000) := by unfold Hid; simp at hl ⊢; omega
    have L1 : Hid ((bs ++ [40]).length ≤ 1000000) := by unfold Hid; simp at hl ⊢; omega
    have L2 : Hid ((bs ++ [40] ++ q).length ≤ 1000000) := by unfold Hid; simp at hl ⊢; omega
    replace L0 : Hid (bs.length ≤ 10000000) := Nat.le_trans L0.out (by decide)
    replace L1 : Hid ((bs ++ [40]).length + q.length ≤ 1000000) := by unfold Hid; simp at hl ⊢; omega
    replace L2 : Hid ((bs ++ [40] ++ q).length ≤ 10000000) := Nat.le_trans L2.out (by decide)
    clear hl
    generalize names.length = nl at *
    obtain ⟨k, n, ks⟩ := t
    generalize ks.length = len at *
    go_enter Tryz.func210, Tryz.ntmps210
    go_wp2_with (at_builtin; refine wp_app1 (B := B) (bs := bs) (z := 40) 40 rfl _ _ rfl rfl rfl rfl (R0.out.up (al2 _ _ _)) (by simp) L0.out ?_; intro v1 w1 hr hk; have R1 : Hid (Row B (bs ++ [40]) v1 w1) := hr; have K1 : Hid (Keep B w w1) := (Keep.of R0.out.2 (al2 _ _ _)).trans hk; have b1_0 : w1.heap[w.heap.size]? = some (.cells #[Value.int IntKind.i64 k, Value.int IntKind.i64 n, Value.slice a len c] 40) := hk.box (by first | exact hp1 _ _ | exact hpU (hp1 _ _) _ | exact hpU (hpU (hp1 _ _) _) _ | exact b0_0.out | exact hpU b0_0.out _); clear hr hk; refine Hid.out ?_)
    refine Lib.hid ?_
    have c1_0_0 : w1.cell? ⟨w.heap.size, 0, none⟩ = some (Value.int IntKind.i64 k) := (box_cell b1_0 0).trans rfl
    have c1_0_1 : w1.cell? ⟨w.heap.size, 1, none⟩ = some (Value.int IntKind.i64 n) := (box_cell b1_0 1).trans rfl
    have c1_0_2 : w1.cell? ⟨w.heap.size, 2, none⟩ = some (Value.slice a len c) := (box_cell b1_0 2).trans rfl
    replace b1_0 : Hid (_ = _) := b1_0
    have z1_0 : w.heap.size < w1.heap.size := World.block_lt_of_cell? w1 _ c1_0_0
    go_wp2_with (go_at_call 60; refine (CW.out _ _ _ K1.out.1 R1.out L1.out).mono ?_; rintro e w2 ⟨v2, he, hr, hk⟩; subst he; have R2 : Hid (Row B (bs ++ [40] ++ q) v2 w2) := hr; have K2 : Hid (Keep B w w2) := (K1.out.then R1.out.2 (Below.refl _ _)).trans hk; have b2_0 : w2.heap[w.heap.size]? = some (.cells #[Value.int IntKind.i64 k, Value.int IntKind.i64 n, Value.slice a len c] 40) := hk.box (by first | exact hp1 _ _ | exact hpU (hp1 _ _) _ | exact hpU (hpU (hp1 _ _) _) _ | exact b1_0.out | exact hpU b1_0.out _); clear hr hk; refine Hid.out ?_)
    refine Lib.hid ?_
    clear c1_0_0 c1_0_1 c1_0_2 z1_0
    have c2_0_0 : w2.cell? ⟨w.heap.size, 0, none⟩ = some (Value.int IntKind.i64 k) := (box_cell b2_0 0).trans rfl
    have c2_0_1 : w2.cell? ⟨w.heap.size, 1, none⟩ = some (Value.int IntKind.i64 n) := (box_cell b2_0 1).trans rfl
    have c2_0_2 : w2.cell? ⟨w.heap.size, 2, none⟩ = some (Value.slice a len c) := (box_cell b2_0 2).trans rfl
    replace b2_0 : Hid (_ = _) := b2_0
    have z2_0 : w.heap.size < w2.heap.size := World.block_lt_of_cell? w2 _ c2_0_0
    go_wp2_with (at_builtin; refine wp_app1 (B := B) (bs := bs ++ [40] ++ q) (z := 41) 41 rfl _ _ rfl rfl rfl rfl (R2.out.up (al1 _ _)) (by simp) L2.out ?_; intro v3 w3 hr hk; have R3 : Hid (Row B (bs ++ [40] ++ q ++ [41]) v3 w3) := hr; have K3 : Hid (Keep B w w3) := (K2.out.then R2.out.2 (al1 _ _)).trans hk; have b3_0 : w3.heap[w.heap.size]? = some (.cells #[Value.int IntKind.i64 k, Value.int IntKind.i64 n, Value.slice a len c] 40) := hk.box (by first | exact hp1 _ _ | exact hpU (hp1 _ _) _ | exact hpU (hpU (hp1 _ _) _) _ | exact b2_0.out | exact hpU b2_0.out _); clear hr hk; refine Hid.out ?_)
    refine Lib.hid ?_
    go_wp2_with fail
    go_ret
    exact ⟨_, rfl, R3.out, K3.out⟩
end Go.Proofs.YtjcanodnlnodpaaGreatDoor.Expr
/- The writers of package expr: a kid behind its sign; an if. -/
namespace Go.Proofs.YtjcanodnlnodpaaGreatDoor.Expr
open Go.RowKit Go.Proofs.YtjcanodnlnodpaaGreatDoor.Frame Go.Proofs.YtjcanodnlnodpaaGreatDoor.Calc
set_option linter.unusedVariables false
set_option linter.unusedSimpArgs false

theorem bl_trans {w w1 w2 : World} (h : Below w.heap.size w w1) (k : Below w1.heap.size w1 w2) : Below w.heap.size w w2 := h.trans (k.mono h.size)
theorem bl_step {w w1 : World} {o : Obj} (h : Below (w.alloc o).heap.size (w.alloc o) w1) : Below w.heap.size w w1 := bl_trans (al1 w o) h

/-- what the writer of a signed kid tells -/
def SiAt (names : List ByteArray) (k n : Int) (ks : List Ex) : Prop := ∀ (B : Nat) (w : World) (a na : Option Addr) (c nc : Nat) (bs : List UInt8) (v : Value), XG (fun b _ => b < B) w ⟨k, n, ks⟩ a → Env B na names w → Row B bs v w → bs.length + (br (isBin (ks.getD 0 nilEx)) (textF names (ks.getD 0 nilEx))).length ≤ 1000000 →
  Calls Tryz.prog 208 #[.slice na names.length nc, v, .agg #[.int .i64 k, .int .i64 n, .slice a ks.length c]] w (TPost B (bs ++ br (isBin (ks.getD 0 nilEx)) (textF names (ks.getD 0 nilEx))) w)

set_option maxRecDepth 100000 in
set_option maxHeartbeats 2000000 in
theorem signed_any (names : List ByteArray) (k n : Int) (ks : List Ex) (hlen : ks.length ≤ 1000000) (hB : ∀ b, BrAt names (ks.getD 0 nilEx) b) : SiAt names k n ks := by
  intro B w a na c nc bs v hX hE hr hl
  have R0 : Hid (Row B bs v w) := hr
  obtain ⟨ai, ci, hx, hk⟩ := kidAt_any B w k n ks a c 0 hX hlen (by omega)
  have CK : Hid (∀ wx, Below B w wx → _) := hk
  generalize ks.getD 0 nilEx = x at *
  obtain ⟨bb, hbb⟩ : ∃ bb, bb = isBin x := ⟨_, rfl⟩
  have CB : Hid (∀ wx, Below w.heap.size w wx → Calls Tryz.prog 210 #[.slice na names.length nc, v, .agg #[.int .i64 x.kind, .int .i64 x.num, .slice ai x.kids.length ci], .bool bb] wx (TPost B (bs ++ br (isBin x) (textF names x)) wx)) := fun wx hb => by
    rw [hbb]; exact hB (isBin x) B wx ai na ci nc bs v (hx.belowB (fun _ _ h => h) (hb.mono R0.out.2)) (hE.on (hb.mono R0.out.2)) (R0.out.up hb) hl
  have hq : (x.kind == 5) = bb := by rw [hbb]; unfold isBin; cases h : (x.kind == 5) <;> simp_all
  clear hr hX hE hB hl hbb hx hk
  generalize names.length = nl at *
  generalize ks.length = len at *
  generalize br (isBin x) (textF names x) = q at *
  go_enter Tryz.func208, Tryz.ntmps208
  go_wp2_with (go_at_call 209; refine (CK.out _ ((al1 _ _).mono R0.out.2)).mono ?_; rintro e w1 ⟨he, hb⟩; subst he; have K1 : Hid (Below w.heap.size w w1) := bl_step hb; clear hb; refine Hid.out ?_)
  refine Lib.hid ?_
  go_wp2_with (go_at_call 210; refine (CB.out _ (bl_trans K1.out (al1 _ _))).mono ?_; rintro e w2 ⟨v2, he, hr, hk⟩; subst he; have R2 : Hid (Row B (bs ++ q) v2 w2) := hr; have K2 : Hid (Keep B w w2) := (Keep.of R0.out.2 (bl_trans K1.out (al1 _ _))).trans hk; clear hr hk)
  go_ret
  exact ⟨_, rfl, R2.out, K2.out⟩

set_option maxRecDepth 100000 in
set_option maxHeartbeats 4000000 in
theorem tnegated_any (names : List ByteArray) (n : Int) (ks : List Ex) (hlen : ks.length ≤ 1000000) (hS : SiAt names 3 n ks) (B : Nat) (w : World) (a na : Option Addr) (c nc : Nat) (bs : List UInt8) (v : Value) (hX : XG (fun b _ => b < B) w ⟨3, n, ks⟩ a) (hE : Env B na names w) (hr : Row B bs v w) (hl : bs.length + (textF names ⟨3, n, ks⟩).length ≤ 1000000) :
    Calls Tryz.prog 165 #[.slice na names.length nc, v, .agg #[.int .i64 3, .int .i64 n, .slice a ks.length c]] w (TPost B (bs ++ textF names ⟨3, n, ks⟩) w) := by
  have R0 : Hid (Row B bs v w) := hr
  have e : textF names ⟨3, n, ks⟩ = [45] ++ br (isBin (ks.getD 0 nilEx)) (textF names (ks.getD 0 nilEx)) := by rw [text_eq, ← text_kid]; rfl
  rw [e] at hl ⊢
  have CS : Hid (∀ wx vx, Keep B w wx → Row B (bs ++ [45]) vx wx → Calls Tryz.prog 208 #[.slice na names.length nc, vx, .agg #[.int .i64 3, .int .i64 n, .slice a ks.length c]] wx (TPost B (bs ++ [45] ++ br (isBin (ks.getD 0 nilEx)) (textF names (ks.getD 0 nilEx))) wx)) := fun wx vx hk hr' =>
    hS B wx a na c nc (bs ++ [45]) vx (hX.belowB (fun _ _ h => h) hk.1) (hE.on hk.1) hr' (by simp at hl ⊢; omega)
  rw [← List.append_assoc]
  have L0 : Hid (bs.length ≤ 10000000) := by unfold Hid; omega
  clear hr hX hE hS hl e
  generalize br (isBin (ks.getD 0 nilEx)) (textF names (ks.getD 0 nilEx)) = q at *
  generalize names.length = nl at *
  generalize ks.length = len at *
  go_enter Tryz.func165, Tryz.ntmps165
  go_wp2_with fail
  go_region_held3 (fun w' => w'.cell? ⟨w.heap.size, 0, none⟩ = some (.int .i64 3) ∧ w'.cell? ⟨w.heap.size, 1, none⟩ = some (.int .i64 n) ∧ w'.cell? ⟨w.heap.size, 2, none⟩ = some (.slice a len c)) (go_keep)
    (first
      | (refine step_app1 (B := B) (bs := bs) (z := 45) 45 rfl _ _ rfl rfl rfl rfl (R0.out.up (by first | exact ((al1 _ _).drew.alloc (by simp) _) | exact (al2 _ _ _).drew | exact ((al1 _ _).drew.alloc (by simp) _).drew)) (by simp) L0.out ?_; intro v1 w1 hr hk; have R1 : Hid (Row B (bs ++ [45]) v1 w1) := hr; have K1 : Hid (Keep B w w1) := (Keep.of R0.out.2 (by first | exact ((al1 _ _).drew.alloc (by simp) _) | exact (al2 _ _ _).drew | exact ((al1 _ _).drew.alloc (by simp) _).drew)).trans hk; have b1 : w1.heap[w.heap.size]? = some (.cells #[Value.int IntKind.i64 3, Value.int IntKind.i64 n, Value.slice a len c] 40) := hk.box (by exact hpU (hp1 _ _) _); have g0 : w1.cell? ⟨w.heap.size, 0, none⟩ = some (.int .i64 3) := (box_cell b1 0).trans rfl; have g1 : w1.cell? ⟨w.heap.size, 1, none⟩ = some (.int .i64 n) := (box_cell b1 1).trans rfl; have g2 : w1.cell? ⟨w.heap.size, 2, none⟩ = some (.slice a len c) := (box_cell b1 2).trans rfl; replace b1 : Hid (_ = _) := b1; clear hr hk)
      | (go_at_call 208; refine (CS.out _ _ K1.out R1.out).mono ?_; rintro e w2 ⟨v2, he, hr, hk⟩; subst he; have R2 : Hid (Row B (bs ++ [45] ++ q) v2 w2) := hr; have K2 : Hid (Keep B w w2) := K1.out.trans hk; have b2 : w2.heap[w.heap.size]? = some (.cells #[Value.int IntKind.i64 3, Value.int IntKind.i64 n, Value.slice a len c] 40) := hk.box b1.out; have g0 : w2.cell? ⟨w.heap.size, 0, none⟩ = some (.int .i64 3) := (box_cell b2 0).trans rfl; have g1 : w2.cell? ⟨w.heap.size, 1, none⟩ = some (.int .i64 n) := (box_cell b2 1).trans rfl; have g2 : w2.cell? ⟨w.heap.size, 2, none⟩ = some (.slice a len c) := (box_cell b2 2).trans rfl; clear hr hk b2))
  all_goals
    go_wp2_with fail
    go_ret
    exact ⟨_, rfl, R2.out, K2.out⟩

set_option maxRecDepth 100000 in
set_option maxHeartbeats 4000000 in
theorem tturned_any (names : List ByteArray) (n : Int) (ks : List Ex) (hlen : ks.length ≤ 1000000) (hS : SiAt names 4 n ks) (B : Nat) (w : World) (a na : Option Addr) (c nc : Nat) (bs : List UInt8) (v : Value) (hX : XG (fun b _ => b < B) w ⟨4, n, ks⟩ a) (hE : Env B na names w) (hr : Row B bs v w) (hl : bs.length + (textF names ⟨4, n, ks⟩).length ≤ 1000000) :
    Calls Tryz.prog 166 #[.slice na names.length nc, v, .agg #[.int .i64 4, .int .i64 n, .slice a ks.length c]] w (TPost B (bs ++ textF names ⟨4, n, ks⟩) w) := by
  have R0 : Hid (Row B bs v w) := hr
  have e : textF names ⟨4, n, ks⟩ = [33] ++ br (isBin (ks.getD 0 nilEx)) (textF names (ks.getD 0 nilEx)) := by rw [text_eq, ← text_kid]; rfl
  rw [e] at hl ⊢
  have CS : Hid (∀ wx vx, Keep B w wx → Row B (bs ++ [33]) vx wx → Calls Tryz.prog 208 #[.slice na names.length nc, vx, .agg #[.int .i64 4, .int .i64 n, .slice a ks.length c]] wx (TPost B (bs ++ [33] ++ br (isBin (ks.getD 0 nilEx)) (textF names (ks.getD 0 nilEx))) wx)) := fun wx vx hk hr' =>
    hS B wx a na c nc (bs ++ [33]) vx (hX.belowB (fun _ _ h => h) hk.1) (hE.on hk.1) hr' (by simp at hl ⊢; omega)
  rw [← List.append_assoc]
  have L0 : Hid (bs.length ≤ 10000000) := by unfold Hid; omega
  clear hr hX hE hS hl e
  generalize br (isBin (ks.getD 0 nilEx)) (textF names (ks.getD 0 nilEx)) = q at *
  generalize names.length = nl at *
  generalize ks.length = len at *
  go_enter Tryz.func166, Tryz.ntmps166
  go_wp2_with fail
  go_region_held3 (fun w' => w'.cell? ⟨w.heap.size, 0, none⟩ = some (.int .i64 4) ∧ w'.cell? ⟨w.heap.size, 1, none⟩ = some (.int .i64 n) ∧ w'.cell? ⟨w.heap.size, 2, none⟩ = some (.slice a len c)) (go_keep)
    (first
      | (refine step_app1 (B := B) (bs := bs) (z := 33) 33 rfl _ _ rfl rfl rfl rfl (R0.out.up (by first | exact ((al1 _ _).drew.alloc (by simp) _) | exact (al2 _ _ _).drew | exact ((al1 _ _).drew.alloc (by simp) _).drew)) (by simp) L0.out ?_; intro v1 w1 hr hk; have R1 : Hid (Row B (bs ++ [33]) v1 w1) := hr; have K1 : Hid (Keep B w w1) := (Keep.of R0.out.2 (by first | exact ((al1 _ _).drew.alloc (by simp) _) | exact (al2 _ _ _).drew | exact ((al1 _ _).drew.alloc (by simp) _).drew)).trans hk; have b1 : w1.heap[w.heap.size]? = some (.cells #[Value.int IntKind.i64 4, Value.int IntKind.i64 n, Value.slice a len c] 40) := hk.box (by exact hpU (hp1 _ _) _); have g0 : w1.cell? ⟨w.heap.size, 0, none⟩ = some (.int .i64 4) := (box_cell b1 0).trans rfl; have g1 : w1.cell? ⟨w.heap.size, 1, none⟩ = some (.int .i64 n) := (box_cell b1 1).trans rfl; have g2 : w1.cell? ⟨w.heap.size, 2, none⟩ = some (.slice a len c) := (box_cell b1 2).trans rfl; replace b1 : Hid (_ = _) := b1; clear hr hk)
      | (go_at_call 208; refine (CS.out _ _ K1.out R1.out).mono ?_; rintro e w2 ⟨v2, he, hr, hk⟩; subst he; have R2 : Hid (Row B (bs ++ [33] ++ q) v2 w2) := hr; have K2 : Hid (Keep B w w2) := K1.out.trans hk; have b2 : w2.heap[w.heap.size]? = some (.cells #[Value.int IntKind.i64 4, Value.int IntKind.i64 n, Value.slice a len c] 40) := hk.box b1.out; have g0 : w2.cell? ⟨w.heap.size, 0, none⟩ = some (.int .i64 4) := (box_cell b2 0).trans rfl; have g1 : w2.cell? ⟨w.heap.size, 1, none⟩ = some (.int .i64 n) := (box_cell b2 1).trans rfl; have g2 : w2.cell? ⟨w.heap.size, 2, none⟩ = some (.slice a len c) := (box_cell b2 2).trans rfl; clear hr hk b2))
  all_goals
    go_wp2_with fail
    go_ret
    exact ⟨_, rfl, R2.out, K2.out⟩

end Go.Proofs.YtjcanodnlnodpaaGreatDoor.Expr
/- The writers of package expr: an if. -/
namespace Go.Proofs.YtjcanodnlnodpaaGreatDoor.Expr
open Go.RowKit Go.Proofs.YtjcanodnlnodpaaGreatDoor.Frame Go.Proofs.YtjcanodnlnodpaaGreatDoor.Calc
set_option linter.unusedVariables false
set_option linter.unusedSimpArgs false

set_option maxRecDepth 100000 in
set_option maxHeartbeats 4000000 in
theorem tchosen_any (names : List ByteArray) (n : Int) (ks : List Ex) (hlen : ks.length ≤ 1000000) (hW : ∀ i, WrAt names (ks.getD i nilEx)) (B : Nat) (w : World) (a na : Option Addr) (c nc : Nat) (bs : List UInt8) (v : Value) (hX : XG (fun b _ => b < B) w ⟨6, n, ks⟩ a) (hE : Env B na names w) (hr : Row B bs v w) (hl : bs.length + (textF names ⟨6, n, ks⟩).length ≤ 1000000) :
    Calls Tryz.prog 168 #[.slice na names.length nc, v, .agg #[.int .i64 6, .int .i64 n, .slice a ks.length c]] w (TPost B (bs ++ textF names ⟨6, n, ks⟩) w) := by
  have R0 : Hid (Row B bs v w) := hr
  have e : textF names ⟨6, n, ks⟩ = [105, 102, 40] ++ textF names (ks.getD 0 nilEx) ++ [44, 32] ++ textF names (ks.getD 1 nilEx) ++ [44, 32] ++ textF names (ks.getD 2 nilEx) ++ [41] := by rw [text_eq, ← text_kid, ← text_kid, ← text_kid]; rfl
  rw [e] at hl ⊢
  clear e hr
  obtain ⟨a0, c0, hx0, hk0⟩ := kidAt_any B w 6 n ks a c 0 hX hlen (by omega)
  obtain ⟨a1, c1, hx1, hk1⟩ := kidAt_any B w 6 n ks a c 1 hX hlen (by omega)
  obtain ⟨a2, c2, hx2, hk2⟩ := kidAt_any B w 6 n ks a c 2 hX hlen (by omega)
  have CK0 : Hid (∀ wx, Below B w wx → _) := hk0
  have CK1 : Hid (∀ wx, Below B w wx → _) := hk1
  have CK2 : Hid (∀ wx, Below B w wx → _) := hk2
  have W0 := hW 0
  have W1 := hW 1
  have W2 := hW 2
  clear hk0 hk1 hk2 hW hX
  generalize ks.getD 0 nilEx = x0 at *
  generalize ks.getD 1 nilEx = x1 at *
  generalize ks.getD 2 nilEx = x2 at *
  have CW0 : Hid (∀ wx bs' v', Below B w wx → Row B bs' v' wx → bs'.length + (textF names x0).length ≤ 1000000 → Calls Tryz.prog 60 #[.slice na names.length nc, v', .agg #[.int .i64 x0.kind, .int .i64 x0.num, .slice a0 x0.kids.length c0]] wx (TPost B (bs' ++ textF names x0) wx)) := fun wx bs' v' hb hr' hl' => W0 B wx a0 na c0 nc bs' v' (hx0.belowB (fun _ _ h => h) hb) (hE.on hb) hr' hl'
  have CW1 : Hid (∀ wx bs' v', Below B w wx → Row B bs' v' wx → bs'.length + (textF names x1).length ≤ 1000000 → Calls Tryz.prog 60 #[.slice na names.length nc, v', .agg #[.int .i64 x1.kind, .int .i64 x1.num, .slice a1 x1.kids.length c1]] wx (TPost B (bs' ++ textF names x1) wx)) := fun wx bs' v' hb hr' hl' => W1 B wx a1 na c1 nc bs' v' (hx1.belowB (fun _ _ h => h) hb) (hE.on hb) hr' hl'
  have CW2 : Hid (∀ wx bs' v', Below B w wx → Row B bs' v' wx → bs'.length + (textF names x2).length ≤ 1000000 → Calls Tryz.prog 60 #[.slice na names.length nc, v', .agg #[.int .i64 x2.kind, .int .i64 x2.num, .slice a2 x2.kids.length c2]] wx (TPost B (bs' ++ textF names x2) wx)) := fun wx bs' v' hb hr' hl' => W2 B wx a2 na c2 nc bs' v' (hx2.belowB (fun _ _ h => h) hb) (hE.on hb) hr' hl'
  clear W0 W1 W2 hx0 hx1 hx2 hE
  generalize textF names x0 = q0 at *
  generalize textF names x1 = q1 at *
  generalize textF names x2 = q2 at *
  generalize names.length = nl at *
  generalize ks.length = len at *
  simp only [← List.append_assoc]
  simp only [List.length_append] at hl
  have hl3 : ([105, 102, 40] : List UInt8).length = 3 := rfl
  have hl2 : ([44, 32] : List UInt8).length = 2 := rfl
  have hl1 : ([41] : List UInt8).length = 1 := rfl
  rw [hl3, hl2, hl1] at hl
  have L0 : Hid (bs.length + 3 ≤ 10000000) := by unfold Hid; omega
  have L2 : Hid ((bs ++ [105, 102, 40]).length + q0.length ≤ 1000000) := by unfold Hid; simp only [List.length_append]; rw [hl3]; omega
  have L3 : Hid ((bs ++ [105, 102, 40] ++ q0).length + 2 ≤ 10000000) := by unfold Hid; simp only [List.length_append]; rw [hl3]; omega
  have L5 : Hid ((bs ++ [105, 102, 40] ++ q0 ++ [44, 32]).length + q1.length ≤ 1000000) := by unfold Hid; simp only [List.length_append]; rw [hl3, hl2]; omega
  have L6 : Hid ((bs ++ [105, 102, 40] ++ q0 ++ [44, 32] ++ q1).length + 2 ≤ 10000000) := by unfold Hid; simp only [List.length_append]; rw [hl3, hl2]; omega
  have L8 : Hid ((bs ++ [105, 102, 40] ++ q0 ++ [44, 32] ++ q1 ++ [44, 32]).length + q2.length ≤ 1000000) := by unfold Hid; simp only [List.length_append]; rw [hl3, hl2]; omega
  have L9 : Hid ((bs ++ [105, 102, 40] ++ q0 ++ [44, 32] ++ q1 ++ [44, 32] ++ q2).length ≤ 10000000) := by unfold Hid; simp only [List.length_append]; rw [hl3, hl2]; omega
  clear hl hl1 hl2 hl3
  go_enter Tryz.func168, Tryz.ntmps168
  go_wp2_with (at_builtin; refine wp_appS (B := B) (bs := bs) ⟨#[105, 102, 40]⟩ rfl _ _ rfl rfl rfl (R0.out.up (al1 _ _)) L0.out ?_; intro v1 w1 hr hk; have R1 : Hid (Row B (bs ++ [105, 102, 40]) v1 w1) := hr; have K1 : Hid (Keep B w w1) := (Keep.of R0.out.2 (al1 _ _)).trans hk; have b1_0 : w1.heap[w.heap.size]? = some (.cells #[Value.int IntKind.i64 6, Value.int IntKind.i64 n, Value.slice a len c] 40) := hk.box (by first | exact hp1 _ _ | exact hpU (hp1 _ _) _ | exact hpU (hpU (hp1 _ _) _) _ | exact b0_0.out | exact hpU b0_0.out _); clear hr hk; refine Hid.out ?_)
  refine Lib.hid ?_
  have c1_0_0 : w1.cell? ⟨w.heap.size, 0, none⟩ = some (Value.int IntKind.i64 6) := (box_cell b1_0 0).trans rfl
  have c1_0_1 : w1.cell? ⟨w.heap.size, 1, none⟩ = some (Value.int IntKind.i64 n) := (box_cell b1_0 1).trans rfl
  have c1_0_2 : w1.cell? ⟨w.heap.size, 2, none⟩ = some (Value.slice a len c) := (box_cell b1_0 2).trans rfl
  replace b1_0 : Hid (_ = _) := b1_0
  have z1_0 : w.heap.size < w1.heap.size := World.block_lt_of_cell? w1 _ c1_0_0
  go_wp2_with (go_at_call 209; refine (CK0.out _ K1.out.1).mono ?_; rintro e w2 ⟨he, hb⟩; subst he; have R2 : Hid (Row B (bs ++ [105, 102, 40]) v1 w2) := R1.out.up hb; have K2 : Hid (Keep B w w2) := K1.out.then R1.out.2 hb; have b2_0 : w2.heap[w.heap.size]? = some (.cells #[Value.int IntKind.i64 6, Value.int IntKind.i64 n, Value.slice a len c] 40) := hpB b1_0.out hb; clear hb; refine Hid.out ?_)
  refine Lib.hid ?_
  clear c1_0_0 c1_0_1 c1_0_2 z1_0
  have c2_0_0 : w2.cell? ⟨w.heap.size, 0, none⟩ = some (Value.int IntKind.i64 6) := (box_cell b2_0 0).trans rfl
  have c2_0_1 : w2.cell? ⟨w.heap.size, 1, none⟩ = some (Value.int IntKind.i64 n) := (box_cell b2_0 1).trans rfl
  have c2_0_2 : w2.cell? ⟨w.heap.size, 2, none⟩ = some (Value.slice a len c) := (box_cell b2_0 2).trans rfl
  replace b2_0 : Hid (_ = _) := b2_0
  have z2_0 : w.heap.size < w2.heap.size := World.block_lt_of_cell? w2 _ c2_0_0
  go_wp2_with (go_at_call 60; refine (CW0.out _ _ _ K2.out.1 R2.out L2.out).mono ?_; rintro e w3 ⟨v3, he, hr, hk⟩; subst he; have R3 : Hid (Row B (bs ++ [105, 102, 40] ++ q0) v3 w3) := hr; have K3 : Hid (Keep B w w3) := (K2.out.then R2.out.2 (Below.refl _ _)).trans hk; have b3_0 : w3.heap[w.heap.size]? = some (.cells #[Value.int IntKind.i64 6, Value.int IntKind.i64 n, Value.slice a len c] 40) := hk.box (by first | exact hp1 _ _ | exact hpU (hp1 _ _) _ | exact hpU (hpU (hp1 _ _) _) _ | exact b2_0.out | exact hpU b2_0.out _); clear hr hk; refine Hid.out ?_)
  refine Lib.hid ?_
  clear c2_0_0 c2_0_1 c2_0_2 z2_0
  have c3_0_0 : w3.cell? ⟨w.heap.size, 0, none⟩ = some (Value.int IntKind.i64 6) := (box_cell b3_0 0).trans rfl
  have c3_0_1 : w3.cell? ⟨w.heap.size, 1, none⟩ = some (Value.int IntKind.i64 n) := (box_cell b3_0 1).trans rfl
  have c3_0_2 : w3.cell? ⟨w.heap.size, 2, none⟩ = some (Value.slice a len c) := (box_cell b3_0 2).trans rfl
  replace b3_0 : Hid (_ = _) := b3_0
  have z3_0 : w.heap.size < w3.heap.size := World.block_lt_of_cell? w3 _ c3_0_0
  go_wp2_with (at_builtin; refine wp_appS (B := B) (bs := bs ++ [105, 102, 40] ++ q0) ⟨#[44, 32]⟩ rfl _ _ rfl rfl rfl (R3.out.up (Below.refl _ _)) L3.out ?_; intro v4 w4 hr hk; have R4 : Hid (Row B (bs ++ [105, 102, 40] ++ q0 ++ [44, 32]) v4 w4) := hr; have K4 : Hid (Keep B w w4) := (K3.out.then R3.out.2 (Below.refl _ _)).trans hk; have b4_0 : w4.heap[w.heap.size]? = some (.cells #[Value.int IntKind.i64 6, Value.int IntKind.i64 n, Value.slice a len c] 40) := hk.box (by first | exact hp1 _ _ | exact hpU (hp1 _ _) _ | exact hpU (hpU (hp1 _ _) _) _ | exact b3_0.out | exact hpU b3_0.out _); clear hr hk; refine Hid.out ?_)
  refine Lib.hid ?_
  clear c3_0_0 c3_0_1 c3_0_2 z3_0
  have c4_0_0 : w4.cell? ⟨w.heap.size, 0, none⟩ = some (Value.int IntKind.i64 6) := (box_cell b4_0 0).trans rfl
  have c4_0_1 : w4.cell? ⟨w.heap.size, 1, none⟩ = some (Value.int IntKind.i64 n) := (box_cell b4_0 1).trans rfl
  have c4_0_2 : w4.cell? ⟨w.heap.size, 2, none⟩ = some (Value.slice a len c) := (box_cell b4_0 2).trans rfl
  replace b4_0 : Hid (_ = _) := b4_0
  have z4_0 : w.heap.size < w4.heap.size := World.block_lt_of_cell? w4 _ c4_0_0
  go_wp2_with (go_at_call 209; refine (CK1.out _ K4.out.1).mono ?_; rintro e w5 ⟨he, hb⟩; subst he; have R5 : Hid (Row B (bs ++ [105, 102, 40] ++ q0 ++ [44, 32]) v4 w5) := R4.out.up hb; have K5 : Hid (Keep B w w5) := K4.out.then R4.out.2 hb; have b5_0 : w5.heap[w.heap.size]? = some (.cells #[Value.int IntKind.i64 6, Value.int IntKind.i64 n, Value.slice a len c] 40) := hpB b4_0.out hb; clear hb; refine Hid.out ?_)
  refine Lib.hid ?_
  clear c4_0_0 c4_0_1 c4_0_2 z4_0
  have c5_0_0 : w5.cell? ⟨w.heap.size, 0, none⟩ = some (Value.int IntKind.i64 6) := (box_cell b5_0 0).trans rfl
  have c5_0_1 : w5.cell? ⟨w.heap.size, 1, none⟩ = some (Value.int IntKind.i64 n) := (box_cell b5_0 1).trans rfl
  have c5_0_2 : w5.cell? ⟨w.heap.size, 2, none⟩ = some (Value.slice a len c) := (box_cell b5_0 2).trans rfl
  replace b5_0 : Hid (_ = _) := b5_0
  have z5_0 : w.heap.size < w5.heap.size := World.block_lt_of_cell? w5 _ c5_0_0
  go_wp2_with (go_at_call 60; refine (CW1.out _ _ _ K5.out.1 R5.out L5.out).mono ?_; rintro e w6 ⟨v6, he, hr, hk⟩; subst he; have R6 : Hid (Row B (bs ++ [105, 102, 40] ++ q0 ++ [44, 32] ++ q1) v6 w6) := hr; have K6 : Hid (Keep B w w6) := (K5.out.then R5.out.2 (Below.refl _ _)).trans hk; have b6_0 : w6.heap[w.heap.size]? = some (.cells #[Value.int IntKind.i64 6, Value.int IntKind.i64 n, Value.slice a len c] 40) := hk.box (by first | exact hp1 _ _ | exact hpU (hp1 _ _) _ | exact hpU (hpU (hp1 _ _) _) _ | exact b5_0.out | exact hpU b5_0.out _); clear hr hk; refine Hid.out ?_)
  refine Lib.hid ?_
  clear c5_0_0 c5_0_1 c5_0_2 z5_0
  have c6_0_0 : w6.cell? ⟨w.heap.size, 0, none⟩ = some (Value.int IntKind.i64 6) := (box_cell b6_0 0).trans rfl
  have c6_0_1 : w6.cell? ⟨w.heap.size, 1, none⟩ = some (Value.int IntKind.i64 n) := (box_cell b6_0 1).trans rfl
  have c6_0_2 : w6.cell? ⟨w.heap.size, 2, none⟩ = some (Value.slice a len c) := (box_cell b6_0 2).trans rfl
  replace b6_0 : Hid (_ = _) := b6_0
  have z6_0 : w.heap.size < w6.heap.size := World.block_lt_of_cell? w6 _ c6_0_0
  go_wp2_with (at_builtin; refine wp_appS (B := B) (bs := bs ++ [105, 102, 40] ++ q0 ++ [44, 32] ++ q1) ⟨#[44, 32]⟩ rfl _ _ rfl rfl rfl (R6.out.up (Below.refl _ _)) L6.out ?_; intro v7 w7 hr hk; have R7 : Hid (Row B (bs ++ [105, 102, 40] ++ q0 ++ [44, 32] ++ q1 ++ [44, 32]) v7 w7) := hr; have K7 : Hid (Keep B w w7) := (K6.out.then R6.out.2 (Below.refl _ _)).trans hk; have b7_0 : w7.heap[w.heap.size]? = some (.cells #[Value.int IntKind.i64 6, Value.int IntKind.i64 n, Value.slice a len c] 40) := hk.box (by first | exact hp1 _ _ | exact hpU (hp1 _ _) _ | exact hpU (hpU (hp1 _ _) _) _ | exact b6_0.out | exact hpU b6_0.out _); clear hr hk; refine Hid.out ?_)
  refine Lib.hid ?_
  clear c6_0_0 c6_0_1 c6_0_2 z6_0
  have c7_0_0 : w7.cell? ⟨w.heap.size, 0, none⟩ = some (Value.int IntKind.i64 6) := (box_cell b7_0 0).trans rfl
  have c7_0_1 : w7.cell? ⟨w.heap.size, 1, none⟩ = some (Value.int IntKind.i64 n) := (box_cell b7_0 1).trans rfl
  have c7_0_2 : w7.cell? ⟨w.heap.size, 2, none⟩ = some (Value.slice a len c) := (box_cell b7_0 2).trans rfl
  replace b7_0 : Hid (_ = _) := b7_0
  have z7_0 : w.heap.size < w7.heap.size := World.block_lt_of_cell? w7 _ c7_0_0
  go_wp2_with (go_at_call 209; refine (CK2.out _ K7.out.1).mono ?_; rintro e w8 ⟨he, hb⟩; subst he; have R8 : Hid (Row B (bs ++ [105, 102, 40] ++ q0 ++ [44, 32] ++ q1 ++ [44, 32]) v7 w8) := R7.out.up hb; have K8 : Hid (Keep B w w8) := K7.out.then R7.out.2 hb; have b8_0 : w8.heap[w.heap.size]? = some (.cells #[Value.int IntKind.i64 6, Value.int IntKind.i64 n, Value.slice a len c] 40) := hpB b7_0.out hb; clear hb; refine Hid.out ?_)
  refine Lib.hid ?_
  clear c7_0_0 c7_0_1 c7_0_2 z7_0
  have c8_0_0 : w8.cell? ⟨w.heap.size, 0, none⟩ = some (Value.int IntKind.i64 6) := (box_cell b8_0 0).trans rfl
  have c8_0_1 : w8.cell? ⟨w.heap.size, 1, none⟩ = some (Value.int IntKind.i64 n) := (box_cell b8_0 1).trans rfl
  have c8_0_2 : w8.cell? ⟨w.heap.size, 2, none⟩ = some (Value.slice a len c) := (box_cell b8_0 2).trans rfl
  replace b8_0 : Hid (_ = _) := b8_0
  have z8_0 : w.heap.size < w8.heap.size := World.block_lt_of_cell? w8 _ c8_0_0
  go_wp2_with (go_at_call 60; refine (CW2.out _ _ _ K8.out.1 R8.out L8.out).mono ?_; rintro e w9 ⟨v9, he, hr, hk⟩; subst he; have R9 : Hid (Row B (bs ++ [105, 102, 40] ++ q0 ++ [44, 32] ++ q1 ++ [44, 32] ++ q2) v9 w9) := hr; have K9 : Hid (Keep B w w9) := (K8.out.then R8.out.2 (Below.refl _ _)).trans hk; have b9_0 : w9.heap[w.heap.size]? = some (.cells #[Value.int IntKind.i64 6, Value.int IntKind.i64 n, Value.slice a len c] 40) := hk.box (by first | exact hp1 _ _ | exact hpU (hp1 _ _) _ | exact hpU (hpU (hp1 _ _) _) _ | exact b8_0.out | exact hpU b8_0.out _); clear hr hk; refine Hid.out ?_)
  refine Lib.hid ?_
  clear c8_0_0 c8_0_1 c8_0_2 z8_0
  have c9_0_0 : w9.cell? ⟨w.heap.size, 0, none⟩ = some (Value.int IntKind.i64 6) := (box_cell b9_0 0).trans rfl
  have c9_0_1 : w9.cell? ⟨w.heap.size, 1, none⟩ = some (Value.int IntKind.i64 n) := (box_cell b9_0 1).trans rfl
  have c9_0_2 : w9.cell? ⟨w.heap.size, 2, none⟩ = some (Value.slice a len c) := (box_cell b9_0 2).trans rfl
  replace b9_0 : Hid (_ = _) := b9_0
  have z9_0 : w.heap.size < w9.heap.size := World.block_lt_of_cell? w9 _ c9_0_0
  go_wp2_with (at_builtin; refine wp_app1 (B := B) (bs := bs ++ [105, 102, 40] ++ q0 ++ [44, 32] ++ q1 ++ [44, 32] ++ q2) (z := 41) 41 rfl _ _ rfl rfl rfl rfl (R9.out.up (al1 _ _)) (by simp) L9.out ?_; intro v10 w10 hr hk; have R10 : Hid (Row B (bs ++ [105, 102, 40] ++ q0 ++ [44, 32] ++ q1 ++ [44, 32] ++ q2 ++ [41]) v10 w10) := hr; have K10 : Hid (Keep B w w10) := (K9.out.then R9.out.2 (al1 _ _)).trans hk; have b10_0 : w10.heap[w.heap.size]? = some (.cells #[Value.int IntKind.i64 6, Value.int IntKind.i64 n, Value.slice a len c] 40) := hk.box (by first | exact hp1 _ _ | exact hpU (hp1 _ _) _ | exact hpU (hpU (hp1 _ _) _) _ | exact b9_0.out | exact hpU b9_0.out _); clear hr hk; refine Hid.out ?_)
  refine Lib.hid ?_
  go_wp2_with fail
  go_ret
  exact ⟨_, rfl, R10.out, K10.out⟩
end Go.Proofs.YtjcanodnlnodpaaGreatDoor.Expr
