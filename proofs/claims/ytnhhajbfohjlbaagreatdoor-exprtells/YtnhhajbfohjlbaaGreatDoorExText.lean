/- How expressions are written: in plain Lean; and the small writers of package expr. -/
import Derived.Test.YtnhhajbfohjlbaaGreatDoorExRow
import Derived.Test.YtnhhajbfohjlbaaGreatDoorCalcSign
import Derived.Deep.RegionHeld3
import Derived.Deep.QuietTactic
import Derived.BigQuiet
namespace Go.Proofs.YtnhhajbfohjlbaaGreatDoor.Expr
open Go.RowKit Go.Proofs.YtnhhajbfohjlbaaGreatDoor.Frame Go.Proofs.YtnhhajbfohjlbaaGreatDoor.Calc
set_option linter.unusedVariables false
set_option linter.unusedSimpArgs false

/-- in brackets, or not -/
def br (b : Bool) (l : List UInt8) : List UInt8 := if b then 40 :: (l ++ [41]) else l
def isBin (x : Ex) : Bool := decide (x.kind = 5)
def textN (names : List ByteArray) (k n : Int) (ks : List Ex) (l : List (List UInt8)) : List UInt8 :=
  if k = 1 then br (decide (n < 0)) (Lib.itoa n)
  else if k = 2 then (if n < 0 ∨ (names.length : Int) ≤ n then [63] else (names.getD n.toNat ByteArray.empty).data.toList)
  else if k = 3 then 45 :: br (isBin (ks.getD 0 nilEx)) (l.getD 0 [63])
  else if k = 4 then 33 :: br (isBin (ks.getD 0 nilEx)) (l.getD 0 [63])
  else if k = 5 then br (isBin (ks.getD 0 nilEx) && decide (strengthF (ks.getD 0 nilEx).num < strengthF n)) (l.getD 0 [63]) ++ [32] ++ (signF n).data.toList ++ [32] ++ br (isBin (ks.getD 1 nilEx) && decide (strengthF (ks.getD 1 nilEx).num ≤ strengthF n)) (l.getD 1 [63])
  else if k = 6 then [105, 102, 40] ++ l.getD 0 [63] ++ [44, 32] ++ l.getD 1 [63] ++ [44, 32] ++ l.getD 2 [63] ++ [41]
  else [63]
def textF (names : List ByteArray) : Ex → List UInt8 := fold (textN names)
theorem text_eq (names : List ByteArray) (k n : Int) (ks : List Ex) : textF names ⟨k, n, ks⟩ = textN names k n ks (ks.map (textF names)) := fold_eq ..
theorem text_nil (names : List ByteArray) : textF names nilEx = [63] := text_eq names 0 0 []
theorem text_kid (names : List ByteArray) (ks : List Ex) (i : Nat) : (ks.map (textF names)).getD i [63] = textF names (ks.getD i nilEx) := by
  by_cases h : i < ks.length
  · rw [List.getD_eq_getElem?_getD, List.getElem?_map, List.getD_eq_getElem?_getD, List.getElem?_eq_getElem h]; rfl
  · rw [List.getD_eq_getElem?_getD, List.getElem?_eq_none (by simpa using h), List.getD_eq_getElem?_getD, List.getElem?_eq_none (by omega)]; exact (text_nil names).symm

/-- the kid i, wherever it lies -/
theorem kid_at {B : Nat} {w : World} {k n : Int} {ks : List Ex} {a : Option Addr} (h : XG (fun b _ => b < B) w ⟨k, n, ks⟩ a) (i : Nat) : ∃ ai ci, XG (fun b _ => b < B) w (ks.getD i nilEx) ai ∧
    (ks.length ≤ i ∧ ks.getD i nilEx = nilEx ∧ ai = none ∧ ci = 0 ∨ i < ks.length ∧ ∃ b off, a = some ⟨b, off, none⟩ ∧ b < B ∧ b < w.heap.size ∧ w.cell? ⟨b, off + i * 3, none⟩ = some (.int .i64 (ks.getD i nilEx).kind) ∧ w.cell? ⟨b, off + i * 3 + 1, none⟩ = some (.int .i64 (ks.getD i nilEx).num) ∧ w.cell? ⟨b, off + i * 3 + 2, none⟩ = some (.slice ai (ks.getD i nilEx).kids.length ci)) := by
  by_cases hi : i < ks.length
  · obtain ⟨b, off, x, ai, ci, ha, hbl, hok, hm, he, c0, c1, c2, hx⟩ := kid_lt h hi
    subst he
    exact ⟨ai, ci, hx, .inr ⟨hi, b, off, ha, hok, hbl, c0, c1, c2⟩⟩
  · have e : ks.getD i nilEx = nilEx := by rw [List.getD_eq_getElem?_getD, List.getElem?_eq_none (by omega)]; rfl
    refine ⟨none, 0, ?_, .inl ⟨by omega, e, rfl, rfl⟩⟩
    rw [e]
    exact (xg_eq _ _ _ _ _ _).2 ⟨⟨⟨by decide, by decide⟩, by decide, by decide⟩, .inl rfl⟩

set_option maxHeartbeats 1000000 in
theorem kidAt_exact (B : Nat) (w : World) (k n : Int) (ks : List Ex) (a : Option Addr) (c i : Nat) (h : XG (fun b _ => b < B) w ⟨k, n, ks⟩ a) (hl : ks.length ≤ 1000000) (hi : i ≤ 3) : ∃ ai ci, XG (fun b _ => b < B) w (ks.getD i nilEx) ai ∧
    ∀ wx, Below B w wx → Calls Tryz.prog 72 #[.agg #[.int .i64 k, .int .i64 n, .slice a ks.length c], .int .i64 i] wx fun e w' => e = .returned (.agg #[.int .i64 (ks.getD i nilEx).kind, .int .i64 (ks.getD i nilEx).num, .slice ai (ks.getD i nilEx).kids.length ci]) ∧ w' = (wx.alloc (.cells #[.int .i64 k, .int .i64 n, .slice a ks.length c] 24)).alloc (.cells #[.int .i64 (ks.getD i nilEx).kind, .int .i64 (ks.getD i nilEx).num, .slice ai (ks.getD i nilEx).kids.length ci] 24) := by
  obtain ⟨ai, ci, hx, hc⟩ := kid_at h i
  refine ⟨ai, ci, hx, fun wx hb => ?_⟩
  rcases hc with ⟨h1, h2, rfl, rfl⟩ | ⟨h1, b, off, rfl, hB, hbl, c0, c1, c2⟩
  · rw [h2]
    generalize ks.length = len at *
    clear h hx h2 hb
    have h1' : (len : Int) ≤ i := by omega
    go_enter Tryz.func72, Tryz.ntmps72
    go_wp2
    refine bodyPost_ret (v := .agg #[.int .i64 0, .int .i64 0, .slice none 0 0]) ?_ rfl ⟨rfl, ?_⟩
    · simp [results, Tryz.results72, go_sem]
    · rfl
  · have d0 := (hb.cell (p := ⟨b, off + i * 3, none⟩) hB).trans c0
    have d1 := (hb.cell (p := ⟨b, off + i * 3 + 1, none⟩) hB).trans c1
    have d2 := (hb.cell (p := ⟨b, off + i * 3 + 2, none⟩) hB).trans c2
    have hbx : b < wx.heap.size := Nat.lt_of_lt_of_le hbl hb.size
    generalize ks.getD i nilEx = x at *
    generalize ks.length = len at *
    clear h hx c0 c1 c2 hb
    have h1' : (i : Int) < len := by omega
    go_enter Tryz.func72, Tryz.ntmps72
    go_wp2
    refine bodyPost_ret (v := .agg #[.int .i64 x.kind, .int .i64 x.num, .slice ai x.kids.length ci]) ?_ rfl ⟨rfl, ?_⟩
    · simp [results, Tryz.results72, go_sem]
    · rfl

theorem kidAt_any (B : Nat) (w : World) (k n : Int) (ks : List Ex) (a : Option Addr) (c i : Nat) (h : XG (fun b _ => b < B) w ⟨k, n, ks⟩ a) (hl : ks.length ≤ 1000000) (hi : i ≤ 3) : ∃ ai ci, XG (fun b _ => b < B) w (ks.getD i nilEx) ai ∧
    ∀ wx, Below B w wx → Calls Tryz.prog 72 #[.agg #[.int .i64 k, .int .i64 n, .slice a ks.length c], .int .i64 i] wx fun e w' => e = .returned (.agg #[.int .i64 (ks.getD i nilEx).kind, .int .i64 (ks.getD i nilEx).num, .slice ai (ks.getD i nilEx).kids.length ci]) ∧ Below wx.heap.size wx w' := by
  obtain ⟨ai, ci, hx, hk⟩ := kidAt_exact B w k n ks a c i h hl hi
  refine ⟨ai, ci, hx, fun wx hb => (hk wx hb).mono ?_⟩
  rintro e w' ⟨he, hw⟩
  subst hw
  exact ⟨he, ((Below.refl _ _).alloc (Nat.le_refl _) _).alloc (by simp) _⟩

set_option maxHeartbeats 1000000 in
theorem tunknown_any (B : Nat) (bs : List UInt8) (u v : Value) (k n : Int) (a : Option Addr) (len c : Nat) (w : World) (hr : Row B bs v w) (hl : bs.length + 1 ≤ 1000000) :
    Calls Tryz.prog 52 #[u, v, .agg #[.int .i64 k, .int .i64 n, .slice a len c]] w (TPost B (bs ++ [63]) w) := by
  have HR : Hid (Row B bs v w) := hr
  clear hr
  go_enter Tryz.func52, Tryz.ntmps52
  go_wp2_with (at_builtin; refine wp_app1 (B := B) (bs := bs) (z := 63) 63 rfl _ _ rfl rfl rfl rfl (HR.out.up (((Below.refl _ _).alloc (Nat.le_refl _) _).alloc (by simp) _)) (by simp) (by omega) ?_; intro v' w' hr' hk'; have R1 : Hid (Row B (bs ++ [63]) v' w') := hr'; have K1 : Hid (Keep B w w') := (Keep.of HR.out.2 (((Below.refl _ _).alloc (Nat.le_refl _) _).alloc (by simp) _)).trans hk'; clear hr' hk')
  go_ret
  exact ⟨_, rfl, R1.out, K1.out⟩

theorem names_at {B : Nat} {na : Option Addr} {names : List ByteArray} {w : World} (h : Env B na names w) {i : Nat} (hi : i < names.length) : ∃ b off, na = some ⟨b, off, none⟩ ∧ b < B ∧ b < w.heap.size ∧ w.cell? ⟨b, off + i, none⟩ = some (.string (names.getD i ByteArray.empty)) := by
  rcases h.1 with h0 | ⟨b, off, ha, hB, hc⟩
  · omega
  · exact ⟨b, off, ha, hB, World.block_lt_of_cell? w _ (hc i hi), hc i hi⟩

set_option maxRecDepth 100000 in
set_option maxHeartbeats 1000000 in
theorem tvariable_any (B : Nat) (bs : List UInt8) (na : Option Addr) (names : List ByteArray) (v : Value) (n : Int) (a : Option Addr) (len nlen nc c : Nat) (w : World) (hnl : nlen = names.length) (hE : Env B na names w) (hr : Row B bs v w) (hl : bs.length + (textF names ⟨2, n, []⟩).length ≤ 1000000) :
    Calls Tryz.prog 47 #[.slice na nlen nc, v, .agg #[.int .i64 2, .int .i64 n, .slice a len c]] w (TPost B (bs ++ textF names ⟨2, n, []⟩) w) := by
  have HR : Hid (Row B bs v w) := hr
  clear hr
  by_cases h0 : n < 0 ∨ (names.length : Int) ≤ n
  · have e : textF names ⟨2, n, []⟩ = [63] := by rw [text_eq]; simp [textN, h0]
    rw [e] at hl ⊢
    rw [← hnl] at h0
    simp at hl
    by_cases h1 : n < 0
    · clear hE h0
      go_enter Tryz.func47, Tryz.ntmps47
      go_wp2_with (at_builtin; refine wp_app1 (B := B) (bs := bs) (z := 63) 63 rfl _ _ rfl rfl rfl rfl (HR.out.up (((Below.refl _ _).alloc (Nat.le_refl _) _).alloc (by simp) _)) (by simp) (by omega) ?_; intro v' w' hr' hk'; have R1 : Hid (Row B (bs ++ [63]) v' w') := hr'; have K1 : Hid (Keep B w w') := (Keep.of HR.out.2 (((Below.refl _ _).alloc (Nat.le_refl _) _).alloc (by simp) _)).trans hk'; clear hr' hk')
      go_ret
      exact ⟨_, rfl, R1.out, K1.out⟩
    · have h2 : (nlen : Int) ≤ n := by omega
      clear hE h0
      go_enter Tryz.func47, Tryz.ntmps47
      go_wp2_with (at_builtin; refine wp_app1 (B := B) (bs := bs) (z := 63) 63 rfl _ _ rfl rfl rfl rfl (HR.out.up (((Below.refl _ _).alloc (Nat.le_refl _) _).alloc (by simp) _)) (by simp) (by omega) ?_; intro v' w' hr' hk'; have R1 : Hid (Row B (bs ++ [63]) v' w') := hr'; have K1 : Hid (Keep B w w') := (Keep.of HR.out.2 (((Below.refl _ _).alloc (Nat.le_refl _) _).alloc (by simp) _)).trans hk'; clear hr' hk')
      go_ret
      exact ⟨_, rfl, R1.out, K1.out⟩
  · obtain ⟨m, rfl⟩ := Int.eq_ofNat_of_zero_le (show 0 ≤ n by omega)
    have hm : m < names.length := by omega
    obtain ⟨b, off, rfl, hB, hbl, hc⟩ := names_at hE hm
    generalize hs : names.getD m ByteArray.empty = s at hc
    have e : textF names ⟨2, m, []⟩ = s.data.toList := by rw [text_eq]; simp only [textN]; rw [if_neg (by decide), if_pos trivial, if_neg h0, Int.toNat_natCast, hs]
    rw [e] at hl ⊢
    have hm' : (m : Int) < nlen := by omega
    clear hE h0 hs e
    have HLs : Hid (bs.length + s.data.toList.length ≤ 1000000) := hl
    clear hl
    go_enter Tryz.func47, Tryz.ntmps47
    go_wp2_with (at_builtin; refine wp_appS (B := B) (bs := bs) s rfl _ _ rfl rfl rfl (HR.out.up ((Below.refl _ _).alloc (Nat.le_refl _) _)) (Nat.le_trans HLs.out (by decide)) ?_; intro v' w' hr' hk'; have R1 : Hid (Row B (bs ++ s.data.toList) v' w') := hr'; have K1 : Hid (Keep B w w') := (Keep.of HR.out.2 ((Below.refl _ _).alloc (Nat.le_refl _) _)).trans hk'; clear hr' hk')
    go_ret
    exact ⟨_, rfl, R1.out, K1.out⟩
end Go.Proofs.YtnhhajbfohjlbaaGreatDoor.Expr
