/- The document's own 'with' (a bag in which a member is so often): a contract of the call, over the turned program. -/
import Derived.Test.YtoinepmlbcnbgaaBagRef2
import Derived.Test.YtoinepmlbcnbgaaBagOf
namespace Go.Proofs.Ytoinepmlbcnbgaa.Bag
open Go.RowKit Go.Maps Go.Proofs.Ytoinepmlbcnbgaa.Frame
set_option linter.unusedVariables false

theorem own_slice {w : World} {base : Nat} {e : TypeId} {size : Nat} {v : Value} {n : Nat} {xs : List Value} (h : w.ownsRow base e size v n xs) : ∃ a c, v = .slice a n c := by
  rcases h.2 with ⟨h1, h2⟩ | ⟨g, c, cur, h1, _⟩
  · exact ⟨none, 0, by rw [h1, h2]⟩
  · exact ⟨_, c, h1⟩
/-- rows of the call's own, as far as they go -/
def Rw (w wr : World) (out : List Row) (a : Option Addr) (c : Nat) : Prop :=
  wr.ownsRow w.heap.size 39 2 (.slice a out.length c) out.length (cellsF out) ∧ Below w.heap.size w wr
theorem Rw.add {w wr w1 : World} {out : List Row} {a a' : Option Addr} {c c' : Nat} {x y : Int} {o : Obj} (h : Rw w wr out a c)
    (h1 : w1.ownsRow w.heap.size 39 2 (.slice a' (out.length + 1) c') (out.length + 1) (cellsF out ++ [.int .i64 x, .int .i64 y])) (hg : (wr.alloc o).grownBy w1 (Value.slice a out.length c).ownBlock) : Rw w w1 (out ++ [(x, y)]) a' c' := by
  refine ⟨by rw [List.length_append, cellsF_snoc]; exact h1, (h.2.alloc h.2.size o).grown hg (by simp; have := h.2.size; omega) (fun k hk => (h.1.lt k hk).1)⟩
/-- a bag that is answered, its rows known -/
def BagPost (w : World) (n : Nat) (rs : List Row) (e : Ending) (w' : World) : Prop := (∃ a l c, e = .returned (.slice a l c) ∧ Bags w' a l rs ∧ l ≤ n) ∧ Below w.heap.size w w'
def All64 (out : List Row) : Prop := ∀ r ∈ out, In64 r.1 ∧ In64 r.2
theorem All64.add {out : List Row} (h : All64 out) {x y : Int} (hx : In64 x) (hy : In64 y) : All64 (out ++ [(x, y)]) := fun r hr => by
  rcases List.mem_append.1 hr with hr | hr
  · exact h r hr
  · simp at hr; subst hr; exact ⟨hx, hy⟩
theorem All64.wf {out : List Row} (h : All64 out) : Wf out := fun i hi => h _ (getD_mem hi)
theorem Rw.bags {w wr : World} {out : List Row} {a : Option Addr} {c : Nat} (h : Rw w wr out a c) (h6 : All64 out) : Bags wr a out.length out := Own.bags (base := w.heap.size) (cap := c) ⟨⟨rfl, h6.wf⟩, h.1⟩

set_option maxHeartbeats 4000000 in
theorem with_any (a : Option Addr) (len cap : Nat) (rs : List Row) (m n : Int) (w : World) (h : Bags w a len rs) (hl : len ≤ 100000) (hm : In64 m) (hn : In64 n) :
    Calls Try.prog 37 #[.slice a len cap, .int .i64 m, .int .i64 n] w fun e w' => BagPost w (2 * len + 1) (withF rs m n) e w' := by
  obtain ⟨i0, hi, hz0, hz1, hz2⟩ := info_parts infoRow
  have hml : (1000000 : Nat) ≤ maxLen := by decide
  have HC : Hid (Bags w a len rs) := h
  have HL : Hid (rs.length = len) := h.1.1
  have IM : Hid (In64 m) := hm
  have IN : Hid (In64 n) := hn
  clear h hm hn
  go_enter Try.func37, Try.ntmps37
  go_wp2
  go_loopw [7, 8, 9] (fun v dv i wr => ∃ (k : Nat) (d : Bool) (out : List Row) (oa : Option Addr) (oc : Nat), k ≤ len ∧ i = .int .i64 k ∧ dv = .bool d ∧ v = .slice oa out.length oc ∧ out.length ≤ 2 * k ∧ Hid (Rw w wr out oa oc) ∧ Hid (out ++ tailF m n d (rs.drop k) = withF rs m n) ∧ Hid (All64 out)) (fun _ _ i _ => len - (intOf i).toNat)
  case atStart => exact ⟨0, false, [], none, 0, by omega, rfl, rfl, rfl, by simp, ⟨World.ownsRow_nil _ _ _ _, Below.refl _ _⟩, (rfl : _ = withF rs m n), fun r hr => by cases hr⟩
  case round =>
    obtain ⟨k, d, out, oa, oc, hk, rfl, rfl, rfl, ho, hO, hE, h6⟩ := hrel
    by_cases hlt : k < len
    · have hlt' : (k : Int) < len := by omega
      have hkl : k < rs.length := by rw [HL.out]; exact hlt
      obtain ⟨b, off, ha, hb0, hat⟩ := HC.out.row (k := k) hlt
      subst ha
      obtain ⟨u0, u1⟩ := hat k hkl
      have hI := HC.out.1.2 k hkl
      have hS := tail_step m n d rs k hkl
      obtain ⟨x, hx⟩ : ∃ x, x = rs.getD k zr := ⟨_, rfl⟩
      rw [← hx] at u0 u1 hI hS
      obtain ⟨x1, x2⟩ := x
      simp only at u0 u1 hI hS
      have I1 : Hid (In64 x1) := hI.1
      have I2 : Hid (In64 x2) := hI.2
      have S : Hid (tailF m n d (rs.drop k) = _) := hS
      clear hat hx hI hS hkl
      have c0 := (hO.out.2.cell (p := ⟨b, off + k * 2, none⟩) hb0).trans u0
      have c1 := (hO.out.2.cell (p := ⟨b, off + k * 2 + 1, none⟩) hb0).trans u1
      have hbl : b < wr.heap.size := Nat.lt_of_lt_of_le hb0 hO.out.2.size
      have hws := hO.out.2.size
      have U0 : Hid (w.cell? ⟨b, off + k * 2, none⟩ = _) := u0
      have U1 : Hid (w.cell? ⟨b, off + k * 2 + 1, none⟩ = _) := u1
      clear u0 u1
      cases d with
      | true =>
        by_cases hx : x1 = m
        · have hx' : (x1 != m) = false := by simp [hx]
          have E2 : Hid (out ++ tailF m n true (rs.drop (k + 1)) = withF rs m n) := (show _ = _ by
            rw [← hE.out, S.out]
            simp [hx])
          clear S
          go_wp2
          go_roundw
          case rel => exact ⟨k + 1, true, out, _, _, by omega, by go_num, rfl, rfl, by omega, hO, E2, h6⟩
          case measure => simp [intOf]; omega
        · have hx' : (x1 != m) = true := by simp [hx]
          have E2 : Hid (out ++ [(x1, x2)] ++ tailF m n true (rs.drop (k + 1)) = withF rs m n) := (show _ = _ by
            rw [← hE.out, S.out]
            simp [hx])
          clear S
          go_wp2_with (first
            | (at_builtin; refine wpList_append_own _ rfl _ _ 23 rfl w.heap.size 39 i0 (.agg #[.int .i64 0, .int .i64 0]) 2 16 Try.underlying23 hi hz0 hz1 hz2 rfl (by decide) _ _ _ rfl (hO.out.1.alloc _) ⟨_, 0, none⟩ 1 1 [.int .i64 x1, .int .i64 x2] rfl rfl (cells_two _ _ _ _) (by simp [Value.oneCell']) (by omega) (by omega) (by simp; omega) ?_; intro v1 w1 hown1 hg1 hnil1; obtain ⟨a1, q1, hv1⟩ := own_slice hown1; subst hv1; have A1 := hO.out.add hown1 hg1)
            | go_in)
          go_roundw
          case rel => exact ⟨k + 1, true, out ++ [(x1, x2)], _, _, by omega, by go_num, rfl, by simp, by simp; omega, A1, E2, h6.out.add I1.out I2.out⟩
          case measure => simp [intOf]; omega
      | false =>
        by_cases hle : m ≤ x1
        · by_cases hn0 : 0 < n
          · by_cases hx : x1 = m
            · have hx' : (x1 != m) = false := by simp [hx]
              have E2 : Hid (out ++ [(m, n)] ++ tailF m n true (rs.drop (k + 1)) = withF rs m n) := (show _ = _ by
                rw [← hE.out, S.out]
                simp [hx, hn0, insF])
              clear S
              go_wp2_with (first
                | (at_builtin; refine wpList_append_own _ rfl _ _ 23 rfl w.heap.size 39 i0 (.agg #[.int .i64 0, .int .i64 0]) 2 16 Try.underlying23 hi hz0 hz1 hz2 rfl (by decide) _ _ _ rfl (hO.out.1.alloc _) ⟨_, 0, none⟩ 1 1 [.int .i64 m, .int .i64 n] rfl rfl (cells_two _ _ _ _) (by simp [Value.oneCell']) (by omega) (by omega) (by simp; omega) ?_; intro v1 w1 hown1 hg1 hnil1; obtain ⟨a1, q1, hv1⟩ := own_slice hown1; subst hv1; have A1 := hO.out.add hown1 hg1; have e0 := (A1.2.cell (p := ⟨b, off + k * 2, none⟩) hb0).trans U0.out; have hbl1 : b < w1.heap.size := Nat.lt_of_lt_of_le hb0 A1.2.size)
                | go_in)
              go_roundw
              case rel => exact ⟨k + 1, true, out ++ [(m, n)], _, _, by omega, by go_num, rfl, by simp, by simp; omega, A1, E2, h6.out.add IM.out IN.out⟩
              case measure => simp [intOf]; omega
            · have hx' : (x1 != m) = true := by simp [hx]
              have E2 : Hid (out ++ [(m, n)] ++ [(x1, x2)] ++ tailF m n true (rs.drop (k + 1)) = withF rs m n) := (show _ = _ by
                rw [← hE.out, S.out]
                simp [hx, hle, hn0, insF])
              clear S
              go_wp2_with (first
                | (at_builtin; refine wpList_append_own _ rfl _ _ 23 rfl w.heap.size 39 i0 (.agg #[.int .i64 0, .int .i64 0]) 2 16 Try.underlying23 hi hz0 hz1 hz2 rfl (by decide) _ _ _ rfl (hO.out.1.alloc _) ⟨_, 0, none⟩ 1 1 [.int .i64 m, .int .i64 n] rfl rfl (cells_two _ _ _ _) (by simp [Value.oneCell']) (by omega) (by omega) (by simp; omega) ?_; intro v1 w1 hown1 hg1 hnil1; obtain ⟨a1, q1, hv1⟩ := own_slice hown1; subst hv1; have A1 := hO.out.add hown1 hg1; have e0 := (A1.2.cell (p := ⟨b, off + k * 2, none⟩) hb0).trans U0.out; have e1 := (A1.2.cell (p := ⟨b, off + k * 2 + 1, none⟩) hb0).trans U1.out; have hbl1 : b < w1.heap.size := Nat.lt_of_lt_of_le hb0 A1.2.size; have hws1 := A1.2.size)
                | (at_builtin; refine wpList_append_own _ rfl _ _ 23 rfl w.heap.size 39 i0 (.agg #[.int .i64 0, .int .i64 0]) 2 16 Try.underlying23 hi hz0 hz1 hz2 rfl (by decide) _ _ _ rfl (hown1.alloc _) ⟨_, 0, none⟩ 1 1 [.int .i64 x1, .int .i64 x2] rfl rfl (cells_two _ _ _ _) (by simp [Value.oneCell']) (by omega) (by omega) (by simp; omega) ?_; intro v2 w2 hown2 hg2 hnil2; obtain ⟨a2, q2, hv2⟩ := own_slice hown2; subst hv2)
                | go_in)
              have A2 := A1.add (x := x1) (y := x2) (by rw [List.length_append]; simpa [cellsF_snoc] using hown2) (o := .cells #[.int .i64 x1, .int .i64 x2] 39) (by rw [List.length_append]; exact hg2)
              go_roundw
              case rel => exact ⟨k + 1, true, out ++ [(m, n)] ++ [(x1, x2)], _, _, by omega, by go_num, rfl, by simp, by simp; omega, A2, E2, (h6.out.add IM.out IN.out).add I1.out I2.out⟩
              case measure => simp [intOf]; omega
          · by_cases hx : x1 = m
            · have hx' : (x1 != m) = false := by simp [hx]
              have E2 : Hid (out ++ tailF m n true (rs.drop (k + 1)) = withF rs m n) := (show _ = _ by
                rw [← hE.out, S.out]
                simp [hx, hn0, insF])
              clear S
              go_wp2
              go_roundw
              case rel => exact ⟨k + 1, true, out, _, _, by omega, by go_num, rfl, rfl, by omega, hO, E2, h6⟩
              case measure => simp [intOf]; omega
            · have hx' : (x1 != m) = true := by simp [hx]
              have E2 : Hid (out ++ [(x1, x2)] ++ tailF m n true (rs.drop (k + 1)) = withF rs m n) := (show _ = _ by
                rw [← hE.out, S.out]
                simp [hx, hle, hn0, insF])
              clear S
              go_wp2_with (first
                | (at_builtin; refine wpList_append_own _ rfl _ _ 23 rfl w.heap.size 39 i0 (.agg #[.int .i64 0, .int .i64 0]) 2 16 Try.underlying23 hi hz0 hz1 hz2 rfl (by decide) _ _ _ rfl (hO.out.1.alloc _) ⟨_, 0, none⟩ 1 1 [.int .i64 x1, .int .i64 x2] rfl rfl (cells_two _ _ _ _) (by simp [Value.oneCell']) (by omega) (by omega) (by simp; omega) ?_; intro v1 w1 hown1 hg1 hnil1; obtain ⟨a1, q1, hv1⟩ := own_slice hown1; subst hv1; have A1 := hO.out.add hown1 hg1)
                | go_in)
              go_roundw
              case rel => exact ⟨k + 1, true, out ++ [(x1, x2)], _, _, by omega, by go_num, rfl, by simp, by simp; omega, A1, E2, h6.out.add I1.out I2.out⟩
              case measure => simp [intOf]; omega
        · have hx : ¬ x1 = m := by omega
          have hx' : (x1 != m) = true := by simp [hx]
          have E2 : Hid (out ++ [(x1, x2)] ++ tailF m n false (rs.drop (k + 1)) = withF rs m n) := (show _ = _ by
            rw [← hE.out, S.out]
            simp [hx, hle])
          clear S
          go_wp2_with (first
            | (at_builtin; refine wpList_append_own _ rfl _ _ 23 rfl w.heap.size 39 i0 (.agg #[.int .i64 0, .int .i64 0]) 2 16 Try.underlying23 hi hz0 hz1 hz2 rfl (by decide) _ _ _ rfl (hO.out.1.alloc _) ⟨_, 0, none⟩ 1 1 [.int .i64 x1, .int .i64 x2] rfl rfl (cells_two _ _ _ _) (by simp [Value.oneCell']) (by omega) (by omega) (by simp; omega) ?_; intro v1 w1 hown1 hg1 hnil1; obtain ⟨a1, q1, hv1⟩ := own_slice hown1; subst hv1; have A1 := hO.out.add hown1 hg1)
            | go_in)
          go_roundw
          case rel => exact ⟨k + 1, false, out ++ [(x1, x2)], _, _, by omega, by go_num, rfl, by simp, by simp; omega, A1, E2, h6.out.add I1.out I2.out⟩
          case measure => simp [intOf]; omega
    · have hlt' : ¬ (k : Int) < len := by omega
      have hD : rs.drop k = [] := List.drop_of_length_le (by rw [HL.out]; omega)
      have E := hE.out
      rw [hD] at E
      clear hD hE
      have hws := hO.out.2.size
      cases d with
      | true =>
        have E2 : Hid (out = withF rs m n) := (show _ = _ by rw [← E]; simp [tailF])
        clear E
        go_wp2
        go_ret
        exact ⟨⟨_, _, _, rfl, by rw [← E2.out]; exact hO.out.bags h6.out, by omega⟩, hO.out.2⟩
      | false =>
        by_cases hn0 : 0 < n
        · have E2 : Hid (out ++ [(m, n)] = withF rs m n) := (show _ = _ by rw [← E]; simp [tailF, insF, hn0])
          clear E
          go_wp2_with (first
            | (at_builtin; refine wpList_append_own _ rfl _ _ 23 rfl w.heap.size 39 i0 (.agg #[.int .i64 0, .int .i64 0]) 2 16 Try.underlying23 hi hz0 hz1 hz2 rfl (by decide) _ _ _ rfl (hO.out.1.alloc _) ⟨_, 0, none⟩ 1 1 [.int .i64 m, .int .i64 n] rfl rfl (cells_two _ _ _ _) (by simp [Value.oneCell']) (by omega) (by omega) (by simp; omega) ?_; intro v1 w1 hown1 hg1 hnil1; obtain ⟨a1, q1, hv1⟩ := own_slice hown1; subst hv1; have A1 := hO.out.add hown1 hg1)
            | go_in)
          go_ret
          exact ⟨⟨_, _, _, rfl, by rw [← E2.out]; have := A1.bags (h6.out.add IM.out IN.out); rwa [List.length_append] at this, by omega⟩, A1.2⟩
        · have E2 : Hid (out = withF rs m n) := (show _ = _ by rw [← E]; simp [tailF, insF, hn0])
          clear E
          go_wp2
          go_ret
          exact ⟨⟨_, _, _, rfl, by rw [← E2.out]; exact hO.out.bags h6.out, by omega⟩, hO.out.2⟩
end Go.Proofs.Ytoinepmlbcnbgaa.Bag
