/- Contracts and plain mathematics, together: BagWith, BagROf. -/
import Derived.Test.YtnjpblmplneojaaGreatDoorMaL
import Derived.Test.YtnjpblmplneojaaGreatDoorMaN
import Derived.Test.YtnjpblmplneojaaGreatDoorRows2
/- The document's own 'with' (a bag in which a member is so often): a contract of the call, over the turned program. -/
namespace Go.Proofs.YtnjpblmplneojaaGreatDoor.Bag
open Go.RowKit Go.Maps Go.Proofs.YtnjpblmplneojaaGreatDoor.Frame
set_option linter.unusedVariables false

theorem own_slice {w : World} {base : Nat} {e : TypeId} {size : Nat} {v : Value} {n : Nat} {xs : List Value} (h : w.ownsRow base e size v n xs) : ∃ a c, v = .slice a n c := by
  rcases h.2 with ⟨h1, h2⟩ | ⟨g, c, cur, h1, _⟩
  · exact ⟨none, 0, by rw [h1, h2]⟩
  · exact ⟨_, c, h1⟩
/-- rows of the call's own, as far as they go -/
def Rw (w wr : World) (out : List Row) (a : Option Addr) (c : Nat) : Prop :=
  wr.ownsRow w.heap.size 56 2 (.slice a out.length c) out.length (cellsF out) ∧ Below w.heap.size w wr
theorem Rw.add {w wr w1 : World} {out : List Row} {a a' : Option Addr} {c c' : Nat} {x y : Int} {o : Obj} (h : Rw w wr out a c)
    (h1 : w1.ownsRow w.heap.size 56 2 (.slice a' (out.length + 1) c') (out.length + 1) (cellsF out ++ [.int .i64 x, .int .i64 y])) (hg : (wr.alloc o).grownBy w1 (Value.slice a out.length c).ownBlock) : Rw w w1 (out ++ [(x, y)]) a' c' := by
  refine ⟨by rw [List.length_append, cellsF_snoc]; exact h1, (h.2.alloc h.2.size o).grown hg (by simp; have := h.2.size; omega) (fun k hk => (h.1.lt k hk).1)⟩
/-- a bag that is answered, its rows known -/
def BagPost (w : World) (n : Nat) (rs : List Row) (e : Ending) (w' : World) : Prop := (∃ a l c, e = .returned (.slice a l c) ∧ Bags w' a l rs ∧ l ≤ n) ∧ Below w.heap.size w w'
def All64 (out : List Row) : Prop := ∀ r ∈ out, In64 r.1 ∧ In64 r.2
theorem All64.add {out : List Row} (h : All64 out) {x y : Int} (hx : In64 x) (hy : In64 y) : All64 (out ++ [(x, y)]) := fun r hr => by
  rcases List.mem_append.1 hr with hr | hr
  · exact h r hr
  · simp at hr; subst hr; exact ⟨hx, hy⟩
theorem All64.wf {out : List Row} (h : All64 out) : Wf out := fun i hi => h _ (getD_mem hi)
theorem Rw.bags {w wr : World} {out : List Row} {a : Option Addr} {c : Nat} (h : Rw w wr out a c) (h6 : All64 out) : Bags wr a out.length out := Own.bags (base := w.heap.size) (cap := c) ⟨⟨rfl, h6.wf⟩, h.1⟩

set_option maxHeartbeats 4000000 in
theorem with_any (a : Option Addr) (len cap : Nat) (rs : List Row) (m n : Int) (w : World) (h : Bags w a len rs) (hl : len ≤ 100000) (hm : In64 m) (hn : In64 n) :
    Calls Tryz.prog 80 #[.slice a len cap, .int .i64 m, .int .i64 n] w fun e w' => BagPost w (2 * len + 1) (withF rs m n) e w' := by
  obtain ⟨i0, hi, hz0, hz1, hz2⟩ := info_parts infoRow
  have hml : (1000000 : Nat) ≤ maxLen := by decide
  have HC : Hid (Bags w a len rs) := h
  have HL : Hid (rs.length = len) := h.1.1
  have IM : Hid (In64 m) := hm
  have IN : Hid (In64 n) := hn
  clear h hm hn
  go_enter Tryz.func80, Tryz.ntmps80
  go_wp2
  go_loopw [7, 8, 9] (fun v dv i wr => ∃ (k : Nat) (d : Bool) (out : List Row) (oa : Option Addr) (oc : Nat), k ≤ len ∧ i = .int .i64 k ∧ dv = .bool d ∧ v = .slice oa out.length oc ∧ out.length ≤ 2 * k ∧ Hid (Rw w wr out oa oc) ∧ Hid (out ++ tailF m n d (rs.drop k) = withF rs m n) ∧ Hid (All64 out)) (fun _ _ i _ => len - (intOf i).toNat)
  case atStart => exact ⟨0, false, [], none, 0, by omega, rfl, rfl, rfl, by simp, ⟨World.ownsRow_nil _ _ _ _, Below.refl _ _⟩, (rfl : _ = withF rs m n), fun r hr => by cases hr⟩
  case round =>
    obtain ⟨k, d, out, oa, oc, hk, rfl, rfl, rfl, ho, hO, hE, h6⟩ := hrel
    by_cases hlt : k < len
    · have hlt' : (k : Int) < len := by omega
      have hkl : k < rs.length := by rw [HL.out]; exact hlt
      obtain ⟨b, off, ha, hb0, hat⟩ := HC.out.row (k := k) hlt
      subst ha
      obtain ⟨u0, u1⟩ := hat k hkl
      have hI := HC.out.1.2 k hkl
      have hS := tail_step m n d rs k hkl
      obtain ⟨x, hx⟩ : ∃ x, x = rs.getD k zr := ⟨_, rfl⟩
      rw [← hx] at u0 u1 hI hS
      obtain ⟨x1, x2⟩ := x
      simp only at u0 u1 hI hS
      have I1 : Hid (In64 x1) := hI.1
      have I2 : Hid (In64 x2) := hI.2
      have S : Hid (tailF m n d (rs.drop k) = _) := hS
      clear hat hx hI hS hkl
      have c0 := (hO.out.2.cell (p := ⟨b, off + k * 2, none⟩) hb0).trans u0
      have c1 := (hO.out.2.cell (p := ⟨b, off + k * 2 + 1, none⟩) hb0).trans u1
      have hbl : b < wr.heap.size := Nat.lt_of_lt_of_le hb0 hO.out.2.size
      have hws := hO.out.2.size
      have U0 : Hid (w.cell? ⟨b, off + k * 2, none⟩ = _) := u0
      have U1 : Hid (w.cell? ⟨b, off + k * 2 + 1, none⟩ = _) := u1
      clear u0 u1
      cases d with
      | true =>
        by_cases hx : x1 = m
        · have hx' : (x1 != m) = false := by simp [hx]
          have E2 : Hid (out ++ tailF m n true (rs.drop (k + 1)) = withF rs m n) := (show _ = _ by
            rw [← hE.out, S.out]
            simp [hx])
          clear S
          go_wp2
          go_roundw
          case rel => exact ⟨k + 1, true, out, _, _, by omega, by go_num, rfl, rfl, by omega, hO, E2, h6⟩
          case measure => simp [intOf]; omega
        · have hx' : (x1 != m) = true := by simp [hx]
          have E2 : Hid (out ++ [(x1, x2)] ++ tailF m n true (rs.drop (k + 1)) = withF rs m n) := (show _ = _ by
            rw [← hE.out, S.out]
            simp [hx])
          clear S
          go_wp2_with (first
            | (at_builtin; refine wpList_append_own _ rfl _ _ 36 rfl w.heap.size 56 i0 (.agg #[.int .i64 0, .int .i64 0]) 2 16 Tryz.underlying36 hi hz0 hz1 hz2 rfl (by decide) _ _ _ rfl (hO.out.1.alloc _) ⟨_, 0, none⟩ 1 1 [.int .i64 x1, .int .i64 x2] rfl rfl (cells_two _ _ _ _) (by simp [Value.oneCell']) (by omega) (by omega) (by simp; omega) ?_; intro v1 w1 hown1 hg1 hnil1; obtain ⟨a1, q1, hv1⟩ := own_slice hown1; subst hv1; have A1 := hO.out.add hown1 hg1)
            | go_in)
          go_roundw
          case rel => exact ⟨k + 1, true, out ++ [(x1, x2)], _, _, by omega, by go_num, rfl, by simp, by simp; omega, A1, E2, h6.out.add I1.out I2.out⟩
          case measure => simp [intOf]; omega
      | false =>
        by_cases hle : m ≤ x1
        · by_cases hn0 : 0 < n
          · by_cases hx : x1 = m
            · have hx' : (x1 != m) = false := by simp [hx]
              have E2 : Hid (out ++ [(m, n)] ++ tailF m n true (rs.drop (k + 1)) = withF rs m n) := (show _ = _ by
                rw [← hE.out, S.out]
                simp [hx, hn0, insF])
              clear S
              go_wp2_with (first
                | (at_builtin; refine wpList_append_own _ rfl _ _ 36 rfl w.heap.size 56 i0 (.agg #[.int .i64 0, .int .i64 0]) 2 16 Tryz.underlying36 hi hz0 hz1 hz2 rfl (by decide) _ _ _ rfl (hO.out.1.alloc _) ⟨_, 0, none⟩ 1 1 [.int .i64 m, .int .i64 n] rfl rfl (cells_two _ _ _ _) (by simp [Value.oneCell']) (by omega) (by omega) (by simp; omega) ?_; intro v1 w1 hown1 hg1 hnil1; obtain ⟨a1, q1, hv1⟩ := own_slice hown1; subst hv1; have A1 := hO.out.add hown1 hg1; have e0 := (A1.2.cell (p := ⟨b, off + k * 2, none⟩) hb0).trans U0.out; have hbl1 : b < w1.heap.size := Nat.lt_of_lt_of_le hb0 A1.2.size)
                | go_in)
              go_roundw
              case rel => exact ⟨k + 1, true, out ++ [(m, n)], _, _, by omega, by go_num, rfl, by simp, by simp; omega, A1, E2, h6.out.add IM.out IN.out⟩
              case measure => simp [intOf]; omega
            · have hx' : (x1 != m) = true := by simp [hx]
              have E2 : Hid (out ++ [(m, n)] ++ [(x1, x2)] ++ tailF m n true (rs.drop (k + 1)) = withF rs m n) := (show _ = _ by
                rw [← hE.out, S.out]
                simp [hx, hle, hn0, insF])
              clear S
              go_wp2_with (first
                | (at_builtin; refine wpList_append_own _ rfl _ _ 36 rfl w.heap.size 56 i0 (.agg #[.int .i64 0, .int .i64 0]) 2 16 Tryz.underlying36 hi hz0 hz1 hz2 rfl (by decide) _ _ _ rfl (hO.out.1.alloc _) ⟨_, 0, none⟩ 1 1 [.int .i64 m, .int .i64 n] rfl rfl (cells_two _ _ _ _) (by simp [Value.oneCell']) (by omega) (by omega) (by simp; omega) ?_; intro v1 w1 hown1 hg1 hnil1; obtain ⟨a1, q1, hv1⟩ := own_slice hown1; subst hv1; have A1 := hO.out.add hown1 hg1; have e0 := (A1.2.cell (p := ⟨b, off + k * 2, none⟩) hb0).trans U0.out; have e1 := (A1.2.cell (p := ⟨b, off + k * 2 + 1, none⟩) hb0).trans U1.out; have hbl1 : b < w1.heap.size := Nat.lt_of_lt_of_le hb0 A1.2.size; have hws1 := A1.2.size)
                | (at_builtin; refine wpList_append_own _ rfl _ _ 36 rfl w.heap.size 56 i0 (.agg #[.int .i64 0, .int .i64 0]) 2 16 Tryz.underlying36 hi hz0 hz1 hz2 rfl (by decide) _ _ _ rfl (hown1.alloc _) ⟨_, 0, none⟩ 1 1 [.int .i64 x1, .int .i64 x2] rfl rfl (cells_two _ _ _ _) (by simp [Value.oneCell']) (by omega) (by omega) (by simp; omega) ?_; intro v2 w2 hown2 hg2 hnil2; obtain ⟨a2, q2, hv2⟩ := own_slice hown2; subst hv2)
                | go_in)
              have A2 := A1.add (x := x1) (y := x2) (by rw [List.length_append]; simpa [cellsF_snoc] using hown2) (o := .cells #[.int .i64 x1, .int .i64 x2] 56) (by rw [List.length_append]; exact hg2)
              go_roundw
              case rel => exact ⟨k + 1, true, out ++ [(m, n)] ++ [(x1, x2)], _, _, by omega, by go_num, rfl, by simp, by simp; omega, A2, E2, (h6.out.add IM.out IN.out).add I1.out I2.out⟩
              case measure => simp [intOf]; omega
          · by_cases hx : x1 = m
            · have hx' : (x1 != m) = false := by simp [hx]
              have E2 : Hid (out ++ tailF m n true (rs.drop (k + 1)) = withF rs m n) := (show _ = _ by
                rw [← hE.out, S.out]
                simp [hx, hn0, insF])
              clear S
              go_wp2
              go_roundw
              case rel => exact ⟨k + 1, true, out, _, _, by omega, by go_num, rfl, rfl, by omega, hO, E2, h6⟩
              case measure => simp [intOf]; omega
            · have hx' : (x1 != m) = true := by simp [hx]
              have E2 : Hid (out ++ [(x1, x2)] ++ tailF m n true (rs.drop (k + 1)) = withF rs m n) := (show _ = _ by
                rw [← hE.out, S.out]
                simp [hx, hle, hn0, insF])
              clear S
              go_wp2_with (first
                | (at_builtin; refine wpList_append_own _ rfl _ _ 36 rfl w.heap.size 56 i0 (.agg #[.int .i64 0, .int .i64 0]) 2 16 Tryz.underlying36 hi hz0 hz1 hz2 rfl (by decide) _ _ _ rfl (hO.out.1.alloc _) ⟨_, 0, none⟩ 1 1 [.int .i64 x1, .int .i64 x2] rfl rfl (cells_two _ _ _ _) (by simp [Value.oneCell']) (by omega) (by omega) (by simp; omega) ?_; intro v1 w1 hown1 hg1 hnil1; obtain ⟨a1, q1, hv1⟩ := own_slice hown1; subst hv1; have A1 := hO.out.add hown1 hg1)
                | go_in)
              go_roundw
              case rel => exact ⟨k + 1, true, out ++ [(x1, x2)], _, _, by omega, by go_num, rfl, by simp, by simp; omega, A1, E2, h6.out.add I1.out I2.out⟩
              case measure => simp [intOf]; omega
        · have hx : ¬ x1 = m := by omega
          have hx' : (x1 != m) = true := by simp [hx]
          have E2 : Hid (out ++ [(x1, x2)] ++ tailF m n false (rs.drop (k + 1)) = withF rs m n) := (show _ = _ by
            rw [← hE.out, S.out]
            simp [hx, hle])
          clear S
          go_wp2_with (first
            | (at_builtin; refine wpList_append_own _ rfl _ _ 36 rfl w.heap.size 56 i0 (.agg #[.int .i64 0, .int .i64 0]) 2 16 Tryz.underlying36 hi hz0 hz1 hz2 rfl (by decide) _ _ _ rfl (hO.out.1.alloc _) ⟨_, 0, none⟩ 1 1 [.int .i64 x1, .int .i64 x2] rfl rfl (cells_two _ _ _ _) (by simp [Value.oneCell']) (by omega) (by omega) (by simp; omega) ?_; intro v1 w1 hown1 hg1 hnil1; obtain ⟨a1, q1, hv1⟩ := own_slice hown1; subst hv1; have A1 := hO.out.add hown1 hg1)
            | go_in)
          go_roundw
          case rel => exact ⟨k + 1, false, out ++ [(x1, x2)], _, _, by omega, by go_num, rfl, by simp, by simp; omega, A1, E2, h6.out.add I1.out I2.out⟩
          case measure => simp [intOf]; omega
    · have hlt' : ¬ (k : Int) < len := by omega
      have hD : rs.drop k = [] := List.drop_of_length_le (by rw [HL.out]; omega)
      have E := hE.out
      rw [hD] at E
      clear hD hE
      have hws := hO.out.2.size
      cases d with
      | true =>
        have E2 : Hid (out = withF rs m n) := (show _ = _ by rw [← E]; simp [tailF])
        clear E
        go_wp2
        go_ret
        exact ⟨⟨_, _, _, rfl, by rw [← E2.out]; exact hO.out.bags h6.out, by omega⟩, hO.out.2⟩
      | false =>
        by_cases hn0 : 0 < n
        · have E2 : Hid (out ++ [(m, n)] = withF rs m n) := (show _ = _ by rw [← E]; simp [tailF, insF, hn0])
          clear E
          go_wp2_with (first
            | (at_builtin; refine wpList_append_own _ rfl _ _ 36 rfl w.heap.size 56 i0 (.agg #[.int .i64 0, .int .i64 0]) 2 16 Tryz.underlying36 hi hz0 hz1 hz2 rfl (by decide) _ _ _ rfl (hO.out.1.alloc _) ⟨_, 0, none⟩ 1 1 [.int .i64 m, .int .i64 n] rfl rfl (cells_two _ _ _ _) (by simp [Value.oneCell']) (by omega) (by omega) (by simp; omega) ?_; intro v1 w1 hown1 hg1 hnil1; obtain ⟨a1, q1, hv1⟩ := own_slice hown1; subst hv1; have A1 := hO.out.add hown1 hg1)
            | go_in)
          go_ret
          exact ⟨⟨_, _, _, rfl, by rw [← E2.out]; have := A1.bags (h6.out.add IM.out IN.out); rwa [List.length_append] at this, by omega⟩, A1.2⟩
        · have E2 : Hid (out = withF rs m n) := (show _ = _ by rw [← E]; simp [tailF, insF, hn0])
          clear E
          go_wp2
          go_ret
          exact ⟨⟨_, _, _, rfl, by rw [← E2.out]; exact hO.out.bags h6.out, by omega⟩, hO.out.2⟩
end Go.Proofs.YtnjpblmplneojaaGreatDoor.Bag
/- The document's own Of; and a bag copied by append: contracts, over the turned program. -/
namespace Go.Proofs.YtnjpblmplneojaaGreatDoor.Bag
open Go.RowKit Go.Maps Go.Proofs.YtnjpblmplneojaaGreatDoor.Frame
set_option linter.unusedVariables false
attribute [local go_sem ↓] Go.wp_at_zero Go.wp_at_succ

theorem tailF_length (m n : Int) : ∀ (d : Bool) (b : List Row), (tailF m n d b).length ≤ b.length + 1
  | true, b => by simp only [tailF]; have := List.length_filter_le (fun r : Row => decide (r.1 ≠ m)) b; omega
  | false, [] => by simp only [tailF, insF]; split <;> simp
  | false, r :: b => by
    simp only [tailF]
    split
    · have := List.length_filter_le (fun r : Row => decide (r.1 ≠ m)) (r :: b)
      simp only [insF]
      split <;> simp at * <;> omega
    · have := tailF_length m n false b
      simp; omega

theorem withF_length (b : List Row) (m n : Int) : (withF b m n).length ≤ b.length + 1 := tailF_length m n false b

theorem len_le_tot {b : List Row} (h : RightP b) : (b.length : Int) ≤ totF b := by
  induction b with
  | nil => simp [totF]
  | cons r b ih =>
    obtain ⟨h1, h2, _⟩ := right_cons h
    have := ih h1
    simp only [totF, List.length_cons]
    omega

theorem of_len {l : List Int} {b : List Row} (h : Has (ofC l) b) (hl : l.length ≤ 1048576) : b.length ≤ l.length := by
  have h1 := len_le_tot h.1
  rw [of_total h hl] at h1
  have := List.length_filter_le (fun x : Int => decide (0 ≤ x)) l
  omega

theorem At.cells {w : World} {b off : Nat} {rs : List Row} (h : At w b off rs) : ∀ j u, (cellsF rs)[j]? = some u → w.cell? ⟨b, off + j, none⟩ = some u := fun j u hu => by
  have hj : j < rs.length * 2 := by rw [← cellsF_length]; exact (List.getElem?_eq_some_iff.1 hu).1
  have hi : j / 2 < rs.length := by omega
  obtain ⟨e0, e1⟩ := cellsF_at rs (j / 2) hi
  obtain ⟨c0, c1⟩ := h (j / 2) hi
  rcases Nat.mod_two_eq_zero_or_one j with hm | hm
  · have ej : j / 2 * 2 = j := by omega
    rw [ej] at e0 c0
    rw [hu] at e0
    rw [c0, e0]
  · have ej : j / 2 * 2 + 1 = j := by omega
    rw [ej] at e1
    rw [show off + j / 2 * 2 + 1 = off + j by omega] at c1
    rw [hu] at e1
    rw [c1, e1]

theorem cellsF_one : ∀ (rs : List Row), ∀ u ∈ cellsF rs, u.oneCell' = true
  | [], u, h => by cases h
  | r :: b, u, h => by
    simp only [cellsF, List.mem_cons] at h
    rcases h with rfl | rfl | h
    · rfl
    · rfl
    · exact cellsF_one b u h

/-- 'append(api.Bag{}, b...)' -/
theorem copy_bags (w : World) (ty : TypeId) (a : Option Addr) (len cap : Nat) (rs : List Row) (h : Bags w a len rs) (hl : len ≤ 100000) :
    ∃ g c w2, (Builtin.append_ #[36, 36] ty #[.slice (some ⟨w.heap.size, 0, none⟩) 0 0, .slice a len cap]).run Tryz.prog (w.alloc (.cells #[] 56)) = .ok (.slice (some ⟨g, 0, none⟩) len c) w2 ∧
      Own w2 w.heap.size (some ⟨g, 0, none⟩) len c rs ∧ Below w.heap.size w w2 := by
  obtain ⟨i0, hi, hz0, hz1, hz2⟩ := info_parts infoRow
  have hml : (1000000 : Nat) ≤ maxLen := by decide
  have hown : (w.alloc (.cells #[] 56)).ownsRow w.heap.size 56 2 (.slice (some ⟨w.heap.size, 0, none⟩) 0 0) 0 [] := World.ownsRow_made w #[] 0 (Nat.le_refl _) (by decide) rfl
  have key : ∀ (ad : Addr), (∀ j u, (cellsF rs)[j]? = some u → (w.alloc (.cells #[] 56)).cell? (ad.add j) = some u) → ∃ g c w2, (Builtin.append_ #[36, 36] ty #[.slice (some ⟨w.heap.size, 0, none⟩) 0 0, .slice (some ad) len cap]).run Tryz.prog (w.alloc (.cells #[] 56)) = .ok (.slice (some ⟨g, 0, none⟩) len c) w2 ∧
      Own w2 w.heap.size (some ⟨g, 0, none⟩) len c rs ∧ Below w.heap.size w w2 := fun ad hc => by
    obtain ⟨v', w2, hr, ho, hg, hnil⟩ := run_append_own (P := Tryz.prog) (w.alloc (.cells #[] 56)) w.heap.size 36 ty 56 i0 (.agg #[.int .i64 0, .int .i64 0]) 2 16 Tryz.underlying36 hi hz0 hz1 hz2 rfl (by decide)
      (.slice (some ⟨w.heap.size, 0, none⟩) 0 0) 0 [] hown ad len cap (cellsF rs) (by rw [cellsF_length, h.1.1]) hc (cellsF_one rs) (by omega) (by omega) (by simp)
    rw [Nat.zero_add, List.nil_append] at ho
    rcases ho.2 with ⟨h0, _⟩ | ⟨g, c, cur, rfl, hrest⟩
    · have := (hnil.1 h0).1; cases this
    · exact ⟨g, c, w2, hr, ⟨h.1, ho⟩, ((Below.refl _ w).alloc (Nat.le_refl _) _).grown hg (by simp) (fun k hk => by cases hk; exact Nat.le_refl _)⟩
  rcases h.2 with h0 | ⟨b, off, ha, hat⟩
  · subst h0
    have hrs : rs = [] := List.eq_nil_of_length_eq_zero h.1.1
    cases a with
    | some ad => exact key ad (fun j u hu => by rw [hrs] at hu; simp [cellsF] at hu)
    | none =>
      refine ⟨w.heap.size, 0, w.alloc (.cells #[] 56), ?_, ⟨h.1, by rw [hrs]; exact hown⟩, (Below.refl _ w).alloc (Nat.le_refl _) _⟩
      simp [Builtin.append_, run_underlying Tryz.underlying36, sizeOf, typeInfo, hi, Builtin.lenOf, Builtin.firstCells, loadCells, loadCellsFrom, storeCells]
  · subst ha
    refine key ⟨b, off, none⟩ (fun j u hu => ?_)
    have hcj := hat.cells j u hu
    rw [Go.WideShapes.add_plain]
    have hlt := World.block_lt_of_cell? w _ hcj
    rw [World.cell?_of_block (w := w) (Below.heap_alloc w _ b hlt)]
    exact hcj

theorem wrap_in {x : Int} (h : In64 x) : IntKind.i64.wrap x = x := by
  unfold In64 at h
  simp [IntKind.wrap, IntKind.signed, IntKind.bits]
  omega

/-- the two calls of a round, from whatever world came of a fixed one -/
theorem rcount_from (a : Option Addr) (len cap : Nat) (rs : List Row) (m : Int) (w : World) (h : Bags w a len rs) (hl : len ≤ 100000) (hr : RightP rs) :
    ∀ wx, Below w.heap.size w wx → Calls Tryz.prog 61 #[.slice a len cap, .int .i64 m] wx fun e w' => e = .returned (.int .i64 (cntF rs m)) ∧ Below w.heap.size w w' := fun wx hx => by
  rw [← countB_right hr]
  refine (rcount_q a len cap rs m wx (h.below hx) (by omega)).mono ?_
  rintro e w' ⟨he, n, hw⟩
  exact ⟨he, by rw [hw]; exact below_drewN hx _⟩

theorem with_from (a : Option Addr) (len cap : Nat) (rs : List Row) (m n : Int) (w : World) (h : Bags w a len rs) (hl : len ≤ 100000) (hm : In64 m) (hn : In64 n) :
    ∀ wx, Below w.heap.size w wx → Calls Tryz.prog 80 #[.slice a len cap, .int .i64 m, .int .i64 n] wx fun e w' => ∃ a' l' c', e = .returned (.slice a' l' c') ∧ Hid (Bags w' a' l' (withF rs m n) ∧ l' ≤ len + 1) ∧ Below w.heap.size w w' := fun wx hx => by
  refine (with_any a len cap rs m n wx (h.below hx) hl hm hn).mono ?_
  rintro e w' ⟨⟨a', l', c', he, hB, _⟩, hb⟩
  exact ⟨a', l', c', he, ⟨hB, by have h1 := hB.1.1; have h2 := withF_length rs m n; rw [h.1.1] at h2; omega⟩, then_ hx hb⟩
end Go.Proofs.YtnjpblmplneojaaGreatDoor.Bag
