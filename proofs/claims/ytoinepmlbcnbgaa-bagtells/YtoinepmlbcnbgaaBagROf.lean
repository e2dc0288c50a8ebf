/- The document's own Of; and a bag copied by append: contracts, over the turned program. -/
import Derived.Test.YtoinepmlbcnbgaaBagWith
import Derived.Test.YtoinepmlbcnbgaaRows2
namespace Go.Proofs.Ytoinepmlbcnbgaa.Bag
open Go.RowKit Go.Maps Go.Proofs.Ytoinepmlbcnbgaa.Frame
set_option linter.unusedVariables false
attribute [local go_sem ↓] Go.wp_at_zero Go.wp_at_succ

theorem tailF_length (m n : Int) : ∀ (d : Bool) (b : List Row), (tailF m n d b).length ≤ b.length + 1
  | true, b => by simp only [tailF]; have := List.length_filter_le (fun r : Row => decide (r.1 ≠ m)) b; omega
  | false, [] => by simp only [tailF, insF]; split <;> simp
  | false, r :: b => by
    simp only [tailF]
    split
    · have := List.length_filter_le (fun r : Row => decide (r.1 ≠ m)) (r :: b)
      simp only [insF]
      split <;> simp at * <;> omega
    · have := tailF_length m n false b
      simp; omega
theorem withF_length (b : List Row) (m n : Int) : (withF b m n).length ≤ b.length + 1 := tailF_length m n false b
theorem len_le_tot {b : List Row} (h : RightP b) : (b.length : Int) ≤ totF b := by
  induction b with
  | nil => simp [totF]
  | cons r b ih =>
    obtain ⟨h1, h2, _⟩ := right_cons h
    have := ih h1
    simp only [totF, List.length_cons]
    omega
theorem of_len {l : List Int} {b : List Row} (h : Has (ofC l) b) (hl : l.length ≤ 1048576) : b.length ≤ l.length := by
  have h1 := len_le_tot h.1
  rw [of_total h hl] at h1
  have := List.length_filter_le (fun x : Int => decide (0 ≤ x)) l
  omega

theorem At.cells {w : World} {b off : Nat} {rs : List Row} (h : At w b off rs) : ∀ j u, (cellsF rs)[j]? = some u → w.cell? ⟨b, off + j, none⟩ = some u := fun j u hu => by
  have hj : j < rs.length * 2 := by rw [← cellsF_length]; exact (List.getElem?_eq_some_iff.1 hu).1
  have hi : j / 2 < rs.length := by omega
  obtain ⟨e0, e1⟩ := cellsF_at rs (j / 2) hi
  obtain ⟨c0, c1⟩ := h (j / 2) hi
  rcases Nat.mod_two_eq_zero_or_one j with hm | hm
  · have ej : j / 2 * 2 = j := by omega
    rw [ej] at e0 c0
    rw [hu] at e0
    rw [c0, e0]
  · have ej : j / 2 * 2 + 1 = j := by omega
    rw [ej] at e1
    rw [show off + j / 2 * 2 + 1 = off + j by omega] at c1
    rw [hu] at e1
    rw [c1, e1]
theorem cellsF_one : ∀ (rs : List Row), ∀ u ∈ cellsF rs, u.oneCell' = true
  | [], u, h => by cases h
  | r :: b, u, h => by
    simp only [cellsF, List.mem_cons] at h
    rcases h with rfl | rfl | h
    · rfl
    · rfl
    · exact cellsF_one b u h

/-- 'append(api.Bag{}, b...)' -/
theorem copy_bags (w : World) (ty : TypeId) (a : Option Addr) (len cap : Nat) (rs : List Row) (h : Bags w a len rs) (hl : len ≤ 100000) :
    ∃ g c w2, (Builtin.append_ #[23, 23] ty #[.slice (some ⟨w.heap.size, 0, none⟩) 0 0, .slice a len cap]).run Try.prog (w.alloc (.cells #[] 39)) = .ok (.slice (some ⟨g, 0, none⟩) len c) w2 ∧
      Own w2 w.heap.size (some ⟨g, 0, none⟩) len c rs ∧ Below w.heap.size w w2 := by
  obtain ⟨i0, hi, hz0, hz1, hz2⟩ := info_parts infoRow
  have hml : (1000000 : Nat) ≤ maxLen := by decide
  have hown : (w.alloc (.cells #[] 39)).ownsRow w.heap.size 39 2 (.slice (some ⟨w.heap.size, 0, none⟩) 0 0) 0 [] := World.ownsRow_made w #[] 0 (Nat.le_refl _) (by decide) rfl
  have key : ∀ (ad : Addr), (∀ j u, (cellsF rs)[j]? = some u → (w.alloc (.cells #[] 39)).cell? (ad.add j) = some u) → ∃ g c w2, (Builtin.append_ #[23, 23] ty #[.slice (some ⟨w.heap.size, 0, none⟩) 0 0, .slice (some ad) len cap]).run Try.prog (w.alloc (.cells #[] 39)) = .ok (.slice (some ⟨g, 0, none⟩) len c) w2 ∧
      Own w2 w.heap.size (some ⟨g, 0, none⟩) len c rs ∧ Below w.heap.size w w2 := fun ad hc => by
    obtain ⟨v', w2, hr, ho, hg, hnil⟩ := run_append_own (P := Try.prog) (w.alloc (.cells #[] 39)) w.heap.size 23 ty 39 i0 (.agg #[.int .i64 0, .int .i64 0]) 2 16 Try.underlying23 hi hz0 hz1 hz2 rfl (by decide)
      (.slice (some ⟨w.heap.size, 0, none⟩) 0 0) 0 [] hown ad len cap (cellsF rs) (by rw [cellsF_length, h.1.1]) hc (cellsF_one rs) (by omega) (by omega) (by simp)
    rw [Nat.zero_add, List.nil_append] at ho
    rcases ho.2 with ⟨h0, _⟩ | ⟨g, c, cur, rfl, hrest⟩
    · have := (hnil.1 h0).1; cases this
    · exact ⟨g, c, w2, hr, ⟨h.1, ho⟩, ((Below.refl _ w).alloc (Nat.le_refl _) _).grown hg (by simp) (fun k hk => by cases hk; exact Nat.le_refl _)⟩
  rcases h.2 with h0 | ⟨b, off, ha, hat⟩
  · subst h0
    have hrs : rs = [] := List.eq_nil_of_length_eq_zero h.1.1
    cases a with
    | some ad => exact key ad (fun j u hu => by rw [hrs] at hu; simp [cellsF] at hu)
    | none =>
      refine ⟨w.heap.size, 0, w.alloc (.cells #[] 39), ?_, ⟨h.1, by rw [hrs]; exact hown⟩, (Below.refl _ w).alloc (Nat.le_refl _) _⟩
      simp [Builtin.append_, run_underlying Try.underlying23, sizeOf, typeInfo, hi, Builtin.lenOf, Builtin.firstCells, loadCells, loadCellsFrom, storeCells]
  · subst ha
    refine key ⟨b, off, none⟩ (fun j u hu => ?_)
    have hcj := hat.cells j u hu
    rw [Go.WideShapes.add_plain]
    have hlt := World.block_lt_of_cell? w _ hcj
    rw [World.cell?_of_block (w := w) (Below.heap_alloc w _ b hlt)]
    exact hcj

theorem wrap_in {x : Int} (h : In64 x) : IntKind.i64.wrap x = x := by
  unfold In64 at h
  simp [IntKind.wrap, IntKind.signed, IntKind.bits]
  omega
/-- the two calls of a round, from whatever world came of a fixed one -/
theorem rcount_from (a : Option Addr) (len cap : Nat) (rs : List Row) (m : Int) (w : World) (h : Bags w a len rs) (hl : len ≤ 100000) (hr : RightP rs) :
    ∀ wx, Below w.heap.size w wx → Calls Try.prog 13 #[.slice a len cap, .int .i64 m] wx fun e w' => e = .returned (.int .i64 (cntF rs m)) ∧ Below w.heap.size w w' := fun wx hx => by
  rw [← countB_right hr]
  refine (rcount_q a len cap rs m wx (h.below hx) (by omega)).mono ?_
  rintro e w' ⟨he, n, hw⟩
  exact ⟨he, by rw [hw]; exact below_drewN hx _⟩
theorem with_from (a : Option Addr) (len cap : Nat) (rs : List Row) (m n : Int) (w : World) (h : Bags w a len rs) (hl : len ≤ 100000) (hm : In64 m) (hn : In64 n) :
    ∀ wx, Below w.heap.size w wx → Calls Try.prog 37 #[.slice a len cap, .int .i64 m, .int .i64 n] wx fun e w' => ∃ a' l' c', e = .returned (.slice a' l' c') ∧ Hid (Bags w' a' l' (withF rs m n) ∧ l' ≤ len + 1) ∧ Below w.heap.size w w' := fun wx hx => by
  refine (with_any a len cap rs m n wx (h.below hx) hl hm hn).mono ?_
  rintro e w' ⟨⟨a', l', c', he, hB, _⟩, hb⟩
  exact ⟨a', l', c', he, ⟨hB, by have h1 := hB.1.1; have h2 := withF_length rs m n; rw [h.1.1] at h2; omega⟩, then_ hx hb⟩

set_option maxHeartbeats 2000000 in
theorem rof_any (a : Option Addr) (len cap : Nat) (zs : List Int) (w : World) (h : Nums w a len zs) (hl : len ≤ 100000) :
    Calls Try.prog 18 #[.slice a len cap] w fun e w' => ∃ rs, Has (ofC zs) rs ∧ BagPost w len rs e w' := by
  have HC : Hid (Nums w a len zs) := h
  have HL : Hid (zs.length = len) := h.1.1
  clear h
  go_enter Try.func18, Try.ntmps18
  go_wp2
  go_loopw [3, 4] (fun v i wr => ∃ (k : Nat) (oa : Option Addr) (ol oc : Nat) (bs : List Row), k ≤ len ∧ i = .int .i64 k ∧ v = .slice oa ol oc ∧ ol ≤ k ∧ Hid (Has (ofC (zs.take k)) bs) ∧ Hid (Bags wr oa ol bs) ∧ Below w.heap.size w wr) (fun _ i _ => len - (intOf i).toNat)
  case atStart => exact ⟨0, none, 0, 0, [], by omega, rfl, rfl, by omega, (show Has _ _ from ⟨right_nil, fun m => by rw [List.take_zero, ofC_nil]; rfl⟩), (show Bags _ _ _ _ from ⟨⟨rfl, fun i hi => by cases hi⟩, .inl rfl⟩), Below.refl _ _⟩
  case round =>
    obtain ⟨k, oa, ol, oc, bs, hk, rfl, rfl, hol, hH, hB, hnx⟩ := hrel
    by_cases hlt : k < len
    · have hlt' : (k : Int) < len := by omega
      obtain ⟨b, off, ha, hbl, c0⟩ := (HC.out.below hnx).at (k := k) hlt
      subst ha
      have hkl : k < zs.length := by rw [HL.out]; exact hlt
      have hI := HC.out.1.2 k hkl
      have hT : ∀ x, ofC (zs.take (k + 1)) x = _ := fun x => by rw [take_snoc_z hkl, ofC_snoc]
      obtain ⟨m, hm⟩ : ∃ m, m = zs.getD k 0 := ⟨_, rfl⟩
      rw [← hm] at hI c0
      simp only [← hm] at hT
      have I : Hid (In64 m) := hI
      by_cases h0 : m < 0
      · have N1 : Hid (Has (ofC (zs.take (k + 1))) bs) := (show Has _ _ from hH.out.of fun x => by rw [hT x, if_neg (by omega)])
        clear hT hm hkl
        go_wp2
        go_roundw
        case rel => exact ⟨k + 1, oa, ol, oc, bs, by omega, by go_num, rfl, by omega, N1, hB, hnx⟩
        case measure => simp [intOf]; omega
      · have h0' : (0 : Int) ≤ m := by omega
        obtain ⟨v, hv⟩ : ∃ v, v = cntF bs m := ⟨_, rfl⟩
        have hv2 : v = ofC (zs.take k) m := by rw [hv]; exact hH.out.2 m
        have hvr := cntF_range hH.out.1 m
        rw [← hv] at hvr
        obtain ⟨n, hn⟩ : ∃ n, n = min (v + 1) 1048576 := ⟨_, rfl⟩
        have HN : Hid (min (IntKind.i64.wrap (v + 1)) 1048576 = n) := (show _ = _ by rw [wrap_in (by unfold In64; omega), hn])
        have IN : Hid (In64 n) := (show In64 n by unfold In64; omega)
        have NH : Hid (Has (ofC (zs.take (k + 1))) (withF bs m n)) := (show Has _ _ from (withF_has hH.out.1 h0' (by omega) (by omega)).of fun x => by
          rw [hT x, ← hv2]
          unfold setC
          by_cases hx : x = m
          · by_cases hvm : v < 1048576
            · rw [if_pos hx, if_pos ⟨hx, h0', hvm⟩]; omega
            · rw [if_pos hx, if_neg (fun h => hvm h.2.2), hx, ← hv2]; omega
          · rw [if_neg hx, if_neg (fun h => hx h.1)]; exact hH.out.2 x)
        have CO : Hid (∀ wx, Below wr.heap.size wr wx → Calls Try.prog 13 #[.slice oa ol oc, .int .i64 m] wx fun e w' => e = .returned (.int .i64 v) ∧ Below wr.heap.size wr w') := (show ∀ _, _ from hv ▸ rcount_from oa ol oc bs m wr hB.out (by omega) hH.out.1)
        have WI : Hid (∀ wx, Below wr.heap.size wr wx → Calls Try.prog 37 #[.slice oa ol oc, .int .i64 m, .int .i64 n] wx fun e w' => ∃ a' l' c', e = .returned (.slice a' l' c') ∧ Hid (Bags w' a' l' (withF bs m n) ∧ l' ≤ ol + 1) ∧ Below wr.heap.size wr w') := with_from oa ol oc bs m n wr hB.out (by omega) I.out IN.out
        clear hT hm hkl hv hv2 hn
        go_wp2
        go_region_held3 (fun w' => w'.cell? ⟨b, off + k, none⟩ = some (.int .i64 m)) (go_keep)
          (first
            | (go_at_call 13; refine (CO.out _ (by first | exact (Below.refl _ _).drew | exact hbx | exact hby)).mono ?_; rintro e w5 ⟨he, hbx⟩; subst he; have g5 := (hbx.cell (p := ⟨b, off + k, none⟩) hbl).trans c0)
            | (go_at_call 37; rw [HN.out]; refine (WI.out _ (by first | exact hbx | exact (Below.refl _ _).drew)).mono ?_; rintro e w6 ⟨ra, rl, rc, he, hR, hby⟩; subst he; have g6 := (hby.cell (p := ⟨b, off + k, none⟩) hbl).trans c0))
        have NB : Hid (Bags w6 ra rl (withF bs m n)) := hR.out.1
        have hrl := hR.out.2
        have N2 : Below w.heap.size w w6 := then_ hnx hby
        clear hR hby
        go_wp2
        go_roundw
        case rel => exact ⟨k + 1, ra, rl, rc, _, by omega, by go_num, rfl, by omega, NH, NB, N2⟩
        case measure => simp [intOf]; omega
    · have hlt' : ¬ (k : Int) < len := by omega
      have E : zs.take k = zs := List.take_of_length_le (by rw [HL.out]; omega)
      rw [E] at hH
      clear E
      go_wp2
      go_ret
      exact ⟨bs, hH.out, ⟨⟨_, _, _, rfl, hB.out, by omega⟩, hnx⟩⟩
end Go.Proofs.Ytoinepmlbcnbgaa.Bag
