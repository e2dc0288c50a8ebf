/- Contracts and plain mathematics, together: MarkNet, MarkSmP. -/
import Derived.Test.YtnjpblmplneojaaGreatDoorMbK
/- The small net of the laws of layer 9: over the turned program. -/
namespace Go.Proofs.YtnjpblmplneojaaGreatDoor.Mark
open Go.RowKit Go.Proofs.YtnjpblmplneojaaGreatDoor.Frame Go.Proofs.YtnjpblmplneojaaGreatDoor.Bag Go.Proofs.YtnjpblmplneojaaGreatDoor.Check
set_option linter.unusedVariables false
set_option linter.unusedSimpArgs false

def smN (B : Nat) : Ne := ⟨[⟨⟨#[110]⟩, 1, 0, 3, [], none, 0, 0, 0⟩], some ⟨B + 1, 0, none⟩, 1, [⟨⟨#[97]⟩, 0, [(0, 2)], some ⟨B + 2, 0, none⟩, 1⟩, ⟨⟨#[98]⟩, 0, [], none, 0⟩], some ⟨B + 3, 0, none⟩, 2, [], none, 0, 0, 1⟩

def smW (w : World) : World :=
  (((w.alloc (.cells #[.slice (some ⟨w.heap.size + 1, 0, none⟩) 1 1, .slice (some ⟨w.heap.size + 1 + 1 + 1, 0, none⟩) 2 2, .slice none 0 0, .int .i64 0, .int .i64 1] 47)).alloc
    (.cells #[.string ⟨#[110]⟩, .int .i64 1, .int .i64 0, .int .i64 3, .slice none 0 0, .int .i64 0, .int .i64 0] 78)).alloc
    (.cells #[.int .i64 0, .int .i64 2] 56)).alloc
    (.cells #[.string ⟨#[97]⟩, .int .i64 0, .slice (some ⟨w.heap.size + 1 + 1, 0, none⟩) 1 1, .string ⟨#[98]⟩, .int .i64 0, .slice none 0 0] 80)
theorem smW_below (w : World) : Below w.heap.size w (smW w) := by
  unfold smW
  exact ((((Below.refl _ _).alloc (Nat.le_refl _) _).alloc (by simp) _).alloc (by simp; omega) _).alloc (by simp; omega) _
theorem heapU {w : World} {C : Nat} {o : Obj} (h : w.heap[C]? = some o) (p : Obj) : (w.alloc p).heap[C]? = some o := by
  have hlt : C < w.heap.size := (Array.getElem?_eq_some_iff.1 h).1
  exact (Below.heap_alloc w p C hlt).trans h
theorem heapN (w : World) (o : Obj) (n : Nat) (h : w.heap.size = n) : (w.alloc o).heap[n]? = some o := by subst h; exact heap_alloc_new w o
theorem smW_heap (w : World) : (smW w).heap[w.heap.size + 1]? = some (.cells #[.string ⟨#[110]⟩, .int .i64 1, .int .i64 0, .int .i64 3, .slice none 0 0, .int .i64 0, .int .i64 0] 78) ∧ (smW w).heap[w.heap.size + 2]? = some (.cells #[.int .i64 0, .int .i64 2] 56) ∧
    (smW w).heap[w.heap.size + 3]? = some (.cells #[.string ⟨#[97]⟩, .int .i64 0, .slice (some ⟨w.heap.size + 1 + 1, 0, none⟩) 1 1, .string ⟨#[98]⟩, .int .i64 0, .slice none 0 0] 80) := by
  unfold smW
  exact ⟨heapU (heapU (heapN _ _ _ (by simp)) _) _, heapU (heapN _ _ _ (by simp)) _, heapN _ _ _ (by simp)⟩
theorem smW_ok (w : World) : NeOk (smW w) (smN w.heap.size) := by
  obtain ⟨h1, h2, h3⟩ := smW_heap w
  have g1 := fun j => Expr.box_cell h1 j
  have g2 := fun j => Expr.box_cell h2 j
  have g3 := fun j => Expr.box_cell h3 j
  refine ⟨⟨⟨(show Expr.In64 0 from ⟨by decide, by decide⟩), (show Expr.In64 1 from ⟨by decide, by decide⟩)⟩, Nat.le_refl 1, Nat.le_refl 0⟩, ⟨rfl, .inr ⟨w.heap.size + 1, 0, rfl, fun i hi => ?_⟩⟩, .inr ⟨w.heap.size + 3, 0, rfl, fun i hi => ?_⟩, .inl rfl⟩
  · have : i = 0 := by have : i < 1 := hi; omega
    subst this
    exact ⟨⟨g1 0, g1 1, g1 2, g1 3, g1 4, g1 5, g1 6⟩, ⟨rfl, .inl rfl⟩, (show Colour.Ints64 ⟨⟨#[110]⟩, 1, 0, 3, [], none, 0, 0, 0⟩ from ⟨⟨by decide, by decide⟩, ⟨by decide, by decide⟩⟩)⟩
  · have hi2 : i < 2 := hi
    match i, hi2 with
    | 0, _ =>
      refine ⟨fun j v hv => ?_, (show Expr.In64 0 from ⟨by decide, by decide⟩), ⟨rfl, fun k hk => ?_⟩, .inr ⟨w.heap.size + 2, 0, rfl, fun k hk => ?_⟩⟩
      · match j, hv with
        | 0, hv => exact (g3 0).trans hv
        | 1, hv => exact (g3 1).trans hv
        | 2, hv => exact (g3 2).trans hv
        | j + 3, hv => cases hv
      · have : k = 0 := by have : k < 1 := hk; omega
        subst this
        exact (show Bag.In64 0 ∧ Bag.In64 2 from ⟨⟨by decide, by decide⟩, ⟨by decide, by decide⟩⟩)
      · have : k = 0 := by have : k < 1 := hk; omega
        subst this
        exact ⟨g2 0, g2 1⟩
    | 1, _ =>
      refine ⟨fun j v hv => ?_, (show Expr.In64 0 from ⟨by decide, by decide⟩), ⟨rfl, fun k hk => by cases hk⟩, .inl rfl⟩
      match j, hv with
      | 0, hv => exact (g3 3).trans hv
      | 1, hv => exact (g3 4).trans hv
      | 2, hv => exact (g3 5).trans hv
      | j + 3, hv => cases hv

set_option maxRecDepth 100000 in
theorem net_any (w : World) : Calls Tryz.prog 28 #[] w fun e w' => e = .returned (.agg (smN w.heap.size).cells.toArray) ∧ w' = smW w := by
  go_enter Tryz.func28, Tryz.ntmps28
  go_wp2_with fail
  refine bodyPost_ret (v := .agg (smN w.heap.size).cells.toArray) ?_ rfl ⟨rfl, rfl⟩
  simp [results, Tryz.results28, go_sem, smN, Ne.cells]
end Go.Proofs.YtnjpblmplneojaaGreatDoor.Mark
/- The small case of the laws of layer 9: what is known of it, in plain Lean; and the small net. -/
namespace Go.Proofs.YtnjpblmplneojaaGreatDoor.Mark
open Go.RowKit Go.Proofs.YtnjpblmplneojaaGreatDoor.Frame Go.Proofs.YtnjpblmplneojaaGreatDoor.Bag Go.Proofs.YtnjpblmplneojaaGreatDoor.Check
set_option linter.unusedVariables false
set_option linter.unusedSimpArgs false

def mM : Mk := [[(0, 3)], []]
def mE : Mk := [[], [(2, 1)]]
def mO : Mk := [[(0, 1)], []]
theorem right3 (m c : Int) (hm : 0 ≤ m) (h1 : 1 ≤ c) (h2 : c ≤ 1048576) : RightP [(m, c)] := right_cons_mk right_nil ⟨hm, h1, h2⟩ (fun s hs => by cases hs)
theorem mM_right : RightM mM := fun x hx => by
  simp only [mM, List.mem_cons, List.not_mem_nil, or_false] at hx
  rcases hx with rfl | rfl
  · exact right3 0 3 (by decide) (by decide) (by decide)
  · exact right_nil
theorem sum_small : Has (sumC [(0, 2)] one0) [(0, 3)] := ⟨right3 0 3 (by decide) (by decide) (by decide), fun m => by
  unfold sumC one0
  by_cases h : m = 0
  · subst h; rfl
  · have h1 : ∀ c : Int, cntF [((0 : Int), c)] m = 0 := fun c => cntF_not fun r hr => by rw [List.mem_singleton.1 hr]; exact fun e => h e.symm
    rw [h1, h1, h1]; rfl⟩
theorem first_small {n : Ne} {m : Mk} (hf : n.frm = 0) (hl : n.places.length = 2) (h : firsts n = [[(0, 2)], []]) (hF : FirstIs n m) : m = mM := by
  have hs : sumE (at_ (firsts n) n.frm.toNat) one0 = 0 := by rw [h, hf]; kernel_rfl
  rcases hF with ⟨_, _, _, rs, hr, hm⟩ | ⟨hno, _⟩
  · have hb : bothB (at_ (firsts n) n.frm.toNat) one0 = true ∧ fitsB (at_ (firsts n) n.frm.toNat) one0 = true := by rw [h, hf]; exact ⟨by kernel_rfl, by kernel_rfl⟩
    unfold SumIs at hr
    rw [if_pos hb, h, hf] at hr
    have : rs = [(0, 3)] := hr.uniq sum_small
    rw [hm, this, h, hf]; rfl
  · exact absurd ⟨by rw [hf]; exact Int.le_refl _, by rw [hf, hl]; decide, hs⟩ hno
theorem mM_enc : encF mM = some [2, 0, 1, 0, 0, 0, 0, 0, 0, 0, 3, 0, 0] := by kernel_rfl
theorem mM_encE : encE mM = 0 := by kernel_rfl
theorem mM_len : (encL mM).length = 13 := by kernel_rfl
theorem mM_dec : decE (encL mM) = 0 ∧ decM (encL mM) = mM := (dec_some _ _).1 (by
  have h : encL mM = [2, 0, 1, 0, 0, 0, 0, 0, 0, 0, 3, 0, 0] := by unfold encL; rw [mM_enc]; rfl
  rw [h]
  exact enc_dec mM_enc)
theorem mM_same : sameM mM mM = true := sameM_iff.2 ⟨mM_right, rfl⟩
theorem mE_fin : finB 2 1 mE = true := by kernel_rfl
theorem mE_end : endB 2 1 mE = true := by kernel_rfl
theorem mM_fin : finB 2 1 mM = false := by kernel_rfl
theorem mM_tot : totM mM = 3 := by kernel_rfl
theorem mM_cmp : compareM mM mE = 1 := by kernel_rfl
theorem mO_in : withinM mO mM = true := by kernel_rfl
theorem mM_in : withinM mM mE = false := by kernel_rfl

/-- all that is asked of the small net -/
def NIs (n : Ne) (w : World) : Prop := NeOk w n ∧ (n.frm = 0 ∧ n.too = 1 ∧ n.places.length = 2 ∧ n.cols.length = 1) ∧ (SmN n ∧ firsts n = [[(0, 2)], []] ∧ rightM n.cols n.places mM = true) ∧
  (Colour.sizesF n.cols = some [4] ∧ (n.cols.getD 0 Colour.nilCol).kind = 1 ∧ (n.cols.getD 0 Colour.nilCol).lo = 0) ∧ ((n.places.getD 0 nilPl).name = ⟨#[97]⟩ ∧ (n.places.getD 0 nilPl).colour = 0)
theorem smN_is (B : Nat) (w : World) (h : NeOk w (smN B)) : NIs (smN B) w := by
  refine ⟨h, ⟨rfl, rfl, rfl, rfl⟩, ⟨⟨by show 2 ≤ 1000; omega, fun p hp => ?_⟩, rfl, ?_⟩, ⟨?_, rfl, rfl⟩, rfl, rfl⟩
  · simp only [smN, List.mem_cons, List.not_mem_nil, or_false] at hp
    rcases hp with rfl | rfl <;> simp
  · kernel_rfl
  · kernel_rfl
theorem NIs.below {n : Ne} {w w' : World} (h : NIs n w) (hb : Below w.heap.size w w') : NIs n w' := ⟨h.1.below hb, h.2⟩
theorem net_is (w : World) : Calls Tryz.prog 28 #[] w fun e w' => ∃ n : Ne, e = .returned (.agg #[.slice n.ca n.cols.length n.cc, .slice n.pa 2 n.pc, .slice n.ta n.tasks.length n.tc, .int .i64 n.frm, .int .i64 n.too]) ∧ NIs n w' ∧ Below w.heap.size w w' := by
  refine (net_any w).mono ?_
  rintro e w' ⟨he, hw⟩
  subst hw
  exact ⟨smN w.heap.size, he, smN_is _ _ (smW_ok w), smW_below w⟩
/-- the net's box -/
def NB (n : Ne) (q : Nat) (W : World) : Prop := W.cell? ⟨q, 0, none⟩ = some (.slice n.ca n.cols.length n.cc) ∧ W.cell? ⟨q, 1, none⟩ = some (.slice n.pa 2 n.pc) ∧ W.cell? ⟨q, 2, none⟩ = some (.slice n.ta n.tasks.length n.tc) ∧ W.cell? ⟨q, 3, none⟩ = some (.int .i64 n.frm) ∧ W.cell? ⟨q, 4, none⟩ = some (.int .i64 n.too)
theorem NB.on {n : Ne} {q : Nat} {W W' : World} (h : NB n q W) (hb : Below W.heap.size W W') : NB n q W' :=
  ⟨rowB_call h.1 hb, rowB_call h.2.1 hb, rowB_call h.2.2.1 hb, rowB_call h.2.2.2.1 hb, rowB_call h.2.2.2.2 hb⟩
/-- the text of the small marking -/
theorem text_small (n : Ne) (a : Option Addr) (c : Nat) (gs : List Bg) (w : World) (hn : NIs n w) (ha : Mks w a 2 gs) (hm : mkOf gs = mM) :
    Calls Tryz.prog 30 #[.agg #[.slice n.ca n.cols.length n.cc, .slice n.pa 2 n.pc, .slice n.ta n.tasks.length n.tc, .int .i64 n.frm, .int .i64 n.too], .slice a 2 c] w (StrPost ⟨#[123, 97, 58, 32, 48, 42, 51, 125]⟩ w) := by
  have hl : gs.length = 2 := ha.1
  have r0 : (gs.getD 0 nilBg).rows = [(0, 3)] := by rw [← mkOf_at gs (by omega), hm]; rfl
  have r1 : (gs.getD 1 nilBg).rows = [] := by rw [← mkOf_at gs (by omega), hm]; rfl
  obtain ⟨hNe, ⟨hf, ht, hp2, hc1⟩, _, ⟨hsz, hk1, hlo⟩, hnm, hcl⟩ := hn
  have hd0 : Lib.decDigits 0 = [48] := Lib.decDigits_one (by decide)
  have hd3 : Lib.decDigits 3 = [51] := Lib.decDigits_one (by decide)
  have := text_two n a c gs w ⟨#[97, 58, 32, 48, 42, 51]⟩ (by decide) hNe hp2 ha (by rw [r0]; decide) (by rw [r1]; rfl) (by rw [r0]; decide) (fun W hW => by
    obtain ⟨b, off, hae, _, _, hok⟩ := (ha.below hW).row (k := 0) (by omega)
    have hbg := hok.1
    have hw := Colour.write_int n.ca n.cols.length n.cc n.cols [4] 0 0 0 (by omega) hk1 (by decide) (by rw [hlo]; rfl)
    rw [hd0] at hw
    rw [r0] at hbg ⊢
    rw [hcl, hnm]
    have := placeText_one n.ca (n.places.getD 0 nilPl).fa (gs.getD 0 nilBg).a n.cols.length n.cc (n.places.getD 0 nilPl).first.length (n.places.getD 0 nilPl).fc (gs.getD 0 nilBg).c 0 3 n.cols [4] ⟨#[97]⟩ 0 [48] W (hNe.2.1.below hW) hsz (by omega) (by kernel_rfl) hw hbg (by decide) (by decide)
    rw [hd3] at this
    exact this)
  exact this
end Go.Proofs.YtnjpblmplneojaaGreatDoor.Mark
