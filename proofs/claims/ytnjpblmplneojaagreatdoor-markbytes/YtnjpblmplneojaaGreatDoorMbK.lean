/- Text of package mark, of two places, one with one row: a contract of the call, over the turned program. -/
import Derived.Test.YtnjpblmplneojaaGreatDoorMbJ
import Derived.Test.YtnjpblmplneojaaGreatDoorMbO
namespace Go.Proofs.YtnjpblmplneojaaGreatDoor.Mark
open Go.RowKit Go.Maps Go.Proofs.YtnjpblmplneojaaGreatDoor.Frame Go.Proofs.YtnjpblmplneojaaGreatDoor.Bag Go.Proofs.YtnjpblmplneojaaGreatDoor.Check
open Go.Proofs.YtnjpblmplneojaaGreatDoor.Colour (Bld Kept WriteIs Cols Col nilCol sizesF)
set_option linter.unusedVariables false
set_option linter.unusedSimpArgs false

theorem infoStr : (Tryz.prog.info? 9).map (fun i => (i.zero, i.size, i.bytes)) = some (some (.string ByteArray.empty), 1, 16) := by kernel_rfl
theorem own_one {w : World} {B c : Nat} {a : Option Addr} {s : ByteArray} (h : w.ownsRow B 9 1 (.slice a (0 + 1) c) (0 + 1) ([] ++ [.string s])) : ∃ g, a = some ⟨g, 0, none⟩ ∧ w.cell? ⟨g, 0, none⟩ = some (.string s) := by
  rcases h.2 with ⟨h1, h0⟩ | ⟨g, c', cur, hv, _⟩
  · cases h0
  · simp only [Value.slice.injEq] at hv
    obtain ⟨rfl, _, rfl⟩ := hv
    exact ⟨g, rfl, by rw [h.cellAt 0 (by omega)]; rfl⟩
def StrPost (s : ByteArray) (w : World) (e : Ending) (w' : World) : Prop := e = .returned (.string s) ∧ Below w.heap.size w w'
theorem join_one (b off c : Nat) (s sep : ByteArray) (w : World) (h : w.cell? ⟨b, off, none⟩ = some (.string s)) :
    Calls Tryz.prog 54 #[.slice (some ⟨b, off, none⟩) 1 c, .string sep] w fun e w' => e = .returned (.string s) ∧ w' = w := by
  go_enter Tryz.func54, Tryz.ntmps54
  go_wp2
  go_ret
  exact ⟨rfl, rfl⟩

set_option maxRecDepth 100000 in
set_option maxHeartbeats 4000000 in
theorem text_two (n : Ne) (a : Option Addr) (ca : Nat) (xs : List Bg) (w : World) (t : ByteArray) (hts : t.size ≤ 2000) (hN : NeOk w n) (hn : n.places.length = 2) (ha : Mks w a 2 xs) (h0 : 0 < (xs.getD 0 nilBg).rows.length) (h1 : (xs.getD 1 nilBg).rows.length = 0) (hl0 : (xs.getD 0 nilBg).rows.length ≤ 10000)
    (hP : ∀ W, Below w.heap.size w W → Calls Tryz.prog 53 #[.slice n.ca n.cols.length n.cc, .agg #[.string (n.places.getD 0 nilPl).name, .int .i64 (n.places.getD 0 nilPl).colour, .slice (n.places.getD 0 nilPl).fa (n.places.getD 0 nilPl).first.length (n.places.getD 0 nilPl).fc], .slice (xs.getD 0 nilBg).a (xs.getD 0 nilBg).rows.length (xs.getD 0 nilBg).c] W fun e w' => e = .returned (.string t) ∧ Below W.heap.size W w') :
    Calls Tryz.prog 30 #[.agg #[.slice n.ca n.cols.length n.cc, .slice n.pa 2 n.pc, .slice n.ta n.tasks.length n.tc, .int .i64 n.frm, .int .i64 n.too], .slice a 2 ca] w (StrPost ((⟨#[123]⟩ : ByteArray) ++ t ++ ⟨#[125]⟩) w) := by
  obtain ⟨b0, o0, hae, hbl, x0, ok0⟩ := ha.row (k := 0) (by omega)
  obtain ⟨b1, o1, hae1, hbl1, x1, ok1⟩ := ha.row (k := 1) (by omega)
  subst hae
  injection hae1 with e; injection e with e1 e2
  subst e1 e2
  obtain ⟨bp, op, hpa, hrun, hpl⟩ := hN.2.2.1.at (i := 0) (by omega)
  generalize n.places.getD 0 nilPl = p at *
  generalize xs.getD 0 nilBg = g0 at *
  generalize xs.getD 1 nilBg = g1 at *
  rw [h1] at x1
  have p0 : w.cell? ⟨bp, op, none⟩ = some (.string p.name) := by have := hrun 0 _ rfl; simpa using this
  have p1 : w.cell? ⟨bp, op + 1, none⟩ = some (.int .i64 p.colour) := by have := hrun 1 _ rfl; simpa using this
  have p2 : w.cell? ⟨bp, op + 2, none⟩ = some (.slice p.fa p.first.length p.fc) := by have := hrun 2 _ rfl; simpa using this
  simp only [Nat.add_zero] at x0
  have HP : Hid (∀ W, Below w.heap.size w W → Calls Tryz.prog 53 #[.slice n.ca n.cols.length n.cc, .agg #[.string p.name, .int .i64 p.colour, .slice p.fa p.first.length p.fc], .slice g0.a g0.rows.length g0.c] W fun e w' => e = .returned (.string t) ∧ Below W.heap.size W w') := hP
  rw [hpa] at *
  generalize g0.rows.length = l0 at *
  have hl0' : (0 : Int) < l0 := by omega
  clear hN ha ok0 ok1 hrun hpl hP h1 hn hpa
  have X : ∀ W, Below w.heap.size w W → (W.cell? ⟨b0, o0, none⟩ = some (.slice g0.a l0 g0.c) ∧ W.cell? ⟨b0, o0 + 1, none⟩ = some (.slice g1.a 0 g1.c)) ∧ W.cell? ⟨bp, op, none⟩ = some (.string p.name) ∧ W.cell? ⟨bp, op + 1, none⟩ = some (.int .i64 p.colour) ∧ W.cell? ⟨bp, op + 2, none⟩ = some (.slice p.fa p.first.length p.fc) := fun W hW =>
    ⟨⟨rowB_call x0 hW, rowB_call x1 hW⟩, rowB_call p0 hW, rowB_call p1 hW, rowB_call p2 hW⟩
  have XH : Hid (∀ W, Below w.heap.size w W → (W.cell? ⟨b0, o0, none⟩ = some (.slice g0.a l0 g0.c) ∧ W.cell? ⟨b0, o0 + 1, none⟩ = some (.slice g1.a 0 g1.c)) ∧ W.cell? ⟨bp, op, none⟩ = some (.string p.name) ∧ W.cell? ⟨bp, op + 1, none⟩ = some (.int .i64 p.colour) ∧ W.cell? ⟨bp, op + 2, none⟩ = some (.slice p.fa p.first.length p.fc)) := X
  clear X x0 x1 p0 p1 p2
  go_enter Tryz.func30, Tryz.ntmps30
  go_wp2
  have F : ∀ W1, W1 = w.alloc (.cells #[.slice n.ca n.cols.length n.cc, .slice (some ⟨bp, op, none⟩) 2 n.pc, .slice n.ta n.tasks.length n.tc, .int .i64 n.frm, .int .i64 n.too] 47) →
      (W1.cell? ⟨w.heap.size, 0, none⟩ = some (.slice n.ca n.cols.length n.cc) ∧ W1.cell? ⟨w.heap.size, 1, none⟩ = some (.slice (some ⟨bp, op, none⟩) 2 n.pc)) ∧ Below w.heap.size w W1 := fun W1 e => by
    subst e
    exact ⟨⟨by simp, by simp⟩, (Below.refl _ _).alloc (Nat.le_refl _) _⟩
  generalize hW : w.alloc (.cells #[.slice n.ca n.cols.length n.cc, .slice (some ⟨bp, op, none⟩) 2 n.pc, .slice n.ta n.tasks.length n.tc, .int .i64 n.frm, .int .i64 n.too] 47) = W1
  obtain ⟨⟨n0, n1⟩, hB0⟩ := F W1 hW.symm
  have B0 : Hid (Below w.heap.size w W1) := hB0
  have N0 : Hid (W1.cell? ⟨w.heap.size, 0, none⟩ = some (.slice n.ca n.cols.length n.cc)) := n0
  have N1 : Hid (W1.cell? ⟨w.heap.size, 1, none⟩ = some (.slice (some ⟨bp, op, none⟩) 2 n.pc)) := n1
  obtain ⟨⟨x0, x1⟩, p0, p1, p2⟩ := XH.out W1 hB0
  have Y0 : Hid (W1.cell? ⟨b0, o0, none⟩ = some (.slice g0.a l0 g0.c)) := x0
  have Y1 : Hid (W1.cell? ⟨b0, o0 + 1, none⟩ = some (.slice g1.a 0 g1.c)) := x1
  have hbA : b0 < W1.heap.size := World.block_lt_of_cell? W1 _ x0
  have hbP : bp < W1.heap.size := World.block_lt_of_cell? W1 _ p0
  have HPW : Hid (∀ W, Below W1.heap.size W1 W → Calls Tryz.prog 53 #[.slice n.ca n.cols.length n.cc, .agg #[.string p.name, .int .i64 p.colour, .slice p.fa p.first.length p.fc], .slice g0.a l0 g0.c] W fun e w' => e = .returned (.string t) ∧ Below W1.heap.size W1 w') := fun W hW => (HP.out W (then_ B0.out hW)).mono fun e w' h => ⟨h.1, then_ hW h.2⟩
  clear F hW hB0 XH HP hbl hbl1
  refine wp_loop_rounds 3 ?_
  rw [rounds_succ]
  go_wp2_with fail
  go_region_law (first
    | (refine step_own (B := w.heap.size) (sa := none) (n := 0) (c := 0) (xs := []) (news := [.string t]) rfl _ _ rfl rfl rfl Tryz.underlying76 infoStr rfl (by decide) (by decide) (World.ownsRow_nil _ _ _ _) rfl (fun j u hu => by
      match j, hu with
      | 0, hu => simp at hu; subst hu; simp
      | j + 1, hu => simp at hu) (by simp [Value.oneCell']) (by decide) (by have h1 := hb2.size; have h2 := B0.out.size; simp; omega) ?_; intro a' c' w3 hown hg hat; have B3 : Hid (Below W1.heap.size W1 w3) := (Below.grown (by repeat (first | exact hb2 | refine Below.drew ?_ | refine Below.alloc ?_ (by have h1 := hb2.size; simp; omega) _)) hg (by have h1 := hb2.size; simp; omega) (fun k hk => by cases hk)); have OW : Hid (w3.ownsRow w.heap.size 9 1 (.slice a' (0 + 1) c') (0 + 1) ([] ++ [.string t])) := hown; clear hown hg hat)
    | (go_simp; go_at_call 53; refine (HPW.out _ (by repeat (first | assumption | exact Below.refl _ _ | refine Below.drew ?_ | refine Below.alloc ?_ (by simp) _))).mono ?_; rintro e w2 ⟨he, hb2⟩; subst he))
  all_goals
    obtain ⟨g, ha', hc'⟩ := own_one OW.out
    subst ha'
    have D1 : Hid (w3.cell? ⟨b0, o0 + 1, none⟩ = some (.slice g1.a 0 g1.c)) := rowB_call Y1.out B3.out
    have D2 : Hid (w3.cell? ⟨g, 0, none⟩ = some (.string t)) := hc'
    have BW : Hid (Below w.heap.size w w3) := then_ B0.out B3.out
    have hg3 : b0 < w3.heap.size := Nat.lt_of_lt_of_le hbA B3.out.size
    clear hc' OW B3 x0 x1 p0 p1 p2 n0 n1 Y0 Y1 N0 N1 HPW hb2
    have d1 := D1.out
    go_wp2_with fail
    rw [rounds_succ]
    go_wp2_with fail
    rw [rounds_succ]
    go_wp2_with fail
    refine (join_one g 0 c' t ⟨#[44, 32]⟩ _ D2.out).mono ?_
    rintro e w4 ⟨he, hw⟩
    subst he
    have hw := hw.symm
    subst hw
    go_wp2
    go_ret
    exact ⟨rfl, BW.out⟩
end Go.Proofs.YtnjpblmplneojaaGreatDoor.Mark
