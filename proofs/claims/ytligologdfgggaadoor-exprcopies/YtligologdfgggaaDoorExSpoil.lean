/- spoil of the laws of layer 4: a contract of the call, over the turned program. -/
import Derived.Test.YtligologdfgggaaDoorExLaw
namespace Go.Proofs.YtligologdfgggaaDoor.Expr
open Go.RowKit Go.Proofs.YtligologdfgggaaDoor.Frame Go.Proofs.YtligologdfgggaaDoor.Calc
set_option linter.unusedVariables false
set_option linter.unusedSimpArgs false

/-- the form of an expression in memory: its numbers may be any -/
def XSh (ok : Nat → Nat → Prop) (w : World) : Ex → Option Addr → Prop := fold fun k n ks l a =>
  In64 k ∧ (ks.length = 0 ∨ ∃ b off, a = some ⟨b, off, none⟩ ∧ ok b off ∧ ∀ i, i < ks.length → ∃ ai ci z, (w.cell? ⟨b, off + i * 3, none⟩ = some (.int .i64 (ks.getD i nilEx).kind) ∧ (w.cell? ⟨b, off + i * 3 + 1, none⟩ = some (.int .i64 z) ∧ In64 z) ∧ w.cell? ⟨b, off + i * 3 + 2, none⟩ = some (.slice ai (ks.getD i nilEx).kids.length ci)) ∧ (l.getD i (fun _ => True)) ai)
theorem xsh_eq (ok : Nat → Nat → Prop) (w : World) (k n : Int) (ks : List Ex) (a : Option Addr) : XSh ok w ⟨k, n, ks⟩ a ↔ In64 k ∧ (ks.length = 0 ∨ ∃ b off, a = some ⟨b, off, none⟩ ∧ ok b off ∧ ∀ i, i < ks.length → ∃ ai ci z, (w.cell? ⟨b, off + i * 3, none⟩ = some (.int .i64 (ks.getD i nilEx).kind) ∧ (w.cell? ⟨b, off + i * 3 + 1, none⟩ = some (.int .i64 z) ∧ In64 z) ∧ w.cell? ⟨b, off + i * 3 + 2, none⟩ = some (.slice ai (ks.getD i nilEx).kids.length ci)) ∧ XSh ok w (ks.getD i nilEx) ai) := by
  have key : ∀ i, i < ks.length → (ks.map (XSh ok w)).getD i (fun _ => True) = XSh ok w (ks.getD i nilEx) := fun i hi => by
    rw [List.getD_eq_getElem?_getD, List.getElem?_map, List.getD_eq_getElem?_getD, List.getElem?_eq_getElem hi]; rfl
  unfold XSh
  rw [fold_eq]
  refine and_congr Iff.rfl (or_congr Iff.rfl ⟨?_, ?_⟩)
  · rintro ⟨b, off, ha, ho, h⟩
    refine ⟨b, off, ha, ho, fun i hi => ?_⟩
    obtain ⟨ai, ci, z, h1, h4⟩ := h i hi
    refine ⟨ai, ci, z, h1, ?_⟩
    have := key i hi
    unfold XSh at this
    rw [← this]; exact h4
  · rintro ⟨b, off, ha, ho, h⟩
    refine ⟨b, off, ha, ho, fun i hi => ?_⟩
    obtain ⟨ai, ci, z, h1, h4⟩ := h i hi
    refine ⟨ai, ci, z, h1, ?_⟩
    have := key i hi
    unfold XSh at this
    rw [this]; exact h4
theorem XG.sh {ok : Nat → Nat → Prop} {w : World} : ∀ {t : Ex} {a : Option Addr}, XG ok w t a → XSh ok w t a := by
  intro t
  refine Ex.ind (p := fun t => ∀ {a : Option Addr}, XG ok w t a → XSh ok w t a) (fun k n ks ih a h => ?_) t
  rw [xg_eq] at h
  rw [xsh_eq]
  refine ⟨h.1.1, ?_⟩
  rcases h.2 with h0 | ⟨b, off, ha, hob, hc⟩
  · exact .inl h0
  · refine .inr ⟨b, off, ha, hob, fun i hi => ?_⟩
    obtain ⟨ai, ci, h1, h2, h3, h4⟩ := hc i hi
    exact ⟨ai, ci, _, ⟨h1, ⟨h2, (XG.x h4).root.2⟩, h3⟩, ih _ (getD_mem hi) h4⟩
/-- it is some expression of the same form -/
theorem XSh.real {ok : Nat → Nat → Prop} {w : World} : ∀ {t : Ex} {a : Option Addr} (z : Int), In64 z → XSh ok w t a → ∃ t', t'.kind = t.kind ∧ t'.num = z ∧ t'.kids.length = t.kids.length ∧ sizeF t' = sizeF t ∧ X w t' a := by
  intro t
  refine Ex.ind (p := fun t => ∀ {a : Option Addr} (z : Int), In64 z → XSh ok w t a → ∃ t', t'.kind = t.kind ∧ t'.num = z ∧ t'.kids.length = t.kids.length ∧ sizeF t' = sizeF t ∧ X w t' a) (fun k n ks ih a z hz h => ?_) t
  rw [xsh_eq] at h
  rcases h.2 with h0 | ⟨b, off, ha, hob, hc⟩
  · have hks := List.eq_nil_of_length_eq_zero h0
    subst hks
    exact ⟨⟨k, z, []⟩, rfl, rfl, rfl, by simp [size_eq], (xg_eq _ _ _ _ _ _).2 ⟨⟨h.1, hz⟩, .inl rfl⟩⟩
  · haveI : Inhabited Ex := ⟨nilEx⟩
    obtain ⟨f, hf⟩ := Go.Deep.choose_lt (n := ks.length) (p := fun i (t' : Ex) => (∃ ai ci, w.cell? ⟨b, off + i * 3, none⟩ = some (.int .i64 t'.kind) ∧ w.cell? ⟨b, off + i * 3 + 1, none⟩ = some (.int .i64 t'.num) ∧ w.cell? ⟨b, off + i * 3 + 2, none⟩ = some (.slice ai t'.kids.length ci) ∧ X w t' ai) ∧ sizeF t' = sizeF (ks.getD i nilEx)) (fun i hi => by
      obtain ⟨ai, ci, z', ⟨h1, ⟨h2, hz'⟩, h3⟩, h4⟩ := hc i hi
      obtain ⟨t', e1, e2, e3, e4, e5⟩ := ih _ (getD_mem hi) z' hz' h4
      exact ⟨t', ⟨ai, ci, by rw [e1]; exact h1, by rw [e2]; exact h2, by rw [e3]; exact h3, e5⟩, e4⟩)
    have hg : ∀ i, i < ks.length → ((List.range ks.length).map f).getD i nilEx = f i := fun i hi => by
      rw [List.getD_eq_getElem?_getD, List.getElem?_map, List.getElem?_range hi]; rfl
    refine ⟨⟨k, z, (List.range ks.length).map f⟩, rfl, rfl, by simp, ?_, (xg_eq _ _ _ _ _ _).2 ⟨⟨h.1, hz⟩, .inr ⟨b, off, ha, trivial, fun i hi => ?_⟩⟩⟩
    · rw [size_eq, size_eq]
      congr 2
      refine List.ext_getElem (by simp) fun i h1 h2 => ?_
      have hi : i < ks.length := by simpa using h2
      have := (hf i hi).2
      rw [List.getD_eq_getElem?_getD, List.getElem?_eq_getElem hi] at this
      simpa using this
    · have hi' : i < ks.length := by simpa using hi
      rw [hg i hi']
      obtain ⟨⟨ai, ci, h1, h2, h3, h4⟩, _⟩ := hf i hi'
      exact ⟨ai, ci, h1, h2, h3, h4⟩
/-- written into: the second of each three cells of blocks from B on alone -/
def Sp (B : Nat) (w w' : World) : Prop := Below B w w' ∧ (∀ b o v, w.cell? ⟨b, o, none⟩ = some v → w'.cell? ⟨b, o, none⟩ = some v ∨ (B ≤ b ∧ o % 3 = 1 ∧ w'.cell? ⟨b, o, none⟩ = some (.int .i64 (-77)))) ∧ ∀ b o, b < w.heap.size → w'.frozen? ⟨b, o, none⟩ = w.frozen? ⟨b, o, none⟩
theorem Sp.refl (B : Nat) (w : World) : Sp B w w := ⟨Below.refl _ _, fun _ _ _ h => .inl h, fun _ _ _ => rfl⟩
theorem Sp.trans {B : Nat} {u v w : World} (h : Sp B u v) (k : Sp B v w) : Sp B u w := by
  refine ⟨h.1.trans k.1, fun b o x hx => ?_, fun b o hb => (k.2.2 b o (Nat.lt_of_lt_of_le hb h.1.size)).trans (h.2.2 b o hb)⟩
  rcases h.2.1 b o x hx with h1 | ⟨h1, h2, h3⟩
  · rcases k.2.1 b o x h1 with k1 | k1
    · exact .inl k1
    · exact .inr k1
  · rcases k.2.1 b o _ h3 with k1 | ⟨_, _, k3⟩
    · exact .inr ⟨h1, h2, k1⟩
    · exact .inr ⟨h1, h2, k3⟩
theorem Sp.of {B : Nat} {w w' : World} (hB : B ≤ w.heap.size) (h : Below w.heap.size w w') : Sp B w w' :=
  ⟨h.mono hB, fun b o v hv => .inl ((h.cell (p := ⟨b, o, none⟩) (World.block_lt_of_cell? w _ hv)).trans hv), fun b o hb => h.frozen (p := ⟨b, o, none⟩) hb⟩
theorem Sp.set {B b o : Nat} {w : World} (hb : B ≤ b) (ho : o % 3 = 1) (hx : ∃ v, w.cell? ⟨b, o, none⟩ = some v) : Sp B w (w.setCell ⟨b, o, none⟩ (.int .i64 (-77))) := by
  obtain ⟨v0, hx⟩ := hx
  refine ⟨(Below.refl _ _).setCell (p := ⟨b, o, none⟩) hb _, fun b' o' v hv => ?_, fun b' o' _ => by simp⟩
  by_cases h : b' = b ∧ o' = o
  · obtain ⟨rfl, rfl⟩ := h
    exact .inr ⟨hb, ho, World.cell?_setCell_same _ _ _ hx⟩
  · refine .inl ((World.cell?_setCell_other _ _ _ _ fun e => h ⟨(congrArg Addr.block e).symm, (congrArg Addr.off e).symm⟩).trans hv)
/-- rows that were made, each from its block's beginning, or that lie below B -/
theorem XSh.sp {B : Nat} {ok : Nat → Nat → Prop} {w w' : World} (hok : ∀ b off, ok b off → b < B ∨ off = 0) (hs : Sp B w w') : ∀ {t : Ex} {a : Option Addr}, XSh ok w t a → XSh ok w' t a := by
  intro t
  refine Ex.ind (p := fun t => ∀ {a : Option Addr}, XSh ok w t a → XSh ok w' t a) (fun k n ks ih a h => ?_) t
  rw [xsh_eq] at h ⊢
  refine ⟨h.1, ?_⟩
  rcases h.2 with h0 | ⟨b, off, ha, hob, hc⟩
  · exact .inl h0
  · refine .inr ⟨b, off, ha, hob, fun i hi => ?_⟩
    obtain ⟨ai, ci, z, ⟨h1, ⟨h2, hz⟩, h3⟩, h4⟩ := hc i hi
    have keep : ∀ o v, (b < B ∨ o % 3 ≠ 1) → w.cell? ⟨b, o, none⟩ = some v → w'.cell? ⟨b, o, none⟩ = some v := fun o v ho hv => by
      rcases hs.2.1 b o v hv with h | ⟨e1, e2, _⟩
      · exact h
      · rcases ho with h | h
        · omega
        · exact absurd e2 h
    rcases hok b off hob with hb | rfl
    · exact ⟨ai, ci, z, ⟨keep _ _ (.inl hb) h1, ⟨keep _ _ (.inl hb) h2, hz⟩, keep _ _ (.inl hb) h3⟩, ih _ (getD_mem hi) h4⟩
    · rcases hs.2.1 b _ _ h2 with e | ⟨_, _, e⟩
      · exact ⟨ai, ci, z, ⟨keep _ _ (.inr (by omega)) h1, ⟨e, hz⟩, keep _ _ (.inr (by omega)) h3⟩, ih _ (getD_mem hi) h4⟩
      · exact ⟨ai, ci, -77, ⟨keep _ _ (.inr (by omega)) h1, ⟨e, by decide, by decide⟩, keep _ _ (.inr (by omega)) h3⟩, ih _ (getD_mem hi) h4⟩
theorem XSh.mono {ok ok' : Nat → Nat → Prop} {w : World} (ho : ∀ b off, ok b off → ok' b off) : ∀ {t : Ex} {a : Option Addr}, XSh ok w t a → XSh ok' w t a := by
  intro t
  refine Ex.ind (p := fun t => ∀ {a : Option Addr}, XSh ok w t a → XSh ok' w t a) (fun k n ks ih a h => ?_) t
  rw [xsh_eq] at h ⊢
  refine ⟨h.1, ?_⟩
  rcases h.2 with h0 | ⟨b, off, ha, hob, hc⟩
  · exact .inl h0
  · refine .inr ⟨b, off, ha, ho _ _ hob, fun i hi => ?_⟩
    obtain ⟨ai, ci, z, h1, h4⟩ := hc i hi
    exact ⟨ai, ci, z, h1, ih _ (getD_mem hi) h4⟩

/-- a tree that may be spoiled -/
def XSo (B : Nat) (w : World) (t : Ex) (a : Option Addr) : Prop := XSh (fun b off => B ≤ b ∧ off = 0 ∧ b < w.heap.size ∧ NFz w b) w t a
theorem XSo.sp {B : Nat} {w w' : World} {t : Ex} {a : Option Addr} (h : XSo B w t a) (hs : Sp B w w') : XSo B w' t a :=
  (XSh.sp (fun b off h => .inr h.2.1) hs h).mono fun b off h => ⟨h.1, h.2.1, Nat.lt_of_lt_of_le h.2.2.1 hs.1.size, fun o => (hs.2.2 b o h.2.2.1).trans (h.2.2.2 o)⟩
theorem XO.so {B : Nat} {w : World} {t : Ex} {a : Option Addr} (h : XO B w t a) : XSo B w t a := (XG.sh (XG.lt2 h)).mono fun b off h => ⟨h.1.1, h.1.2.1, h.2, h.1.2.2⟩

set_option maxRecDepth 100000 in
set_option maxHeartbeats 2000000 in
theorem spoil_any (B : Nat) : ∀ (t : Ex) (w : World) (a : Option Addr) (c : Nat) (n0 : Int), XSo B w t a → B ≤ w.heap.size → sizeF t ≤ 1000000 →
    Calls Tryd.prog 14 #[.agg #[.int .i64 t.kind, .int .i64 n0, .slice a t.kids.length c]] w fun e w' => e = .returned (.tuple #[]) ∧ Sp B w w' := by
  refine Ex.ind fun k n ks ih w a c n0 h hB hs => ?_
  have HX : Hid (XSo B w ⟨k, n, ks⟩ a) := h
  have HI : Hid (∀ (x : Ex), x ∈ ks → ∀ (w : World) (a : Option Addr) (c : Nat) (n0 : Int), XSo B w x a → B ≤ w.heap.size → sizeF x ≤ 1000000 → Calls Tryd.prog 14 #[.agg #[.int .i64 x.kind, .int .i64 n0, .slice a x.kids.length c]] w fun e w' => e = .returned (.tuple #[]) ∧ Sp B w w') := ih
  have hlen : ks.length ≤ 1000000 := by have := len_size k n ks; omega
  have HS : Hid (sizeF ⟨k, n, ks⟩ ≤ 1000000) := hs
  clear ih h hs
  show Calls Tryd.prog 14 #[.agg #[.int .i64 k, .int .i64 n0, .slice a ks.length c]] w _
  obtain ⟨len, hl⟩ : ∃ len, len = ks.length := ⟨_, rfl⟩
  rw [← hl] at hlen ⊢
  have HL : Hid (len = ks.length) := hl
  clear hl
  go_enter Tryd.func14, Tryd.ntmps14
  go_wp2_with fail
  go_loopw [2] (fun i wr => ∃ j : Nat, j ≤ len ∧ i = .int .i64 j ∧ wr.cell? ⟨w.heap.size, 2, none⟩ = some (.slice a len c) ∧ w.heap.size < wr.heap.size ∧ Hid (Sp B w wr)) (fun i _ => len - (intOf i).toNat)
  case atStart => exact ⟨0, by omega, rfl, by simp, by simp, Sp.of hB (al1 _ _)⟩
  case round =>
    obtain ⟨j, hj, rfl, hc, hz, hsp⟩ := hrel
    by_cases hlt : j < len
    · have hlt' : (j : Int) < len := by omega
      have hXr := HX.out.sp hsp.out
      unfold XSo at hXr
      rw [xsh_eq] at hXr
      obtain ⟨_, h0 | ⟨b, off, ha, ⟨ho1, ho2, ho3, ho4⟩, hkid⟩⟩ := hXr
      · exact absurd h0 (by rw [← HL.out]; omega)
      obtain ⟨ai, ci, z, ⟨c0, ⟨c1, _⟩, c2⟩, hxx⟩ := hkid j (by rw [← HL.out]; exact hlt)
      subst ha ho2
      rw [Nat.zero_add] at c0 c1 c2
      have hxm : ks.getD j nilEx ∈ ks := getD_mem (by rw [← HL.out]; exact hlt)
      have SX : sizeF (ks.getD j nilEx) ≤ 1000000 := by have h1 := size_kid (k := k) (n := n) hxm; have h2 := HS.out; omega
      have hbw : ¬ b = w.heap.size := fun e => by
        have hX0 := HX.out
        unfold XSo at hX0
        rw [xsh_eq] at hX0
        obtain ⟨_, h0 | ⟨b', off', ha', ⟨_, _, hlt2, _⟩, _⟩⟩ := hX0
        · exact absurd h0 (by rw [← HL.out]; omega)
        · simp at ha'
          all_goals omega
      have CL : Hid (Calls Tryd.prog 14 #[.agg #[.int .i64 (ks.getD j nilEx).kind, .int .i64 z, .slice ai (ks.getD j nilEx).kids.length ci]] wr fun e w' => e = .returned (.tuple #[]) ∧ (w'.cell? ⟨w.heap.size, 2, none⟩ = some (.slice (some ⟨b, 0, none⟩) len c) ∧ w.heap.size < w'.heap.size) ∧ (∃ u, w'.cell? ⟨b, j * 3 + 1, none⟩ = some u) ∧ w'.frozen? ⟨b, j * 3 + 1, none⟩ = false ∧ Hid (Sp B w (w'.setCell ⟨b, j * 3 + 1, none⟩ (.int .i64 (-77))))) :=
        (HI.out _ hxm wr ai ci z hxx (Nat.le_trans hB hsp.out.1.size) SX).mono fun e w' h => by
          have hs' := hsp.out.trans h.2
          have hcell : w'.cell? ⟨w.heap.size, 2, none⟩ = some (.slice (some ⟨b, 0, none⟩) len c) := by
            rcases h.2.2.1 _ _ _ hc with e | ⟨_, e, _⟩
            · exact e
            · omega
          have hnum : ∃ u, w'.cell? ⟨b, j * 3 + 1, none⟩ = some u := by
            rcases h.2.2.1 _ _ _ c1 with e | ⟨_, _, e⟩
            · exact ⟨_, e⟩
            · exact ⟨_, e⟩
          exact ⟨h.1, ⟨hcell, Nat.lt_of_lt_of_le hz h.2.1.size⟩, hnum, (h.2.2.2 _ _ ho3).trans (ho4 _), hs'.trans (Sp.set ho1 (by omega) hnum)⟩
      generalize ks.getD j nilEx = x at *
      clear hxx hxm hsp HX HI hkid ho4 SX
      have hbw' : ¬ w.heap.size = b := fun e => hbw e.symm
      go_wp2_with (go_at_call 14; refine CL.out.mono ?_; rintro e w1 ⟨he, ⟨q1, q2⟩, ⟨u, q3⟩, q4, q5⟩; subst he)
      go_roundw
      case rel => exact ⟨j + 1, by omega, by go_num, (World.cell?_setCell_other _ _ _ _ (fun e => hbw (congrArg Addr.block e))).trans q1, by simpa [World.setCell] using q2, q5⟩
      case measure => simp [intOf]; omega
    · have hlt' : ¬ (j : Int) < len := by omega
      go_wp2_with fail
      refine bodyPost_end (v := .tuple #[]) ?_ rfl ⟨rfl, hsp.out⟩
      simp [results, Tryd.results14, go_sem]
end Go.Proofs.YtligologdfgggaaDoor.Expr
