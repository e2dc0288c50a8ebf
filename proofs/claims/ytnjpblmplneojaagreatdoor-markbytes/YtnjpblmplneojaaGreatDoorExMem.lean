/- How expressions lie in memory. -/
import Derived.Test.YtnjpblmplneojaaGreatDoorExPlain
import Derived.Test.YtnjpblmplneojaaGreatDoorFrame
import Derived.WalkSmall
namespace Go.Proofs.YtnjpblmplneojaaGreatDoor.Expr
open Go.RowKit Go.Proofs.YtnjpblmplneojaaGreatDoor.Frame
set_option linter.unusedVariables false

def In64 (n : Int) : Prop := -9223372036854775808 ≤ n ∧ n ≤ 9223372036854775807
def nilEx : Ex := ⟨0, 0, []⟩
/-- the kids of an expression lie behind an address, in rows that 'ok' takes -/
def XG (ok : Nat → Nat → Prop) (w : World) : Ex → Option Addr → Prop := fold fun k n ks l a =>
  (In64 k ∧ In64 n) ∧ (ks.length = 0 ∨ ∃ b off, a = some ⟨b, off, none⟩ ∧ ok b off ∧ ∀ i, i < ks.length → ∃ ai ci, w.cell? ⟨b, off + i * 3, none⟩ = some (.int .i64 (ks.getD i nilEx).kind) ∧ w.cell? ⟨b, off + i * 3 + 1, none⟩ = some (.int .i64 (ks.getD i nilEx).num) ∧ w.cell? ⟨b, off + i * 3 + 2, none⟩ = some (.slice ai (ks.getD i nilEx).kids.length ci) ∧ (l.getD i (fun _ => True)) ai)
theorem xg_eq (ok : Nat → Nat → Prop) (w : World) (k n : Int) (ks : List Ex) (a : Option Addr) : XG ok w ⟨k, n, ks⟩ a ↔ (In64 k ∧ In64 n) ∧ (ks.length = 0 ∨ ∃ b off, a = some ⟨b, off, none⟩ ∧ ok b off ∧ ∀ i, i < ks.length → ∃ ai ci, w.cell? ⟨b, off + i * 3, none⟩ = some (.int .i64 (ks.getD i nilEx).kind) ∧ w.cell? ⟨b, off + i * 3 + 1, none⟩ = some (.int .i64 (ks.getD i nilEx).num) ∧ w.cell? ⟨b, off + i * 3 + 2, none⟩ = some (.slice ai (ks.getD i nilEx).kids.length ci) ∧ XG ok w (ks.getD i nilEx) ai) := by
  have key : ∀ i, i < ks.length → (ks.map (XG ok w)).getD i (fun _ => True) = XG ok w (ks.getD i nilEx) := fun i hi => by
    rw [List.getD_eq_getElem?_getD, List.getElem?_map, List.getD_eq_getElem?_getD, List.getElem?_eq_getElem hi]; rfl
  unfold XG
  rw [fold_eq]
  refine and_congr Iff.rfl (or_congr Iff.rfl ⟨?_, ?_⟩)
  · rintro ⟨b, off, ha, ho, h⟩
    refine ⟨b, off, ha, ho, fun i hi => ?_⟩
    obtain ⟨ai, ci, h1, h2, h3, h4⟩ := h i hi
    refine ⟨ai, ci, h1, h2, h3, ?_⟩
    have := key i hi
    unfold XG at this
    rw [← this]; exact h4
  · rintro ⟨b, off, ha, ho, h⟩
    refine ⟨b, off, ha, ho, fun i hi => ?_⟩
    obtain ⟨ai, ci, h1, h2, h3, h4⟩ := h i hi
    refine ⟨ai, ci, h1, h2, h3, ?_⟩
    have := key i hi
    unfold XG at this
    rw [this]; exact h4
def X (w : World) (t : Ex) (a : Option Addr) : Prop := XG (fun _ _ => True) w t a

theorem getD_mem {ks : List Ex} {i : Nat} (h : i < ks.length) : ks.getD i nilEx ∈ ks := by
  rw [List.getD_eq_getElem?_getD, List.getElem?_eq_getElem h]; exact List.getElem_mem h
theorem XG.mono {ok ok' : Nat → Nat → Prop} {w : World} (ho : ∀ b off, ok b off → ok' b off) : ∀ {t : Ex} {a : Option Addr}, XG ok w t a → XG ok' w t a := by
  intro t
  refine Ex.ind (p := fun t => ∀ {a : Option Addr}, XG ok w t a → XG ok' w t a) (fun k n ks ih a h => ?_) t
  rw [xg_eq] at h ⊢
  refine ⟨h.1, ?_⟩
  rcases h.2 with h0 | ⟨b, off, ha, hob, hc⟩
  · exact .inl h0
  · refine .inr ⟨b, off, ha, ho _ _ hob, fun i hi => ?_⟩
    obtain ⟨ai, ci, h1, h2, h3, h4⟩ := hc i hi
    exact ⟨ai, ci, h1, h2, h3, ih _ (getD_mem hi) h4⟩
theorem XG.x {ok : Nat → Nat → Prop} {w : World} {t : Ex} {a : Option Addr} (h : XG ok w t a) : X w t a := h.mono fun _ _ _ => trivial
/-- carried into another world whose cells are as they were, at all rows that 'ok' takes -/
theorem XG.carry {ok : Nat → Nat → Prop} {w w' : World} (hc : ∀ b off o, ok b off → ∀ v, w.cell? ⟨b, o, none⟩ = some v → w'.cell? ⟨b, o, none⟩ = some v) : ∀ {t : Ex} {a : Option Addr}, XG ok w t a → XG ok w' t a := by
  intro t
  refine Ex.ind (p := fun t => ∀ {a : Option Addr}, XG ok w t a → XG ok w' t a) (fun k n ks ih a h => ?_) t
  rw [xg_eq] at h ⊢
  refine ⟨h.1, ?_⟩
  rcases h.2 with h0 | ⟨b, off, ha, hob, hx⟩
  · exact .inl h0
  · refine .inr ⟨b, off, ha, hob, fun i hi => ?_⟩
    obtain ⟨ai, ci, h1, h2, h3, h4⟩ := hx i hi
    exact ⟨ai, ci, hc _ off _ hob _ h1, hc _ off _ hob _ h2, hc _ off _ hob _ h3, ih _ (getD_mem hi) h4⟩
theorem XG.below {ok : Nat → Nat → Prop} {w w' : World} {t : Ex} {a : Option Addr} (h : XG ok w t a) (hb : Below w.heap.size w w') : XG ok w' t a :=
  h.carry fun b off o _ v hv => (hb.cell (p := ⟨b, o, none⟩) (World.block_lt_of_cell? w _ hv)).trans hv
theorem X.below {w w' : World} {t : Ex} {a : Option Addr} (h : X w t a) (hb : Below w.heap.size w w') : X w' t a := XG.below h hb
/-- a tree that lies below B, and a world that is the same there -/
theorem XG.belowB {ok : Nat → Nat → Prop} {B : Nat} {w w' : World} {t : Ex} {a : Option Addr} (h : XG ok w t a) (ho : ∀ b off, ok b off → b < B) (hb : Below B w w') : XG ok w' t a :=
  h.carry fun b off o hob v hv => (hb.cell (p := ⟨b, o, none⟩) (ho _ _ hob)).trans hv
/-- every tree lies below the heap's end -/
theorem X.lt {w : World} : ∀ {t : Ex} {a : Option Addr}, X w t a → XG (fun b _ => b < w.heap.size) w t a := by
  intro t
  refine Ex.ind (p := fun t => ∀ {a : Option Addr}, X w t a → XG (fun b _ => b < w.heap.size) w t a) (fun k n ks ih a h => ?_) t
  unfold X at h
  rw [xg_eq] at h ⊢
  refine ⟨h.1, ?_⟩
  rcases h.2 with h0 | ⟨b, off, ha, hob, hx⟩
  · exact .inl h0
  · by_cases h0 : ks.length = 0
    · exact .inl h0
    obtain ⟨_, _, g1, _⟩ := hx 0 (by omega)
    refine .inr ⟨b, off, ha, World.block_lt_of_cell? w _ g1, fun i hi => ?_⟩
    obtain ⟨ai, ci, h1, h2, h3, h4⟩ := hx i hi
    exact ⟨ai, ci, h1, h2, h3, ih _ (getD_mem hi) h4⟩
theorem XG.lt2 {ok : Nat → Nat → Prop} {w : World} : ∀ {t : Ex} {a : Option Addr}, XG ok w t a → XG (fun b off => ok b off ∧ b < w.heap.size) w t a := by
  intro t
  refine Ex.ind (p := fun t => ∀ {a : Option Addr}, XG ok w t a → XG (fun b off => ok b off ∧ b < w.heap.size) w t a) (fun k n ks ih a h => ?_) t
  rw [xg_eq] at h ⊢
  refine ⟨h.1, ?_⟩
  rcases h.2 with h0 | ⟨b, off, ha, hob, hx⟩
  · exact .inl h0
  · by_cases h0 : ks.length = 0
    · exact .inl h0
    obtain ⟨_, _, g1, _⟩ := hx 0 (by omega)
    refine .inr ⟨b, off, ha, ⟨hob, World.block_lt_of_cell? w _ g1⟩, fun i hi => ?_⟩
    obtain ⟨ai, ci, h1, h2, h3, h4⟩ := hx i hi
    exact ⟨ai, ci, h1, h2, h3, ih _ (getD_mem hi) h4⟩
theorem X.node {w : World} {k n : Int} {ks : List Ex} {a : Option Addr} (h : X w ⟨k, n, ks⟩ a) : In64 k ∧ In64 n := ((xg_eq _ _ _ _ _ _).1 h).1
theorem X.root {w : World} {t : Ex} {a : Option Addr} (h : X w t a) : In64 t.kind ∧ In64 t.num := by obtain ⟨k, n, ks⟩ := t; exact h.node
/-- a kid -/
theorem X.kid {w : World} {k n : Int} {ks : List Ex} {a : Option Addr} (h : X w ⟨k, n, ks⟩ a) {i : Nat} (hi : i < ks.length) : ∃ b off x ai ci, a = some ⟨b, off, none⟩ ∧ b < w.heap.size ∧ x ∈ ks ∧ x = ks.getD i nilEx ∧
    w.cell? ⟨b, off + i * 3, none⟩ = some (.int .i64 x.kind) ∧ w.cell? ⟨b, off + i * 3 + 1, none⟩ = some (.int .i64 x.num) ∧ w.cell? ⟨b, off + i * 3 + 2, none⟩ = some (.slice ai x.kids.length ci) ∧ X w x ai := by
  unfold X at h
  rw [xg_eq] at h
  rcases h.2 with h0 | ⟨b, off, ha, hob, hx⟩
  · omega
  · obtain ⟨ai, ci, h1, h2, h3, h4⟩ := hx i hi
    exact ⟨b, off, ks.getD i nilEx, ai, ci, ha, World.block_lt_of_cell? w _ h1, getD_mem hi, rfl, h1, h2, h3, h4⟩
theorem kid_lt {ok : Nat → Nat → Prop} {w : World} {k n : Int} {ks : List Ex} {a : Option Addr} (h : XG ok w ⟨k, n, ks⟩ a) {i : Nat} (hi : i < ks.length) : ∃ b off x ai ci, a = some ⟨b, off, none⟩ ∧ b < w.heap.size ∧ ok b off ∧ x ∈ ks ∧ x = ks.getD i nilEx ∧
    w.cell? ⟨b, off + i * 3, none⟩ = some (.int .i64 x.kind) ∧ w.cell? ⟨b, off + i * 3 + 1, none⟩ = some (.int .i64 x.num) ∧ w.cell? ⟨b, off + i * 3 + 2, none⟩ = some (.slice ai x.kids.length ci) ∧ XG ok w x ai := by
  rw [xg_eq] at h
  rcases h.2 with h0 | ⟨b, off, ha, hob, hx⟩
  · omega
  · obtain ⟨ai, ci, h1, h2, h3, h4⟩ := hx i hi
    exact ⟨b, off, ks.getD i nilEx, ai, ci, ha, World.block_lt_of_cell? w _ h1, hob, getD_mem hi, rfl, h1, h2, h3, h4⟩
/-- numbers in memory -/
def Nm (w : World) (a : Option Addr) (len : Nat) (zs : List Int) : Prop :=
  (zs.length = len ∧ ∀ i, i < len → In64 (zs.getD i 0)) ∧ (len = 0 ∨ ∃ b off, a = some ⟨b, off, none⟩ ∧ ∀ i, i < len → w.cell? ⟨b, off + i, none⟩ = some (.int .i64 (zs.getD i 0)))
theorem Nm.below {w w' : World} {a : Option Addr} {len : Nat} {zs : List Int} (h : Nm w a len zs) (hb : Below w.heap.size w w') : Nm w' a len zs := by
  refine ⟨h.1, ?_⟩
  rcases h.2 with h0 | ⟨b, off, ha, hc⟩
  · exact .inl h0
  · exact .inr ⟨b, off, ha, fun i hi => (hb.cell (p := ⟨b, off + i, none⟩) (World.block_lt_of_cell? w _ (hc i hi))).trans (hc i hi)⟩
theorem Nm.at {w : World} {a : Option Addr} {len : Nat} {zs : List Int} (h : Nm w a len zs) {i : Nat} (hi : i < len) : ∃ b off, a = some ⟨b, off, none⟩ ∧ b < w.heap.size ∧ w.cell? ⟨b, off + i, none⟩ = some (.int .i64 (zs.getD i 0)) := by
  rcases h.2 with h0 | ⟨b, off, ha, hc⟩
  · omega
  · exact ⟨b, off, ha, World.block_lt_of_cell? w _ (hc i hi), hc i hi⟩
theorem take_snoc {α : Type} {l : List α} {k : Nat} (d : α) (h : k < l.length) : l.take (k + 1) = l.take k ++ [l.getD k d] := by
  rw [List.take_succ_eq_append_getElem h, List.getD_eq_getElem?_getD, List.getElem?_eq_getElem h]; rfl
theorem reti {a b : Int} (h : a = b) : Ending.returned (.int .i64 a) = .returned (.int .i64 b) := by rw [h]
theorem retb {a b : Bool} (h : a = b) : Ending.returned (.bool a) = .returned (.bool b) := by rw [h]
theorem bcell {W w1 : World} (hb : Below W.heap.size W w1) : (∀ b o, b < W.heap.size → w1.cell? ⟨b, o, none⟩ = W.cell? ⟨b, o, none⟩) ∧ (∀ b o, b < W.heap.size → w1.frozen? ⟨b, o, none⟩ = W.frozen? ⟨b, o, none⟩) :=
  ⟨fun b o h => hb.cell (p := ⟨b, o, none⟩) h, fun b o h => hb.frozen (p := ⟨b, o, none⟩) h⟩
end Go.Proofs.YtnjpblmplneojaaGreatDoor.Expr
