/- What the laws of layer 4 share: boxes that stay, calls between them, rows of numbers that are copied and written into. -/
import Derived.Test.YtnhhajbfohjlbaaGreatDoorExSmall1
import Derived.Test.YtnhhajbfohjlbaaGreatDoorExFew
namespace Go.Proofs.YtnhhajbfohjlbaaGreatDoor.Expr
open Go.RowKit Go.Proofs.YtnhhajbfohjlbaaGreatDoor.Frame Go.Proofs.YtnhhajbfohjlbaaGreatDoor.Calc
set_option linter.unusedVariables false
set_option linter.unusedSimpArgs false

abbrev exV (t : Ex) (a : Option Addr) (c : Nat) : Value := .agg #[.int .i64 t.kind, .int .i64 t.num, .slice a t.kids.length c]
/-- two boxes that hold expressions -/
def Bs (W0 : World) (p q : Nat) (t y : Ex) (a b : Option Addr) (c d : Nat) (wx : World) : Prop :=
  Below W0.heap.size W0 wx ∧ (Cell3 wx p (.int .i64 t.kind) (.int .i64 t.num) (.slice a t.kids.length c) ∧ p < wx.heap.size) ∧ Cell3 wx q (.int .i64 y.kind) (.int .i64 y.num) (.slice b y.kids.length d) ∧ q < wx.heap.size
def QB (p q : Nat) (t y : Ex) (a b : Option Addr) (c d : Nat) (w' : World) : Prop :=
  ((w'.cell? ⟨p, 0, none⟩ = some (.int .i64 t.kind) ∧ w'.cell? ⟨p, 1, none⟩ = some (.int .i64 t.num) ∧ w'.cell? ⟨p, 2, none⟩ = some (.slice a t.kids.length c)) ∧ p < w'.heap.size) ∧ (w'.cell? ⟨q, 0, none⟩ = some (.int .i64 y.kind) ∧ w'.cell? ⟨q, 1, none⟩ = some (.int .i64 y.num) ∧ w'.cell? ⟨q, 2, none⟩ = some (.slice b y.kids.length d)) ∧ q < w'.heap.size
section
variable {W0 : World} {p q : Nat} {t y : Ex} {a b : Option Addr} {c d : Nat} {wx w' : World}
theorem Bs.on (h : Bs W0 p q t y a b c d wx) (hb : Below wx.heap.size wx w') : Bs W0 p q t y a b c d w' :=
  ⟨h.1.trans (hb.mono h.1.size), ⟨h.2.1.1.below hb, Nat.lt_of_lt_of_le h.2.1.2 hb.size⟩, h.2.2.1.below hb, Nat.lt_of_lt_of_le h.2.2.2 hb.size⟩
theorem Bs.al (h : Bs W0 p q t y a b c d wx) (o : Obj) : Bs W0 p q t y a b c d (wx.alloc o) := h.on ((Below.refl _ _).alloc (Nat.le_refl _) _)
theorem Bs.dr (h : Bs W0 p q t y a b c d wx) : Bs W0 p q t y a b c d wx.drew := h.on ((Below.refl _ _).drew)
theorem Bs.cells (h : Bs W0 p q t y a b c d wx) : QB p q t y a b c d wx := h.2
/-- a world that is the same below W0's end -/
theorem Bs.to (h : Bs W0 p q t y a b c d W0) (hb : Below W0.heap.size W0 w') : Bs W0 p q t y a b c d w' := h.on hb
/-- a call -/
theorem Bs.call {f : Nat} {args : Array Value} {Q : Ending → World → Prop} (h : Bs W0 p q t y a b c d wx) (hc : Below W0.heap.size W0 wx → Calls Tryz.prog f args wx fun e w' => Q e w' ∧ Below wx.heap.size wx w') :
    Calls Tryz.prog f args wx fun e w' => Q e w' ∧ Hid (Bs W0 p q t y a b c d w') ∧ QB p q t y a b c d w' :=
  (hc h.1).mono fun e w' h' => ⟨h'.1, h.on h'.2, (h.on h'.2).cells⟩
end
/-- both boxes laid -/
theorem bs_two (w : World) (t y : Ex) (a b : Option Addr) (c d : Nat) :
    Bs ((w.alloc (.cells #[.int .i64 t.kind, .int .i64 t.num, .slice a t.kids.length c] 24)).alloc (.cells #[.int .i64 y.kind, .int .i64 y.num, .slice b y.kids.length d] 24)) w.heap.size (w.heap.size + 1) t y a b c d
      ((w.alloc (.cells #[.int .i64 t.kind, .int .i64 t.num, .slice a t.kids.length c] 24)).alloc (.cells #[.int .i64 y.kind, .int .i64 y.num, .slice b y.kids.length d] 24)) := by
  have h1 := (cell3_new w (.int .i64 t.kind) (.int .i64 t.num) (.slice a t.kids.length c) 24).below ((Below.refl _ _).alloc (Nat.le_refl _) (.cells #[.int .i64 y.kind, .int .i64 y.num, .slice b y.kids.length d] 24))
  have h2 := cell3_new (w.alloc (.cells #[.int .i64 t.kind, .int .i64 t.num, .slice a t.kids.length c] 24)) (.int .i64 y.kind) (.int .i64 y.num) (.slice b y.kids.length d) 24
  rw [sZ] at h2
  exact ⟨Below.refl _ _, ⟨h1, World.block_lt_of_cell? _ _ h1.1⟩, h2, World.block_lt_of_cell? _ _ h2.1⟩
theorem bs_one (w : World) (t : Ex) (a : Option Addr) (c : Nat) :
    Bs (w.alloc (.cells #[.int .i64 t.kind, .int .i64 t.num, .slice a t.kids.length c] 24)) w.heap.size w.heap.size t t a a c c (w.alloc (.cells #[.int .i64 t.kind, .int .i64 t.num, .slice a t.kids.length c] 24)) := by
  have h1 := cell3_new w (.int .i64 t.kind) (.int .i64 t.num) (.slice a t.kids.length c) 24
  exact ⟨Below.refl _ _, ⟨h1, World.block_lt_of_cell? _ _ h1.1⟩, h1, World.block_lt_of_cell? _ _ h1.1⟩
theorem two_al (w : World) (o p : Obj) : Below w.heap.size w ((w.alloc o).alloc p) := ((Below.refl _ _).alloc (Nat.le_refl _) _).alloc (by simp) _

theorem bs_end {w W0 : World} {p q : Nat} {t y : Ex} {a b : Option Addr} {c d : Nat} {wx : World} (h0 : Below w.heap.size w W0) (h : Bs W0 p q t y a b c d wx) : Below w.heap.size w wx := h0.trans (h.1.mono h0.size)
/-- another box in the place of the second -/
theorem bs_next {W0 : World} {p q : Nat} {t y : Ex} {a b : Option Addr} {c d : Nat} {wx : World} (h : Bs W0 p q t y a b c d wx) (y' : Ex) (b' : Option Addr) (d' : Nat) :
    Bs (wx.alloc (.cells #[.int .i64 y'.kind, .int .i64 y'.num, .slice b' y'.kids.length d'] 24)) p wx.heap.size t y' a b' c d' (wx.alloc (.cells #[.int .i64 y'.kind, .int .i64 y'.num, .slice b' y'.kids.length d'] 24)) := by
  have h2 := cell3_new wx (.int .i64 y'.kind) (.int .i64 y'.num) (.slice b' y'.kids.length d') 24
  exact ⟨Below.refl _ _, (h.al _).2.1, h2, World.block_lt_of_cell? _ _ h2.1⟩
theorem in_eval {zs : List Int} (hz : ∀ i, i < zs.length → In64 (zs.getD i 0)) {t : Ex} {w : World} {a : Option Addr} (h : X w t a) : In64 (evalF zs t).1 := by
  unfold evalF
  split
  · exact in_val hz t h
  · exact ⟨by decide, by decide⟩

/-- 'append([]int{}, l...)', l not empty: a row of its own -/
theorem copy_own (w : World) (ty : TypeId) (ea : Option Addr) (len cap : Nat) (zs : List Int) (h1 : 1 ≤ len) (h2 : len ≤ 1000000) (hz : Nm w ea len zs) :
    ∃ g c w2, (Builtin.append_ #[32, 32] ty #[.slice (some ⟨w.heap.size, 0, none⟩) 0 0, .slice ea len cap]).run Tryz.prog (w.alloc (.cells #[] 3)) = .ok (.slice (some ⟨g, 0, none⟩) len c) w2 ∧
      w2.ownsRow w.heap.size 3 1 (.slice (some ⟨g, 0, none⟩) len c) len (zs.map (Value.int .i64)) ∧ Below w.heap.size w w2 := by
  obtain ⟨i0, hi, hz0, hz1, hz2⟩ := info_parts intInfo
  have hml : (1000000 : Nat) ≤ maxLen := by decide
  have hown : (w.alloc (.cells #[] 3)).ownsRow w.heap.size 3 1 (.slice (some ⟨w.heap.size, 0, none⟩) 0 0) 0 [] := World.ownsRow_made w #[] 0 (Nat.le_refl _) (by decide) rfl
  obtain ⟨b, off, rfl, hbl, _⟩ := hz.at (i := 0) (by omega)
  obtain ⟨v', w2, hr, ho, hg, hnil⟩ := run_append_own (P := Tryz.prog) (w.alloc (.cells #[] 3)) w.heap.size 32 ty 3 i0 (.int .i64 0) 1 8 Tryz.underlying32 hi hz0 hz1 hz2 rfl (by decide)
    (.slice (some ⟨w.heap.size, 0, none⟩) 0 0) 0 [] hown ⟨b, off, none⟩ len cap (zs.map (Value.int .i64)) (by rw [List.length_map, hz.1.1, Nat.mul_one])
    (fun j u hu => by
      have hj : j < len := by
        have := (List.getElem?_eq_some_iff.1 hu).1
        rw [List.length_map, hz.1.1] at this
        exact this
      obtain ⟨b', off', he, _, hcj⟩ := hz.at (i := j) hj
      simp at he
      obtain ⟨rfl, rfl⟩ := he
      rw [Go.WideShapes.add_plain, World.cell?_of_block (w := w) (Below.heap_alloc w _ b hbl), hcj]
      rw [List.getElem?_map, List.getElem?_eq_getElem (by rw [hz.1.1]; exact hj)] at hu
      simp at hu
      rw [← hu, List.getD_eq_getElem?_getD, List.getElem?_eq_getElem (by rw [hz.1.1]; exact hj)]; rfl)
    (fun u hu => by
      obtain ⟨j, _, rfl⟩ := List.mem_map.1 hu
      rfl)
    (by omega) (by omega) (by simp)
  rw [Nat.zero_add, List.nil_append] at ho
  have ho' := ho
  obtain ⟨hlen, hcase⟩ := ho
  rcases hcase with ⟨_, h0⟩ | ⟨g, c, cur, rfl, hb, hh, hcap, hm, hcs, htk⟩
  · omega
  exact ⟨g, c, w2, hr, ho', ((Below.refl _ w).alloc (Nat.le_refl _) _).grown hg (by simp) (fun k hk => by cases hk; exact Nat.le_refl _)⟩
theorem getD_set (zs : List Int) (k i : Nat) (v : Int) (hk : k < zs.length) : (zs.set k v).getD i 0 = if i = k then v else zs.getD i 0 := by
  rw [List.getD_eq_getElem?_getD, List.getElem?_set]
  by_cases h : k = i
  · subst h; simp [hk]
  · rw [if_neg h, if_neg (fun e => h e.symm), ← List.getD_eq_getElem?_getD]
/-- what is known of a row of numbers of the call's own -/
theorem own_facts {B g len c : Nat} {w : World} {zs : List Int} (h : w.ownsRow B 3 1 (.slice (some ⟨g, 0, none⟩) len c) len (zs.map (Value.int .i64))) : B ≤ g ∧ g < w.heap.size ∧ zs.length = len ∧ (∀ j, j < len → w.cell? ⟨g, j, none⟩ = some (.int .i64 (zs.getD j 0))) ∧ (∀ j, w.frozen? ⟨g, j, none⟩ = false) ∧ len ≤ c := by
  have hl : zs.length = len := by have := h.1; rw [List.length_map, Nat.mul_one] at this; exact this
  have h' := h
  rcases h.2 with ⟨h0, _⟩ | ⟨g', cap, cur, he, hb, hg, hnc, hcm, hcs, htk⟩
  · cases h0
  · simp at he
    obtain ⟨rfl, rfl⟩ := he
    refine ⟨hb, (Array.getElem?_eq_some_iff.1 hg).1, hl, fun j hj => ?_, fun j => by simp [World.frozen?, hg], hnc⟩
    rw [World.ownsRow.cellAt h' j (by omega), List.getElem?_map, List.getElem?_eq_getElem (by omega), List.getD_eq_getElem?_getD, List.getElem?_eq_getElem (by omega)]; rfl
/-- one of them, written anew -/
theorem nm_set {B g len c k : Nat} {w : World} {zs : List Int} {v : Int} (h : w.ownsRow B 3 1 (.slice (some ⟨g, 0, none⟩) len c) len (zs.map (Value.int .i64))) (hz : ∀ i, i < len → In64 (zs.getD i 0)) (hk : k < len) (hv : In64 v) :
    Nm (w.setCell ⟨g, k, none⟩ (.int .i64 v)) (some ⟨g, 0, none⟩) len (zs.set k v) := by
  obtain ⟨_, _, hl, hc, _, _⟩ := own_facts h
  refine ⟨⟨by simpa using hl, fun i hi => ?_⟩, .inr ⟨g, 0, rfl, fun i hi => ?_⟩⟩
  · rw [getD_set _ _ _ _ (by omega)]
    split
    · exact hv
    · exact hz i hi
  · rw [getD_set _ _ _ _ (by omega), Nat.zero_add]
    by_cases hik : i = k
    · subst hik
      rw [if_pos rfl]
      exact World.cell?_setCell_same _ _ _ (hc i hi)
    · rw [if_neg hik, World.cell?_setCell_other _ _ _ _ (fun e => hik (by have := congrArg Addr.off e; simpa using this.symm))]
      exact hc i hi

theorem node_env (env env' : List Int) (k n : Int) (l : List (Int × Int)) (h : k ≠ 2) : nodeF env k n l = nodeF env' k n l := by
  simp [nodeF, h]
theorem map_congr_mem {α β : Type} {f g : α → β} {l : List α} (h : ∀ x, x ∈ l → f x = g x) : l.map f = l.map g := List.map_congr_left h
/-- what was put in tells what the variable does -/
theorem val_put (env : List Int) (k : Nat) (v : Int) (y : Ex) (vars : Int) (hk : k < env.length) (hv : valF env y = (v, 0)) : ∀ t, partsB vars t = true → valF env (putF k y t) = valF (env.set k v) t := by
  refine Ex.ind fun kd n ks ih h => ?_
  rw [put_eq]
  by_cases h2 : kd = 2
  · subst h2
    have hn := parts_node h
    simp [nodeB] at hn
    by_cases hnk : n = k
    · subst hnk
      rw [if_pos ⟨rfl, rfl⟩, hv, val_eq]
      simp only [nodeF, if_neg (show ¬ (2 : Int) = 1 by decide), if_true]
      rw [Int.toNat_natCast, getD_set _ _ _ _ hk, if_pos rfl]
    · rw [if_neg (fun h => hnk h.2), val_eq, val_eq]
      simp only [nodeF, if_neg (show ¬ (2 : Int) = 1 by decide), if_true]
      rw [getD_set _ _ _ _ hk, if_neg (by omega)]
  · rw [if_neg (fun h => h2 h.1), val_eq, val_eq, List.map_map, node_env env (env.set k v) kd n _ h2]
    congr 1
    exact List.map_congr_left fun x hx => ih x hx (parts_kid h hx)
theorem eval_put (env : List Int) (k : Nat) (v : Int) (y t : Ex) (hk : k < env.length) (hv : evalF env y = (v, 0)) (hr : rightB env.length t = true) (hp : rightB env.length (putF k y t) = true) : evalF (env.set k v) t = evalF env (putF k y t) := by
  have hy : valF env y = (v, 0) := by
    unfold evalF at hv
    split at hv
    · exact hv
    · simp at hv
  unfold evalF
  rw [List.length_set, hr, hp]
  exact (val_put env k v y _ hk hy t (rightB_parts hr)).symm
/-- only variables that stand in it matter -/
theorem val_free (env env' : List Int) : ∀ t, (∀ n, n ∈ varsF t → env.getD n.toNat 0 = env'.getD n.toNat 0) → valF env t = valF env' t := by
  refine Ex.ind fun kd n ks ih h => ?_
  rw [vars_eq] at h
  rw [val_eq, val_eq]
  have hks : ks.map (valF env) = ks.map (valF env') := List.map_congr_left fun x hx => ih x hx fun m hm => h m (by
    rw [List.mem_append]; exact .inr (List.mem_flatten.2 ⟨varsF x, List.mem_map_of_mem hx, hm⟩))
  by_cases h2 : kd = 2
  · subst h2
    simp only [nodeF, if_neg (show ¬ (2 : Int) = 1 by decide), if_true]
    rw [h n (by simp)]
  · rw [hks, node_env env env' kd n _ h2]
theorem vars_range (vars : Int) : ∀ t, partsB vars t = true → ∀ n, n ∈ varsF t → 0 ≤ n ∧ n < vars := by
  refine Ex.ind fun kd n ks ih h m hm => ?_
  rw [vars_eq, List.mem_append] at hm
  rcases hm with hm | hm
  · split at hm
    · rename_i h2
      simp at hm
      subst hm h2
      have hn := parts_node h
      simp [nodeB] at hn
      exact hn.2
    · cases hm
  · obtain ⟨l, hl, hm⟩ := List.mem_flatten.1 hm
    obtain ⟨x, hx, rfl⟩ := List.mem_map.1 hl
    exact ih x hx (parts_kid h hx) m hm
end Go.Proofs.YtnhhajbfohjlbaaGreatDoor.Expr
