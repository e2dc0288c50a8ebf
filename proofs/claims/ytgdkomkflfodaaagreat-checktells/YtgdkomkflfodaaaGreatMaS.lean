/- A walk that comes to a place: a contract of the call, over the turned program. -/
import Derived.Test.YtgdkomkflfodaaaGreatMaR
namespace Go.Proofs.YtgdkomkflfodaaaGreat.Check
open Go.RowKit Go.Proofs.YtgdkomkflfodaaaGreat.Frame Go.Proofs.YtgdkomkflfodaaaGreat.Colour Go.Proofs.YtgdkomkflfodaaaGreat.Expr
set_option linter.unusedVariables false
set_option linter.unusedSimpArgs false

def wkC (gp gt np nt : Nat) (a : Option Addr) (n c : Nat) : Nat → Value := fun j => (#[.slice (some ⟨gp, 0, none⟩) np np, .slice (some ⟨gt, 0, none⟩) nt nt, .slice a n c] : Array Value).getD j undef
/-- a walk in memory: B: where its blocks begin; what has changed since H is M's, or new -/
def WM (B : Nat) (H : World) (M : Nat → Prop) (q gp gt np nt : Nat) (P T : Nat → Bool) (O : List Int) (a : Option Addr) (c : Nat) (wr : World) : Prop :=
  (wr.rowIs q 87 3 (wkC gp gt np nt a O.length c) ∧ wr.rowIs gp 4 np (fun k => .bool (P k)) ∧ wr.rowIs gt 4 nt (fun k => .bool (T k)) ∧ wr.ownsRow B 3 1 (.slice a O.length c) O.length (ints O)) ∧
  ((B ≤ q ∧ B ≤ gp ∧ B ≤ gt ∧ B ≤ wr.heap.size) ∧ (q ≠ gp ∧ q ≠ gt ∧ gp ≠ gt) ∧ ∀ k, a.map Addr.block = some k → k ≠ q ∧ k ≠ gp ∧ k ≠ gt) ∧
  Ch M H wr ∧ (∀ b, b = q ∨ b = gp ∨ b = gt ∨ a.map Addr.block = some b → M b ∨ H.heap.size ≤ b) ∧ WS np P O
def ComePost (B : Nat) (H : World) (M : Nat → Prop) (q gp gt np nt : Nat) (P T : Nat → Bool) (O : List Int) (e : Ending) (w' : World) : Prop := ∃ a' c', e = .returned (.tuple #[]) ∧ WM B H M q gp gt np nt P T O a' c' w'
theorem WM.below {B : Nat} {H : World} {M : Nat → Prop} {q gp gt np nt : Nat} {P T : Nat → Bool} {O : List Int} {a : Option Addr} {c : Nat} {wr w' : World} (h : WM B H M q gp gt np nt P T O a c wr) (hb : Below wr.heap.size wr w') : WM B H M q gp gt np nt P T O a c w' := by
  obtain ⟨⟨h1, h2, h3, h4⟩, ⟨⟨g1, g2, g3, g4⟩, g5, g6⟩, h5, h6, h7⟩ := h
  refine ⟨⟨rowIs_below h1 hb, rowIs_below h2 hb, rowIs_below h3 hb, own_ch2 (M := fun _ => False) h4 (Ch.of_below hb) (fun _ _ h => h)⟩, ⟨⟨g1, g2, g3, Nat.le_trans g4 hb.size⟩, g5, g6⟩, h5.trans (Ch.of_below hb), h6, h7⟩
theorem wk_at {B : Nat} {H : World} {M : Nat → Prop} {q gp gt np nt : Nat} {P T : Nat → Bool} {O : List Int} {a : Option Addr} {c : Nat} {wr : World} (h : WM B H M q gp gt np nt P T O a c wr) : wr.cell? ⟨q, 0, none⟩ = some (.slice (some ⟨gp, 0, none⟩) np np) ∧ wr.cell? ⟨q, 1, none⟩ = some (.slice (some ⟨gt, 0, none⟩) nt nt) ∧ wr.cell? ⟨q, 2, none⟩ = some (.slice a O.length c) ∧ wr.frozen? ⟨q, 2, none⟩ = false ∧ q < wr.heap.size :=
  ⟨h.1.1.cell (by decide), h.1.1.cell (by decide), h.1.1.cell (by decide), h.1.1.frozen 2, h.1.1.lt⟩
theorem WM.same {B : Nat} {H : World} {M : Nat → Prop} {q gp gt np nt : Nat} {P Q T U : Nat → Bool} {O : List Int} {a : Option Addr} {c : Nat} {wr : World} (h : WM B H M q gp gt np nt P T O a c wr) (hP : ∀ k, k < np → Q k = P k) (hT : ∀ k, k < nt → U k = T k) : WM B H M q gp gt np nt Q U O a c wr := by
  obtain ⟨⟨h1, h2, h3, h4⟩, h5, h6, h7, h8⟩ := h
  refine ⟨⟨h1, h2.congr fun k hk => by rw [hP k hk], h3.congr fun k hk => by rw [hT k hk], h4⟩, h5, h6, h7, by rw [cnt_congr hP]; exact h8.1, fun z hz => ?_⟩
  obtain ⟨k, e, hk, hp⟩ := h8.2 z hz
  exact ⟨k, e, hk, by rw [hP k hk]; exact hp⟩
set_option maxHeartbeats 4000000 in
set_option maxRecDepth 10000 in
theorem come_any (B : Nat) (H : World) (M : Nat → Prop) (q gp gt np nt : Nat) (P T : Nat → Bool) (O : List Int) (a : Option Addr) (c : Nat) (p : Int) (w : World) (h : WM B H M q gp gt np nt P T O a c w) (hnp : np ≤ 1000000) :
    Calls Tryz.prog 55 #[.pointer (some ⟨q, 0, none⟩), .int .i64 p] w (ComePost B H M q gp gt np nt (comeP P p) T (comeO np P O p)) := by
  obtain ⟨x0, x1, x2, x3, ql⟩ := wk_at h
  have HW : Hid (WM B H M q gp gt np nt P T O a c w) := h
  have HI : Hid (∀ W, Calls Tryz.prog 41 #[.int .i64 p, .int .i64 (np : Int)] W fun e w' => e = .returned (.bool (inB p np)) ∧ w' = W) := fun W => within_any p np W
  cases hin : inB p np with
  | false =>
    rw [hin] at HI
    have FIN : Hid (ComePost B H M q gp gt np nt (comeP P p) T (comeO np P O p) (.returned (.tuple #[])) w) := by
      have e : isNew np P p = false := by unfold isNew; rw [hin]; rfl
      refine ⟨a, c, rfl, ?_⟩
      unfold comeO
      rw [e, if_neg (by simp)]
      exact HW.out.same (come_old e) fun _ _ => rfl
    clear h hin
    go_enter Tryz.func55, Tryz.ntmps55
    go_wp2_with fail
    refine (HI.out _).mono ?_
    rintro e w1 ⟨he, hw⟩
    subst he
    have hw := hw.symm
    subst hw
    go_wp2_with fail
    refine bodyPost_ret (v := .tuple #[]) ?_ rfl FIN.out
    simp [results, Tryz.results55, go_sem]
  | true =>
    rw [hin] at HI
    obtain ⟨k, rfl, hk⟩ := inB_yes hin
    have hk' : (k : Int) < np := by omega
    have y0 : w.cell? ⟨gp, k, none⟩ = some (.bool (P k)) := h.1.2.1.cell hk
    have gl := h.1.2.1.lt
    cases hp : P k with
    | true =>
      rw [hp] at y0
      have FIN : Hid (ComePost B H M q gp gt np nt (comeP P k) T (comeO np P O k) (.returned (.tuple #[])) w) := by
        have e : isNew np P k = false := by unfold isNew; rw [hin, Int.toNat_natCast, hp]; rfl
        refine ⟨a, c, rfl, ?_⟩
        unfold comeO
        rw [e, if_neg (by simp)]
        exact HW.out.same (come_old e) fun _ _ => rfl
      clear h hin hp
      go_enter Tryz.func55, Tryz.ntmps55
      go_wp2_with fail
      refine (HI.out _).mono ?_
      rintro e w1 ⟨he, hw⟩
      subst he
      have hw := hw.symm
      subst hw
      go_wp2_with fail
      refine bodyPost_ret (v := .tuple #[]) ?_ rfl FIN.out
      simp [results, Tryz.results55, go_sem]
    | false =>
      rw [hp] at y0
      have z0 : w.frozen? ⟨gp, k, none⟩ = false := h.1.2.1.frozen k
      have hnew : isNew np P k = true := by unfold isNew; rw [hin, Int.toNat_natCast, hp]; rfl
      have hO : O.length ≤ 1000000 := by have h1 := h.2.2.2.2.1; have h2 := cnt_le np P; omega
      have hqg : q ≠ gp := h.2.1.2.1.1
      obtain ⟨wm, hwm⟩ : ∃ wm, wm = w.setCell ⟨gp, k, none⟩ (.bool true) := ⟨_, rfl⟩
      have hsz : wm.heap.size = w.heap.size := by rw [hwm]; simp [World.setCell]
      have H1 : Hid (wm.rowIs q 87 3 (wkC gp gt np nt a O.length c) ∧ wm.rowIs gp 4 np (fun j => .bool (comeP P k j)) ∧ wm.rowIs gt 4 nt (fun k => .bool (T k)) ∧ wm.ownsRow B 3 1 (.slice a O.length c) O.length (ints O) ∧ Ch M H wm ∧ B ≤ wm.heap.size) := by
        have hc : Ch (fun b => b = gp) w wm := by rw [hwm]; exact (Ch.refl (fun b => b = gp) w).setCell (b := gp) (o := k) (.inl rfl) _
        refine ⟨rowIs_ch h.1.1 hc hqg, ?_, rowIs_ch h.1.2.2.1 hc (fun e => h.2.1.2.1.2.2 e.symm), own_ch2 h.1.2.2.2 hc (fun j hj e => by rw [own_block] at hj; exact (h.2.1.2.2 j hj).2.1 e), by rw [hwm]; exact h.2.2.1.setCell (h.2.2.2.1 gp (.inr (.inl rfl))) _, by rw [hsz]; exact h.2.1.1.2.2.2⟩
        rw [hwm]
        refine (h.1.2.1.set k (.bool true)).congr fun j hj => ?_
        unfold comeP
        by_cases e : j = k
        · subst e; simp
        · rw [if_neg e, decide_eq_false (by omega), Bool.or_false]
      have m2 : wm.cell? ⟨q, 2, none⟩ = some (.slice a O.length c) := H1.out.1.cell (by decide)
      have mf : wm.frozen? ⟨q, 2, none⟩ = false := H1.out.1.frozen 2
      have ml : q < wm.heap.size := H1.out.1.lt
      have HQ : Hid (P k = false ∧ isNew np P k = true ∧ k < np) := ⟨hp, hnew, hk⟩
      clear h hin hp hnew hsz
      go_enter Tryz.func55, Tryz.ntmps55
      go_wp2_with fail
      refine (HI.out _).mono ?_
      rintro e w1 ⟨he, hw⟩
      subst he
      have hw := hw.symm
      subst hw
      go_upto_region 2 with fail
      rw [← hwm]
      clear hwm x0 x1 x2 x3 ql y0 z0 gl
      go_wp2_with (
        at_builtin
        refine wp_push2 (W0 := wm) rfl _ _ rfl rfl rfl H1.out.2.2.2.1 H1.out.2.2.2.2.2 rfl (by simp) (by omega) ?_
        intro a2 c2 w2 h2 hg2 hat2
        have NX : Hid (∀ wf, wf = w2.setCell ⟨q, 2, none⟩ (.slice a2 (O.length + 1) c2) → ComePost B H M q gp gt np nt (comeP P k) T (comeO np P O k) (.returned (.tuple #[])) wf) := fun wf hwf => by
          have hW := HW.out
          have hcA : Ch (fun b => a.map Addr.block = some b) wm w2 := (Ch.of_below ((Below.refl _ _).alloc (Nat.le_refl _) _)).trans (Ch.grown hg2 fun b e => e)
          have hcB : Ch (fun b => b = q ∨ a.map Addr.block = some b) wm wf := by
            rw [hwf]
            exact (hcA.mono fun b _ e => .inr e).setCell (b := q) (o := 2) (.inl (.inl rfl)) _
          have hap := hW.2.1.2.2
          have hnq : ∀ j, a2.map Addr.block = some j → j ≠ q ∧ j ≠ gp ∧ j ≠ gt := fun j hj => by
            rcases hat2 with e | e
            · exact hap j (by rw [← e]; exact hj)
            · rw [hj] at e
              injection e with e
              have l1 := H1.out.1.lt
              have l2 := H1.out.2.1.lt
              have l3 := H1.out.2.2.1.lt
              have : wm.heap.size ≤ j := by rw [e]; simp
              exact ⟨by omega, by omega, by omega⟩
          have hwm2 : w2.rowIs q 87 3 (wkC gp gt np nt a O.length c) := rowIs_ch H1.out.1 hcA (fun e => (hap q e).1 rfl)
          have hnew := HQ.out.2.1
          refine ⟨a2, c2, rfl, ⟨⟨?_, ?_, ?_, ?_⟩, ⟨⟨hW.2.1.1.1, hW.2.1.1.2.1, hW.2.1.1.2.2.1, Nat.le_trans H1.out.2.2.2.2.2 hcB.size⟩, hW.2.1.2.1, hnq⟩, ?_, ?_, hW.2.2.2.2.come k⟩⟩
          · unfold comeO
            rw [hnew, if_pos rfl, List.length_append, hwf]
            refine (hwm2.set 2 _).congr fun j hj => ?_
            match j, hj with
            | 0, _ => rfl
            | 1, _ => rfl
            | 2, _ => rfl
            | j + 3, hj => omega
          · exact rowIs_ch H1.out.2.1 hcB (fun e => by rcases e with e | e; exact hW.2.1.2.1.1 e.symm; exact (hap gp e).2.1 rfl)
          · exact rowIs_ch H1.out.2.2.1 hcB (fun e => by rcases e with e | e; exact hW.2.1.2.1.2.1 e.symm; exact (hap gt e).2.2 rfl)
          · unfold comeO
            rw [hnew, if_pos rfl, List.length_append, hwf]
            exact own_ch2 h2 ((Ch.refl (fun b => b = q) w2).setCell (b := q) (o := 2) (.inl rfl) _) (fun j hj e => by rw [own_block] at hj; exact (hnq j hj).1 e)
          · exact Ch.up2 H1.out.2.2.2.2.1 hcB fun b e => by
              rcases e with e | e
              · exact hW.2.2.2.1 b (.inl e)
              · exact hW.2.2.2.1 b (.inr (.inr (.inr e)))
          · intro b hb
            rcases hb with e | e | e | e
            · exact hW.2.2.2.1 b (.inl e)
            · exact hW.2.2.2.1 b (.inr (.inl e))
            · exact hW.2.2.2.1 b (.inr (.inr (.inl e)))
            · rcases hat2 with g | g
              · exact hW.2.2.2.1 b (.inr (.inr (.inr (by rw [← g]; exact e))))
              · rw [e] at g
                injection g with g
                have := H1.out.2.2.2.2.1.size
                exact .inr (by rw [g]; simp; omega)
        have HS2 : Hid (w2.rowIs q 87 3 (wkC gp gt np nt a O.length c)) := by
          have hcA : Ch (fun b => a.map Addr.block = some b) wm w2 := (Ch.of_below ((Below.refl _ _).alloc (Nat.le_refl _) _)).trans (Ch.grown hg2 fun b e => e)
          exact rowIs_ch H1.out.1 hcA (fun e => (HW.out.2.1.2.2 q e).1 rfl)
        have s2 : w2.cell? ⟨q, 2, none⟩ = some (.slice a O.length c) := HS2.out.cell (by decide)
        have sf : w2.frozen? ⟨q, 2, none⟩ = false := HS2.out.frozen 2
        have sl : q < w2.heap.size := HS2.out.lt
        clear h2 hg2 hat2 m2 mf ml)
      refine bodyPost_ret (v := .tuple #[]) ?_ rfl (NX.out _ rfl)
      simp [results, Tryz.results55, go_sem]
end Go.Proofs.YtgdkomkflfodaaaGreat.Check
