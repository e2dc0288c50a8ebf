/- Contracts and plain mathematics, together: ParPExpr, ParGroP. -/
import Derived.Test.YtjcanodnlnodpaaGreatDoorMUnary
import Derived.Test.YtjcanodnlnodpaaGreatDoorMNK
import Derived.Test.YtjcanodnlnodpaaGreatDoorMPlaP
import Derived.Test.YtjcanodnlnodpaaGreatDoorMPlain
/- Expr of package parse: a contract of the call, over the turned program. -/
namespace Go.Proofs.YtjcanodnlnodpaaGreatDoor.Parse
open Go.RowKit Go.Maps Go.Proofs.YtjcanodnlnodpaaGreatDoor.Frame Go.Proofs.YtjcanodnlnodpaaGreatDoor.Token Go.Proofs.YtjcanodnlnodpaaGreatDoor.Expr Go.Proofs.YtjcanodnlnodpaaGreatDoor.Calc
set_option linter.unusedVariables false
set_option linter.unusedSimpArgs false

/-- an expression, and nothing more -/
def exprO (names : List (List UInt8)) (r : List KT) : PR Ex := (exprP names r).bind fun x => (overP x.2).bind fun u => .ok (x.1, u.2)
theorem exprO_I (names : List (List UInt8)) (r : List KT) : exprI names r = (exprO names r).bind fun x => .ok x.1 := by
  show ((exprP names r).bind fun x => if x.2 = [] then .ok x.1 else .error (x.2, 4)) = _
  unfold exprO
  cases exprP names r with
  | error e => rfl
  | ok x =>
    show (if x.2 = [] then Except.ok x.1 else Except.error (x.2, 4)) = (((overP x.2).bind fun u => (Except.ok (x.1, u.2) : PR Ex)).bind fun x => Except.ok x.1)
    unfold overP
    split <;> rfl
/-- a reader, laid -/
theorem RS.start {B : Nat} {w : World} {p : Nat} {en : Int} {a : Option Addr} {c : Nat} {r : List TI} (hp : B ≤ p) (hB : B ≤ w.heap.size) (hF : Fx w) (hg : 0 < B ∧ 3 < B) (hT : TIs B w a r) (hrc : r.length ≤ c) (hc : c ≤ maxLen) (hP : Pk r)
    (hb : Bx w p [.slice a r.length c, .int .i64 en, .int .i64 0, .int .i64 0]) : RS B w p en (.ok r) :=
  ⟨⟨hp, hB, hF, hg⟩, a, c, ⟨hb.1 0, hb.1 1, hb.1 2, hb.1 3, hb.2.1⟩, hT, hrc, hc, hP⟩
def PEPost (en : Int) (r : List TI) (names : List (List UInt8)) (w : World) (e : Ending) (w' : World) : Prop := ∃ t ax cx st', e = .returned (toldV en st' (xV t ax cx) (.agg #[.int .i64 0, .int .i64 0, .slice none 0 0])) ∧ XG (fun b _ => w.heap.size ≤ b) w' t ax ∧ Below w.heap.size w w' ∧ Res en (.ok r) (exprO names) st' (fun u => u = t)

set_option maxRecDepth 100000 in
set_option maxHeartbeats 4000000 in
theorem pexpr_any (a : Option Addr) (c : Nat) (r : List TI) (en : Int) (na : Option Addr) (nc : Nat) (names : List (List UInt8)) (w : World) (hT : TIs w.heap.size w a r) (hrc : r.length ≤ c) (hc : c ≤ maxLen) (hP : Pk r) (hN : NMs w.heap.size w na names) (hNl : names.length ≤ 1000000) (hF : Fx w) (hg : 0 < w.heap.size ∧ 3 < w.heap.size) :
    Calls Tryz.prog 18 #[.slice a r.length c, .int .i64 en, .slice na names.length nc] w (PEPost en r names w) := by
  obtain ⟨W0, hW⟩ : ∃ W0, W0 = (w.alloc (.cells #[.int .i64 0, .int .i64 0, .slice none 0 0] 40)).alloc (.cells #[.slice a r.length c, .int .i64 en, .int .i64 0, .int .i64 0] 73) := ⟨_, rfl⟩
  have hB0 : Below w.heap.size w W0 := by rw [hW]; exact ((Below.refl _ _).alloc (Nat.le_refl _) _).alloc (by simp) _
  have hs0 : W0.heap.size = w.heap.size + 1 + 1 := by rw [hW]; simp
  have hbx : Bx W0 (w.heap.size + 1) [.slice a r.length c, .int .i64 en, .int .i64 0, .int .i64 0] := by
    rw [hW]
    have := Bx.new (w.alloc (.cells #[.int .i64 0, .int .i64 0, .slice none 0 0] 40)) #[.slice a r.length c, .int .i64 en, .int .i64 0, .int .i64 0] 73
    simpa using this
  have hrx : Bx W0 w.heap.size [.int .i64 0, .int .i64 0, .slice none 0 0] := by
    rw [hW]
    exact (Bx.new w #[.int .i64 0, .int .i64 0, .slice none 0 0] 40).below ((Below.refl _ _).alloc (Nat.le_refl _) _)
  have hRS : RS w.heap.size W0 (w.heap.size + 1) en (.ok r) := RS.start (by omega) hB0.size (fx_below hF hg hB0) hg (hT.below hB0) hrc hc hP hbx
  have hNW : NMs w.heap.size W0 na names := by
    refine ⟨?_, hN.2⟩
    rcases hN.1 with h0 | ⟨b, off, ha, hb, hcc⟩
    · exact .inl h0
    · exact .inr ⟨b, off, ha, hb, fun i hi => (hB0.cell (p := ⟨b, off + i, none⟩) hb).trans (hcc i hi)⟩
  have H0 : Hid (RS w.heap.size W0 (w.heap.size + 1) en (.ok r) ∧ Bx W0 w.heap.size [.int .i64 0, .int .i64 0, .slice none 0 0] ∧ NMs w.heap.size W0 na names ∧ Below w.heap.size w W0) := ⟨hRS, hrx, hNW, hB0⟩
  have HW : Hid (W0 = _) := hW
  obtain ⟨rl, hrl⟩ : ∃ rl, rl = r.length := ⟨_, rfl⟩
  obtain ⟨nl, hnl⟩ : ∃ nl, nl = names.length := ⟨_, rfl⟩
  have HNL : Hid (nl = names.length) := hnl
  rw [← hrl] at HW ⊢
  rw [← hnl] at hNl ⊢
  clear hW hB0 hbx hrx hRS hNW hT hP hN hF hrl hnl hrc hc hg
  go_enter Tryz.func18, Tryz.ntmps18
  go_wp2_with fail
  rw [← HW.out]
  clear HW
  rw [HNL.out]
  refine (rowsOf_any w.heap.size na nc names W0 H0.out.2.2.1 (by omega) (by rw [← HNL.out]; exact hNl)).mono ?_
  rintro e w1 ⟨he, ⟨kk, n, hn, hM⟩, hb1⟩
  have hs1 := hb1.size
  rw [hs0] at he hM hs1
  subst he
  have H1 : Hid (RS w.heap.size w1 (w.heap.size + 1) en (.ok r) ∧ Bx w1 w.heap.size [.int .i64 0, .int .i64 0, .slice none 0 0] ∧ SMp w1 (w.heap.size + 1 + 1) n kk (nameAt names) ∧ Below w.heap.size w w1) := ⟨H0.out.1.below hb1, H0.out.2.1.below hb1, hM, H0.out.2.2.2.trans (hb1.mono (by omega))⟩
  rw [← HNL.out]
  clear hM hb1 H0 hn
  go_wp2_with fail
  refine (whole_any (f := nameAt names) rfl (by rw [← HNL.out]; omega) (show w.heap.size + 1 + 1 ≠ w.heap.size + 1 by omega) w1 (.ok r) H1.out.1 H1.out.2.2.1).mono ?_
  rintro e w2 ⟨t, ax, cx, s2, he, hx, h2, hr2, r2⟩
  subst he
  have hs2 := hr2.1.size
  have A2 : Hid (Ax (w.heap.size + 1 + 1) t ax cx w2.heap.size (w2.alloc (.cells #[.int .i64 t.kind, .int .i64 t.num, .slice ax t.kids.length cx] 40))) := Ax.start hx (by omega) hr2.1.size
  have H2 : Hid (RS w.heap.size (w2.alloc (.cells #[.int .i64 t.kind, .int .i64 t.num, .slice ax t.kids.length cx] 40)) (w.heap.size + 1) en s2 ∧ Bx (w2.alloc (.cells #[.int .i64 t.kind, .int .i64 t.num, .slice ax t.kids.length cx] 40)) w.heap.size [.int .i64 0, .int .i64 0, .slice none 0 0] ∧ Below w.heap.size w (w2.alloc (.cells #[.int .i64 t.kind, .int .i64 t.num, .slice ax t.kids.length cx] 40))) :=
    ⟨h2.below ((Below.refl _ _).alloc (Nat.le_refl _) _), (H1.out.2.1.ch hr2.1 (by omega)).below ((Below.refl _ _).alloc (Nat.le_refl _) _), (H1.out.2.2.2.trans (hr2.1.below (by omega) (fun b hb => by omega))).alloc (by omega) _⟩
  have R2 : Hid (Res en (.ok r) (exprP names) s2 fun u => u = t) := r2
  clear hx h2 hr2 r2 H1
  go_wp2_with fail
  obtain ⟨W2, hW2⟩ : ∃ W2, W2 = w2.alloc (.cells #[.int .i64 t.kind, .int .i64 t.num, .slice ax t.kids.length cx] 40) := ⟨_, rfl⟩
  rw [← hW2] at A2 H2 ⊢
  have hs2' : w2.heap.size < W2.heap.size := by rw [hW2]; simp
  generalize w2.heap.size = q at *
  clear hW2 w2
  refine (over_any w.heap.size (w.heap.size + 1) en s2 W2 H2.out.1).mono ?_
  rintro e w3 ⟨he, s3, h3, hr3, r3⟩
  subst he
  have A3 : Hid (Ax (w.heap.size + 1 + 1) t ax cx q w3) := A2.out.on (by omega) hr3
  have H3 : Hid (RS w.heap.size w3 (w.heap.size + 1) en s3 ∧ Bx w3 w.heap.size [.int .i64 0, .int .i64 0, .slice none 0 0] ∧ Below w.heap.size w w3) := ⟨h3, H2.out.2.1.ch hr3.1 (by omega), H2.out.2.2.trans (hr3.1.below (by omega) (fun b hb => by omega))⟩
  have RR : Hid (Res en (.ok r) (exprO names) s3 fun u => u = t) := by
    show Res en (.ok r) (exprO names) s3 fun u => u = t
    unfold exprO
    refine Res.bindp R2.out ?_
    exact Res.bind (g := fun _ z => .ok (t, z)) r3 (fun _ _ => Res.pure rfl) (fun e he => he)
  obtain ⟨y0, y1, y2, yl⟩ := A3.out.2.1.three
  clear h3 hr3 r3 H2 A2
  go_wp2_with fail
  refine (toldE_any w.heap.size (w.heap.size + 1) en s3 _ _ _ _ _ w3 H3.out.1).mono ?_
  rintro e w4 ⟨he, hb4⟩
  have hx4 : XG (fun b _ => w.heap.size + 1 + 1 ≤ b) w4 t ax := XG.below A3.out.1 hb4
  have hr4 := H3.out.2.1.below hb4
  have H4 : Hid (XG (fun b _ => w.heap.size + 1 + 1 ≤ b) w4 t ax ∧ Below w.heap.size w w4) := ⟨hx4, H3.out.2.2.trans (hb4.mono (H3.out.2.2.size))⟩
  have FIN : Hid (∀ v0 v1 v2 : Value, XG (fun b _ => w.heap.size ≤ b) (((w4.setCell ⟨w.heap.size, 0, none⟩ v0).setCell ⟨w.heap.size, 1, none⟩ v1).setCell ⟨w.heap.size, 2, none⟩ v2) t ax ∧ Below w.heap.size w (((w4.setCell ⟨w.heap.size, 0, none⟩ v0).setCell ⟨w.heap.size, 1, none⟩ v1).setCell ⟨w.heap.size, 2, none⟩ v2)) := fun v0 v1 v2 => by
    have hch : Ch (fun x => x = w.heap.size) w4 (((w4.setCell ⟨w.heap.size, 0, none⟩ v0).setCell ⟨w.heap.size, 1, none⟩ v1).setCell ⟨w.heap.size, 2, none⟩ v2) :=
      (((Ch.refl (fun x => x = w.heap.size) w4).setCell (b := w.heap.size) (o := 0) (.inl rfl) v0).setCell (b := w.heap.size) (o := 1) (.inl rfl) v1).setCell (b := w.heap.size) (o := 2) (.inl rfl) v2
    exact ⟨xg_up (H4.out.1.carry fun b off o hb v hv => hch.cell (by show ¬ b = _; omega) hv) (by omega), below_part (below_part (below_part H4.out.2 (Nat.le_refl _) 0 _) (Nat.le_refl _) 1 _) (Nat.le_refl _) 2 _⟩
  obtain ⟨g0, g1, g2, gl⟩ := hr4.three
  obtain ⟨f0, f1, f2⟩ := hr4.fr
  clear hx4 hr4 hb4 A3 H4 y0 y1 y2 yl
  cases s3 with
  | ok r3 =>
    have he : e = .returned (.tuple #[.agg #[.int .i64 t.kind, .int .i64 t.num, .slice ax t.kids.length cx], .int .i64 en, .int .i64 0]) := he
    subst he
    go_wp2_with fail
    refine bodyPost_ret (v := .tuple #[xV t ax cx, .int .i64 en, .int .i64 0]) ?_ rfl ⟨t, ax, cx, .ok r3, rfl, (FIN.out _ _ _).1, (FIN.out _ _ _).2, RR.out⟩
    simp [results, Tryz.results18, go_sem, g0, g1, g2]
  | error x =>
    obtain ⟨x1, x2⟩ := x
    have he : e = .returned (.tuple #[.agg #[.int .i64 0, .int .i64 0, .slice none 0 0], .int .i64 x1, .int .i64 x2]) := he
    subst he
    go_wp2_with fail
    refine bodyPost_ret (v := .tuple #[.agg #[.int .i64 0, .int .i64 0, .slice none 0 0], .int .i64 x1, .int .i64 x2]) ?_ rfl ⟨t, ax, cx, .error (x1, x2), rfl, (FIN.out _ _ _).1, (FIN.out _ _ _).2, RR.out⟩
    simp [results, Tryz.results18, go_sem, g0, g1, g2]
end Go.Proofs.YtjcanodnlnodpaaGreatDoor.Parse
/- What the laws of expressions lean on: what is told of tokens; brackets; over the turned program, and in plain Lean. -/
namespace Go.Proofs.YtjcanodnlnodpaaGreatDoor.Parse
open Go.RowKit Go.Maps Go.Proofs.YtjcanodnlnodpaaGreatDoor.Frame Go.Proofs.YtjcanodnlnodpaaGreatDoor.Token Go.Proofs.YtjcanodnlnodpaaGreatDoor.Expr Go.Proofs.YtjcanodnlnodpaaGreatDoor.Calc
set_option linter.unusedVariables false
set_option linter.unusedSimpArgs false

/-- an expression of tokens, or the first error: its place, and which -/
def exprF (en : Int) (names : List (List UInt8)) (r : List TI) : Ex × Int × Int := match exprI names (r.map ktI) with
  | .ok t => (t, en, 0)
  | .error e => (⟨0, 0, []⟩, plcOf en r e.1, e.2)
def ExPost (x : Ex × Int × Int) (w : World) (e : Ending) (w' : World) : Prop := ∃ ax cx, e = .returned (.tuple #[.agg #[.int .i64 x.1.kind, .int .i64 x.1.num, .slice ax x.1.kids.length cx], .int .i64 x.2.1, .int .i64 x.2.2]) ∧ X w' x.1 ax ∧ Below w.heap.size w w'
theorem pex_any (a : Option Addr) (c : Nat) (r : List TI) (en : Int) (na : Option Addr) (nc : Nat) (names : List (List UInt8)) (w : World) (hT : TIs w.heap.size w a r) (hrc : r.length ≤ c) (hc : c ≤ maxLen) (hP : Pk r) (hN : NMs w.heap.size w na names) (hNl : names.length ≤ 1000000) (hF : Fx w) (hg : 0 < w.heap.size ∧ 3 < w.heap.size) :
    Calls Tryz.prog 18 #[.slice a r.length c, .int .i64 en, .slice na names.length nc] w (ExPost (exprF en names r) w) := by
  refine (pexpr_any a c r en na nc names w hT hrc hc hP hN hNl hF hg).mono ?_
  rintro e w' ⟨t, ax, cx, st, he, hx, hb, hr⟩
  unfold exprF
  rw [exprO_I]
  cases hy : exprO names (r.map ktI) with
  | ok v =>
    obtain ⟨⟨s, h1, h2, rfl⟩, h4⟩ := hr.ok hy
    refine ⟨ax, cx, ?_, ?_, hb⟩
    · rw [he]
      show _ = Ending.returned (.tuple #[.agg #[.int .i64 v.1.kind, .int .i64 v.1.num, .slice ax v.1.kids.length cx], .int .i64 en, .int .i64 0])
      rw [h4]; rfl
    · show X w' v.1 ax
      rw [h4]; exact hx.x
  | error x =>
    obtain ⟨z, er⟩ := x
    obtain ⟨s, h1, h2, rfl⟩ := hr.err hy
    refine ⟨none, 0, ?_, ?_, hb⟩
    · rw [he]
      show _ = Ending.returned (.tuple #[.agg #[.int .i64 0, .int .i64 0, .slice none 0 0], .int .i64 (plcOf en r z), .int .i64 er])
      rw [suf_drop h1 h2]; rfl
    · exact (xg_leaf (by constructor <;> decide) (by constructor <;> decide) none : XG _ w' ⟨0, 0, []⟩ none)
theorem exprI_ok {names : List (List UInt8)} {r : List KT} {t : Ex} (h : exprI names r = .ok t) : okE names.length t := by
  unfold exprI at h
  obtain ⟨x, hx, h⟩ := bind_ok h
  split at h
  · cases h; exact expr_ok hx
  · cases h
theorem peR_fine' {names : List (List UInt8)} {m : Nat} {s : Int} {d : Nat} {e : Ex} {r : List KT} {x : List KT × Int} (h : peR names m s d e r = .error x) : x.2 ≠ 0 := by
  have := peR_fine names m s d e r
  rw [h] at this
  exact this
theorem exprI_err {names : List (List UInt8)} {r : List KT} {x : List KT × Int} (h : exprI names r = .error x) : x.2 ≠ 0 := by
  unfold exprI at h
  cases hp : peR names 1 0 1 ⟨0, 0, []⟩ r with
  | error y => rw [hp] at h; cases h; exact peR_fine' hp
  | ok y =>
    rw [hp] at h
    replace h : (if y.2 = [] then Except.ok y.1 else Except.error (y.2, 4)) = Except.error x := h
    split at h
    · cases h
    · cases h; show (4 : Int) ≠ 0; decide
/-- a bracket ahead -/
theorem lexF_open {l : List UInt8} (h : l.length + 1 ≤ 16384) (h0 : (lexF l).2.2 = 0) : (lexF (40 :: l)).2.2 = 0 ∧ ((lexF (40 :: l)).1.map tiT).map ktI = (3, [40]) :: ((lexF l).1.map tiT).map ktI := by
  have hp : pieceL (40 :: l) = (3, 1, 0) := piece_one (c := 40) (by decide) (by decide) (by decide) (by decide) l
  have e : lexF (40 :: l) = before [⟨3, [40], 0⟩] (shift 1 (lexF l)) := by
    rw [lexF_eq (by simpa using h), lexF_eq (by omega), gap_c (by decide) (by decide)]
    rw [lexR_ok (by simp) (by rw [hp]), hp]
    show before [⟨3, [40], l.length + 1 - (l.length + 1)⟩] (lexR (l.length + 1) (gapL false l)) = _
    rw [Nat.sub_self, lex_shift l.length 1 _ (gap_le false l)]
  rw [e]
  unfold before
  rw [if_pos (show (shift 1 (lexF l)).2.2 = 0 from h0)]
  refine ⟨rfl, ?_⟩
  show (3, [40]) :: ((shift 1 (lexF l)).1.map tiT).map ktI = _
  rw [shift_ti]
  congr 1
  rw [List.map_map]; rfl
theorem lexF_close : lexF [41] = ([⟨3, [41], 0⟩], 1, 0) := by rfl
/-- brackets around -/
theorem lexF_group {l : List UInt8} (h : l.length ≤ 400) (h0 : (lexF l).2.2 = 0) : (lexF (40 :: l ++ [10, 41])).2.2 = 0 ∧ ((lexF (40 :: l ++ [10, 41])).1.map tiT).map ktI = (3, [40]) :: (((lexF l).1.map tiT).map ktI ++ [(3, [41])]) := by
  obtain ⟨g1, g2⟩ := lexF_open (l := l) (by omega) h0
  have hm := lexF_more (s := 40 :: l) (t := [41]) (by simp; omega) (by decide)
  rw [if_pos g1, lexF_close] at hm
  have e : (40 :: l ++ [10, 41] : List UInt8) = 40 :: l ++ 10 :: [41] := rfl
  rw [e, hm]
  unfold before
  rw [if_pos (show (shift ((40 :: l).length + 1) (([⟨3, [41], 0⟩], 1, 0) : Lexed)).2.2 = 0 from rfl)]
  refine ⟨rfl, ?_⟩
  show (((lexF (40 :: l)).1 ++ (shift ((40 :: l).length + 1) (([⟨3, [41], 0⟩], 1, 0) : Lexed)).1).map tiT).map ktI = _
  rw [List.map_append, List.map_append, g2]
  rfl
end Go.Proofs.YtjcanodnlnodpaaGreatDoor.Parse
