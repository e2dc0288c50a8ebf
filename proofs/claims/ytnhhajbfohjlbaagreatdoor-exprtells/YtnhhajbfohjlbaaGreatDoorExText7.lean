/- Text of package expr: a contract of the call, over the turned program. -/
import Derived.Test.YtnhhajbfohjlbaaGreatDoorExText6
namespace Go.Proofs.YtnhhajbfohjlbaaGreatDoor.Expr
open Go.RowKit Go.Proofs.YtnhhajbfohjlbaaGreatDoor.Frame Go.Proofs.YtnhhajbfohjlbaaGreatDoor.Calc
set_option linter.unusedVariables false
set_option linter.unusedSimpArgs false

theorem row_string {B : Nat} {bs : List UInt8} {v : Value} {w : World} (h : Row B bs v w) : (convert 44 9 v).run Tryz.prog w = .ok (.string ⟨bs.toArray⟩) w := by
  rcases h.1.2 with ⟨rfl, h0⟩ | ⟨g, cap, cur, rfl, h1, h2, h3⟩
  · have e := List.eq_nil_of_length_eq_zero h0
    subst e
    rw [run_convert_bytes_string w 44 9 5 none 0 0 Tryz.underlying44 Tryz.underlying5 Tryz.underlying9]
    rfl
  · exact run_convert_bytes_back (P := Tryz.prog) w 44 9 5 ⟨g, 0, none⟩ cap bs Tryz.underlying44 Tryz.underlying5 Tryz.underlying9 (fun j hj => h.1.cells (g := g) rfl j _ (by simp [Lib.byteCells, hj]))

set_option maxRecDepth 100000 in
set_option maxHeartbeats 1000000 in
theorem text_any (names : List ByteArray) (t : Ex) (w : World) (a na : Option Addr) (c nc nl : Nat) (hnl : nl = names.length) (h : X w t a) (hE : Env w.heap.size na names w) (hs : sizeF t ≤ 1000000) (hl : (textF names t).length ≤ 1000000) :
    Calls Tryz.prog 12 #[.agg #[.int .i64 t.kind, .int .i64 t.num, .slice a t.kids.length c], .slice na nl nc] w fun e w' => e = .returned (.string ⟨(textF names t).toArray⟩) ∧ Below w.heap.size w w' := by
  have CW : Hid (∀ wx, Below w.heap.size w wx → Calls Tryz.prog 24 #[.slice na nl nc, .slice none 0 0, .agg #[.int .i64 t.kind, .int .i64 t.num, .slice a t.kids.length c]] wx (TPost w.heap.size (textF names t) wx)) := fun wx hb => by
    have := write_all names t hs w.heap.size wx a na c nc [] (.slice none 0 0) (h.lt.belowB (fun _ _ h => h) hb) (hE.on hb) ⟨World.ownsRow_nil _ _ _ _, hb.size⟩ (by simpa using hl)
    rw [hnl]
    simpa using this
  clear h hE hs hl hnl
  generalize textF names t = q at *
  go_enter Tryz.func12, Tryz.ntmps12
  go_wp2_with (go_at_call 24; refine (CW.out _ (al1 _ _)).mono ?_; rintro e w1 ⟨v1, he, hr, hk⟩; subst he; have R1 : Hid (Row w.heap.size q v1 w1) := hr; have K1 : Hid (Below w.heap.size w w1) := (al1 _ _).trans hk.1; clear hr hk; refine Hid.out ?_)
  refine Lib.hid ?_
  have hcv := row_string R1.out
  go_wp2
  go_ret
  exact ⟨rfl, K1.out⟩
end Go.Proofs.YtnhhajbfohjlbaaGreatDoor.Expr
