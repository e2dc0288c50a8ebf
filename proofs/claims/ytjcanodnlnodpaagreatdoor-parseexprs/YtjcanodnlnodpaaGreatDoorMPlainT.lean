/- A task that says nothing: a contract of the call, over the turned program. -/
import Derived.Test.YtjcanodnlnodpaaGreatDoorMTK
import Derived.Test.YtjcanodnlnodpaaGreatDoorMUnary
namespace Go.Proofs.YtjcanodnlnodpaaGreatDoor.Parse
open Go.RowKit Go.Maps Go.Proofs.YtjcanodnlnodpaaGreatDoor.Frame Go.Proofs.YtjcanodnlnodpaaGreatDoor.Token Go.Proofs.YtjcanodnlnodpaaGreatDoor.Expr Go.Proofs.YtjcanodnlnodpaaGreatDoor.Calc
set_option linter.unusedVariables false
set_option linter.unusedSimpArgs false

def task0 (nm : List UInt8) : PTask := ⟨nm, [], ⟨1, 1, []⟩, 1, 1, [], [], [], 0, 0, 0, 0⟩
def tm0 (mv b : Nat) : TM := ⟨mv, fun _ => none, 0, none, 0, none, 0, none, 0, none, 0, none, 0, [], [], [], b⟩
def plainC (s : ByteArray) : Array Value := #[.string s, .slice none 0 0, .int .i64 1, .int .i64 1, .slice none 0 0, .int .i64 1, .int .i64 1, .slice none 0 0, .slice none 0 0, .slice none 0 0, .int .i64 0, .int .i64 0, .int .i64 0, .int .i64 0]

set_option maxRecDepth 100000 in
set_option maxHeartbeats 4000000 in
theorem plain_any (s : ByteArray) (w : World) : Calls Tryz.prog 195 #[.string s] w fun e w' => e = .returned (.agg (plainC s)) ∧ Below w.heap.size w w' := by
  go_enter Tryz.func195, Tryz.ntmps195
  go_wp2_with fail
  refine (part_any 1 1 none 0 0 _).mono ?_
  rintro e w1 ⟨he, hb1⟩
  subst he
  obtain ⟨W, hW⟩ : ∃ W, W = w.alloc (.cells #[.string ⟨#[]⟩, .slice none 0 0, .int .i64 0, .int .i64 0, .slice none 0 0, .int .i64 0, .int .i64 0, .slice none 0 0, .slice none 0 0, .slice none 0 0, .int .i64 0, .int .i64 0, .int .i64 0, .int .i64 0] 63) := ⟨_, rfl⟩
  rw [← hW] at hb1
  have hB : Below w.heap.size w w1 := then_ (by rw [hW]; exact (Below.refl _ _).alloc (Nat.le_refl _) _) hb1
  have hbx : Bx w1 w.heap.size [.string ⟨#[]⟩, .slice none 0 0, .int .i64 0, .int .i64 0, .slice none 0 0, .int .i64 0, .int .i64 0, .slice none 0 0, .slice none 0 0, .slice none 0 0, .int .i64 0, .int .i64 0, .int .i64 0, .int .i64 0] := by
    refine Bx.below ?_ hb1
    rw [hW]
    exact Bx.new w #[.string ⟨#[]⟩, .slice none 0 0, .int .i64 0, .int .i64 0, .slice none 0 0, .int .i64 0, .int .i64 0, .slice none 0 0, .slice none 0 0, .slice none 0 0, .int .i64 0, .int .i64 0, .int .i64 0, .int .i64 0] _
  have HF : Hid (Bx ((((((((((((((w1.setCell ⟨w.heap.size, 0, none⟩ (.string s)).setCell ⟨w.heap.size, 1, none⟩ (.slice none 0 0)).setCell ⟨w.heap.size, 2, none⟩ (.int .i64 1)).setCell ⟨w.heap.size, 3, none⟩ (.int .i64 1)).setCell ⟨w.heap.size, 4, none⟩ (.slice none 0 0)).setCell ⟨w.heap.size, 5, none⟩ (.int .i64 1)).setCell ⟨w.heap.size, 6, none⟩ (.int .i64 1)).setCell ⟨w.heap.size, 7, none⟩ (.slice none 0 0)).setCell ⟨w.heap.size, 8, none⟩ (.slice none 0 0)).setCell ⟨w.heap.size, 9, none⟩ (.slice none 0 0)).setCell ⟨w.heap.size, 10, none⟩ (.int .i64 0)).setCell ⟨w.heap.size, 11, none⟩ (.int .i64 0)).setCell ⟨w.heap.size, 12, none⟩ (.int .i64 0)).setCell ⟨w.heap.size, 13, none⟩ (.int .i64 0)) w.heap.size [.string s, .slice none 0 0, .int .i64 1, .int .i64 1, .slice none 0 0, .int .i64 1, .int .i64 1, .slice none 0 0, .slice none 0 0, .slice none 0 0, .int .i64 0, .int .i64 0, .int .i64 0, .int .i64 0] ∧ Below w.heap.size w ((((((((((((((w1.setCell ⟨w.heap.size, 0, none⟩ (.string s)).setCell ⟨w.heap.size, 1, none⟩ (.slice none 0 0)).setCell ⟨w.heap.size, 2, none⟩ (.int .i64 1)).setCell ⟨w.heap.size, 3, none⟩ (.int .i64 1)).setCell ⟨w.heap.size, 4, none⟩ (.slice none 0 0)).setCell ⟨w.heap.size, 5, none⟩ (.int .i64 1)).setCell ⟨w.heap.size, 6, none⟩ (.int .i64 1)).setCell ⟨w.heap.size, 7, none⟩ (.slice none 0 0)).setCell ⟨w.heap.size, 8, none⟩ (.slice none 0 0)).setCell ⟨w.heap.size, 9, none⟩ (.slice none 0 0)).setCell ⟨w.heap.size, 10, none⟩ (.int .i64 0)).setCell ⟨w.heap.size, 11, none⟩ (.int .i64 0)).setCell ⟨w.heap.size, 12, none⟩ (.int .i64 0)).setCell ⟨w.heap.size, 13, none⟩ (.int .i64 0))) := ⟨((((((((((((((hbx.put 0 (.string s) (by simp)).put 1 (.slice none 0 0) (by simp)).put 2 (.int .i64 1) (by simp)).put 3 (.int .i64 1) (by simp)).put 4 (.slice none 0 0) (by simp)).put 5 (.int .i64 1) (by simp)).put 6 (.int .i64 1) (by simp)).put 7 (.slice none 0 0) (by simp)).put 8 (.slice none 0 0) (by simp)).put 9 (.slice none 0 0) (by simp)).put 10 (.int .i64 0) (by simp)).put 11 (.int .i64 0) (by simp)).put 12 (.int .i64 0) (by simp)).put 13 (.int .i64 0) (by simp)), (below_part (below_part (below_part (below_part (below_part (below_part (below_part (below_part (below_part (below_part (below_part (below_part (below_part (below_part hB (Nat.le_refl _) 0 (.string s)) (Nat.le_refl _) 1 (.slice none 0 0)) (Nat.le_refl _) 2 (.int .i64 1)) (Nat.le_refl _) 3 (.int .i64 1)) (Nat.le_refl _) 4 (.slice none 0 0)) (Nat.le_refl _) 5 (.int .i64 1)) (Nat.le_refl _) 6 (.int .i64 1)) (Nat.le_refl _) 7 (.slice none 0 0)) (Nat.le_refl _) 8 (.slice none 0 0)) (Nat.le_refl _) 9 (.slice none 0 0)) (Nat.le_refl _) 10 (.int .i64 0)) (Nat.le_refl _) 11 (.int .i64 0)) (Nat.le_refl _) 12 (.int .i64 0)) (Nat.le_refl _) 13 (.int .i64 0))⟩
  have g0 : w1.cell? ⟨w.heap.size, 0, none⟩ = some (.string ⟨#[]⟩) := hbx.1 0
  have f0 : w1.frozen? ⟨w.heap.size, 0, none⟩ = false := hbx.2.1 0
  have g1 : w1.cell? ⟨w.heap.size, 1, none⟩ = some (.slice none 0 0) := hbx.1 1
  have f1 : w1.frozen? ⟨w.heap.size, 1, none⟩ = false := hbx.2.1 1
  have g2 : w1.cell? ⟨w.heap.size, 2, none⟩ = some (.int .i64 0) := hbx.1 2
  have f2 : w1.frozen? ⟨w.heap.size, 2, none⟩ = false := hbx.2.1 2
  have g3 : w1.cell? ⟨w.heap.size, 3, none⟩ = some (.int .i64 0) := hbx.1 3
  have f3 : w1.frozen? ⟨w.heap.size, 3, none⟩ = false := hbx.2.1 3
  have g4 : w1.cell? ⟨w.heap.size, 4, none⟩ = some (.slice none 0 0) := hbx.1 4
  have f4 : w1.frozen? ⟨w.heap.size, 4, none⟩ = false := hbx.2.1 4
  have g5 : w1.cell? ⟨w.heap.size, 5, none⟩ = some (.int .i64 0) := hbx.1 5
  have f5 : w1.frozen? ⟨w.heap.size, 5, none⟩ = false := hbx.2.1 5
  have g6 : w1.cell? ⟨w.heap.size, 6, none⟩ = some (.int .i64 0) := hbx.1 6
  have f6 : w1.frozen? ⟨w.heap.size, 6, none⟩ = false := hbx.2.1 6
  have g7 : w1.cell? ⟨w.heap.size, 7, none⟩ = some (.slice none 0 0) := hbx.1 7
  have f7 : w1.frozen? ⟨w.heap.size, 7, none⟩ = false := hbx.2.1 7
  have g8 : w1.cell? ⟨w.heap.size, 8, none⟩ = some (.slice none 0 0) := hbx.1 8
  have f8 : w1.frozen? ⟨w.heap.size, 8, none⟩ = false := hbx.2.1 8
  have g9 : w1.cell? ⟨w.heap.size, 9, none⟩ = some (.slice none 0 0) := hbx.1 9
  have f9 : w1.frozen? ⟨w.heap.size, 9, none⟩ = false := hbx.2.1 9
  have g10 : w1.cell? ⟨w.heap.size, 10, none⟩ = some (.int .i64 0) := hbx.1 10
  have f10 : w1.frozen? ⟨w.heap.size, 10, none⟩ = false := hbx.2.1 10
  have g11 : w1.cell? ⟨w.heap.size, 11, none⟩ = some (.int .i64 0) := hbx.1 11
  have f11 : w1.frozen? ⟨w.heap.size, 11, none⟩ = false := hbx.2.1 11
  have g12 : w1.cell? ⟨w.heap.size, 12, none⟩ = some (.int .i64 0) := hbx.1 12
  have f12 : w1.frozen? ⟨w.heap.size, 12, none⟩ = false := hbx.2.1 12
  have g13 : w1.cell? ⟨w.heap.size, 13, none⟩ = some (.int .i64 0) := hbx.1 13
  have f13 : w1.frozen? ⟨w.heap.size, 13, none⟩ = false := hbx.2.1 13
  have gl : w.heap.size < w1.heap.size := hbx.2.2
  clear hW hb1 hB hbx
  go_wp2_with fail
  obtain ⟨WF, hWF⟩ : ∃ WF, WF = (((((((((((((w1.setCell ⟨w.heap.size, 0, none⟩ (.string s)).setCell ⟨w.heap.size, 1, none⟩ (.slice none 0 0)).setCell ⟨w.heap.size, 2, none⟩ (.int .i64 1)).setCell ⟨w.heap.size, 3, none⟩ (.int .i64 1)).setCell ⟨w.heap.size, 4, none⟩ (.slice none 0 0)).setCell ⟨w.heap.size, 5, none⟩ (.int .i64 1)).setCell ⟨w.heap.size, 6, none⟩ (.int .i64 1)).setCell ⟨w.heap.size, 7, none⟩ (.slice none 0 0)).setCell ⟨w.heap.size, 8, none⟩ (.slice none 0 0)).setCell ⟨w.heap.size, 9, none⟩ (.slice none 0 0)).setCell ⟨w.heap.size, 10, none⟩ (.int .i64 0)).setCell ⟨w.heap.size, 11, none⟩ (.int .i64 0)).setCell ⟨w.heap.size, 12, none⟩ (.int .i64 0)).setCell ⟨w.heap.size, 13, none⟩ (.int .i64 0) := ⟨_, rfl⟩
  rw [← hWF]
  have hbF := HF.out
  rw [← hWF] at hbF
  obtain ⟨hbF, hBF⟩ := hbF
  clear hWF HF
  have y0 := hbF.1 0
  have y1 := hbF.1 1
  have y2 := hbF.1 2
  have y3 := hbF.1 3
  have y4 := hbF.1 4
  have y5 := hbF.1 5
  have y6 := hbF.1 6
  have y7 := hbF.1 7
  have y8 := hbF.1 8
  have y9 := hbF.1 9
  have y10 := hbF.1 10
  have y11 := hbF.1 11
  have y12 := hbF.1 12
  have y13 := hbF.1 13
  clear hbF
  refine bodyPost_ret (v := .agg (plainC s)) ?_ rfl ⟨rfl, hBF⟩
  simp at y0 y1 y2 y3 y4 y5 y6 y7 y8 y9 y10 y11 y12 y13
  simp [results, Tryz.results195, go_sem, plainC, y0, y1, y2, y3, y4, y5, y6, y7, y8, y9, y10, y11, y12, y13]
end Go.Proofs.YtjcanodnlnodpaaGreatDoor.Parse
