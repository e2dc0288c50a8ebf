/- Append of one part to a row of the call's own. -/
import Derived.Test.YtnjpblmplneojaaGreatDoorMbB
import Derived.Maps.AppendAt
import Derived.Test.YtnjpblmplneojaaGreatDoorRows2
namespace Go.Proofs.YtnjpblmplneojaaGreatDoor.Mark
open Go.RowKit Go.Maps Go.Proofs.YtnjpblmplneojaaGreatDoor.Frame Go.Proofs.YtnjpblmplneojaaGreatDoor.Bag
set_option linter.unusedVariables false
set_option linter.unusedSimpArgs false

theorem own_slice' {w : World} {base : Nat} {e : TypeId} {size : Nat} {v : Value} {n : Nat} {xs : List Value} (h : w.ownsRow base e size v n xs) : ∃ a c, v = .slice a n c := by
  rcases h.2 with ⟨h1, h2⟩ | ⟨g, c, cur, h1, _⟩
  · exact ⟨none, 0, by rw [h1, h2]⟩
  · exact ⟨_, c, h1⟩
theorem own_block (a : Option Addr) (n c : Nat) : (Value.slice a n c).ownBlock = a.map Addr.block := by cases a <;> rfl
/-- append of one part, by its run -/
theorem run_own {w : World} {B : Nat} {t ty e : TypeId} {z : Value} {size bytes : Nat} {sa : Option Addr} {n c q : Nat} {xs news : List Value} (ht : Tryz.prog.underlying t = some (.slice e)) (hinf : (Tryz.prog.info? e).map (fun i => (i.zero, i.size, i.bytes)) = some (some z, size, bytes)) (hzs : z.cells.size = size) (hsz : 0 < size) (hby : bytes ≤ 1000)
    (hown : w.ownsRow B e size (.slice sa n c) n xs) (hl : news.length = size) (hnews : ∀ (j : Nat) (u : Value), news[j]? = some u → w.cell? ⟨q, j, none⟩ = some u) (h1 : ∀ u ∈ news, u.oneCell' = true) (hn : n ≤ 1000001) (hbase : B ≤ w.heap.size) :
    ∃ a' c' w', (Builtin.append_ #[t, t] ty #[.slice sa n c, .slice (some ⟨q, 0, none⟩) 1 1]).run Tryz.prog w = .ok (.slice a' (n + 1) c') w' ∧ w'.ownsRow B e size (.slice a' (n + 1) c') (n + 1) (xs ++ news) ∧ w.grownBy w' (sa.map Addr.block) ∧ (a'.map Addr.block = sa.map Addr.block ∨ a'.map Addr.block = some w.heap.size) := by
  obtain ⟨i0, hi, hz0, hz1, hz2⟩ := info_parts hinf
  have hml : (1000001 : Nat) + 1 ≤ maxLen := by decide
  obtain ⟨v', w', hr, h2, h3, h4, h5⟩ := run_append_own_at (P := Tryz.prog) w B t ty e i0 z size bytes ht hi hz0 hz1 hz2 hzs hsz (.slice sa n c) n xs hown ⟨q, 0, none⟩ 1 1 news (by rw [hl, Nat.one_mul]) (fun j u hu => by rw [Go.WideShapes.add_plain, Nat.zero_add]; exact hnews j u hu) h1 (by omega) (by
    have : (n + 1) * bytes ≤ 1000002 * 1000 := Nat.mul_le_mul (by omega) hby
    omega) hbase
  obtain ⟨a', c', rfl⟩ := own_slice' h2
  rw [own_block] at h3 h5
  rw [own_block] at h5
  exact ⟨a', c', w', hr, h2, h3, h5⟩
/-- .. as a step of a region that draws -/
theorem step_own {ops : Array Oper} {o : Oper} {a : Act} {Q : Exit → Act → World → Prop} {K : Act → World → Prop} {w : World} {B : Nat} {t e : TypeId} {z : Value} {size bytes : Nat} {sa : Option Addr} {n c q : Nat} {xs news : List Value} (hgd : o.guard = none) (s x : Operand)
    (ho : o.op = .call { callee := .builtin .append, args := #[s, x], argTypes := #[t, t] }) (hs : a.eval s = .slice sa n c) (hx : a.eval x = .slice (some ⟨q, 0, none⟩) 1 1)
    (ht : Tryz.prog.underlying t = some (.slice e)) (hinf : (Tryz.prog.info? e).map (fun i => (i.zero, i.size, i.bytes)) = some (some z, size, bytes)) (hzs : z.cells.size = size) (hsz : 0 < size) (hby : bytes ≤ 1000)
    (hown : w.ownsRow B e size (.slice sa n c) n xs) (hl : news.length = size) (hnews : ∀ (j : Nat) (u : Value), news[j]? = some u → w.cell? ⟨q, j, none⟩ = some u) (h1 : ∀ u ∈ news, u.oneCell' = true) (hn : n ≤ 1000001) (hbase : B ≤ w.heap.size)
    (h : ∀ a' c' w', w'.ownsRow B e size (.slice a' (n + 1) c') (n + 1) (xs ++ news) → w.grownBy w' (sa.map Addr.block) → (a'.map Addr.block = sa.map Addr.block ∨ a'.map Addr.block = some w.heap.size) → K (a.put o.dst (.slice a' (n + 1) c')) w') :
    if Region.wanted o (yielded ops a.tmps) = true then Oper.wp Tryz.prog o a w K Q else K (a.put o.dst undef) w := by
  rw [if_pos (by simp [Region.wanted, hgd])]
  obtain ⟨a', c', w', hr, g1, g2, g3⟩ := run_own (ty := o.type) ht hinf hzs hsz hby hown hl hnews h1 hn hbase
  unfold Oper.wp execOp
  simp only [ho, resolve, invoke, builtin, Sem.run_bind, Sem.run_pure, Result.andThen_ok, List.map_toArray, List.map_cons, List.map_nil, hs, hx, hr]
  exact h a' c' w' g1 g2 g3
/-- .. as a step of a walk -/
theorem wp_own {ops : Array Oper} {rest : List Oper} {o : Oper} {a : Act} {Q : Exit → Act → World → Prop} {w : World} {B : Nat} {t e : TypeId} {z : Value} {size bytes : Nat} {sa : Option Addr} {n c q : Nat} {xs news : List Value} (hgd : o.guard = none) (s x : Operand)
    (ho : o.op = .call { callee := .builtin .append, args := #[s, x], argTypes := #[t, t] }) (hs : a.eval s = .slice sa n c) (hx : a.eval x = .slice (some ⟨q, 0, none⟩) 1 1)
    (ht : Tryz.prog.underlying t = some (.slice e)) (hinf : (Tryz.prog.info? e).map (fun i => (i.zero, i.size, i.bytes)) = some (some z, size, bytes)) (hzs : z.cells.size = size) (hsz : 0 < size) (hby : bytes ≤ 1000)
    (hown : w.ownsRow B e size (.slice sa n c) n xs) (hl : news.length = size) (hnews : ∀ (j : Nat) (u : Value), news[j]? = some u → w.cell? ⟨q, j, none⟩ = some u) (h1 : ∀ u ∈ news, u.oneCell' = true) (hn : n ≤ 1000001) (hbase : B ≤ w.heap.size)
    (h : ∀ a' c' w', w'.ownsRow B e size (.slice a' (n + 1) c') (n + 1) (xs ++ news) → w.grownBy w' (sa.map Addr.block) → (a'.map Addr.block = sa.map Addr.block ∨ a'.map Addr.block = some w.heap.size) → wpList Tryz.prog ops Q rest (a.put o.dst (.slice a' (n + 1) c')) w') :
    wpList Tryz.prog ops Q (o :: rest) a w := by
  obtain ⟨a', c', w', hr, g1, g2, g3⟩ := run_own (ty := o.type) ht hinf hzs hsz hby hown hl hnews h1 hn hbase
  exact wpList_append_run hgd s x _ _ ho hs hx hr (h a' c' w' g1 g2 g3)

end Go.Proofs.YtnjpblmplneojaaGreatDoor.Mark
