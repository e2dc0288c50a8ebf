/- Contracts and plain mathematics, together: MarkPut, MarkEnc. -/
import Derived.Test.YtnjpblmplneojaaGreatDoorMbA
import Derived.Test.YtnjpblmplneojaaGreatDoorExRow
import Derived.Deep.QuietTactic
import Derived.BigQuiet
import Derived.Test.YtnjpblmplneojaaGreatDoorMbB
/- put of package mark: a contract of the call, over the turned program. -/
namespace Go.Proofs.YtnjpblmplneojaaGreatDoor.Mark
open Go.RowKit Go.Proofs.YtnjpblmplneojaaGreatDoor.Frame Go.Proofs.YtnjpblmplneojaaGreatDoor.Bag Go.Proofs.YtnjpblmplneojaaGreatDoor.Expr
set_option linter.unusedVariables false
set_option linter.unusedSimpArgs false

/-- the byte of a number at a place -/
def byN (n k : Nat) : UInt8 := UInt8.ofNat (n / 256 ^ k)
def putF (n : Nat) : Nat → List UInt8
  | 0 => []
  | k + 1 => byN n k :: putF n k
def putsF (wide : Nat) : List Nat → List UInt8
  | [] => []
  | n :: r => putF n wide ++ putsF wide r
theorem put_one (n : Nat) : putsF 1 [n] = [UInt8.ofNat n] := by simp [putsF, putF, byN]
theorem put_two (n : Nat) : putsF 2 [n] = two n := by simp [putsF, putF, byN, two]
theorem put_row (m c : Nat) : putsF 4 [m, c] = four m ++ four c := by simp [putsF, putF, byN, four]
theorem putF_len (n k : Nat) : (putF n k).length = k := by
  induction k with
  | zero => rfl
  | succ k ih => unfold putF; rw [List.length_cons, ih]
theorem putsF_len (wide : Nat) (l : List Nat) : (putsF wide l).length = l.length * wide := by
  induction l with
  | nil => simp [putsF]
  | cons n r ih => unfold putsF; rw [List.length_append, putF_len, ih, List.length_cons, Nat.add_mul]; omega
theorem putsF_drop (wide : Nat) {zs : List Nat} {i : Nat} (h : i < zs.length) : putsF wide (zs.drop i) = putF (zs.getD i 0) wide ++ putsF wide (zs.drop (i + 1)) := by
  rw [List.drop_eq_getElem_cons h, List.getD_eq_getElem?_getD, List.getElem?_eq_getElem h]; rfl
theorem byN_val (n k : Nat) : ((byN n k).toNat : Int) = (n : Int) / 2 ^ (8 * k) % 256 := by
  unfold byN
  rw [u8_nat]
  have : (256 : Nat) ^ k = 2 ^ (8 * k) := by rw [Nat.pow_mul]
  rw [this, Int.natCast_emod, Int.natCast_ediv, Int.natCast_pow]
  rfl
/-- numbers in a block of the call's own -/
def IntsAt (w : World) (q : Nat) (zs : List Nat) : Prop := ∃ cs fz, w.heap[q]? = some (.cells cs 3 fz) ∧ ∀ i, i < zs.length → cs[i]? = some (.int .i64 (zs.getD i 0 : Nat))
theorem IntsAt.keep {w w' : World} {q B : Nat} {zs : List Nat} (h : IntsAt w q zs) (hk : Keep B w w') : IntsAt w' q zs := by
  obtain ⟨cs, fz, h1, h2⟩ := h
  exact ⟨cs, fz, hk.2 q _ h1 (fun e => by cases e) (fun c f e => by injection e with e1 e2; exact absurd e2 (by decide)), h2⟩
theorem IntsAt.cell {w : World} {q : Nat} {zs : List Nat} (h : IntsAt w q zs) {i : Nat} (hi : i < zs.length) : w.cell? ⟨q, i, none⟩ = some (.int .i64 (zs.getD i 0 : Nat)) := by
  obtain ⟨cs, fz, h1, h2⟩ := h
  rw [box_cell h1, h2 i hi]

set_option maxRecDepth 100000 in
set_option maxHeartbeats 1000000 in
theorem put_any (B q wide : Nat) (bs : List UInt8) (v : Value) (zs : List Nat) (la ca : Nat) (w : World) (hr : Row B bs v w) (hq : IntsAt w q zs) (hla : zs.length = la) (hl : la ≤ 2) (hw : wide ≤ 4) (hz : ∀ i, i < zs.length → zs.getD i 0 ≤ 9223372036854775807) (hb : bs.length ≤ 9000000) :
    Calls Tryz.prog 43 #[v, .int .i64 wide, .slice (some ⟨q, 0, none⟩) la ca] w (TPost B (bs ++ putsF wide zs) w) := by
  have HR : Hid (Row B bs v w) := hr
  have HQ : Hid (IntsAt w q zs) := hq
  have HZ : Hid (∀ i, i < zs.length → zs.getD i 0 ≤ 9223372036854775807) := hz
  have LA : Hid (zs.length = la) := hla
  clear hr hq hz hla
  go_enter Tryz.func43, Tryz.ntmps43
  go_wp2
  go_loopw [0, 12] (fun u i wr => ∃ k cur, k ≤ la ∧ i = .int .i64 ((k : Nat) : Int) ∧ Hid (Row B cur u wr) ∧ Hid (cur ++ putsF wide (zs.drop k) = bs ++ putsF wide zs) ∧ Hid (Keep B w wr)) (fun _ i _ => la - (intOf i).toNat)
  case atStart => exact ⟨0, bs, by omega, rfl, HR.out, rfl, Keep.refl _ _⟩
  case round =>
    obtain ⟨k, cur, hk, rfl, hcur, heq, hkeep⟩ := hrel
    by_cases hlt : k < la
    · have hlt' : (k : Int) < la := by omega
      have hqc := (HQ.out.keep hkeep.out).cell (i := k) (by rw [LA.out]; exact hlt)
      have hzk := HZ.out k (by rw [LA.out]; exact hlt)
      have hsp := putsF_drop wide (zs := zs) (i := k) (by rw [LA.out]; exact hlt)
      generalize zs.getD k 0 = n at *
      have hql : q < wr.heap.size := World.block_lt_of_cell? wr _ hqc
      have HS : Hid (putsF wide (zs.drop k) = putF n wide ++ putsF wide (zs.drop (k + 1))) := hsp
      clear hsp
      go_wp2
      go_loopw [0, 9] (fun u i ws => ∃ j cur2, j ≤ wide ∧ i = .int .i64 ((j : Nat) - 1 : Int) ∧ Hid (Row B cur2 u ws) ∧ Hid (cur2 ++ putF n j = cur ++ putF n wide) ∧ Hid (Keep B w ws)) (fun _ i _ => (intOf i + 1).toNat)
      case atStart => exact ⟨wide, cur, by omega, by go_num, hcur.out, rfl, hkeep.out⟩
      case round =>
        obtain ⟨j, cur2, hj, rfl, hcur2, heq2, hkeep2⟩ := hrel
        by_cases hj0 : 0 < j
        · obtain ⟨i, rfl⟩ : ∃ i, j = i + 1 := ⟨j - 1, by omega⟩
          have hge : ¬ (i : Int) < 0 := by omega
          have hi3 : (i : Int) ≤ 3 := by omega
          have he : (((i + 1 : Nat) : Int) - 1) = i := by omega
          rw [he]
          have HZK : Hid (n ≤ 9223372036854775807) := hzk
          have hlen : cur2.length ≤ 10000000 := by
            have h1 := congrArg List.length heq2.out
            have h2 := congrArg List.length heq.out
            rw [List.length_append, List.length_append, putF_len, putF_len] at h1
            rw [List.length_append, List.length_append, putsF_len, putsF_len, List.length_drop, LA.out] at h2
            have h3 : (la - k) * wide ≤ la * wide := Nat.mul_le_mul (by omega) (Nat.le_refl _)
            have h4 : la * wide ≤ 2 * 4 := Nat.mul_le_mul hl hw
            have h5 : 1 * wide ≤ (la - k) * wide := Nat.mul_le_mul (by omega) (Nat.le_refl _)
            omega
          have HLEN : Hid (cur2.length ≤ 10000000) := hlen
          clear he hj0 hzk hlen
          have VB : Hid (((n : Int) / 2 ^ (8 * i) % 256) = (byN n i).toNat) := (byN_val n i).symm
          go_wp2_with (at_builtin; refine wp_app1 (B := B) (bs := cur2) (z := (n : Int) / 2 ^ (8 * i) % 256) (byN n i) rfl _ _ rfl rfl rfl VB.out (hcur2.out.up ((Below.refl _ _).alloc (Nat.le_refl _) _)) (by simp) HLEN.out ?_; intro v' w' hr' hk'; have R1 : Hid (Row B (cur2 ++ [byN n i]) v' w') := hr'; have K1 : Hid (Keep B w w') := (hkeep2.out.trans (Keep.of hcur2.out.2 ((Below.refl _ _).alloc (Nat.le_refl _) _))).trans hk'; clear hr' hk')
          go_roundw
          case rel =>
            refine ⟨i, cur2 ++ [byN n i], by omega, by go_num, R1.out, ?_, K1.out⟩
            have := heq2.out
            rw [List.append_assoc]
            exact this
          case measure => simp [intOf]
        · obtain rfl : j = 0 := by omega
          have hneg : (((0 : Nat) : Int) - 1) = -1 := rfl
          rw [hneg]
          have e2 : cur2 = cur ++ putF n wide := by have h : cur2 ++ [] = cur ++ putF n wide := heq2.out; rwa [List.append_nil] at h
          go_wp2
          go_roundw
          case rel =>
            refine ⟨k + 1, cur2, by omega, by go_num, hcur2.out, ?_, hkeep2.out⟩
            rw [e2, List.append_assoc, ← HS.out]
            exact heq.out
          case measure => simp [intOf]; omega
    · have e2 : cur = bs ++ putsF wide zs := by
        have := heq.out
        rw [List.drop_of_length_le (by rw [LA.out]; omega)] at this
        have h : cur ++ [] = bs ++ putsF wide zs := this
        rwa [List.append_nil] at h
      have E2 : Hid (cur = bs ++ putsF wide zs) := e2
      clear e2
      go_wp2
      go_ret
      exact ⟨_, rfl, by rw [← E2.out]; exact hcur.out, hkeep.out⟩
end Go.Proofs.YtnjpblmplneojaaGreatDoor.Mark
/- Encode of package mark: a contract of the call, over the turned program. -/
namespace Go.Proofs.YtnjpblmplneojaaGreatDoor.Mark
open Go.RowKit Go.Proofs.YtnjpblmplneojaaGreatDoor.Frame Go.Proofs.YtnjpblmplneojaaGreatDoor.Bag Go.Proofs.YtnjpblmplneojaaGreatDoor.Expr
set_option linter.unusedVariables false
set_option linter.unusedSimpArgs false

/-- the last row's member tells for all -/
theorem okB_last {b : List Row} (h : RightP b) (h0 : 0 < b.length) : (b.all fun r => decide (r.1 ≤ 4294967295)) = decide ((b.getD (b.length - 1) zr).1 ≤ 4294967295) := by
  rw [Bool.eq_iff_iff, List.all_eq_true, decide_eq_true_eq]
  constructor
  · intro g
    exact of_decide_eq_true (g _ (getD_mem (by omega)))
  · intro g r hr
    obtain ⟨j, hj, rfl⟩ := List.getElem_of_mem hr
    refine decide_eq_true ?_
    rcases Nat.lt_or_ge j (b.length - 1) with hlt | hge
    · have := List.pairwise_iff_getElem.1 h.1 j (b.length - 1) hj (by omega) hlt
      rw [getD_get zr (by omega)] at g
      omega
    · have e : j = b.length - 1 := by omega
      subst e
      rwa [getD_get zr hj] at g

set_option maxRecDepth 100000 in
set_option maxHeartbeats 1000000 in
theorem unfit_any (a : Option Addr) (len cap : Nat) (rs : List Row) (w : World) (h : Bags w a len rs) (hl : len ≤ 1000000) :
    Calls Tryz.prog 42 #[.slice a len cap] w (TwoPost (!okB rs) w) := by
  have HC : Hid (Bags w a len rs) := h
  have LA : Hid (rs.length = len) := h.1.1
  clear h
  cases hr : rightB rs with
  | false =>
    have R : Hid (rightB rs = false) := hr
    have E : Hid ((!okB rs) = true) := by show (!okB rs) = true; unfold okB; rw [hr]; rfl
    clear hr
    go_enter Tryz.func42, Tryz.ntmps42
    go_wp2_with fail
    refine (right_any _ _ _ rs _ HC.out hl).mono ?_
    rintro e w1 ⟨he, hb1⟩
    subst he
    rw [R.out]
    go_wp2
    go_ret
    exact ⟨by rw [E.out]; rfl, hb1⟩
  | true =>
    have R : Hid (rightB rs = true) := hr
    clear hr
    by_cases h1 : (65535 : Int) < len
    · have E : Hid ((!okB rs) = true) := by show (!okB rs) = true; unfold okB; rw [decide_eq_false (show ¬ rs.length ≤ 65535 by rw [LA.out]; omega), Bool.and_false]; rfl
      go_enter Tryz.func42, Tryz.ntmps42
      go_wp2_with fail
      refine (right_any _ _ _ rs _ HC.out hl).mono ?_
      rintro e w1 ⟨he, hb1⟩
      subst he
      rw [R.out]
      go_wp2
      go_ret
      exact ⟨by rw [E.out]; rfl, hb1⟩
    by_cases h2 : (0 : Int) < len
    · have E : Hid (okB rs = decide ((rs.getD (len - 1) zr).1 ≤ 4294967295)) := by
        show okB rs = _
        unfold okB
        rw [R.out, decide_eq_true (show rs.length ≤ 65535 by rw [LA.out]; omega), okB_last (rightB_iff.1 R.out) (by rw [LA.out]; omega), LA.out]; rfl
      have hn0 : 0 < len := by omega
      have hlk : (len : Int) - 1 < len := by omega
      have hlk0 : ¬ (len : Int) - 1 < 0 := by omega
      have d1 : decide ((65535 : Int) < len) = false := decide_eq_false h1
      go_enter Tryz.func42, Tryz.ntmps42
      go_wp2_with fail
      refine (right_any _ _ _ rs _ HC.out hl).mono ?_
      rintro e w1 ⟨he, hb1⟩
      subst he
      rw [R.out]
      obtain ⟨b, off, hae, hbl, hat⟩ := (HC.out.below hb1).row (k := len - 1) (by omega)
      obtain ⟨c0, c1⟩ := hat (len - 1) (by rw [LA.out]; omega)
      subst hae
      obtain ⟨m, hm⟩ : ∃ m, m = (rs.getD (len - 1) zr).1 := ⟨_, rfl⟩
      rw [← hm] at c0 E
      have HB : Hid (Below w.heap.size w w1) := hb1
      clear hat c1 hm hb1
      have E' : Hid ((!okB rs) = decide ((4294967295 : Int) < m)) := by
        show (!okB rs) = _
        rw [E.out, ← decide_not]
        exact decide_eq_decide.2 (by omega)
      clear E
      go_wp2
      go_ret
      exact ⟨by rw [E'.out]; rfl, HB.out⟩
    · have E : Hid ((!okB rs) = false) := by
        show (!okB rs) = false
        have : rs = [] := List.eq_nil_of_length_eq_zero (by rw [LA.out]; omega)
        rw [this]; rfl
      have d1 : decide ((65535 : Int) < len) = false := decide_eq_false h1
      go_enter Tryz.func42, Tryz.ntmps42
      go_wp2_with fail
      refine (right_any _ _ _ rs _ HC.out hl).mono ?_
      rintro e w1 ⟨he, hb1⟩
      subst he
      rw [R.out]
      go_wp2
      go_ret
      exact ⟨by rw [E.out]; rfl, hb1⟩

def IdxPost (b : Bool) (w : World) (e : Ending) (w' : World) : Prop := ∃ z : Int, e = .returned (.int .i64 z) ∧ decide (0 ≤ z) = b ∧ Below w.heap.size w w'
theorem allOk_no {gs : List Bg} {k : Nat} (hk : k < gs.length) (h : okB (gs.getD k nilBg).rows = false) : ((mkOf gs).all okB) = false := by
  rw [List.all_eq_false]
  refine ⟨at_ (mkOf gs) k, at_mem (by rw [mkOf_len]; exact hk), ?_⟩
  rw [mkOf_at gs hk, h]; simp
theorem allOk_yes {gs : List Bg} (h : ∀ k, k < gs.length → okB (gs.getD k nilBg).rows = true) : ((mkOf gs).all okB) = true := by
  rw [List.all_eq_true]
  intro x hx
  obtain ⟨i, hi, rfl⟩ := List.getElem_of_mem hx
  rw [← at_get hi, mkOf_at gs (by rw [mkOf_len] at hi; exact hi)]
  exact h i (by rw [mkOf_len] at hi; exact hi)

set_option maxHeartbeats 1000000 in
theorem index_unfit (a : Option Addr) (la ca : Nat) (xs : List Bg) (w : World) (ha : Mks w a la xs) (sx : Sm xs) :
    Calls Tryz.prog 64 #[.slice a la ca, .func (.func 42) #[] #[]] w (IdxPost (!(mkOf xs).all okB) w) := by
  have HA : Hid (Mks w a la xs) := ha
  have SX : Hid (Sm xs) := sx
  have LA : Hid (xs.length = la) := ha.1
  have hla : la ≤ 1000 := by have := sx.1; rw [ha.1] at this; exact this
  clear ha sx
  go_enter Tryz.func64, Tryz.ntmps64
  go_wp2
  go_loopw [8] (fun i wr => ∃ k : Nat, k ≤ la ∧ i = .int .i64 k ∧ Hid (∀ j, j < k → okB (xs.getD j nilBg).rows = true) ∧ Below w.heap.size w wr) (fun i _ => la - (intOf i).toNat)
  case atStart => exact ⟨0, by omega, rfl, fun j h => by omega, Below.refl _ _⟩
  case round =>
    obtain ⟨k, hk, rfl, hok, hnx⟩ := hrel
    by_cases hlt : k < la
    · have hlt' : (k : Int) < la := by omega
      obtain ⟨ba, oa, hae, hal, ac, aok⟩ := (HA.out.below hnx).row (k := k) hlt
      have lx := SX.out.at (k := k) (by rw [LA.out]; exact hlt)
      have NO : Hid (okB (xs.getD k nilBg).rows = false → ((mkOf xs).all okB) = false) := allOk_no (by rw [LA.out]; exact hlt)
      have YES : Hid (okB (xs.getD k nilBg).rows = true → ∀ j, j < k + 1 → okB (xs.getD j nilBg).rows = true) := fun h j hj => by
        rcases Nat.lt_or_ge j k with g | g
        · exact hok.out j g
        · obtain rfl : j = k := by omega
          exact h
      subst hae
      generalize xs.getD k nilBg = gx at *
      have KX : Hid (Bags wr gx.a gx.rows.length gx.rows) := aok.1
      have HN : Hid (Below w.heap.size w wr) := hnx
      clear aok hnx
      go_wp2_with fail
      refine (unfit_any _ _ _ gx.rows _ KX.out (by omega)).mono ?_
      rintro e w1 ⟨he, hb1⟩
      subst he
      have H1 : Hid (Below w.heap.size w w1) := HN.out.trans (hb1.mono HN.out.size)
      clear hb1
      cases hs : okB gx.rows with
      | true =>
        have Y : Hid (∀ j, j < k + 1 → okB (xs.getD j nilBg).rows = true) := YES.out hs
        clear hs NO YES
        go_wp2
        go_roundw
        case rel => exact ⟨k + 1, by omega, by go_num, Y, H1.out⟩
        case measure => simp [intOf]; omega
      | false =>
        have E : Hid (((mkOf xs).all okB) = false) := NO.out hs
        clear hs NO YES
        go_wp2
        go_ret
        exact ⟨k, rfl, by rw [E.out]; simp, H1.out⟩
    · have E : Hid (((mkOf xs).all okB) = true) := allOk_yes fun j hj => hok.out j (by rw [LA.out] at hj; omega)
      go_wp2
      go_ret
      exact ⟨-1, rfl, by rw [E.out]; rfl, hnx⟩

set_option maxHeartbeats 1000000 in
theorem contains_unfit (a : Option Addr) (la ca : Nat) (xs : List Bg) (w : World) (ha : Mks w a la xs) (sx : Sm xs) :
    Calls Tryz.prog 41 #[.slice a la ca, .func (.func 42) #[] #[]] w (TwoPost (!(mkOf xs).all okB) w) := by
  have C : Hid (Calls Tryz.prog 64 #[.slice a la ca, .func (.func 42) #[] #[]] w (IdxPost (!(mkOf xs).all okB) w)) := index_unfit a la ca xs w ha sx
  clear ha sx
  go_enter Tryz.func41, Tryz.ntmps41
  go_wp2_with fail
  refine C.out.mono ?_
  rintro e w1 ⟨z, he, hz, hb1⟩
  subst he
  have HZ : Hid (decide (0 ≤ z) = !(mkOf xs).all okB) := hz
  clear hz
  go_wp2
  go_ret
  exact ⟨by rw [← HZ.out]; rfl, hb1⟩

/-- what Encode tells -/
def encE (m : Mk) : Int := if okM m then 0 else 1
def encL (m : Mk) : List UInt8 := (encF m).getD []
theorem ints2 (w : World) (o : Obj) (m c : Nat) : IntsAt ((w.alloc o).alloc (.cells #[.int .i64 m, .int .i64 c] 3)) (w.heap.size + 1) [m, c] :=
  ⟨_, _, by have h := heap_alloc_new (w.alloc o) (.cells #[.int .i64 m, .int .i64 c] 3); rwa [show (w.alloc o).heap.size = w.heap.size + 1 by simp] at h, fun i hi => by
    match i, hi with
    | 0, _ => rfl
    | 1, _ => rfl⟩
def EncPost (m : Mk) (w : World) (e : Ending) (w' : World) : Prop := ∃ v, e = .returned (.tuple #[v, .int .i64 (encE m)]) ∧ Row w.heap.size (encL m) v w' ∧ Below w.heap.size w w'
theorem enc_no {m : Mk} (h : okM m = false) : encE m = 1 ∧ encL m = [] := by unfold encE encL encF; rw [h]; exact ⟨rfl, rfl⟩
theorem enc_yes {m : Mk} (h : okM m = true) : encE m = 0 ∧ encL m = UInt8.ofNat m.length :: bagsE m := by unfold encE encL encF; rw [h]; exact ⟨rfl, rfl⟩
theorem bagsE_drop {gs : List Bg} {k : Nat} (h : k < gs.length) : bagsE ((mkOf gs).drop k) = two (gs.getD k nilBg).rows.length ++ (rowsE (gs.getD k nilBg).rows ++ bagsE ((mkOf gs).drop (k + 1))) := by
  have hl : k < (mkOf gs).length := by rw [mkOf_len]; exact h
  rw [List.drop_eq_getElem_cons hl, ← at_get hl, mkOf_at gs h]
  show bagE _ ++ _ = _
  unfold bagE
  rw [List.append_assoc]
theorem rowsE_drop {rs : List Row} {k : Nat} (h : k < rs.length) : rowsE (rs.drop k) = (four (rs.getD k zr).1.toNat ++ four (rs.getD k zr).2.toNat) ++ rowsE (rs.drop (k + 1)) := by
  rw [List.drop_eq_getElem_cons h, getD_get zr h]; rfl
theorem bagsE_len {gs : List Bg} (h : Sm gs) : (bagsE (mkOf gs)).length ≤ gs.length * 80002 := by
  have key : ∀ (l : List Bg), (∀ g, g ∈ l → g.rows.length ≤ 10000) → (bagsE (mkOf l)).length ≤ l.length * 80002 := by
    intro l
    induction l with
    | nil => intro _; simp [mkOf, bagsE]
    | cons g l ih =>
      intro hg
      have h1 := hg g (List.mem_cons_self ..)
      have h2 := ih fun x hx => hg x (List.mem_cons_of_mem _ hx)
      show (bagE g.rows ++ bagsE (mkOf l)).length ≤ _
      unfold bagE
      rw [List.length_append, List.length_append, rowsE_len, List.length_cons]
      have : (two g.rows.length).length = 2 := rfl
      omega
  exact key gs h.2

set_option maxRecDepth 100000 in
set_option maxHeartbeats 1000000 in
theorem encode_m (a : Option Addr) (la ca : Nat) (xs : List Bg) (w : World) (ha : Mks w a la xs) (sx : Sm xs) :
    Calls Tryz.prog 16 #[.slice a la ca] w (EncPost (mkOf xs) w) := by
  have HA : Hid (Mks w a la xs) := ha
  have SX : Hid (Sm xs) := sx
  have LA : Hid (xs.length = la) := ha.1
  have hla : la ≤ 1000 := by have := sx.1; rw [ha.1] at this; exact this
  have C : Hid (Calls Tryz.prog 41 #[.slice a la ca, .func (.func 42) #[] #[]] w (TwoPost (!(mkOf xs).all okB) w)) := contains_unfit a la ca xs w ha sx
  clear ha sx
  by_cases h64 : (64 : Int) < la
  · obtain ⟨e1, e2⟩ := enc_no (m := mkOf xs) (by unfold okM; rw [decide_eq_false (by rw [mkOf_len, LA.out]; omega)]; rfl)
    have E1 : Hid (encE (mkOf xs) = 1) := e1
    have E2 : Hid (encL (mkOf xs) = []) := e2
    clear e1 e2
    go_enter Tryz.func16, Tryz.ntmps16
    go_wp2
    go_ret2
    exact ⟨.slice none 0 0, by rw [E1.out]; rfl, by rw [E2.out]; exact row_nil w, Below.refl _ _⟩
  cases hok : (mkOf xs).all okB with
  | false =>
    obtain ⟨e1, e2⟩ := enc_no (m := mkOf xs) (by unfold okM; rw [hok, Bool.and_false])
    have E1 : Hid (encE (mkOf xs) = 1) := e1
    have E2 : Hid (encL (mkOf xs) = []) := e2
    rw [hok] at C
    clear e1 e2 hok
    go_enter Tryz.func16, Tryz.ntmps16
    go_wp2_with fail
    refine C.out.mono ?_
    rintro e w1 ⟨he, hb1⟩
    subst he
    go_wp2
    go_ret2
    exact ⟨.slice none 0 0, by rw [E1.out]; rfl, by rw [E2.out]; exact (row_nil w).up hb1, hb1⟩
  | true =>
    have OK : Hid (∀ k, k < la → okB (xs.getD k nilBg).rows = true) := fun k hk => by
      have hkx : k < xs.length := by rw [LA.out]; exact hk
      have := List.all_eq_true.1 hok (at_ (mkOf xs) k) (at_mem (by rw [mkOf_len]; exact hkx))
      rwa [mkOf_at xs hkx] at this
    obtain ⟨e1, e2⟩ := enc_yes (m := mkOf xs) (by unfold okM; rw [hok, decide_eq_true (by rw [mkOf_len, LA.out]; omega)]; rfl)
    rw [mkOf_len, LA.out] at e2
    have tl : (UInt8.ofNat la :: bagsE (mkOf xs)).length ≤ 8000000 := by
      have := bagsE_len SX.out
      rw [LA.out] at this
      rw [List.length_cons]; omega
    have E1 : Hid (encE (mkOf xs) = 0) := e1
    have E2 : Hid (encL (mkOf xs) = UInt8.ofNat la :: bagsE (mkOf xs)) := e2
    have TL : Hid ((UInt8.ofNat la :: bagsE (mkOf xs)).length ≤ 8000000) := tl
    rw [hok] at C
    clear e1 e2 hok tl
    go_enter Tryz.func16, Tryz.ntmps16
    go_wp2_with fail
    refine C.out.mono ?_
    rintro e w1 ⟨he, hb1⟩
    subst he
    have B1 : Hid (Below w.heap.size w w1) := hb1
    clear hb1 C
    go_wp2_with fail
    refine (put_any w.heap.size w1.heap.size 1 [] (.slice none 0 0) [la] 1 1 _ ((row_nil w).up (B1.out.alloc B1.out.size _)) ⟨_, _, heap_alloc_new _ _, fun i hi => by
      match i, hi with
      | 0, _ => rfl⟩ rfl (by omega) (by omega) (fun i hi => by
      match i, hi with
      | 0, _ => show la ≤ _; omega) (by simp)).mono ?_
    rintro e w2 ⟨v2, he, hr, hk⟩
    subst he
    rw [put_one] at hr
    have R2 : Hid (Row w.heap.size ([] ++ [UInt8.ofNat la]) v2 w2) := hr
    have K2 : Hid (Keep w.heap.size w w2) := (Keep.of (Nat.le_refl _) (B1.out.alloc B1.out.size _)).trans hk
    clear hr hk
    go_wp2
    go_loopw [4, 22] (fun u i wr => ∃ (k : Nat) (cur : List UInt8), k ≤ la ∧ i = .int .i64 k ∧ Hid (Row w.heap.size cur u wr) ∧ Hid (cur ++ bagsE ((mkOf xs).drop k) = UInt8.ofNat la :: bagsE (mkOf xs)) ∧ Hid (Keep w.heap.size w wr)) (fun _ i _ => la - (intOf i).toNat)
    case atStart => exact ⟨0, _, by omega, rfl, R2.out, rfl, K2.out⟩
    case round =>
      obtain ⟨k, cur, hk, rfl, hcur, heq, hkeep⟩ := hrel
      by_cases hlt : k < la
      · have hlt' : (k : Int) < la := by omega
        have hkx : k < xs.length := by rw [LA.out]; exact hlt
        obtain ⟨ba, oa, hae, hal, ac, aok⟩ := (HA.out.below hkeep.out.1).row (k := k) hlt
        have lx := SX.out.at hkx
        have okx := OK.out k hlt
        have hd := bagsE_drop hkx
        have hb0 : Bags w (xs.getD k nilBg).a (xs.getD k nilBg).rows.length (xs.getD k nilBg).rows := by
          obtain ⟨_, _, _, _, _, h⟩ := HA.out.row (k := k) hlt
          exact h.1
        subst hae
        generalize xs.getD k nilBg = g at *
        obtain ⟨hr1, hr2, hr3⟩ := okB_is okx
        have HD : Hid (bagsE ((mkOf xs).drop k) = two g.rows.length ++ (rowsE g.rows ++ bagsE ((mkOf xs).drop (k + 1)))) := hd
        have KG : Hid (Bags w g.a g.rows.length g.rows) := hb0
        have RR : Hid (∀ r, r ∈ g.rows → (0 ≤ r.1 ∧ r.1 ≤ 4294967295) ∧ 0 ≤ r.2 ∧ r.2 ≤ 4294967295) := hr3
        have hcl : cur.length ≤ 8000000 := by
          have := congrArg List.length heq.out
          rw [List.length_append] at this
          have := TL.out
          omega
        have CL : Hid (cur.length ≤ 8000000) := hcl
        clear aok okx hd hb0 hr1 hr2 hr3 hcl
        go_wp2_with fail
        refine (put_any w.heap.size wr.heap.size 2 cur _ [g.rows.length] 1 1 _ (hcur.out.up ((Below.refl _ _).alloc (Nat.le_refl _) _)) ⟨_, _, heap_alloc_new _ _, fun i hi => by
          match i, hi with
          | 0, _ => rfl⟩ rfl (by omega) (by omega) (fun i hi => by
          match i, hi with
          | 0, _ => show g.rows.length ≤ _; omega) (by have := CL.out; omega)).mono ?_
        rintro e w3 ⟨v3, he, hr, hk3⟩
        subst he
        rw [put_two] at hr
        have R3 : Hid (Row w.heap.size (cur ++ two g.rows.length) v3 w3) := hr
        have K3 : Hid (Keep w.heap.size w w3) := (hkeep.out.trans (Keep.of hcur.out.2 ((Below.refl _ _).alloc (Nat.le_refl _) _))).trans hk3
        have Q3 : Hid ((cur ++ two g.rows.length) ++ (rowsE g.rows ++ bagsE ((mkOf xs).drop (k + 1))) = UInt8.ofNat la :: bagsE (mkOf xs)) := by
          have := heq.out
          rw [HD.out, ← List.append_assoc] at this
          exact this
        clear hr hk3 hcur heq hkeep HD CL
        generalize cur ++ two g.rows.length = cur3 at *
        go_wp2
        go_loopw [4, 33] (fun u i ws => ∃ (j : Nat) (cur2 : List UInt8), j ≤ g.rows.length ∧ i = .int .i64 j ∧ Hid (Row w.heap.size cur2 u ws) ∧ Hid (cur2 ++ rowsE (g.rows.drop j) = cur3 ++ rowsE g.rows) ∧ Hid (Keep w.heap.size w ws)) (fun _ i _ => g.rows.length - (intOf i).toNat)
        case atStart => exact ⟨0, cur3, by omega, rfl, R3.out, rfl, K3.out⟩
        case round =>
          obtain ⟨j, cur2, hj, rfl, hcur2, heq2, hkeep2⟩ := hrel
          by_cases hjl : j < g.rows.length
          · have hjl' : (j : Int) < g.rows.length := by omega
            obtain ⟨bb, off, hbe, hbl, hat⟩ := (KG.out.below hkeep2.out.1).row (k := j) hjl
            obtain ⟨c0, c1⟩ := hat j hjl
            have hrr := RR.out _ (getD_mem hjl)
            have hdr := rowsE_drop hjl
            generalize g.rows.getD j zr = r at *
            obtain ⟨r1, r2⟩ := r
            obtain ⟨⟨p1, p2⟩, p3, p4⟩ := hrr
            obtain ⟨m, rfl⟩ : ∃ m : Nat, r1 = m := ⟨r1.toNat, by simp at p1; omega⟩
            obtain ⟨c, rfl⟩ : ∃ c : Nat, r2 = c := ⟨r2.toNat, by simp at p3; omega⟩
            simp only [Int.toNat_natCast] at hdr
            have hm : m ≤ 9223372036854775807 := by simp at p2; omega
            have hc : c ≤ 9223372036854775807 := by simp at p4; omega
            have HM : Hid (m ≤ 9223372036854775807) := hm
            have HCC : Hid (c ≤ 9223372036854775807) := hc
            have DR : Hid (rowsE (g.rows.drop j) = (four m ++ four c) ++ rowsE (g.rows.drop (j + 1))) := hdr
            have hcl : cur2.length ≤ 9000000 := by
              have h1 := congrArg List.length heq2.out
              have h2 := congrArg List.length Q3.out
              have h3 := TL.out
              simp only [List.length_append] at h1 h2
              omega
            have CL2 : Hid (cur2.length ≤ 9000000) := hcl
            have KA : Hid (g.a = some ⟨bb, off, none⟩) := hbe
            simp only at c0 c1
            clear hat hdr hm hc hcl p1 p2 p3 p4 hbe
            obtain ⟨gr, ga, gc⟩ := g
            simp only at *
            have KA2 := KA.out
            subst KA2
            go_wp2_with fail
            refine (put_any w.heap.size (wr.heap.size + 1) 4 cur2 _ [m, c] 2 2 _ (hcur2.out.up (((Below.refl _ _).alloc (Nat.le_refl _) _).alloc (by simp) _)) (ints2 _ _ _ _) rfl (by omega) (by omega) (fun i hi => by
              match i, hi with
              | 0, _ => exact HM.out
              | 1, _ => exact HCC.out) CL2.out).mono ?_
            rintro e w5 ⟨v5, he, hr, hk5⟩
            subst he
            rw [put_row] at hr
            have R5 : Hid (Row w.heap.size (cur2 ++ (four m ++ four c)) v5 w5) := hr
            have K5 : Hid (Keep w.heap.size w w5) := (hkeep2.out.trans (Keep.of hcur2.out.2 (((Below.refl _ _).alloc (Nat.le_refl _) _).alloc (by simp) _))).trans hk5
            have Q5 : Hid ((cur2 ++ (four m ++ four c)) ++ rowsE (gr.drop (j + 1)) = cur3 ++ rowsE gr) := by
              have := heq2.out
              rw [DR.out, ← List.append_assoc] at this
              exact this
            clear hr hk5
            go_wp2
            go_roundw
            case rel => exact ⟨j + 1, _, by omega, by go_num, R5.out, Q5.out, K5.out⟩
            case measure => simp [intOf]; omega
          · have e2 : cur2 = cur3 ++ rowsE g.rows := by
              have := heq2.out
              rw [List.drop_of_length_le (by omega)] at this
              have h : cur2 ++ [] = cur3 ++ rowsE g.rows := this
              rwa [List.append_nil] at h
            have Q6 : Hid (cur2 ++ bagsE ((mkOf xs).drop (k + 1)) = UInt8.ofNat la :: bagsE (mkOf xs)) := by
              have := Q3.out
              rw [← List.append_assoc, ← e2] at this
              exact this
            clear e2
            go_wp2
            go_roundw
            case rel => exact ⟨k + 1, cur2, by omega, by go_num, hcur2.out, Q6.out, hkeep2.out⟩
            case measure => simp [intOf]; omega
      · have e2 : cur = UInt8.ofNat la :: bagsE (mkOf xs) := by
          have := heq.out
          rw [List.drop_of_length_le (by rw [mkOf_len, LA.out]; omega)] at this
          have h : cur ++ [] = UInt8.ofNat la :: bagsE (mkOf xs) := this
          rwa [List.append_nil] at h
        have E3 : Hid (encL (mkOf xs) = cur) := E2.out.trans e2.symm
        clear e2
        go_wp2
        go_ret2
        exact ⟨_, by rw [E1.out]; rfl, by rw [E3.out]; exact hcur.out, hkeep.out.1⟩
end Go.Proofs.YtnjpblmplneojaaGreatDoor.Mark
