/- The plain mathematics of layer 2: what names are, how great colours are. No program stands in it. -/
import Derived.Test.YtnjpblmplneojaaGreatDoorRows
namespace Go.Proofs.YtnjpblmplneojaaGreatDoor.Colour
def letB (n : Int) : Bool := decide (97 ≤ n ∧ n ≤ 122 ∨ 65 ≤ n ∧ n ≤ 90)
def digB (n : Int) : Bool := decide (48 ≤ n ∧ n ≤ 57)
def okB (n : Int) : Bool := letB n || digB n || n == 95
def withinB (i n : Int) : Bool := decide (0 ≤ i ∧ i < n)
/-- a name -/
def nameB (s : ByteArray) : Bool := decide (1 ≤ s.size) && decide (s.size ≤ 32) && letB (s.data.toList.getD 0 0).toNat && s.data.toList.all fun c => okB c.toNat
theorem retb {a b : Bool} (h : a = b) : Ending.returned (.bool a) = .returned (.bool b) := by rw [h]
theorem reti {a b : Int} (h : a = b) : Ending.returned (.int .i64 a) = .returned (.int .i64 b) := by rw [h]

theorem nameB_none {s : ByteArray} (h : s.size = 0 ∨ 32 < s.size) : nameB s = false := by
  unfold nameB
  rcases h with h | h
  · simp [h]
  · have : decide (s.size ≤ 32) = false := by simp; omega
    simp [this]
theorem nameB_head {s : ByteArray} (h : letB (s.data.toList.getD 0 0).toNat = false) : nameB s = false := by
  unfold nameB; simp only [h, Bool.and_false, Bool.false_and]
theorem nameB_bad {s : ByteArray} (k : Nat) (h : k < s.size) (hb : okB (s[k]).toNat = false) : nameB s = false := by
  unfold nameB
  have : (s.data.toList.all fun c => okB c.toNat) = false := by
    rw [List.all_eq_false]
    refine ⟨s[k], ?_, by rw [hb]; simp⟩
    show s.data[k] ∈ _
    exact (Array.mem_toList_iff).2 (Array.getElem_mem _)
  rw [this, Bool.and_false]
theorem nameB_good {s : ByteArray} (h1 : 1 ≤ s.size) (h2 : s.size ≤ 32) (h3 : letB (s.data.toList.getD 0 0).toNat = true) (h : ∀ k (hk : k < s.size), okB (s[k]).toNat = true) : nameB s = true := by
  unfold nameB
  have : (s.data.toList.all fun c => okB c.toNat) = true := by
    rw [List.all_eq_true]
    intro c hc
    obtain ⟨k, hk, rfl⟩ := List.getElem_of_mem hc
    have hk' : k < s.size := by simpa using hk
    have := h k hk'
    rw [Array.getElem_toList]
    exact this
  rw [this, h3]
  simp [h1, h2]

/-- the strings, sorted by their bytes -/
def sortF (zs : List ByteArray) : List ByteArray := ((zs.map fun s => s.data.toList).mergeSort fun x y => decide (x ≤ y)).map fun l => ⟨l.toArray⟩
theorem sortF_length (zs : List ByteArray) : (sortF zs).length = zs.length := by simp [sortF]
/-- no two neighbours alike -/
def adjB (l : List ByteArray) : Bool := (List.range (l.length - 1)).all fun i => !((l.getD (i + 1) ByteArray.empty).toList == (l.getD i ByteArray.empty).toList)
/-- all names, no two alike -/
def allB (zs : List ByteArray) : Bool := zs.all nameB && adjB (sortF zs)
theorem allB_nil : allB [] = true := by decide +kernel
theorem allB_bad {zs : List ByteArray} (k : Nat) (hk : k < zs.length) (h : nameB (zs.getD k ByteArray.empty) = false) : allB zs = false := by
  unfold allB
  have : zs.all nameB = false := by
    rw [List.all_eq_false]
    refine ⟨zs.getD k ByteArray.empty, ?_, by rw [h]; simp⟩
    rw [List.getD_eq_getElem?_getD, List.getElem?_eq_getElem hk]
    exact List.getElem_mem _
  rw [this]; rfl
theorem all_names {zs : List ByteArray} (h : ∀ k, k < zs.length → nameB (zs.getD k ByteArray.empty) = true) : zs.all nameB = true := by
  rw [List.all_eq_true]
  intro s hs
  obtain ⟨k, hk, rfl⟩ := List.getElem_of_mem hs
  have := h k hk
  rwa [List.getD_eq_getElem?_getD, List.getElem?_eq_getElem hk] at this
theorem allB_twice {zs : List ByteArray} (k : Nat) (hk : k + 1 < zs.length) (h : (((sortF zs).getD (k + 1) ByteArray.empty).toList == ((sortF zs).getD k ByteArray.empty).toList) = true) : allB zs = false := by
  unfold allB adjB
  have : ((List.range ((sortF zs).length - 1)).all fun i => !(((sortF zs).getD (i + 1) ByteArray.empty).toList == ((sortF zs).getD i ByteArray.empty).toList)) = false := by
    rw [List.all_eq_false]
    refine ⟨k, ?_, by rw [h]; simp⟩
    rw [sortF_length]; simp; omega
  rw [this, Bool.and_false]
theorem allB_good {zs : List ByteArray} (h1 : zs.all nameB = true) (h : ∀ k, k + 1 < zs.length → (((sortF zs).getD (k + 1) ByteArray.empty).toList == ((sortF zs).getD k ByteArray.empty).toList) = false) : allB zs = true := by
  unfold allB adjB
  have : ((List.range ((sortF zs).length - 1)).all fun i => !(((sortF zs).getD (i + 1) ByteArray.empty).toList == ((sortF zs).getD i ByteArray.empty).toList)) = true := by
    rw [List.all_eq_true]
    intro k hk
    rw [sortF_length] at hk
    rw [h k (by simp at hk; omega)]; rfl
  rw [this, h1]; rfl
end Go.Proofs.YtnjpblmplneojaaGreatDoor.Colour
