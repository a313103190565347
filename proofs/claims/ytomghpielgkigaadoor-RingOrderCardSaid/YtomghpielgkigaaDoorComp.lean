/-
  The plain functions of a block: the rounds, the state behind a block; and facts on rows in memory. No statement is proved here.
-/
import Derived.Test.YtomghpielgkigaaDoorStep
import Derived.Test.YtomghpielgkigaaDoorExpand
namespace Go.Proofs.YtomghpielgkigaaDoor
open Go.RowKit

def kk : List Int := [1116352408, 1899447441, 3049323471, 3921009573, 961987163, 1508970993, 2453635748, 2870763221, 3624381080, 310598401, 607225278, 1426881987, 1925078388, 2162078206, 2614888103, 3248222580, 3835390401, 4022224774, 264347078, 604807628, 770255983, 1249150122, 1555081692, 1996064986, 2554220882, 2821834349, 2952996808, 3210313671, 3336571891, 3584528711, 113926993, 338241895, 666307205, 773529912, 1294757372, 1396182291, 1695183700, 1986661051, 2177026350, 2456956037, 2730485921, 2820302411, 3259730800, 3345764771, 3516065817, 3600352804, 4094571909, 275423344, 430227734, 506948616, 659060556, 883997877, 958139571, 1322822218, 1537002063, 1747873779, 1955562222, 2024104815, 2227730452, 2361852424, 2428436474, 2756734187, 3204031479, 3329325298]
def ii : List Int := [1779033703, 3144134277, 1013904242, 2773480762, 1359893119, 2600822924, 528734635, 1541459225]
/-- The package-level table K holds its numbers. -/
def KeysIn (w : World) : Prop := ∀ j, j < 64 → w.cell? ⟨1, j, none⟩ = some (.int .u32 (kk.getD j 0))
theorem KeysIn.pos {w : World} (h : KeysIn w) : 1 < w.heap.size := block_lt_of_cell (h 0 (by decide))
theorem KeysIn.below {B : Nat} {w w' : World} (h : KeysIn w) (hb : Below B w w') (hB : 1 < B) : KeysIn w' := fun j hj => (hb.cell (by exact hB)).trans (h j hj)

def rounds (h ws : List Int) : Nat → List Int
  | 0 => h
  | k + 1 => stepI (rounds h ws k) ((kk.getD k 0 + ws.getD k 0) % 4294967296)
theorem rounds_length (h ws : List Int) (hl : h.length = 8) (k : Nat) : (rounds h ws k).length = 8 := by
  cases k with
  | zero => exact hl
  | succ k => simp [rounds, stepI]
def addTo (a b : List Int) (k : Nat) : List Int := (List.range 8).map fun i => if i < k then (a.getD i 0 + b.getD i 0) % 4294967296 else a.getD i 0
theorem addTo_length (a b : List Int) (k : Nat) : (addTo a b k).length = 8 := by simp [addTo]
theorem addTo_zero (a b : List Int) (hl : a.length = 8) : addTo a b 0 = a := by
  match a, hl with
  | [a, b, c, d, e, f, g, h], _ => rfl
theorem addTo_get (a b : List Int) (k : Nat) (hk : k < 8) : (addTo a b k).getD k 0 = a.getD k 0 := by simp [addTo, hk]
theorem addTo_set (a b : List Int) (k : Nat) : (addTo a b k).set k ((a.getD k 0 + b.getD k 0) % 4294967296) = addTo a b (k + 1) := by
  apply List.ext_getElem
  · simp [addTo]
  · intro i h1 h2
    simp only [addTo, List.getElem_set, List.getElem_map, List.getElem_range]
    by_cases h : k = i
    · subst h; simp
    · rw [if_neg h]
      by_cases h3 : i < k
      · rw [if_pos h3, if_pos (by omega)]
      · rw [if_neg h3, if_neg (by omega)]
theorem addTo_comm (a b : List Int) : addTo a b 8 = addTo b a 8 := by
  unfold addTo
  apply List.map_congr_left
  intro i hi
  rw [if_pos (by simpa using hi), if_pos (by simpa using hi), Int.add_comm]
def compI (h ws : List Int) : List Int := addTo h (rounds h (sched ws 48) 64) 8
theorem compI_length (h ws : List Int) : (compI h ws).length = 8 := addTo_length _ _ _
theorem list8 (s : List Int) (h : s.length = 8) : ∃ a b c d e f g i, s = [a, b, c, d, e, f, g, i] := by
  match s, h with
  | [a, b, c, d, e, f, g, i], _ => exact ⟨a, b, c, d, e, f, g, i, rfl⟩

theorem two_w (w : World) (A B : Array Value) (a b : Nat) : ∃ w2, w2 = (w.alloc (.cells A a)).alloc (.cells B b) ∧ w2.heap[w.heap.size]? = some (.cells A a (0, 0)) ∧ w2.heap[w.heap.size + 1]? = some (.cells B b (0, 0)) ∧
    w2.heap.size = w.heap.size + 1 + 1 ∧ Below w.heap.size w w2 := by
  have s1 : (w.alloc (.cells A a)).heap.size = w.heap.size + 1 := by simp
  refine ⟨_, rfl, ?_, ?_, by simp, ((Below.refl _ _).alloc (Nat.le_refl _) _).alloc (by simp) _⟩
  · rw [Below.heap_alloc _ _ _ (by simp)]; exact heap_alloc_new w _
  · rw [← s1]; exact heap_alloc_new _ _
theorem setRow_alloc2 (w : World) (A : Obj) (c c' : Array Value) (t : TypeId) : ((w.alloc A).alloc (.cells c t)).setRow (w.heap.size + 1) c' = (w.alloc A).alloc (.cells c' t) := by
  have := World.setRow_alloc_new (w.alloc A) c c' t
  simpa using this
theorem heap_alloc2' (w : World) (A B : Obj) : ((w.alloc A).alloc B).heap[w.heap.size + 1]? = some B := heap_alloc2_new w A B
theorem und28 : Tryd.prog.underlying 79 = some (.array 8 78) := by kernel_rfl
theorem info28 : (Tryd.prog.info? 79).map (·.size) = some 8 := by kernel_rfl
theorem und23 : Tryd.prog.underlying 98 = some (.array 16 78) := by kernel_rfl
theorem info23 : (Tryd.prog.info? 98).map (·.size) = some 16 := by kernel_rfl
theorem ua_size (xs : List Int) : (ua xs).size = xs.length := by simp [ua, ui]
theorem size28 {s : List Int} (h : s.length = 8) : (Tryd.prog.info? 79).map (·.size) = some (ua s).size := by rw [info28, ua_size, h]
theorem size23 {s : List Int} (h : s.length = 16) : (Tryd.prog.info? 98).map (·.size) = some (ua s).size := by rw [info23, ua_size, h]
theorem size25 {s : List Int} (h : s.length = 64) : (Tryd.prog.info? 112).map (·.size) = some (ua s).size := by rw [info25, ua_size, h]
theorem same_size {a b : List Int} (h : a.length = b.length) : (ua a).size = (ua b).size := by rw [ua_size, ua_size, h]
theorem sched48 {ws : List Int} (h : ws.length = 16) : (sched ws 48).length = 64 := by rw [sched_length, h]
end Go.Proofs.YtomghpielgkigaaDoor
