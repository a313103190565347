/-
  The bytes behind a message, as a plain list; making a row of bytes. No statement is proved here.
-/
import Derived.Test.YtomghpielgkigaaDoorWords
import Derived.Laws.IdiomStrings
namespace Go.Proofs.YtomghpielgkigaaDoor
open Go.RowKit

def u8s (l : List UInt8) : List Int := l.map fun b => (b.toNat : Int)
theorem u8s_length (l : List UInt8) : (u8s l).length = l.length := by simp [u8s]
theorem u8s_bytes (l : List UInt8) : IsBytes (u8s l) := by
  intro b hb
  obtain ⟨x, _, rfl⟩ := List.mem_map.1 hb
  have := x.toNat_lt
  omega
theorem u8s_append (a b : List UInt8) : u8s (a ++ b) = u8s a ++ u8s b := by simp [u8s]
theorem set_ub {w : World} {g t i : Nat} {L : List Int} {v : Int} (hg : w.heap[g]? = some (.cells (ub L) t (0, 0))) : (w.setCell ⟨g, i, none⟩ (.int .u8 v)).heap[g]? = some (.cells (ub (L.set i v)) t (0, 0)) := by
  rw [heap_setCell_same w g i _ t _ hg]; simp [ub]
/-- How many zeros stand behind the first byte. -/
def padZ (N : Nat) : Nat := (64 - (N % 64 + 9) % 64) % 64
def lenByte (N i : Nat) : UInt8 := UInt8.ofNat (8 * N / 2 ^ (8 * (7 - i)))
def lenB (N k : Nat) : List UInt8 := (List.range k).map (lenByte N)
def padL (N : Nat) : List UInt8 := 0x80 :: List.replicate (padZ N) 0 ++ lenB N 8
def padPre (N k : Nat) : List UInt8 := 0x80 :: List.replicate (padZ N) 0 ++ (lenB N k ++ List.replicate (8 - k) 0)
theorem lenB_length (N k : Nat) : (lenB N k).length = k := by simp [lenB]
theorem padPre_length (N k : Nat) (hk : k ≤ 8) : (padPre N k).length = padZ N + 9 := by simp [padPre, lenB_length]; omega
theorem padPre_end (N : Nat) : padPre N 8 = padL N := by simp [padPre, padL]
theorem padL_length (N : Nat) : (padL N).length = padZ N + 9 := by simp [padL, lenB_length]
theorem padPre_zero (N : Nat) : (List.replicate (padZ N + 9) (0 : Int)).set 0 128 = u8s (padPre N 0) := by
  have e : padZ N + 9 = (padZ N + 8) + 1 := by omega
  have e2 : u8s (padPre N 0) = 128 :: (List.replicate (padZ N) (0 : Int) ++ List.replicate 8 0) := by
    have : (8 : Nat) - 0 = 8 := rfl
    simp only [padPre, u8s, lenB, this, List.range_zero, List.map_nil, List.nil_append, List.cons_append, List.map_cons, List.map_append, List.map_replicate]
    rfl
  rw [e2, e, List.replicate_succ, List.set_cons_zero, List.replicate_append_replicate]
theorem lenByte_val (N i : Nat) : ((lenByte N i).toNat : Int) = (8 * (N : Int) / 2 ^ (8 * (7 - i))) % 256 := by
  simp only [lenByte, UInt8.toNat_ofNat']
  have : ((2 : Int) ^ (8 * (7 - i))) = ((2 ^ (8 * (7 - i)) : Nat) : Int) := by simp
  rw [this]
  have h2 : ((8 * N / 2 ^ (8 * (7 - i)) : Nat) : Int) = 8 * (N : Int) / ((2 ^ (8 * (7 - i)) : Nat) : Int) := by rw [Int.natCast_ediv]; rfl
  omega
theorem padPre_step (N k : Nat) (hk : k < 8) : (u8s (padPre N k)).set (1 + padZ N + k) ((8 * (N : Int) / 2 ^ (8 * (7 - k))) % 256) = u8s (padPre N (k + 1)) := by
  rw [← lenByte_val]
  have e : 8 - k = (8 - (k + 1)) + 1 := by omega
  have e2 : u8s (padPre N k) = (u8s (0x80 :: List.replicate (padZ N) 0 ++ lenB N k)) ++ zs ((8 - (k + 1)) + 1) := by
    simp [padPre, u8s, e, zs]
  have e3 : 1 + padZ N + k = (u8s (0x80 :: List.replicate (padZ N) 0 ++ lenB N k)).length := by simp [u8s, lenB_length]; omega
  rw [e2, e3, set_zs]
  simp [padPre, u8s, lenB, List.range_succ, zs]
theorem padZ_lt (N : Nat) : padZ N < 64 := by unfold padZ; omega
theorem padZ_int (N : Nat) : (64 - ((N : Int) % 64 + 1 + 8) % 64) % 64 = (padZ N : Int) := by unfold padZ; omega
theorem padZ_int' (N : Nat) : -(((N : Int) % 64 + 1 + 8) % 64) % 64 = (padZ N : Int) := by unfold padZ; omega
theorem padZ_full (N : Nat) : (N + (padL N).length) % 64 = 0 := by rw [padL_length]; unfold padZ; omega
/-- The string of a list of bytes. -/
def str (l : List UInt8) : Value := .string ⟨l.toArray⟩

theorem info5 : (Tryd.prog.info? 5).map (fun i => (i.zero, i.size, i.bytes)) = some (some (.int .u8 0), 1, 1) := by kernel_rfl
theorem und49 : Tryd.prog.underlying 60 = some (.slice 5) := by kernel_rfl
theorem und5 : Tryd.prog.underlying 5 = some (.int .u8) := by kernel_rfl
theorem und9 : Tryd.prog.underlying 9 = some .string := by kernel_rfl
theorem made_ub (n : Nat) : madeCells (Value.int .u8 0).cells (n * 1) = ub (List.replicate n 0) := by
  have hc : (Value.int .u8 0).cells = #[.int .u8 0] := rfl
  rw [hc]
  apply Array.ext_getElem?
  intro i
  simp only [madeCells, ub, Nat.mul_one]
  by_cases h : i < n
  · simp [h, Nat.mod_one]
  · simp [h]

/-- 'make([]byte, n)': a new row of zeros; the world behind it is a letter. -/
theorem wpList_make_u8 (w : World) {ops : Array Oper} {rest : List Oper} {o : Oper} {a : Act} {Q : Exit → Act → World → Prop}
    (hg : o.guard = none) (l c : Operand) (hop : o.op = Op.makeSlice 60 l c) (L C : Int) (n : Nat) (hl : a.eval l = .int .i64 L) (hc : a.eval c = .int .i64 C) (hL : L = (n : Int)) (hC : C = (n : Int)) (b2 : n ≤ 281474976710656)
    (hK : ∀ w', w'.heap[w.heap.size]? = some (.cells (ub (List.replicate n 0)) 5 (0, 0)) → Below w.heap.size w w' → w'.heap.size = w.heap.size + 1 → wpList Tryd.prog ops Q rest (a.put o.dst (.slice (some ⟨w.heap.size, 0, none⟩) n n)) w') :
    wpList Tryd.prog ops Q (o :: rest) a w := by
  refine wpList_plain hg fun K hK' => ?_
  obtain ⟨i0, hi, hz0, hz1, hz2⟩ := info_parts info5
  subst hL
  subst hC
  have hrun := run_make (P := Tryd.prog) w 60 5 i0 _ und49 hi hz0 .i64 .i64 (n : Int) (n : Int) (by omega) (by omega) (by rw [hz2]; omega) (by omega)
  rw [hz1, Int.toNat_natCast, made_ub] at hrun
  unfold Oper.wp
  simp [execOp, hop, hl, hc, hrun, Result.andThen]
  exact hK' _ _ (hK _ (heap_alloc_new w _) ((Below.refl _ _).alloc (Nat.le_refl _) _) (by simp))
end Go.Proofs.YtomghpielgkigaaDoor
