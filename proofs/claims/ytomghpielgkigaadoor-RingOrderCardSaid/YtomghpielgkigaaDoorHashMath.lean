/-
  The hash as plain functions of a list of bytes; the hasher's row in memory. No statement is proved here.
-/
import Derived.Test.YtomghpielgkigaaDoorPadMath
import Derived.Lib.BufferWrite
namespace Go.Proofs.YtomghpielgkigaaDoor
open Go.RowKit

/-- The state behind the first n blocks. -/
def runB (h : List Int) : Nat → List UInt8 → List Int
  | 0, _ => h
  | n + 1, ms => compI (runB h n ms) (wds (u8s ((ms.drop (64 * n)).take 64)) 64)
theorem runB_length (h : List Int) (hl : h.length = 8) (n : Nat) (ms : List UInt8) : (runB h n ms).length = 8 := by
  cases n with
  | zero => exact hl
  | succ n => exact compI_length _ _
theorem runB_app (h : List Int) (ms x : List UInt8) : ∀ n, 64 * n ≤ ms.length → runB h n (ms ++ x) = runB h n ms
  | 0, _ => rfl
  | n + 1, hn => by
    have e : ((ms ++ x).drop (64 * n)).take 64 = (ms.drop (64 * n)).take 64 := by
      rw [List.drop_append_of_le_length (by omega), List.take_append_of_le_length (by simp; omega)]
    simp only [runB, e, runB_app h ms x n (by omega)]
def hstate (ms : List UInt8) : List Int := runB ii (ms.length / 64) ms
theorem hstate_length (ms : List UInt8) : (hstate ms).length = 8 := runB_length _ rfl _ _
/-- What of the message stands in no full block. -/
def tailB (ms : List UInt8) : List UInt8 := ms.drop (64 * (ms.length / 64))
theorem tailB_length (ms : List UInt8) : (tailB ms).length = ms.length % 64 := by simp [tailB]; omega
theorem hstate_stay (ms x : List UInt8) (h : ms.length % 64 + x.length < 64) : hstate (ms ++ x) = hstate ms ∧ tailB (ms ++ x) = tailB ms ++ x := by
  have e : (ms ++ x).length / 64 = ms.length / 64 := by simp; omega
  constructor
  · unfold hstate; rw [e]; exact runB_app _ _ _ _ (by omega)
  · unfold tailB; rw [e, List.drop_append_of_le_length (by omega)]
theorem hstate_full (ms x : List UInt8) (h : ms.length % 64 + x.length = 64) : hstate (ms ++ x) = compI (hstate ms) (wds (u8s (tailB ms ++ x)) 64) ∧ tailB (ms ++ x) = [] := by
  have e : (ms ++ x).length / 64 = ms.length / 64 + 1 := by simp; omega
  constructor
  · unfold hstate
    rw [e]
    simp only [runB]
    rw [runB_app _ _ _ _ (by omega)]
    have e2 : ((ms ++ x).drop (64 * (ms.length / 64))).take 64 = tailB ms ++ x := by
      rw [List.drop_append_of_le_length (by omega), List.take_of_length_le (by simp; omega)]
      rfl
    rw [e2]
  · unfold tailB
    rw [e]
    apply List.drop_eq_nil_of_le
    simp; omega

/-- The hasher's cells: the state, the block, the count. -/
def hl (S B : List Int) (u : Int) : List Value := S.map (Value.int .u32) ++ B.map (Value.int .u8) ++ [.int .i64 u]
theorem hl_length (S B : List Int) (u : Int) (hS : S.length = 8) (hB : B.length = 64) : (hl S B u).length = 73 := by simp [hl, hS, hB]
/-- The hasher at block hb has taken the message ms. -/
def InH (w : World) (hb : Nat) (ms : List UInt8) : Prop :=
  ∃ B : List Int, B.length = 64 ∧ IsBytes B ∧ B.take (ms.length % 64) = u8s (tailB ms) ∧ w.heap[hb]? = some (.cells (hl (hstate ms) B ((ms.length % 64 : Nat) : Int)).toArray 82 (0, 0))
theorem splice_hl (S B xs : List Int) (u : Nat) (n : Int) (hS : S.length = 8) (h : u + xs.length ≤ B.length) : splice (hl S B n) (8 + u) (xs.map (Value.int .u8)) = hl S (splice B u xs) n := by
  have e1 : S.map (Value.int .u32) ++ B.map (Value.int .u8) ++ [Value.int .i64 n] = S.map (Value.int .u32) ++ (B.map (Value.int .u8) ++ [Value.int .i64 n]) := by simp
  unfold splice hl
  rw [e1, List.take_append, List.drop_append]
  simp only [List.length_map, hS]
  rw [List.take_of_length_le (by simp; omega), List.drop_eq_nil_of_le (by simp; omega)]
  rw [show 8 + u - 8 = u by omega, show 8 + u + xs.length - 8 = u + xs.length by omega, List.take_append_of_le_length (by simp; omega), List.drop_append_of_le_length (by simp; omega)]
  simp [List.map_take, List.map_drop]
theorem splice_bytes {B xs : List Int} (u : Nat) (hB : IsBytes B) (hx : IsBytes xs) : IsBytes (splice B u xs) := by
  intro b hb
  simp only [splice, List.mem_append] at hb
  rcases hb with h | h | h
  · exact hB b (List.mem_of_mem_take h)
  · exact hx b h
  · exact hB b (List.mem_of_mem_drop h)
theorem splice_take (B xs : List Int) (u : Nat) (h : u + xs.length ≤ B.length) : (splice B u xs).take (u + xs.length) = B.take u ++ xs := by
  unfold splice
  rw [← List.append_assoc, List.take_append_of_le_length (by simp; omega), List.take_of_length_le (by simp; omega)]
theorem hl_get_u (S B : List Int) (u : Int) (hS : S.length = 8) (hB : B.length = 64) : (hl S B u)[72]? = some (.int .i64 u) := by
  unfold hl
  rw [List.getElem?_append_right (by simp [hS, hB])]
  simp [hS, hB]
theorem hl_set_u (S B : List Int) (u v : Int) (hS : S.length = 8) (hB : B.length = 64) : (hl S B u).set 72 (.int .i64 v) = hl S B v := by
  unfold hl
  rw [List.set_append_right _ _ (by simp [hS, hB])]
  simp [hS, hB]
theorem hl_range_S (S B : List Int) (u : Int) : ∀ j v, (S.map (Value.int .u32))[j]? = some v → (hl S B u)[0 + j]? = some v := by
  intro j v h
  have hj := (List.getElem?_eq_some_iff.1 h).1
  unfold hl
  rw [Nat.zero_add, List.append_assoc, List.getElem?_append_left hj]
  exact h
theorem hl_range_B (S B : List Int) (u : Int) (hS : S.length = 8) : ∀ j v, (B.map (Value.int .u8))[j]? = some v → (hl S B u)[8 + j]? = some v := by
  intro j v h
  have hj := (List.getElem?_eq_some_iff.1 h).1
  unfold hl
  rw [List.append_assoc, List.getElem?_append_right (by simp [hS])]
  simp only [List.length_map, hS, show 8 + j - 8 = j by omega]
  rw [List.getElem?_append_left hj]
  exact h
theorem splice_hl_S (S S' B : List Int) (u : Int) (hS : S.length = 8) (hS' : S'.length = 8) : splice (hl S B u) 0 (S'.map (Value.int .u32)) = hl S' B u := by
  unfold splice hl
  simp only [List.take_zero, List.nil_append, List.length_map, hS', Nat.zero_add]
  rw [List.append_assoc, List.drop_append_of_le_length (by simp [hS]), List.drop_eq_nil_of_le (by simp [hS])]
  simp

theorem byteCells_u8s (l : List UInt8) : Lib.byteCells l = (u8s l).map (Value.int .u8) := by simp [Lib.byteCells, u8s]

/-- 'copy(dst, s)', s a string of whatever length: as many bytes as fit go over. -/
theorem run_copy_str (w : World) (dT sT ty elem : TypeId) (g o dLen dCap n : Nat) (s : ByteArray) (cur : Array Value) (t : TypeId)
    (hu : Tryd.prog.underlying dT = some (.slice elem)) (hs : (Tryd.prog.info? elem).map (·.size) = some 1) (hg : w.heap[g]? = some (.cells cur t (0, 0))) (hn : n = Nat.min s.size dLen) (hfit : o + n ≤ cur.size) :
    (Builtin.copy_ #[dT, sT] ty #[.slice (some ⟨g, o, none⟩) dLen dCap, .string s]).run Tryd.prog w =
      .ok (goInt n) (w.setRow g (cur.toList.take o ++ Lib.byteCells (s.data.toList.take n) ++ cur.toList.drop (o + n)).toArray) := by
  have hss : s.data.toList.length = s.size := (Lib.size_eq s).symm
  have hns : n ≤ s.size := by rw [hn]; exact Nat.min_le_left _ _
  have hlen : (Lib.byteCells (s.data.toList.take n)).length = n := by rw [Lib.byteCells_length, List.length_take, hss]; omega
  have hst := run_storeCells_at Tryd.prog g o t (Lib.byteCells (s.data.toList.take n)) 0 cur w hg (by rw [hlen]; simpa using hfit) (Lib.byteCells_one _)
  rw [hlen] at hst
  simp only [Nat.add_zero] at hst
  have htk : List.take n (List.map (fun b : UInt8 => Value.int IntKind.u8 (b.toNat : Int)) s.data.toList) = Lib.byteCells (s.data.toList.take n) := by
    rw [← List.map_take]; rfl
  cases hq : Tryd.prog.info? elem with
  | none => simp [hq] at hs
  | some i =>
    simp [Builtin.copy_, run_underlying hu, Builtin.lenOf, Builtin.firstCells, sizeOf, typeInfo, hq, ← hn]
    rw [htk, hst]
    simp [Result.andThen]

/-- The same as a step of a walk; the world behind it is a letter. -/
theorem wpList_copy_str {w : World} {ops : Array Oper} {rest : List Oper} {o : Oper} {a : Act} {Q : Exit → Act → World → Prop} (hgd : o.guard = none) (d s : Operand) (dT sT : TypeId)
    (ho : o.op = .call { callee := .builtin .copy, args := #[d, s], argTypes := #[dT, sT] }) (elem : TypeId) (hu : Tryd.prog.underlying dT = some (.slice elem)) (hsz : (Tryd.prog.info? elem).map (·.size) = some 1)
    (g off dLen dCap n : Nat) (st : ByteArray) (hd : a.eval d = .slice (some ⟨g, off, none⟩) dLen dCap) (hs : a.eval s = .string st)
    (cur : List Value) (t : TypeId) (hg : w.heap[g]? = some (.cells cur.toArray t (0, 0))) (hn : n = Nat.min st.size dLen) (hfit : off + n ≤ cur.length)
    (h : ∀ w', w'.heap[g]? = some (.cells (splice cur off ((u8s (st.data.toList.take n)).map (Value.int .u8))).toArray t (0, 0)) → w.grownBy w' (some g) → w'.heap.size = w.heap.size → wpList Tryd.prog ops Q rest (a.put o.dst (goInt n)) w') :
    wpList Tryd.prog ops Q (o :: rest) a w := by
  refine wpList_plain hgd fun K hK => ?_
  have hrun := run_copy_str w dT sT o.type elem g off dLen dCap n st cur.toArray t hu hsz hg hn (by simpa using hfit)
  have hss : st.data.toList.length = st.size := (Lib.size_eq st).symm
  have hns : n ≤ st.size := by rw [hn]; exact Nat.min_le_left _ _
  have f1 := setRow_heap w g cur.toArray (cur.toArray.toList.take off ++ Lib.byteCells (st.data.toList.take n) ++ cur.toArray.toList.drop (off + n)).toArray t (0, 0) hg
  have f2 : w.grownBy (w.setRow g (cur.toArray.toList.take off ++ Lib.byteCells (st.data.toList.take n) ++ cur.toArray.toList.drop (off + n)).toArray) (some g) :=
    ⟨rfl, rfl, rfl, by simp [World.setRow], fun k _ hk => setRow_other w g k _ (fun e => hk (by rw [e]))⟩
  have f3 : (w.setRow g (cur.toArray.toList.take off ++ Lib.byteCells (st.data.toList.take n) ++ cur.toArray.toList.drop (off + n)).toArray).heap.size = w.heap.size := by simp
  generalize w.setRow g (cur.toArray.toList.take off ++ Lib.byteCells (st.data.toList.take n) ++ cur.toArray.toList.drop (off + n)).toArray = w' at hrun f1 f2 f3
  have hfin := h w' (by
    rw [f1]
    simp only [splice, ← byteCells_u8s, Lib.byteCells_length, List.length_take, hss, Nat.min_eq_left hns, List.append_assoc]) f2 f3
  unfold Oper.wp
  simp [execOp, ho, resolve, invoke, builtin, hd, hs, hrun, Result.andThen]
  exact hK _ _ hfin
end Go.Proofs.YtomghpielgkigaaDoor
