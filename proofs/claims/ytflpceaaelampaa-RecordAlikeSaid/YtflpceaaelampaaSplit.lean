/-
  What is read of data, by type; how parts are put together; for every text. No older memory is changed.
-/
import Derived.Test.YtflpceaaelampaaReadParts
import Derived.Test.YtflpceaaelampaaRecMore
import Derived.Outline
namespace Go.Proofs.Ytflpceaaelampaa
open Go.RowKit
theorem Pts.base {w : World} {b b' : Nat} {v : Value} {ps : List Part} (h : Pts w b v ps) (hb : b' ≤ b) : Pts w b' v ps := by
  obtain ⟨h1, h2⟩ := h
  refine ⟨h1, ?_⟩
  rcases h2 with h2 | ⟨g, cap, cur, e, h3, r⟩
  · exact .inl h2
  · exact .inr ⟨g, cap, cur, e, Nat.le_trans hb h3, r⟩
def RdPost (s : Bs) (a : Int) (zs : List Int) (w : World) (e : Ending) (w' : World) : Prop :=
  ∃ v, e = .returned (.tuple #[v, .int .i64 (rdP s zs a).2.1, .int .i64 (rdP s zs a).2.2]) ∧ Pts w' w.heap.size v (rdP s zs a).1 ∧ Below w.heap.size w w'
theorem rd_cells (w : World) (zs : List Int) : ∀ k z, zs[k]? = some z → (w.alloc (.cells (zs.map fun z => Value.int .i64 z).toArray 3)).cell? ⟨w.heap.size, k, none⟩ = some (.int .i64 z) := by
  intro k z h
  have := (Ce.new w 3 (zs.map fun z => Value.int .i64 z).toArray).cell k
  rw [this]
  simp [h]
/-- The box, the sizes, the call. -/
theorem rd_call (s : ByteArray) (hs : s.size ≤ 140737488351232) (a : Int) (ha : -9223372036854775808 ≤ a ∧ a ≤ 9223372036854775807) (y : Value) (zs : List Int) (hz : ∀ z ∈ zs, -9223372036854775808 ≤ z ∧ z ≤ 9223372036854775807) (hzl : zs.length ≤ 1000) (c : Nat) (w w1 : World) (hw : Below w.heap.size w w1) :
    Calls Try.prog 80 #[.agg #[.string s, .int .i64 a, y], .slice (some ⟨w1.heap.size, 0, none⟩) zs.length c] (w1.alloc (.cells (zs.map fun z => Value.int .i64 z).toArray 3)) (RdPost s.data.toList a zs w) := by
  refine (read_any s hs a ha y zs hz hzl w1.heap.size c _ (by simp) (rd_cells w1 zs)).mono ?_
  rintro e w' ⟨v, rfl, hp, hb⟩
  have h2 : Below w.heap.size w (w1.alloc (.cells (zs.map fun z => Value.int .i64 z).toArray 3)) := hw.alloc hw.size _
  exact ⟨v, rfl, hp.base h2.size, h2.trans (hb.mono h2.size)⟩
theorem one_box (w : World) (o : Obj) : Below w.heap.size w (w.alloc o) := (Below.refl _ w).alloc (Nat.le_refl _) o
set_option maxRecDepth 100000 in
set_option maxHeartbeats 1600000 in
theorem host_any (s : ByteArray) (hs : s.size ≤ 140737488351232) (a : Int) (ha : -9223372036854775808 ≤ a ∧ a ≤ 9223372036854775807) (y : Value) (w : World) :
    Calls Try.prog 66 #[.agg #[.string s, .int .i64 a, y]] w (RdPost s.data.toList a [-1] w) := by
  have C := rd_call s hs a ha y [-1] (by simp) (by simp) 1 w (w.alloc (.cells #[.string s, .int .i64 a, y] 77)) (one_box _ _)
  simp only [List.map_cons, List.map_nil, World.size_alloc, List.length_cons, List.length_nil] at C
  unfold RdPost at C ⊢
  generalize rdP s.data.toList [-1] a = R at C ⊢
  have HC := Lib.hid C
  clear C
  go_enter Try.func66, Try.ntmps66
  go_wp2_with fail
  refine HC.out.mono ?_
  rintro e w1 ⟨v, rfl, h⟩
  go_wp2
  go_ret3
  exact ⟨v, rfl, h⟩
set_option maxRecDepth 100000 in
set_option maxHeartbeats 1600000 in
theorem exch_any (s : ByteArray) (hs : s.size ≤ 140737488351232) (a : Int) (ha : -9223372036854775808 ≤ a ∧ a ≤ 9223372036854775807) (y : Value) (w : World) :
    Calls Try.prog 67 #[.agg #[.string s, .int .i64 a, y]] w (RdPost s.data.toList a [2, -1] w) := by
  have C := rd_call s hs a ha y [2, -1] (by simp) (by simp) 2 w (w.alloc (.cells #[.string s, .int .i64 a, y] 77)) (one_box _ _)
  simp only [List.map_cons, List.map_nil, World.size_alloc, List.length_cons, List.length_nil] at C
  unfold RdPost at C ⊢
  generalize rdP s.data.toList [2, -1] a = R at C ⊢
  have HC := Lib.hid C
  clear C
  go_enter Try.func67, Try.ntmps67
  go_wp2_with fail
  refine HC.out.mono ?_
  rintro e w1 ⟨v, rfl, h⟩
  go_wp2
  go_ret3
  exact ⟨v, rfl, h⟩
set_option maxRecDepth 100000 in
set_option maxHeartbeats 1600000 in
theorem auth_any (s : ByteArray) (hs : s.size ≤ 140737488351232) (a : Int) (ha : -9223372036854775808 ≤ a ∧ a ≤ 9223372036854775807) (y : Value) (w : World) :
    Calls Try.prog 68 #[.agg #[.string s, .int .i64 a, y]] w (RdPost s.data.toList a [-1, -1, 20] w) := by
  have C := rd_call s hs a ha y [-1, -1, 20] (by simp) (by simp) 3 w (w.alloc (.cells #[.string s, .int .i64 a, y] 77)) (one_box _ _)
  simp only [List.map_cons, List.map_nil, World.size_alloc, List.length_cons, List.length_nil] at C
  unfold RdPost at C ⊢
  generalize rdP s.data.toList [-1, -1, 20] a = R at C ⊢
  have HC := Lib.hid C
  clear C
  go_enter Try.func68, Try.ntmps68
  go_wp2_with fail
  refine HC.out.mono ?_
  rintro e w1 ⟨v, rfl, h⟩
  go_wp2
  go_ret3
  exact ⟨v, rfl, h⟩
set_option maxRecDepth 100000 in
set_option maxHeartbeats 1600000 in
theorem whole_any (s : ByteArray) (hs : s.size ≤ 140737488351232) (a : Int) (ha : -9223372036854775808 ≤ a ∧ a ≤ 9223372036854775807) (z : Int) (hz : -9223372036854775808 ≤ z ∧ z ≤ 9223372036854775807) (w : World) :
    Calls Try.prog 69 #[.agg #[.string s, .int .i64 a, .int .i64 z]] w (RdPost s.data.toList a [z] w) := by
  have C := rd_call s hs a ha (.int .i64 z) [z] (by simpa using hz) (by simp) 1 w (w.alloc (.cells #[.string s, .int .i64 a, .int .i64 z] 77)) (one_box _ _)
  simp only [List.map_cons, List.map_nil, World.size_alloc, List.length_cons, List.length_nil] at C
  unfold RdPost at C ⊢
  generalize rdP s.data.toList [z] a = R at C ⊢
  have HC := Lib.hid C
  clear C
  go_enter Try.func69, Try.ntmps69
  go_wp2_with fail
  refine HC.out.mono ?_
  rintro e w1 ⟨v, rfl, h⟩
  go_wp2
  go_ret3
  exact ⟨v, rfl, h⟩
/-- Which method reads a type's data. -/
def rf (t : Nat) : Nat := if t = 2 ∨ t = 5 ∨ t = 12 then 66 else if t = 15 then 67 else if t = 6 then 68 else 69
theorem rf_cases (t n : Nat) : (rf t = 66 ∧ lay t n = [-1]) ∨ (rf t = 67 ∧ lay t n = [2, -1]) ∨ (rf t = 68 ∧ lay t n = [-1, -1, 20]) ∨ (rf t = 69 ∧ lay t n = [(n : Int)]) := by
  unfold rf lay
  by_cases h1 : t = 2 ∨ t = 5 ∨ t = 12
  · simp [h1]
  · by_cases h2 : t = 15
    · simp [h2]
    · by_cases h3 : t = 6
      · simp [h3]
      · simp [h1, h2, h3]
set_option maxRecDepth 100000 in
set_option maxHeartbeats 3200000 in
theorem reading_any (x y z : Value) (t : Nat) (ht : t < 65536) (w : World) :
    Calls Try.prog 42 #[.agg #[x, y, z], .int .u16 (t : Int)] w fun e w' => e = .returned (.func (.func (rf t)) #[.agg #[x, y, z]] #[]) ∧ Below w.heap.size w w' := by
  have hb := one_box w (.cells #[x, y, z] 77)
  have HB := Lib.hid hb
  clear hb
  by_cases g1 : t = 2
  · subst g1
    go_enter Try.func42, Try.ntmps42
    go_wp2
    go_ret
    exact ⟨rfl, HB.out⟩
  · have q1 : ((t : Int) == 2) = false := by simp; omega
    by_cases g2 : t = 5
    · subst g2
      go_enter Try.func42, Try.ntmps42
      go_wp2
      go_ret
      exact ⟨rfl, HB.out⟩
    · have q2 : ((t : Int) == 5) = false := by simp; omega
      by_cases g3 : t = 12
      · subst g3
        go_enter Try.func42, Try.ntmps42
        go_wp2
        go_ret
        exact ⟨rfl, HB.out⟩
      · have q3 : ((t : Int) == 12) = false := by simp; omega
        by_cases g4 : t = 15
        · subst g4
          go_enter Try.func42, Try.ntmps42
          go_wp2
          go_ret
          exact ⟨rfl, HB.out⟩
        · have q4 : ((t : Int) == 15) = false := by simp; omega
          by_cases g5 : t = 6
          · subst g5
            go_enter Try.func42, Try.ntmps42
            go_wp2
            go_ret
            exact ⟨rfl, HB.out⟩
          · have q5 : ((t : Int) == 6) = false := by simp; omega
            have E : Hid (rf t = 69) := Lib.hid (by unfold rf; rw [if_neg (by omega), if_neg g4, if_neg g5])
            rw [E.out]
            clear g1 g2 g3 g4 g5
            go_enter Try.func42, Try.ntmps42
            go_wp2
            go_ret
            exact ⟨rfl, HB.out⟩
set_option maxRecDepth 100000 in
set_option maxHeartbeats 3200000 in
theorem split_any (t : Nat) (ht : t < 65536) (s : ByteArray) (hs : s.size ≤ 140737488351232) (w : World) :
    Calls Try.prog 32 #[.int .u16 (t : Int), .string s] w fun e w' => ∃ v, e = .returned (.tuple #[v, .int .i64 (spl t s.data.toList).2.2]) ∧ Pts w' w.heap.size v (spl t s.data.toList).1 ∧ Below w.heap.size w w' := by
  have C := reading_any (.string s) (.int .i64 0) (.int .i64 (s.size : Int)) t ht w
  unfold spl
  have hsl : s.data.toList.length = s.size := (size_list s).symm
  have hz : -9223372036854775808 ≤ (s.size : Int) ∧ (s.size : Int) ≤ 9223372036854775807 := by omega
  rw [hsl]
  have D1 := fun w => host_any s hs 0 (by omega) (.int .i64 (s.size : Int)) w
  have D2 := fun w => exch_any s hs 0 (by omega) (.int .i64 (s.size : Int)) w
  have D3 := fun w => auth_any s hs 0 (by omega) (.int .i64 (s.size : Int)) w
  have D4 := fun w => whole_any s hs 0 (by omega) (s.size : Int) hz w
  unfold RdPost at D1 D2 D3 D4
  rcases rf_cases t s.size with ⟨e1, e2⟩ | ⟨e1, e2⟩ | ⟨e1, e2⟩ | ⟨e1, e2⟩
  all_goals
    rw [e2]
    rw [e1] at C
    have HC := Lib.hid C
    have H1 := Lib.hid D1
    have H2 := Lib.hid D2
    have H3 := Lib.hid D3
    have H4 := Lib.hid D4
    clear C D1 D2 D3 D4 e1 e2 hsl
    go_enter Try.func32, Try.ntmps32
    go_wp2_with fail
    refine HC.out.mono ?_
    rintro e w1 ⟨rfl, hb⟩
    go_wp2_with fail
    first
      | refine (H1.out _).mono ?_
      | refine (H2.out _).mono ?_
      | refine (H3.out _).mono ?_
      | refine (H4.out _).mono ?_
    rintro e w2 ⟨v, rfl, hp, hb2⟩
    go_wp2
    go_ret2
    exact ⟨v, rfl, hp.base hb.size, hb.trans (hb2.mono hb.size)⟩
end Go.Proofs.Ytflpceaaelampaa
