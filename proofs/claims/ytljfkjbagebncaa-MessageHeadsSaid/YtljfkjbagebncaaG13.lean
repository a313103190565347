/-
  Split: What is read of data, by type; how parts are put together; for every text. No older memory is changed.
  Join: How parts are put together again, and whether data are texts behind their lengths; for every text. No older memory is changed.
  CheckRec: What Check and Life answer, for every record; no older memory is changed.
-/
import Derived.Test.YtljfkjbagebncaaG11
import Derived.Test.YtljfkjbagebncaaG12
import Derived.Outline

/- Split -/
namespace Go.Proofs.Ytljfkjbagebncaa
open Go.RowKit
theorem Pts.base {w : World} {b b' : Nat} {v : Value} {ps : List Part} (h : Pts w b v ps) (hb : b' ≤ b) : Pts w b' v ps := by
  obtain ⟨h1, h2⟩ := h
  refine ⟨h1, ?_⟩
  rcases h2 with h2 | ⟨g, cap, cur, e, h3, r⟩
  · exact .inl h2
  · exact .inr ⟨g, cap, cur, e, Nat.le_trans hb h3, r⟩
def RdPost (s : Bs) (a : Int) (zs : List Int) (w : World) (e : Ending) (w' : World) : Prop :=
  ∃ v, e = .returned (.tuple #[v, .int .i64 (rdP s zs a).2.1, .int .i64 (rdP s zs a).2.2]) ∧ Pts w' w.heap.size v (rdP s zs a).1 ∧ Below w.heap.size w w'
theorem rd_cells (w : World) (zs : List Int) : ∀ k z, zs[k]? = some z → (w.alloc (.cells (zs.map fun z => Value.int .i64 z).toArray 3)).cell? ⟨w.heap.size, k, none⟩ = some (.int .i64 z) := by
  intro k z h
  have := (Ce.new w 3 (zs.map fun z => Value.int .i64 z).toArray).cell k
  rw [this]
  simp [h]
/-- The box, the sizes, the call. -/
theorem rd_call (s : ByteArray) (hs : s.size ≤ 140737488351232) (a : Int) (ha : -9223372036854775808 ≤ a ∧ a ≤ 9223372036854775807) (y : Value) (zs : List Int) (hz : ∀ z ∈ zs, -9223372036854775808 ≤ z ∧ z ≤ 9223372036854775807) (hzl : zs.length ≤ 1000) (c : Nat) (w w1 : World) (hw : Below w.heap.size w w1) :
    Calls Try.prog 120 #[.agg #[.string s, .int .i64 a, y], .slice (some ⟨w1.heap.size, 0, none⟩) zs.length c] (w1.alloc (.cells (zs.map fun z => Value.int .i64 z).toArray 3)) (RdPost s.data.toList a zs w) := by
  refine (read_any s hs a ha y zs hz hzl w1.heap.size c _ (by simp) (rd_cells w1 zs)).mono ?_
  rintro e w' ⟨v, rfl, hp, hb⟩
  have h2 : Below w.heap.size w (w1.alloc (.cells (zs.map fun z => Value.int .i64 z).toArray 3)) := hw.alloc hw.size _
  exact ⟨v, rfl, hp.base h2.size, h2.trans (hb.mono h2.size)⟩
theorem one_box (w : World) (o : Obj) : Below w.heap.size w (w.alloc o) := (Below.refl _ w).alloc (Nat.le_refl _) o
set_option maxRecDepth 100000 in
set_option maxHeartbeats 1600000 in
theorem host_any (s : ByteArray) (hs : s.size ≤ 140737488351232) (a : Int) (ha : -9223372036854775808 ≤ a ∧ a ≤ 9223372036854775807) (y : Value) (w : World) :
    Calls Try.prog 103 #[.agg #[.string s, .int .i64 a, y]] w (RdPost s.data.toList a [-1] w) := by
  have C := rd_call s hs a ha y [-1] (by simp) (by simp) 1 w (w.alloc (.cells #[.string s, .int .i64 a, y] 105)) (one_box _ _)
  simp only [List.map_cons, List.map_nil, World.size_alloc, List.length_cons, List.length_nil] at C
  unfold RdPost at C ⊢
  generalize rdP s.data.toList [-1] a = R at C ⊢
  have HC := Lib.hid C
  clear C
  go_enter Try.func103, Try.ntmps103
  go_wp2_with fail
  refine HC.out.mono ?_
  rintro e w1 ⟨v, rfl, h⟩
  go_wp2
  go_ret3
  exact ⟨v, rfl, h⟩
set_option maxRecDepth 100000 in
set_option maxHeartbeats 1600000 in
theorem exch_any (s : ByteArray) (hs : s.size ≤ 140737488351232) (a : Int) (ha : -9223372036854775808 ≤ a ∧ a ≤ 9223372036854775807) (y : Value) (w : World) :
    Calls Try.prog 104 #[.agg #[.string s, .int .i64 a, y]] w (RdPost s.data.toList a [2, -1] w) := by
  have C := rd_call s hs a ha y [2, -1] (by simp) (by simp) 2 w (w.alloc (.cells #[.string s, .int .i64 a, y] 105)) (one_box _ _)
  simp only [List.map_cons, List.map_nil, World.size_alloc, List.length_cons, List.length_nil] at C
  unfold RdPost at C ⊢
  generalize rdP s.data.toList [2, -1] a = R at C ⊢
  have HC := Lib.hid C
  clear C
  go_enter Try.func104, Try.ntmps104
  go_wp2_with fail
  refine HC.out.mono ?_
  rintro e w1 ⟨v, rfl, h⟩
  go_wp2
  go_ret3
  exact ⟨v, rfl, h⟩
set_option maxRecDepth 100000 in
set_option maxHeartbeats 1600000 in
theorem auth_any (s : ByteArray) (hs : s.size ≤ 140737488351232) (a : Int) (ha : -9223372036854775808 ≤ a ∧ a ≤ 9223372036854775807) (y : Value) (w : World) :
    Calls Try.prog 105 #[.agg #[.string s, .int .i64 a, y]] w (RdPost s.data.toList a [-1, -1, 20] w) := by
  have C := rd_call s hs a ha y [-1, -1, 20] (by simp) (by simp) 3 w (w.alloc (.cells #[.string s, .int .i64 a, y] 105)) (one_box _ _)
  simp only [List.map_cons, List.map_nil, World.size_alloc, List.length_cons, List.length_nil] at C
  unfold RdPost at C ⊢
  generalize rdP s.data.toList [-1, -1, 20] a = R at C ⊢
  have HC := Lib.hid C
  clear C
  go_enter Try.func105, Try.ntmps105
  go_wp2_with fail
  refine HC.out.mono ?_
  rintro e w1 ⟨v, rfl, h⟩
  go_wp2
  go_ret3
  exact ⟨v, rfl, h⟩
set_option maxRecDepth 100000 in
set_option maxHeartbeats 1600000 in
theorem whole_any (s : ByteArray) (hs : s.size ≤ 140737488351232) (a : Int) (ha : -9223372036854775808 ≤ a ∧ a ≤ 9223372036854775807) (z : Int) (hz : -9223372036854775808 ≤ z ∧ z ≤ 9223372036854775807) (w : World) :
    Calls Try.prog 106 #[.agg #[.string s, .int .i64 a, .int .i64 z]] w (RdPost s.data.toList a [z] w) := by
  have C := rd_call s hs a ha (.int .i64 z) [z] (by simpa using hz) (by simp) 1 w (w.alloc (.cells #[.string s, .int .i64 a, .int .i64 z] 105)) (one_box _ _)
  simp only [List.map_cons, List.map_nil, World.size_alloc, List.length_cons, List.length_nil] at C
  unfold RdPost at C ⊢
  generalize rdP s.data.toList [z] a = R at C ⊢
  have HC := Lib.hid C
  clear C
  go_enter Try.func106, Try.ntmps106
  go_wp2_with fail
  refine HC.out.mono ?_
  rintro e w1 ⟨v, rfl, h⟩
  go_wp2
  go_ret3
  exact ⟨v, rfl, h⟩
/-- Which method reads a type's data. -/
def rf (t : Nat) : Nat := if t = 2 ∨ t = 5 ∨ t = 12 then 103 else if t = 15 then 104 else if t = 6 then 105 else 106
theorem rf_cases (t n : Nat) : (rf t = 103 ∧ lay t n = [-1]) ∨ (rf t = 104 ∧ lay t n = [2, -1]) ∨ (rf t = 105 ∧ lay t n = [-1, -1, 20]) ∨ (rf t = 106 ∧ lay t n = [(n : Int)]) := by
  unfold rf lay
  by_cases h1 : t = 2 ∨ t = 5 ∨ t = 12
  · simp [h1]
  · by_cases h2 : t = 15
    · simp [h2]
    · by_cases h3 : t = 6
      · simp [h3]
      · simp [h1, h2, h3]
set_option maxRecDepth 100000 in
set_option maxHeartbeats 3200000 in
theorem reading_any (x y z : Value) (t : Nat) (ht : t < 65536) (w : World) :
    Calls Try.prog 73 #[.agg #[x, y, z], .int .u16 (t : Int)] w fun e w' => e = .returned (.func (.func (rf t)) #[.agg #[x, y, z]] #[]) ∧ Below w.heap.size w w' := by
  have hb := one_box w (.cells #[x, y, z] 105)
  have HB := Lib.hid hb
  clear hb
  by_cases g1 : t = 2
  · subst g1
    go_enter Try.func73, Try.ntmps73
    go_wp2
    go_ret
    exact ⟨rfl, HB.out⟩
  · have q1 : ((t : Int) == 2) = false := by simp; omega
    by_cases g2 : t = 5
    · subst g2
      go_enter Try.func73, Try.ntmps73
      go_wp2
      go_ret
      exact ⟨rfl, HB.out⟩
    · have q2 : ((t : Int) == 5) = false := by simp; omega
      by_cases g3 : t = 12
      · subst g3
        go_enter Try.func73, Try.ntmps73
        go_wp2
        go_ret
        exact ⟨rfl, HB.out⟩
      · have q3 : ((t : Int) == 12) = false := by simp; omega
        by_cases g4 : t = 15
        · subst g4
          go_enter Try.func73, Try.ntmps73
          go_wp2
          go_ret
          exact ⟨rfl, HB.out⟩
        · have q4 : ((t : Int) == 15) = false := by simp; omega
          by_cases g5 : t = 6
          · subst g5
            go_enter Try.func73, Try.ntmps73
            go_wp2
            go_ret
            exact ⟨rfl, HB.out⟩
          · have q5 : ((t : Int) == 6) = false := by simp; omega
            have E : Hid (rf t = 106) := Lib.hid (by unfold rf; rw [if_neg (by omega), if_neg g4, if_neg g5])
            rw [E.out]
            clear g1 g2 g3 g4 g5
            go_enter Try.func73, Try.ntmps73
            go_wp2
            go_ret
            exact ⟨rfl, HB.out⟩
set_option maxRecDepth 100000 in
set_option maxHeartbeats 3200000 in
theorem split_any (t : Nat) (ht : t < 65536) (s : ByteArray) (hs : s.size ≤ 140737488351232) (w : World) :
    Calls Try.prog 93 #[.int .u16 (t : Int), .string s] w fun e w' => ∃ v, e = .returned (.tuple #[v, .int .i64 (spl t s.data.toList).2.2]) ∧ Pts w' w.heap.size v (spl t s.data.toList).1 ∧ Below w.heap.size w w' := by
  have C := reading_any (.string s) (.int .i64 0) (.int .i64 (s.size : Int)) t ht w
  unfold spl
  have hsl : s.data.toList.length = s.size := (size_list s).symm
  have hz : -9223372036854775808 ≤ (s.size : Int) ∧ (s.size : Int) ≤ 9223372036854775807 := by omega
  rw [hsl]
  have D1 := fun w => host_any s hs 0 (by omega) (.int .i64 (s.size : Int)) w
  have D2 := fun w => exch_any s hs 0 (by omega) (.int .i64 (s.size : Int)) w
  have D3 := fun w => auth_any s hs 0 (by omega) (.int .i64 (s.size : Int)) w
  have D4 := fun w => whole_any s hs 0 (by omega) (s.size : Int) hz w
  unfold RdPost at D1 D2 D3 D4
  rcases rf_cases t s.size with ⟨e1, e2⟩ | ⟨e1, e2⟩ | ⟨e1, e2⟩ | ⟨e1, e2⟩
  all_goals
    rw [e2]
    rw [e1] at C
    have HC := Lib.hid C
    have H1 := Lib.hid D1
    have H2 := Lib.hid D2
    have H3 := Lib.hid D3
    have H4 := Lib.hid D4
    clear C D1 D2 D3 D4 e1 e2 hsl
    go_enter Try.func93, Try.ntmps93
    go_wp2_with fail
    refine HC.out.mono ?_
    rintro e w1 ⟨rfl, hb⟩
    go_wp2_with fail
    first
      | refine (H1.out _).mono ?_
      | refine (H2.out _).mono ?_
      | refine (H3.out _).mono ?_
      | refine (H4.out _).mono ?_
    rintro e w2 ⟨v, rfl, hp, hb2⟩
    go_wp2
    go_ret2
    exact ⟨v, rfl, hp.base hb.size, hb.trans (hb2.mono hb.size)⟩
end Go.Proofs.Ytljfkjbagebncaa

/- Join -/
namespace Go.Proofs.Ytljfkjbagebncaa
open Go.RowKit
theorem joinP_take (ps : List Part) (k : Nat) (p : Part) (h : ps[k]? = some p) : joinP (ps.take (k + 1)) = joinP (ps.take k) ++ p.2 := by
  obtain ⟨hk, e⟩ := List.getElem?_eq_some_iff.1 h
  rw [List.take_succ_eq_append_getElem hk, e, joinP_snoc]
theorem joinP_take_le (ps : List Part) (k : Nat) : (joinP (ps.take k)).length ≤ (joinP ps).length := by
  have : joinP ps = joinP (ps.take k) ++ joinP (ps.drop k) := by
    unfold joinP; rw [← List.flatMap_append, List.take_append_drop]
  rw [this, List.length_append]; omega
set_option maxRecDepth 100000 in
set_option maxHeartbeats 3200000 in
theorem join_any (ps : List Part) (v : Value) (base : Nat) (w : World) (h : Pts w base v ps) (hn : ps.length ≤ 1000) (hl : (joinP ps).length ≤ 1000000000) :
    Calls Try.prog 74 #[v] w fun e w' => e = .returned (str (joinP ps)) ∧ Below w.heap.size w w' := by
  obtain ⟨a, cap, rfl⟩ := row_slice h
  obtain ⟨m, hm⟩ : ∃ m, m = ps.length := ⟨_, rfl⟩
  unfold Pts at h
  rw [← hm] at h hn ⊢
  have HR := Lib.hid h
  have HM := Lib.hid hm
  have HL := Lib.hid hl
  have hmi : (m : Int) ≤ 1000 := by omega
  clear h hm hl
  go_enter Try.func74, Try.ntmps74
  go_wp2
  go_loopw [3, 8] (fun d i wr => ∃ k : Nat, k ≤ m ∧ i = .int .i64 k ∧ d = str (joinP (ps.take k)) ∧ Below w.heap.size w wr) (fun _ i _ => m - (intOf i).toNat)
  case atStart => exact ⟨0, by omega, rfl, rfl, Below.refl _ _⟩
  case round =>
    obtain ⟨k, hk, rfl, rfl, hb⟩ := hrel
    by_cases hlt : k < m
    · have q1 : (k : Int) < (m : Int) := by omega
      obtain ⟨p, hp⟩ : ∃ p, ps[k]? = some p := ⟨_, List.getElem?_eq_getElem (by rw [← HM.out]; exact hlt)⟩
      obtain ⟨g, rfl, hg, hc⟩ := row_at HR.out (by omega)
      obtain ⟨z1, z2⟩ := pc_get ps k p hp
      have d0 := (hb.cell (p := ⟨g, k * 2, none⟩) hg).trans (hc _ _ z1)
      have d1 := (hb.cell (p := ⟨g, k * 2 + 1, none⟩) hg).trans (hc _ _ z2)
      have hj := joinP_take ps k p hp
      have hle := joinP_take_le ps (k + 1)
      rw [hj] at hle
      generalize joinP (ps.take k) = J at hj hle ⊢
      obtain ⟨b, x⟩ := p
      have hadd : ∀ w, (Op.stringOp .add ⟨J.toArray⟩ ⟨x.toArray⟩).run Try.prog w = .ok (str (J ++ x)) w := fun w => by
        rw [run_string_add_sum w _ _ (by have := HL.out; rw [List.length_append] at hle; show J.length + x.length ≤ _; simp only at hle; omega), cat]
      have HJ := Lib.hid hj
      clear z1 z2 hc hp hj hle
      go_wp2
      go_roundw
      case rel => exact ⟨k + 1, by omega, by go_num, by rw [HJ.out], hb.alloc hb.size _⟩
      case measure => simp [intOf]; omega
    · have q1 : decide ((k : Int) < (m : Int)) = false := by simp; omega
      have e : ps.take k = ps := List.take_of_length_le (by rw [← HM.out]; omega)
      rw [e]
      go_wp2
      go_ret
      exact ⟨rfl, hb⟩
theorem piS_le (s : Bs) (a z : Int) : (piS s a z).length ≤ s.length := by
  unfold piS; split
  · simp; omega
  · simp
theorem rd1_len (s : Bs) (a z : Int) : (rd1 s a z).1.length ≤ s.length + 255 := by
  unfold rd1; split
  · have := nmI_len s a; show (nmI s a).1.length ≤ _; omega
  · have := piS_le s a z; show (piS s a z).length ≤ _; omega
theorem rdP_len (s : Bs) : ∀ (zs : List Int) (a : Int), (rdP s zs a).1.length ≤ zs.length ∧ (joinP (rdP s zs a).1).length ≤ zs.length * (s.length + 255) := by
  intro zs
  induction zs with
  | nil => intro a; simp [rdP, joinP]
  | cons z zs ih =>
    intro a
    simp only [rdP]
    have h1 := rd1_len s a z
    have h2 := ih (rd1 s a z).2.1
    split
    · split
      · simp only [joinP, List.flatMap_cons, List.length_append, List.length_cons]
        simp only [joinP] at h2
        rw [Nat.add_mul]
        omega
      · simp [joinP]
    · simp [joinP]
theorem lay_len (t n : Nat) : (lay t n).length ≤ 3 := by unfold lay; split <;> (try split) <;> (try split) <;> simp
theorem spl_len (t : Nat) (d : Bs) : (spl t d).1.length ≤ 3 ∧ (joinP (spl t d).1).length ≤ 3 * (d.length + 255) := by
  unfold spl
  have h1 := rdP_len d (lay t d.length) 0
  have h2 := lay_len t d.length
  refine ⟨by omega, Nat.le_trans h1.2 (Nat.mul_le_mul_right _ h2)⟩
theorem ret_b {a b : Bool} (h : a = b) : Ending.returned (.bool a) = .returned (.bool b) := by rw [h]
set_option maxRecDepth 100000 in
set_option maxHeartbeats 1600000 in
theorem areTexts_any (s : ByteArray) (hs : s.size ≤ 1000000) (w : World) :
    Calls Try.prog 112 #[.string s] w fun e w' => e = .returned (.bool (txt s.data.toList)) ∧ w = w' := by
  have HS := Lib.hid (size_list s)
  have hsi : (s.size : Int) ≤ 1000000 := by omega
  go_enter Try.func112, Try.ntmps112
  go_wp2
  go_loopw [3] (fun i wr => ∃ p : Nat, p ≤ s.size + 256 ∧ i = .int .i64 p ∧ jT s.data.toList 0 = jT s.data.toList p ∧ w = wr) (fun i _ => s.size - (intOf i).toNat)
  case atStart => exact ⟨0, by omega, rfl, rfl, rfl⟩
  case round =>
    obtain ⟨p, hp, rfl, hj, rfl⟩ := hrel
    by_cases hlt : p < s.size
    · have q1 : (p : Int) < (s.size : Int) := by omega
      rw [jT_go (p := p) (by rw [← HS.out]; exact hlt), ← get_at s p hlt] at hj
      obtain ⟨c, hc⟩ : ∃ c, s[p].toNat = c := ⟨_, rfl⟩
      have hcb : (c : Int) < 256 := by have := s[p].toNat_lt; omega
      rw [hc] at hj
      have HJ := Lib.hid hj
      clear hj
      go_wp2
      go_roundw
      case rel => exact ⟨p + 1 + c, by omega, by go_num, HJ.out, trivial⟩
      case measure => simp [intOf]; omega
    · have q1 : decide ((p : Int) < (s.size : Int)) = false := by simp; omega
      rw [jT_stop (p := p) (by rw [← HS.out]; exact hlt)] at hj
      have HJ := Lib.hid hj
      have E : Hid (txt s.data.toList = decide (0 < p ∧ p = s.size)) := Lib.hid (by unfold txt; rw [HJ.out, ← HS.out])
      clear hj
      by_cases g1 : 0 < p
      · have q2 : (0 : Int) < (p : Int) := by omega
        by_cases g2 : p = s.size
        · have q3 : ((p : Int) == (s.size : Int)) = true := by simp; omega
          have R : Hid (true = decide (0 < p ∧ p = s.size)) := Lib.hid (by simp [← g2, g1])
          clear g2
          go_wp2
          go_ret
          exact ⟨ret_b (R.out.trans E.out.symm), rfl⟩
        · have q3 : ((p : Int) == (s.size : Int)) = false := by simp; omega
          have R : Hid (false = decide (0 < p ∧ p = s.size)) := Lib.hid (by simp [g2])
          clear g2
          go_wp2
          go_ret
          exact ⟨ret_b (R.out.trans E.out.symm), rfl⟩
      · have q2 : decide ((0 : Int) < (p : Int)) = false := by simp; omega
        have R : Hid (false = decide (0 < p ∧ p = s.size)) := Lib.hid (by simp [g1])
        go_wp2
        go_ret
        exact ⟨ret_b (R.out.trans E.out.symm), rfl⟩
set_option maxRecDepth 100000 in
set_option maxHeartbeats 3200000 in
theorem valid_any (t : Nat) (ht : t < 65536) (s : ByteArray) (hs : s.size ≤ 1000000) (w : World) :
    Calls Try.prog 85 #[.int .u16 (t : Int), .string s] w fun e w' => e = .returned (.bool (vld t s.data.toList)) ∧ Below w.heap.size w w' := by
  have hsl := size_list s
  by_cases g1 : t = 1
  · subst g1
    have E : vld 1 s.data.toList = decide (s.size = 4) := by rw [hsl]; rfl
    rw [E]
    by_cases g : s.size = 4
    · have q : ((s.size : Int) == 4) = true := by simp; omega
      have R : Hid (true = decide (s.size = 4)) := Lib.hid (by simp [g])
      clear g E hsl
      go_enter Try.func85, Try.ntmps85
      go_wp2
      go_ret
      exact ⟨ret_b R.out, Below.refl _ _⟩
    · have q : ((s.size : Int) == 4) = false := by simp; omega
      have R : Hid (false = decide (s.size = 4)) := Lib.hid (by simp [g])
      clear g E hsl
      go_enter Try.func85, Try.ntmps85
      go_wp2
      go_ret
      exact ⟨ret_b R.out, Below.refl _ _⟩
  · have q1 : ((t : Int) == 1) = false := by simp; omega
    by_cases g2 : t = 28
    · subst g2
      have E : vld 28 s.data.toList = decide (s.size = 16) := by rw [hsl]; rfl
      rw [E]
      by_cases g : s.size = 16
      · have q : ((s.size : Int) == 16) = true := by simp; omega
        have R : Hid (true = decide (s.size = 16)) := Lib.hid (by simp [g])
        clear g E hsl
        go_enter Try.func85, Try.ntmps85
        go_wp2
        go_ret
        exact ⟨ret_b R.out, Below.refl _ _⟩
      · have q : ((s.size : Int) == 16) = false := by simp; omega
        have R : Hid (false = decide (s.size = 16)) := Lib.hid (by simp [g])
        clear g E hsl
        go_enter Try.func85, Try.ntmps85
        go_wp2
        go_ret
        exact ⟨ret_b R.out, Below.refl _ _⟩
    · have q2 : ((t : Int) == 28) = false := by simp; omega
      by_cases g3 : t = 16
      · subst g3
        have E : vld 16 s.data.toList = txt s.data.toList := rfl
        rw [E]
        have HC := Lib.hid (areTexts_any s hs w)
        clear E hsl
        go_enter Try.func85, Try.ntmps85
        go_wp2_with fail
        refine HC.out.mono ?_
        rintro e w1 ⟨rfl, rfl⟩
        go_wp2
        go_ret
        exact ⟨rfl, Below.refl _ _⟩
      · have q3 : ((t : Int) == 16) = false := by simp; omega
        have E := vld_spl (d := s.data.toList) g1 g2 g3
        have C := split_any t ht s (by omega) w
        have hln := spl_len t s.data.toList
        generalize spl t s.data.toList = R at E C hln
        obtain ⟨ps, p, e⟩ := R
        rw [← hsl] at hln
        have hn1 : ps.length ≤ 1000 := Nat.le_trans hln.1 (by omega)
        have hn2 : (joinP ps).length ≤ 1000000000 := Nat.le_trans hln.2 (by omega)
        have HC := Lib.hid C
        have HE := Lib.hid E
        have HSE : Hid ((⟨(joinP ps).toArray⟩ : ByteArray).data.toList = joinP ps) := Lib.hid rfl
        clear C E hln hsl g1 g2 g3
        by_cases he : e = 0
        · subst he
          have HJ := Lib.hid (fun w base v h => join_any ps v base w h hn1 hn2)
          generalize joinP ps = J at HE HJ HSE
          obtain ⟨K, hK⟩ : ∃ K : ByteArray, K = ⟨J.toArray⟩ := ⟨_, rfl⟩
          have HJ2 : Hid (∀ w base v, Pts w base v ps → Calls Try.prog 74 #[v] w fun e w' => e = .returned (.string K) ∧ Below w.heap.size w w') := Lib.hid (by rw [hK]; exact HJ.out)
          have HKJ : Hid (K.data.toList = J) := Lib.hid (by rw [hK])
          clear HJ HSE hn1 hn2 hK
          by_cases g : J = s.data.toList
          · have q4 : (K.toList == s.toList) = true := by rw [ByteArray.toList_eq, ByteArray.toList_eq, HKJ.out, g]; simp
            have R : Hid (true = vld t s.data.toList) := Lib.hid (by rw [HE.out]; simp [g])
            clear g
            go_enter Try.func85, Try.ntmps85
            go_wp2_with fail
            refine HC.out.mono ?_
            rintro e w1 ⟨v, rfl, hp, hb⟩
            go_wp2_with fail
            refine (HJ2.out _ _ _ hp).mono ?_
            rintro e w2 ⟨rfl, hb2⟩
            go_wp2
            go_ret
            exact ⟨ret_b R.out, hb.trans (hb2.mono hb.size)⟩
          · have q4 : (K.toList == s.toList) = false := by rw [ByteArray.toList_eq, ByteArray.toList_eq, HKJ.out]; simpa using g
            have R : Hid (false = vld t s.data.toList) := Lib.hid (by rw [HE.out]; simp [g])
            clear g
            go_enter Try.func85, Try.ntmps85
            go_wp2_with fail
            refine HC.out.mono ?_
            rintro e w1 ⟨v, rfl, hp, hb⟩
            go_wp2_with fail
            refine (HJ2.out _ _ _ hp).mono ?_
            rintro e w2 ⟨rfl, hb2⟩
            go_wp2
            go_ret
            exact ⟨ret_b R.out, hb.trans (hb2.mono hb.size)⟩
        · have q4 : (e == 0) = false := by simpa using he
          have R : Hid (false = vld t s.data.toList) := Lib.hid (by rw [HE.out]; simp [he])
          clear he
          go_enter Try.func85, Try.ntmps85
          go_wp2_with fail
          refine HC.out.mono ?_
          rintro e w1 ⟨v, rfl, hp, hb⟩
          go_wp2
          go_ret
          exact ⟨ret_b R.out, hb⟩
end Go.Proofs.Ytljfkjbagebncaa

/- CheckRec -/
namespace Go.Proofs.Ytljfkjbagebncaa
open Go.RowKit
/-- A record. -/
structure Rc where
  n : ByteArray
  t : Nat
  c : Nat
  l : Nat
  d : ByteArray
abbrev Rc.cells (r : Rc) : Array Value := #[.string r.n, .int .u16 (r.t : Int), .int .u16 (r.c : Int), .int .u32 (r.l : Int), .string r.d]
abbrev Rc.v (r : Rc) : Value := .agg r.cells
structure Rc.Ok (r : Rc) : Prop where
  n : r.n.size ≤ 140737488351232
  d : r.d.size ≤ 140737488351232
  t : r.t < 65536
  c : r.c < 65536
  l : r.l < 4294967296
def rck (r : Rc) : Int := if chk r.n.data.toList = 0 then (if 2000 < r.d.size then 11 else if vld r.t r.d.data.toList then 0 else 10) else chk r.n.data.toList
set_option maxRecDepth 100000 in
set_option maxHeartbeats 3200000 in
theorem rcheckrec_any (r : Rc) (hr : r.Ok) (w : World) :
    Calls Try.prog 55 #[r.v] w fun e w' => e = .returned (.int .i64 (rck r)) ∧ Below w.heap.size w w' := by
  obtain ⟨n, t, c, l, d⟩ := r
  obtain ⟨h1, h2, h3, h4, h5⟩ := hr
  simp only at h1 h2 h3 h4 h5
  have hb := one_box w (.cells #[.string n, .int .u16 (t : Int), .int .u16 (c : Int), .int .u32 (l : Int), .string d] 61)
  have bk := Ce.new w 61 #[.string n, .int .u16 (t : Int), .int .u16 (c : Int), .int .u32 (l : Int), .string d]
  have C := check_any n h1 (w.alloc (.cells #[.string n, .int .u16 (t : Int), .int .u16 (c : Int), .int .u32 (l : Int), .string d] 61))
  have HB := Lib.hid hb
  have HK := Lib.hid bk
  have HC := Lib.hid C
  have hdi : (d.size : Int) ≤ 140737488351232 := by omega
  clear hb bk C
  by_cases g1 : chk n.data.toList = 0
  · have q1 : (chk n.data.toList == 0) = true := by simpa using g1
    have q1' : (chk n.data.toList != 0) = false := by simpa using g1
    by_cases g2 : 2000 < d.size
    · have E : Hid (rck ⟨n, t, c, l, d⟩ = 11) := Lib.hid (by unfold rck; rw [if_pos g1, if_pos g2])
      have q2 : (2000 : Int) < (d.size : Int) := by omega
      rw [E.out]
      clear g1
      go_enter Try.func55, Try.ntmps55
      go_wp2_with fail
      refine HC.out.mono ?_
      rintro e w1 ⟨rfl, hb1⟩
      have k1 := (HK.out.below hb1).cell 4
      simp at k1
      have hbb := HB.out.trans (hb1.mono HB.out.size)
      clear hb1
      go_wp2
      go_ret
      exact ⟨rfl, hbb⟩
    · have q2 : decide ((2000 : Int) < (d.size : Int)) = false := by simp; omega
      have V := fun w => valid_any t h3 d (by omega) w
      have E : rck ⟨n, t, c, l, d⟩ = if vld t d.data.toList then 0 else 10 := by unfold rck; rw [if_pos g1, if_neg g2]
      generalize vld t d.data.toList = b at V E
      have HV := Lib.hid V
      have HE := Lib.hid E
      clear V E g1
      cases b with
      | true =>
        rw [HE.out]
        go_enter Try.func55, Try.ntmps55
        go_wp2_with fail
        refine HC.out.mono ?_
        rintro e w1 ⟨rfl, hb1⟩
        have k1 := (HK.out.below hb1).cell 4
        have k2 := (HK.out.below hb1).cell 1
        simp at k1 k2
        have hbb := HB.out.trans (hb1.mono HB.out.size)
        clear hb1
        go_wp2_with fail
        refine (HV.out _).mono ?_
        rintro e w2 ⟨rfl, hb2⟩
        go_wp2
        go_ret
        exact ⟨rfl, hbb.trans (hb2.mono hbb.size)⟩
      | false =>
        rw [HE.out]
        go_enter Try.func55, Try.ntmps55
        go_wp2_with fail
        refine HC.out.mono ?_
        rintro e w1 ⟨rfl, hb1⟩
        have k1 := (HK.out.below hb1).cell 4
        have k2 := (HK.out.below hb1).cell 1
        simp at k1 k2
        have hbb := HB.out.trans (hb1.mono HB.out.size)
        clear hb1
        go_wp2_with fail
        refine (HV.out _).mono ?_
        rintro e w2 ⟨rfl, hb2⟩
        go_wp2
        go_ret
        exact ⟨rfl, hbb.trans (hb2.mono hbb.size)⟩
  · have q1 : (chk n.data.toList == 0) = false := by simpa using g1
    have q1' : (chk n.data.toList != 0) = true := by simpa using g1
    have E : Hid (rck ⟨n, t, c, l, d⟩ = chk n.data.toList) := Lib.hid (by unfold rck; rw [if_neg g1])
    rw [E.out]
    clear g1
    go_enter Try.func55, Try.ntmps55
    go_wp2_with fail
    refine HC.out.mono ?_
    rintro e w1 ⟨rfl, hb1⟩
    have hbb := HB.out.trans (hb1.mono HB.out.size)
    clear hb1
    go_wp2
    go_ret
    exact ⟨rfl, hbb⟩
def lf (n : Nat) : Nat := if 2147483648 ≤ n then 0 else n
end Go.Proofs.Ytljfkjbagebncaa
