/-
  The writer of names: what add leaves behind, for every label; and what name answers.
-/
import Derived.Test.YtpeojicimmofjaaDoorStrs
import Derived.Test.YtpeojicimmofjaaDoorMakeMath
import Derived.Lib.AppendStr
import Derived.Outline
namespace Go.Proofs.YtpeojicimmofjaaDoor
open Go.RowKit
/-- Bytes as cells. -/
abbrev ub (l : Bs) : List Value := l.map fun b => Value.int .u8 (b.toNat : Int)
/-- A block of two cells: a writer. -/
def Blk (w : World) (B : Nat) (a b : Value) : Prop := w.heap[B]? = some (.cells #[a, b] 37 (0, 0))
section
variable {w : World} {B : Nat} {a b : Value} (h : Blk w B a b)
include h
theorem Blk.lt : B < w.heap.size := (Array.getElem?_eq_some_iff.1 h).1
theorem Blk.cell0 : w.cell? ⟨B, 0, none⟩ = some a := by simp [World.cell?, show w.heap[B]? = _ from h]
theorem Blk.cell1 : w.cell? ⟨B, 1, none⟩ = some b := by simp [World.cell?, show w.heap[B]? = _ from h]
theorem Blk.frozen0 : w.frozen? ⟨B, 0, none⟩ = false := by simp [World.frozen?, show w.heap[B]? = _ from h]
theorem Blk.frozen1 : w.frozen? ⟨B, 1, none⟩ = false := by simp [World.frozen?, show w.heap[B]? = _ from h]
theorem Blk.set0 (v : Value) : Blk (w.setCell ⟨B, 0, none⟩ v) B v b := heap_setCell_same w B 0 _ _ v h
theorem Blk.set1 (v : Value) : Blk (w.setCell ⟨B, 1, none⟩ v) B a v := heap_setCell_same w B 1 _ _ v h
theorem Blk.kept {w' : World} {row : Option Nat} (hg : w.grownBy w' row) (hne : some B ≠ row) : Blk w' B a b := (hg.block B h.lt hne).trans h
theorem Blk.alloc (o : Obj) : Blk (w.alloc o) B a b := h.kept (World.grownBy_alloc w o none) (by simp)
theorem Blk.not_row {base k : Nat} {v : Value} {xs : List Value} (hr : w.ownsRow base 5 1 v k xs) : some B ≠ v.ownBlock := by
  rcases hr.2 with ⟨rfl, _⟩ | ⟨g, cap, cur, rfl, _, hgb, _⟩
  · simp [Value.ownBlock]
  · intro e'
    obtain rfl : B = g := by simpa [Value.ownBlock] using e'
    rw [show w.heap[B]? = _ from h] at hgb
    simp at hgb
theorem Blk.row {base k : Nat} {v u : Value} {xs : List Value} (hr : w.ownsRow base 5 1 v k xs) (i : Nat) : (w.setCell ⟨B, i, none⟩ u).ownsRow base 5 1 v k xs :=
  hr.kept (row := some B) ⟨rfl, rfl, rfl, by simp, fun k _ hk => heap_setCell_other w ⟨B, i, none⟩ k u (fun e => hk (by simp [e]))⟩ (.inr (h.not_row hr).symm)
end
/-- A writer that holds what some labels make. -/
def Wr (w : World) (n₀ B : Nat) (ls : List Bs) : Prop := n₀ ≤ B ∧ ∃ a n cap, Blk w B (.slice a n cap) (.int .i64 (mkE ls)) ∧ (n : Int) < 140737488351232 ∧ (mkE ls = 0 → n = (enc ls).length ∧ w.ownsRow n₀ 5 1 (.slice a n cap) (enc ls).length (ub (enc ls)))
theorem row_slice {w : World} {base e size n : Nat} {v : Value} {xs : List Value} (h : w.ownsRow base e size v n xs) : ∃ a cap, v = .slice a n cap := by
  rcases h.2 with ⟨rfl, rfl⟩ | ⟨g, cap, cur, rfl, _⟩
  · exact ⟨none, 0, rfl⟩
  · exact ⟨_, cap, rfl⟩
theorem row_from {w : World} {base e size n : Nat} {v : Value} {xs : List Value} (h : w.ownsRow base e size v n xs) : ∀ j, v.ownBlock = some j → base ≤ j := fun j hj => (World.ownsRow.lt h j hj).1
theorem ub_snoc (ls : List Bs) (s : ByteArray) (h : s.size ≤ 63) : ub (enc ls) ++ Value.int .u8 (s.size : Int) :: Lib.strCells s = ub (enc (ls ++ [s.data.toList])) := by
  rw [enc_snoc]
  have e : (UInt8.ofNat s.data.toList.length).toNat = s.size := by rw [← size_list]; simp; omega
  simp only [ub, List.map_append, List.map_cons, Lib.strCells, e, List.append_assoc, List.cons_append, List.nil_append]
set_option maxRecDepth 100000 in
set_option maxHeartbeats 1600000 in
theorem add_any (s : ByteArray) (n₀ B : Nat) (ls : List Bs) (w : World) (hw : Wr w n₀ B ls) (hn₀ : n₀ ≤ w.heap.size) :
    Calls Tryd.prog 16 #[.pointer (some ⟨B, 0, none⟩), .string s] w fun e w' => (∃ v, e = .returned v) ∧ Wr w' n₀ B (ls ++ [s.data.toList]) ∧ Below n₀ w w' := by
  obtain ⟨hB, a, n, cap, hk, hn, hr⟩ := hw
  have c0 := hk.cell0
  have c1 := hk.cell1
  have f0 := hk.frozen0
  have f1 := hk.frozen1
  have HK := Lib.hid hk
  have HR := Lib.hid hr
  have HSZ : Hid (s.data.toList.length = s.size) := Lib.hid (size_list s).symm
  clear hk hr
  have bad : ¬ OkL s.data.toList → Wr (w.setCell ⟨B, 1, none⟩ (.int .i64 10)) n₀ B (ls ++ [s.data.toList]) := fun h =>
    ⟨hB, a, n, cap, by rw [← mkE_bad h]; exact HK.out.set1 _, hn, fun h2 => by rw [← mkE_bad h] at h2; omega⟩
  have HBAD := Lib.hid bad
  clear bad
  by_cases g1 : s.size < 1
  · have q1 : (s.size : Int) < 1 := by omega
    go_enter Tryd.func16, Tryd.ntmps16
    go_wp2
    go_end0
    exact ⟨⟨_, rfl⟩, HBAD.out (fun h => by have := h.1; rw [HSZ.out] at this; omega), (Below.refl _ _).setCell (p := ⟨B, 1, none⟩) hB _⟩
  · have q1 : decide ((s.size : Int) < 1) = false := by simp; omega
    by_cases g2 : 63 < s.size
    · have q2 : (63 : Int) < (s.size : Int) := by omega
      go_enter Tryd.func16, Tryd.ntmps16
      go_wp2
      go_end0
      exact ⟨⟨_, rfl⟩, HBAD.out (fun h => by have := h.2; rw [HSZ.out] at this; omega), (Below.refl _ _).setCell (p := ⟨B, 1, none⟩) hB _⟩
    · have q2 : decide ((63 : Int) < (s.size : Int)) = false := by simp; omega
      have hok : OkL s.data.toList := ⟨by rw [HSZ.out]; omega, by rw [HSZ.out]; omega⟩
      by_cases g3 : mkE ls = 0
      · obtain ⟨r1, r2⟩ := HR.out g3
        obtain ⟨m1, m2⟩ := mkE_ok g3
        rw [g3] at c1
        have q4 : (n : Int) ≤ 254 := by omega
        have q5 : (s.size : Int) ≤ 63 := by omega
        have R2 := Lib.hid r2
        have R1 := Lib.hid r1
        have G3 := Lib.hid g3
        clear r1 r2 m1 m2 g3 HR
        by_cases g4 : 255 < n + 1 + s.size + 1
        · have q6 : (255 : Int) < (n : Int) + 1 + (s.size : Int) + 1 := by omega
          have e := mkE_long hok G3.out (by rw [HSZ.out, ← R1.out]; exact g4)
          have E := Lib.hid e
          clear e
          go_enter Tryd.func16, Tryd.ntmps16
          go_wp2
          go_end0
          exact ⟨⟨_, rfl⟩, ⟨hB, a, n, cap, by rw [← E.out]; exact HK.out.set1 _, hn, fun h2 => by rw [← E.out] at h2; omega⟩, (Below.refl _ _).setCell (p := ⟨B, 1, none⟩) hB _⟩
        · have q6 : decide ((255 : Int) < (n : Int) + 1 + (s.size : Int) + 1) = false := by simp; omega
          have e := mkE_more hok G3.out (by rw [HSZ.out, ← R1.out]; omega)
          have E := Lib.hid e
          clear e hok g4 g1 g2
          obtain ⟨i0, hi, hz0, hz1, hz2⟩ := info_parts info5
          go_enter Tryd.func16, Tryd.ntmps16
          go_wp2_with (at_builtin; refine wpList_append_own _ rfl (.tmp 8) (.tmp 12) 35 rfl n₀ 5 i0 (.int .u8 0) 1 1 Tryd.underlying35 hi hz0 hz1 hz2 rfl (by decide) _ _ _ rfl (World.ownsRow.alloc R2.out _) ⟨w.heap.size, 0, none⟩ 1 1 [.int .u8 (s.size : Int)] rfl rfl (cell_one_new _ _ _) (by simp [Value.oneCell']) ?c1 ?c2 ?c3 ?_)
          case c1 => have := R1.out; unfold maxLen; omega
          case c2 => have := R1.out; omega
          case c3 => simp; omega
          intro v1 w1 hown1 hgrow1 _
          obtain ⟨g1', cap1, rfl⟩ := ownsRow_succ hown1
          have hk0 : Blk w B (.slice a n cap) (.int .i64 0) := by rw [← G3.out]; exact HK.out
          have hk1 := (hk0.alloc (.cells #[.int .u8 (s.size : Int)] 5)).kept hgrow1 (hk0.not_row R2.out)
          have bw1 : Below n₀ w w1 := ((Below.refl n₀ w).alloc hn₀ _).grown hgrow1 (by simp; omega) (row_from R2.out)
          obtain ⟨k, hk⟩ : ∃ k, k = (enc ls).length := ⟨_, rfl⟩
          rw [← hk] at hown1 ⊢
          have q7 : (k : Int) ≤ 254 := by have := R1.out; omega
          have row1 := hk1.row hown1 (u := .slice (some ⟨g1', 0, none⟩) (k + 1) cap1) 0
          have hk2 := hk1.set0 (.slice (some ⟨g1', 0, none⟩) (k + 1) cap1)
          have bw2 := bw1.setCell (p := ⟨B, 0, none⟩) hB (.slice (some ⟨g1', 0, none⟩) (k + 1) cap1)
          have d0 := hk1.cell0
          have e0 := hk1.frozen0
          have hsz1 : n₀ ≤ w1.heap.size := Nat.le_trans hn₀ bw1.size
          have ROW1 := Lib.hid row1
          have HK2 := Lib.hid hk2
          have BW2 := Lib.hid bw2
          have HKK := Lib.hid hk
          clear hown1 hgrow1 c0 c1 f0 f1 hk0 hk1 bw1 row1 hk2 bw2 hk
          go_wp2_with (at_builtin; refine Lib.wpList_append_own_string _ rfl (.tmp 20) (.tmp 21) 35 9 rfl n₀ 5 i0 Tryd.underlying35 Tryd.underlying9 hi hz0 hz1 hz2 _ (k + 1) _ rfl ROW1.out s rfl ?c4 ?c5 ?c6 ?_)
          case c4 => unfold maxLen; omega
          case c5 => omega
          case c6 => rw [World.size_setCell]; exact hsz1
          intro v2 w3 hown2 hgrow2 _
          obtain ⟨a2, cap2, rfl⟩ := row_slice hown2
          have hk3 := HK2.out.kept hgrow2 (HK2.out.not_row ROW1.out)
          have bw3 : Below n₀ w w3 := BW2.out.grown hgrow2 (by rw [World.size_setCell]; exact hsz1) (row_from ROW1.out)
          have row3 := hk3.row hown2 (u := .slice a2 (k + 1 + s.size) cap2) 0
          have hk4 := hk3.set0 (.slice a2 (k + 1 + s.size) cap2)
          have bw4 := bw3.setCell (p := ⟨B, 0, none⟩) hB (.slice a2 (k + 1 + s.size) cap2)
          have d0' := hk3.cell0
          have e0' := hk3.frozen0
          have ROW3 := Lib.hid row3
          have HK4 := Lib.hid hk4
          have BW4 := Lib.hid bw4
          clear hown2 hgrow2 d0 e0 hk3 bw3 row3 hk4 bw4
          go_wp2
          go_end0
          refine ⟨⟨_, rfl⟩, ⟨hB, a2, k + 1 + s.size, cap2, by rw [← E.out]; exact HK4.out, by omega, fun _ => ?_⟩, BW4.out⟩
          have el : k + 1 + s.size = (enc (ls ++ [s.data.toList])).length := by rw [enc_snoc_length, HSZ.out, HKK.out]
          refine ⟨el, ?_⟩
          have r := ROW3.out
          rw [ub_snoc ls s (by omega)] at r
          rw [← el]
          exact r
      · have q3 : (mkE ls == 0) = false := by simpa using g3
        have q3' : (mkE ls != 0) = true := by simpa using g3
        have e := mkE_keep hok g3
        have E := Lib.hid e
        have G3 := Lib.hid g3
        clear e g3
        go_enter Tryd.func16, Tryd.ntmps16
        go_wp2
        go_end0
        exact ⟨⟨_, rfl⟩, ⟨hB, a, n, cap, by rw [← E.out]; exact HK.out, hn, fun h2 => by rw [← E.out] at h2; exact absurd h2 G3.out⟩, Below.refl _ _⟩
theorem row_back {w : World} {base : Nat} {a : Option Addr} {n cap : Nat} {l : Bs} (h : w.ownsRow base 5 1 (.slice a n cap) l.length (ub l)) : (convert 35 9 (.slice a n cap)).run Tryd.prog w = .ok (.string ⟨l.toArray⟩) w := by
  have hc := @World.ownsRow.cells w base 5 1 _ l.length _ h
  rcases h.2 with ⟨e, h0⟩ | ⟨g, cap', cur, e, hb, hg, _⟩
  · have hl : l = [] := List.length_eq_zero_iff.1 h0
    subst hl
    cases e
    have := run_convert_bytes_string (P := Tryd.prog) w 35 9 5 none 0 0 Tryd.underlying35 Tryd.underlying5 Tryd.underlying9
    rw [this]
    simp [Conv.bytesToString]
    rfl
  · cases e
    exact run_convert_bytes_back (P := Tryd.prog) w 35 9 5 ⟨g, 0, none⟩ _ l Tryd.underlying35 Tryd.underlying5 Tryd.underlying9 (fun j hj => hc (g := g) rfl j _ (by simp [hj]))
theorem ret_si {a b : ByteArray} {x y : Int} (h : a = b) (h2 : x = y) : Ending.returned (.tuple #[.string a, .int .i64 x]) = .returned (.tuple #[.string b, .int .i64 y]) := by rw [h, h2]
theorem cat (l m : Bs) : (⟨l.toArray⟩ : ByteArray) ++ ⟨m.toArray⟩ = ⟨(l ++ m).toArray⟩ := by
  apply ByteArray.ext
  apply Array.toList_inj.1
  simp
set_option maxRecDepth 100000 in
set_option maxHeartbeats 1600000 in
theorem name_any (n₀ B : Nat) (ls : List Bs) (w : World) (hw : Wr w n₀ B ls) :
    Calls Tryd.prog 18 #[.pointer (some ⟨B, 0, none⟩)] w fun e w' => e = .returned (.tuple #[str (mkS ls), .int .i64 (mkE ls)]) ∧ Below w.heap.size w w' := by
  obtain ⟨hB, a, n, cap, hk, hn, hr⟩ := hw
  have c0 := hk.cell0
  have c1 := hk.cell1
  have HR := Lib.hid hr
  clear hk hr
  by_cases g : mkE ls = 0
  · obtain ⟨r1, r2⟩ := HR.out g
    have hconv := row_back r2
    obtain ⟨m1, m2⟩ := mkE_ok g
    have hadd := run_string_add_sum (P := Tryd.prog) w ⟨(enc ls).toArray⟩ ⟨#[0]⟩ (by rw [size_list]; show (enc ls).length + 1 ≤ _; omega)
    have e1 := mkS_zero g
    rw [g] at c1 ⊢
    have E1 := Lib.hid e1
    clear g r1 r2 m1 m2 e1 HR
    go_enter Tryd.func18, Tryd.ntmps18
    go_wp2
    go_ret2
    exact ⟨ret_si (by rw [E1.out, ← cat]) rfl, Below.refl _ _⟩
  · have e1 := mkS_no g
    have q : (mkE ls == 0) = false := by simpa using g
    have q' : (mkE ls != 0) = true := by simpa using g
    have E1 := Lib.hid e1
    clear g e1 HR
    go_enter Tryd.func18, Tryd.ntmps18
    go_wp2
    go_region
    all_goals go_wp2
    all_goals go_ret2
    all_goals exact ⟨ret_si (by rw [E1.out]) rfl, (Below.refl _ _).drew⟩
end Go.Proofs.YtpeojicimmofjaaDoor
