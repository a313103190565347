/-
  Clone: Texts and questions in memory of their own. No older memory is changed.
  Clone2: Questions in memory of their own. No older memory is changed.
-/
import Derived.Test.YtljfkjbagebncaaG23
import Derived.Lib.Strings
import Derived.Lib.Walk
import Derived.Lib.BufferWrite
import Derived.Lib.UnsafeStr
import Derived.Laws.MakeOwn
import Derived.Lib.SliceRun

/- Clone -/
namespace Go.Proofs.Ytljfkjbagebncaa
open Go.RowKit
theorem cellsOf5 : Try.prog.cellsOf 5 = 1 := by kernel_rfl
set_option maxRecDepth 100000 in
set_option maxHeartbeats 4000000 in
theorem clone_low (s : ByteArray) (hs : s.size ≤ 140737488351232) (w : World) :
    Calls Try.prog 108 #[.string s] w fun e w' => e = .returned (.string s) ∧ Below w.heap.size w w' := by
  by_cases h0 : s.size = 0
  · obtain rfl : s = ⟨#[]⟩ := ByteArray.ext (Array.eq_empty_of_size_eq_zero h0)
    go_enter Try.func108, Try.ntmps108
    go_wp2
    go_ret
    exact ⟨rfl, Below.refl _ _⟩
  · obtain ⟨i0, hi, hz0, hz1, hz2⟩ := info_parts info5
    have hsi : (Try.prog.info? 5).map (·.size) = some 1 := by rw [hi]; simp [hz1]
    obtain ⟨M, hM⟩ : ∃ M, M = madeCells (Value.int .u8 0).cells (((s.size : Nat) : Int).toNat * i0.size) := ⟨_, rfl⟩
    have hMs : M.size = s.size := by rw [hM, size_madeCells, hz1]; simp
    have hmk : ∀ W : World, (Instr.makeSlice 47 (.int .i64 (s.size : Int)) (.int .i64 (s.size : Int))).run Try.prog W = .ok (.slice (some ⟨W.heap.size, 0, none⟩) s.size s.size) (W.alloc (.cells M 5)) := fun W => by
      have h := run_make (P := Try.prog) W 47 5 i0 (.int .u8 0) Try.underlying47 hi hz0 .i64 .i64 (s.size : Int) (s.size : Int) (by omega) (by omega) (by rw [hz2]; omega) (by omega)
      rw [← hM] at h
      simpa using h
    clear hM
    have hcp := Lib.run_copy_row_string (P := Try.prog) (w.alloc (.cells M 5)) 47 9 3 5 w.heap.size 0 s.size s.size s M 5 Try.underlying47 hsi (heap_alloc_new w _) (Nat.le_refl _) (by omega)
    obtain ⟨Y, hY⟩ : ∃ Y, Y = (M.toList.take 0 ++ Lib.byteCells s.data.toList ++ M.toList.drop (0 + s.size)).toArray := ⟨_, rfl⟩
    rw [← hY] at hcp
    have hYl : Y.toList = Lib.byteCells s.data.toList := by
      rw [hY, List.toList_toArray, List.take_zero, List.nil_append, List.drop_of_length_le (by rw [Array.length_toList]; omega), List.append_nil]
    have hYs : Y.size = s.size := by rw [← Array.length_toList, hYl, Lib.byteCells_length, ← Lib.size_eq]
    have hg : ((w.alloc (.cells M 5)).setRow w.heap.size Y).heap[w.heap.size]? = some (.cells Y 5 (0, 0)) := setRow_heap _ _ M _ 5 (0, 0) (heap_alloc_new w _)
    have hne : s.data.toList ≠ [] := fun e => h0 (by rw [Lib.size_eq, e]; rfl)
    have hus := Lib.run_unsafeString_row (P := Try.prog) ((w.alloc (.cells M 5)).setRow w.heap.size Y) 160 3 9 5 Try.underlying160 cellsOf5 w.heap.size Y.size (by unfold World.shape?; rw [hg]) s.data.toList hne (by rw [← Lib.size_eq]; omega) (by rw [← Lib.size_eq]; omega)
      (fun j x hx => Lib.cells_of_row hg Y.size j _ (by rw [List.take_of_length_le (by rw [Array.length_toList]; exact Nat.le_refl _), hYl]; simp [Lib.byteCells, hx]))
    rw [← Lib.size_eq] at hus
    have hb1 : Below w.heap.size w (w.alloc (.cells M 5)) := one_box w _
    have HB := Lib.hid (below_row hb1 (Nat.le_refl w.heap.size) Y)
    clear hY hb1
    go_enter Try.func108, Try.ntmps108
    go_wp2
    go_ret
    exact ⟨rfl, Lib.below_freeze HB.out (p := ⟨w.heap.size, 0, none⟩) (Nat.le_refl _) _⟩
set_option maxHeartbeats 800000 in
theorem sclone_any (s : ByteArray) (hs : s.size ≤ 140737488351232) (w : World) :
    Calls Try.prog 80 #[.string s] w fun e w' => e = .returned (.string s) ∧ Below w.heap.size w w' := by
  have C := Lib.hid (fun w => clone_low s hs w)
  clear hs
  go_enter Try.func80, Try.ntmps80
  go_wp2_with fail
  refine (C.out _).mono ?_
  rintro e w1 ⟨rfl, hb1⟩
  go_wp2
  go_ret
  exact ⟨rfl, hb1⟩
end Go.Proofs.Ytljfkjbagebncaa

/- Clone2 -/
namespace Go.Proofs.Ytljfkjbagebncaa
open Go.RowKit
theorem qcc_at : ∀ (qs : List Qn) (j : Nat) (u : Value), (qcc qs)[j]? = some u → ∃ k q, qs[k]? = some q ∧ ((j = k * 3 ∧ u = .string q.n) ∨ (j = k * 3 + 1 ∧ u = .int .u16 (q.t : Int)) ∨ (j = k * 3 + 2 ∧ u = .int .u16 (q.c : Int))) := by
  intro qs
  induction qs with
  | nil => intro j u h; simp at h
  | cons q qs ih =>
    intro j u h
    have e : qcc (q :: qs) = .string q.n :: .int .u16 (q.t : Int) :: .int .u16 (q.c : Int) :: qcc qs := rfl
    rw [e] at h
    match j, h with
    | 0, h => exact ⟨0, q, rfl, .inl ⟨rfl, by simpa using h.symm⟩⟩
    | 1, h => exact ⟨0, q, rfl, .inr (.inl ⟨rfl, by simpa using h.symm⟩)⟩
    | 2, h => exact ⟨0, q, rfl, .inr (.inr ⟨rfl, by simpa using h.symm⟩)⟩
    | j + 3, h =>
      obtain ⟨k, q', hk, hh⟩ := ih j u (by simpa using h)
      exact ⟨k + 1, q', by simpa using hk, by
        rcases hh with ⟨a, b⟩ | ⟨a, b⟩ | ⟨a, b⟩
        · exact .inl ⟨by omega, b⟩
        · exact .inr (.inl ⟨by omega, b⟩)
        · exact .inr (.inr ⟨by omega, b⟩)⟩
theorem qcc_length (qs : List Qn) : (qcc qs).length = qs.length * 3 := by
  induction qs with
  | nil => rfl
  | cons q qs ih =>
    have e : qcc (q :: qs) = .string q.n :: .int .u16 (q.t : Int) :: .int .u16 (q.c : Int) :: qcc qs := rfl
    rw [e]; simp only [List.length_cons, ih]; omega
theorem qcc_one (qs : List Qn) : ∀ u ∈ qcc qs, u.oneCell' = true := by
  intro u hu
  obtain ⟨q, _, hq⟩ := List.mem_flatMap.1 hu
  simp at hq
  rcases hq with rfl | rfl | rfl <;> rfl
theorem RdQ.cells {w : World} {a : Addr} {n c : Nat} {qs : List Qn} (h : RdQ w ⟨some a, n, c⟩ qs) : ∀ j u, (qcc qs)[j]? = some u → w.cell? (a.add j) = some u := by
  intro j u hj
  obtain ⟨k, q, hk, hh⟩ := qcc_at qs j u hj
  obtain ⟨b', off', e, _, c0, c1, c2⟩ := h.get hk
  injection e with e
  subst e
  rw [add_lit]
  rcases hh with ⟨rfl, rfl⟩ | ⟨rfl, rfl⟩ | ⟨rfl, rfl⟩
  · exact c0
  · exact c1
  · exact c2
set_option maxRecDepth 100000 in
set_option maxHeartbeats 6400000 in
theorem qclone_any (s : Sl) (qs : List Qn) (hn : qs.length ≤ 1000000) (w : World) (h : RdQ w s qs) :
    Calls Try.prog 79 #[s.v] w fun e w' => ∃ v', e = .returned v' ∧ w'.ownsRow w.heap.size 44 3 v' qs.length (qcc qs) ∧ Below w.heap.size w w' := by
  obtain ⟨i0, hi, hz0, hz1, hz2⟩ := info_parts infoQ
  obtain ⟨sa, n, c⟩ := s
  have hsn : n = qs.length := h.1
  cases hsa : sa with
  | none =>
    subst hsa
    have e : qs = [] := by
      rcases h.2 with h | ⟨_, _, e, _⟩
      · exact h
      · cases e
    subst e
    show Calls Try.prog 79 #[.slice none n c] w _
    have HN : Hid (n = 0) := Lib.hid hsn
    have q23 : ∀ w : World, (binOp .eql 23 (.slice none n c) (.slice none 0 0)).run Try.prog w = .ok (.bool true) w := fun w => rfl
    clear h hsn hi hz0 hz1 hz2 hn
    go_enter Try.func79, Try.ntmps79
    go_wp2
    go_ret
    exact ⟨_, rfl, World.ownsRow_nil _ _ _ _, Below.refl _ _⟩
  | some a =>
    subst hsa
    show Calls Try.prog 79 #[.slice (some a) n c] w _
    have q23 : ∀ w : World, (binOp .eql 23 (.slice (some a) n c) (.slice none 0 0)).run Try.prog w = .ok (.bool false) w := fun w => rfl
    have HC : Hid (∀ j u, (qcc qs)[j]? = some u → (w.alloc (.cells #[] 44)).cell? (a.add j) = some u) := Lib.hid fun j u hj => Lib.cell?_alloc_some _ (h.cells j u hj)
    have HL : Hid ((qcc qs).length = n * 3) := Lib.hid (by rw [qcc_length, hsn])
    have HN := Lib.hid hsn
    have hni : n ≤ 1000000 := by omega
    clear h hsn hn
    go_enter Try.func79, Try.ntmps79
    go_wp2_with (at_builtin; refine wpList_append_own_at _ rfl (.tmp 5) (.tmp 6) 23 rfl w.heap.size 44 i0 (.agg #[.string ⟨#[]⟩, .int .u16 0, .int .u16 0]) 3 24 Try.underlying23 hi hz0 hz1 hz2 rfl (by decide) _ 0 _ rfl (World.ownsRow_made w #[] 0 (Nat.le_refl _) (Nat.zero_le _) rfl) a n c (qcc qs) rfl HL.out HC.out (qcc_one qs) (by unfold maxLen; omega) (by omega) (by simp) ?_)
    intro v' w1 hown hgrow _ _
    have HO : Hid (w1.ownsRow w.heap.size 44 3 v' qs.length (qcc qs)) := Lib.hid (by rw [← HN.out]; simpa using hown)
    have HB : Hid (Below w.heap.size w w1) := Lib.hid (((Below.refl _ w).alloc (Nat.le_refl _) _).grown hgrow (by simp) (by intro k hk; simp [Value.ownBlock] at hk; omega))
    clear hown hgrow
    go_wp2
    go_ret
    exact ⟨v', rfl, HO.out, HB.out⟩
end Go.Proofs.Ytljfkjbagebncaa
