/-
  The picks of a crash, one by one; what a crash leaves of a file.
-/
import Derived.Test.YtpiiknbjllgaoaaFile
import Derived.Laws.BitsAllLaws
namespace Go.Proofs.Ytpiiknbjllgaoaa
open Go.RowKit
def I64 (p : Int) : Prop := -9223372036854775808 ≤ p ∧ p ≤ 9223372036854775807
/-- The picks that are left, where a variable has them. -/
structure Pk (T : Nat → Prop) (C : Nat) (ps : List Int) (w : World) : Prop where
  num : ∀ p ∈ ps, I64 p
  len : ps.length ≤ 9223372036854775807
  at_ : ∃ a cap, w.heap[C]? = some (.cells #[.slice a ps.length cap] 39 (0, 0)) ∧ ps.length ≤ cap ∧ cap ≤ maxLen ∧ (ps = [] ∨ ∃ g k, a = some ⟨g, k, none⟩ ∧ (g ≠ C ∧ T g) ∧ ∀ i p, ps[i]? = some p → w.cell? ⟨g, k + i, none⟩ = some (.int .i64 p))
theorem Pk.tr {T S : Nat → Prop} {C : Nat} {ps : List Int} {w w' : World} (h : Pk T C ps w) (ht : Tr S w w') (hC : ¬ S C) (hS : ∀ g, g < w.heap.size → T g → ¬ S g) : Pk T C ps w' := by
  obtain ⟨a, cap, hb, h1, h2, hc⟩ := h.at_
  have hl : C < w.heap.size := (Array.getElem?_eq_some_iff.1 hb).1
  refine ⟨h.num, h.len, a, cap, (ht.block C hl hC).trans hb, h1, h2, ?_⟩
  rcases hc with e | ⟨g, k, e, hne, hc⟩
  · exact .inl e
  · refine .inr ⟨g, k, e, hne, fun i p hp => ?_⟩
    have h3 := hc i p hp
    have hg := w.block_lt_of_cell? _ h3
    exact (ht.cell (p := ⟨g, k + i, none⟩) hg (hS g hg hne.2)).trans h3
theorem sl23 (g k n cap : Nat) (hn : 0 < n) (hc : n ≤ cap) : ∃ a, (1 < n → a = some ⟨g, k + 1, none⟩) ∧ ∀ w : World, (Instr.slice 39 (.slice (some ⟨g, k, none⟩) n cap) (some (.int .i64 1)) none none).run Try.prog w = .ok (.slice a (n - 1) (cap - 1)) w := by
  have i3 : (Try.prog.info? 3).map (fun i => (i.zero, i.size, i.bytes)) = some (some (.int .i64 0), 1, 8) := by kernel_rfl
  obtain ⟨i, hi, hz0, hz1, hz2⟩ := info_parts i3
  by_cases h1 : cap = 1
  · subst h1
    obtain rfl : n = 1 := by omega
    exact ⟨_, fun h => by omega, fun w => by simp [Instr.slice, Instr.sliceBounds, Instr.sliceBound, run_underlying Try.underlying39, sizeOf, typeInfo, hi, asIntOf]; rfl⟩
  · refine ⟨some ⟨g, k + 1, none⟩, fun _ => rfl, fun w => ?_⟩
    simp [Instr.slice, Instr.sliceBounds, Instr.sliceBound, run_underlying Try.underlying39, sizeOf, typeInfo, hi, hz1, asIntOf, h1, Addr.add_lit]
    omega
section
variable {T : Nat → Prop} {C : Nat} {w : World}
set_option maxRecDepth 100000 in
set_option maxHeartbeats 1600000 in
theorem next_any {ps : List Int} (h : Pk T C ps w) : Calls Try.prog 47 #[ptr C] w fun e w' => e = .returned (.int .i64 (ps.headD 0)) ∧ Pk T C ps.tail w' ∧ Tr (fun k => k = C) w w' := by
  have HP := Lib.hid h
  obtain ⟨a, cap, hb, h1, h2, hc⟩ := h.at_
  have hl := h.len
  have c0 : w.cell? ⟨C, 0, none⟩ = some (.slice a ps.length cap) := by simp [World.cell?, hb]
  have f0 : w.frozen? ⟨C, 0, none⟩ = false := by simp [World.frozen?, hb]
  cases ps with
  | nil =>
    have c0 : w.cell? ⟨C, 0, none⟩ = some (.slice a 0 cap) := c0
    clear h hb hc
    go_enter Try.func47, Try.ntmps47
    go_wp2
    go_ret
    exact ⟨rfl, HP.out, Tr.refl _ _⟩
  | cons p r =>
    rcases hc with e | ⟨g, k, rfl, hne, hc⟩
    · cases e
    · have c1 : w.cell? ⟨g, k, none⟩ = some (.int .i64 p) := hc 0 p rfl
      obtain ⟨n, hn⟩ : ∃ n, n = (p :: r).length := ⟨_, rfl⟩
      have hr : r.length = n - 1 := by rw [hn]; rfl
      have hn0 : 0 < n := by rw [hn]; simp
      rw [← hn] at c0 h1 hl hb
      obtain ⟨a', ha', hs⟩ := sl23 g k n cap hn0 h1
      have q0 : ((n : Int) == 0) = false := by simp; omega
      have q1 : (0 : Int) < (n : Int) := by omega
      have HR : Hid (Pk T C r (w.setCell ⟨C, 0, none⟩ (.slice a' (n - 1) (cap - 1)))) := Lib.hid (by
        refine ⟨fun x hx => h.num x (List.mem_cons_of_mem _ hx), by omega, a', cap - 1, ?_, by omega, by omega, ?_⟩
        · rw [hr]; exact heap_setCell_same w C 0 _ _ _ hb
        · by_cases h3 : 1 < n
          · refine .inr ⟨g, k + 1, ha' h3, hne, fun i q hq => ?_⟩
            have := hc (i + 1) q (by simpa using hq)
            rw [show k + 1 + i = k + (i + 1) by omega, ← this]
            exact World.cell?_of_block (Below.heap_setCell _ _ _ _ (by simpa using hne.1))
          · exact .inl (List.eq_nil_of_length_eq_zero (by omega)))
      clear h hb hc hn hr ha' HP
      go_enter Try.func47, Try.ntmps47
      go_wp2
      go_ret
      exact ⟨rfl, HR.out, (Tr.refl (fun k => k = C) w).setCell (.inl rfl) _⟩
theorem ub_flip {l : Bs} {x : UInt8} (h : l[l.length - 1]? = some x) (h0 : 0 < l.length) : ub (flip l) = (ub l).set (l.length - 1) (.int .u8 ((x ^^^ 255 : UInt8).toNat : Int)) := by
  have e : l.getLast? = some x := by rw [List.getLast?_eq_getElem?]; exact h
  unfold flip
  rw [e]
  apply List.ext_getElem?
  intro i
  show (ub (l.dropLast ++ [x ^^^ 255]))[i]? = _
  rw [List.getElem?_set]
  by_cases hi : l.length - 1 = i
  · subst hi
    rw [if_pos rfl, if_pos (by rw [ub_length]; omega)]
    have : l.length - 1 = l.dropLast.length := by simp
    simp [ub]
  · rw [if_neg hi]
    unfold ub
    rw [List.getElem?_map, List.getElem?_map]
    congr 1
    by_cases h2 : i < l.length - 1
    · rw [List.getElem?_append_left (by simpa using h2), List.getElem?_dropLast, if_pos h2]
    · rw [List.getElem?_eq_none (by simp; omega), List.getElem?_eq_none (by omega)]
/-- The last byte is turned where it lies. -/
theorem Row.flip {w : World} {g k n cap : Nat} {R : Bs} (h : Row w (.slice (some ⟨g, k, none⟩) n cap) R) {x : UInt8} (hx : R[R.length - 1]? = some x) (h0 : 0 < R.length) :
    Row (w.setCell ⟨g, k + (R.length - 1), none⟩ (.int .u8 ((x ^^^ 255 : UInt8).toNat : Int))) (.slice (some ⟨g, k, none⟩) n cap) (flip R) := by
  rcases h with ⟨e, _⟩ | ⟨g', k', cap', cur, e, hg, h1, h2, h3, ht⟩
  · cases e
  · cases e
    refine .inr ⟨g, k, cap, _, by rw [flip_length], heap_setCell_same w g _ _ _ _ hg, by rw [flip_length]; exact h1, h2, by simpa using h3, ?_⟩
    rw [flip_length, ub_flip hx h0, ← ht, Array.toList_setIfInBounds, List.drop_set, if_neg (by omega), List.take_set]
    congr 1
    omega
end
end Go.Proofs.Ytpiiknbjllgaoaa
