/-
  What Check answers, for every text; no older memory is changed.
-/
import Derived.Test.YtjoplnkagfkffaaEach
namespace Go.Proofs.Ytjoplnkagfkffaa
open Go.RowKit Go.Shelf
attribute [local go_sem] Oper.semAt_some
/-- The place behind the last one of the labels that have come. -/
def lastEnd (pre : List Item) : Nat := (pre.getLast?.map (·.1.2)).getD 0
theorem lastEnd_snoc (pre : List Item) (x : Item) : lastEnd (pre ++ [x]) = x.1.2 := by simp [lastEnd]
theorem lastEnd_items (ls : List Bs) : lastEnd (items 0 ls) = (enc ls).length := by
  rcases List.eq_nil_or_concat ls with rfl | ⟨a, x, rfl⟩
  · rfl
  · rw [List.concat_eq_append, items_snoc, lastEnd_snoc, enc_snoc_length]; simp [item]
theorem extract_rest (s : ByteArray) : s.extract (enc (labs s.data.toList)).length s.size = ⟨(rest s.data.toList).toArray⟩ := by
  have h := split s.data.toList
  apply ByteArray.ext
  apply Array.toList_inj.1
  rw [ByteArray.data_extract, Array.toList_extract, size_list]
  simp only [List.extract]
  conv => lhs; rw [← h]
  simp [labs_join _ _ (labs_ok _) (rest_step _)]
theorem enc_le (s : ByteArray) : (enc (labs s.data.toList)).length ≤ s.size := by
  have h := congrArg List.length (split s.data.toList)
  rw [List.length_append] at h
  rw [size_list]; omega
theorem chk_form (s : ByteArray) (h : (!rest s.data.toList == [0]) = true) : 10 = chk s.data.toList := by
  unfold chk; rw [if_neg (by simpa using h)]
theorem chk_size (s : ByteArray) (h : (!rest s.data.toList == [0]) = false) (h2 : (255 : Int) < (s.size : Int)) : 11 = chk s.data.toList := by
  unfold chk; rw [if_pos (by simpa using h), if_pos (by rw [size_list] at h2; omega)]
theorem chk_ok (s : ByteArray) (h : (!rest s.data.toList == [0]) = false) (h2 : (s.size : Int) ≤ 255) : 0 = chk s.data.toList := by
  unfold chk; rw [if_pos (by simpa using h), if_neg (by rw [size_list] at h2; omega)]
theorem ret_i64 {a b : Int} (h : a = b) : Ending.returned (.int .i64 a) = .returned (.int .i64 b) := by rw [h]
set_option maxRecDepth 100000 in
set_option maxHeartbeats 2000000 in
theorem check_in (F : Fence) (n : Nat) (h16 : F.fn 38) (h36 : F.fn 39) (h43 : F.fn 60) (hro : F.round = none) (hn : 3 ≤ n) (s : ByteArray) (hs : s.size ≤ 140737488351232) (w : World) :
    CallsIn F n Try.prog 38 #[.string s] w fun e w' => e = .returned (.int .i64 (chk s.data.toList)) ∧ Below w.heap.size w w' := by
  have h1 : 1 ≤ n := by omega
  refine callsIn_of_wp_marks Try.func38 rfl h16 ?_ hro
  simp only [Try.ntmps38, List.size_toArray, List.length_cons, List.length_nil, Nat.reduceAdd, Nat.reduceSub, Array.replicate_succ, Array.replicate_zero, List.push_toArray, List.append_toArray, List.nil_append, List.cons_append]
  gi_wp2_with (gi_at_call 39; refine (each_in F (n - 1) h36 hro _ _).mono ?_; rintro e w' ⟨rfl, rfl⟩)
  have bS := Boxed.new w 3 (.int .i64 0)
  have bN := Boxed.new (w.alloc (.cells #[.int .i64 0] 3)) 9 (.string s)
  rw [World.size_alloc] at bN
  have hB0 : Below w.heap.size w ((w.alloc (.cells #[.int .i64 0] 3)).alloc (.cells #[.string s] 9)) := ((Below.refl _ w).alloc (Nat.le_refl _) _).alloc (by simp) _
  refine wpIn_rangeFunc_ownG hro h1 (gf := 60) (lb := #[.pointer (some ⟨w.heap.size + 1, 0, none⟩)]) rfl h43 (enters_of Try.func60 (by kernel_rfl) rfl)
    (each_stops F (n - 1) h43 hro (by omega) (w.heap.size + 1) s hs _ (by simp) bN.cell) kpB_t kpB_b (Below.refl _ _) (fun _ => rfl)
    (fun pre W => Boxed W w.heap.size 3 (.int .i64 (lastEnd pre : Int)) ∧ Below w.heap.size w W)
    (fun _ _ _ => False)
    (OwnFrom.and (Own.from (boxed_own _ _ _) _) (ownFrom_below (Nat.le_refl _) (by simp; omega)))
    (fun _ _ _ _ _ hs _ _ => hs)
    ⟨bS.alloc _, hB0⟩
    (fun x => { tmps := #[.string s, undef, .int .i64 0, .pointer (some ⟨w.heap.size, 0, none⟩), undef, .int .i64 (x.1.2 : Int), .string s, .func (.func 60) #[] #[.pointer (some ⟨w.heap.size + 1, 0, none⟩)], .string x.1.1, .int .i64 (x.1.2 : Int), undef, undef, undef, undef, undef, undef, undef, undef], defers := [] }) ?assign ?body ?done ?stop
  case assign =>
    intro l x W K hK
    gi_wp2
    exact hK
  case body =>
    rintro l pre x W ⟨hb, hB⟩ _
    have hc := hb.cell
    have hf := hb.frozen
    gi_wp2
    exact ⟨(KeepsOthers.setCell _ _ _).from _, kpB_set (by omega) _, by rw [lastEnd_snoc]; exact hb.set _, hB.setCell (p := ⟨w.heap.size, 0, none⟩) (Nat.le_refl _) _⟩
  case done =>
    rintro D ys W hD rfl ⟨hb, hB⟩ hK
    rw [lastEnd_items] at hb
    have hc := hb.cell
    have hf := hb.frozen
    have he := enc_le s
    have hx := extract_rest s
    obtain ⟨p, hp⟩ : ∃ p, p = (enc (labs s.data.toList)).length := ⟨_, rfl⟩
    rw [← hp] at hc he hx
    clear hp
    have hsl : ∀ w, (Instr.slice 9 (.string s) (some (.int .i64 (p : Int))) none none).run Try.prog w = .ok (.string ⟨(rest s.data.toList).toArray⟩) w := fun w => by
      have h := run_slice_string_l (P := Try.prog) w 9 s Try.underlying9 .i64 (p : Int) (by omega) (by omega)
      rw [h, ← hx, Int.toNat_natCast]
    gi_wp2
    · have h1 : (!rest s.data.toList == [0]) = true := by assumption
      refine ⟨by simp, .inl ⟨_, _, rfl, run_takeDeferred hK, ?_⟩⟩
      refine ⟨_, results_tmp rfl _ _ _, ?_, hB.trans (belowK_b (w := w) (Nat.le_refl _) W D _ _ (by simp at hD; omega) hK rfl rfl)⟩
      exact ret_i64 (chk_form s h1)
    · have h1 : (!rest s.data.toList == [0]) = false := by assumption
      have h2 : (255 : Int) < (s.size : Int) := by assumption
      refine ⟨by simp, .inl ⟨_, _, rfl, run_takeDeferred hK, ?_⟩⟩
      refine ⟨_, results_tmp rfl _ _ _, ?_, hB.trans (belowK_b (w := w) (Nat.le_refl _) W D _ _ (by simp at hD; omega) hK rfl rfl)⟩
      exact ret_i64 (chk_size s h1 h2)
    · have h1 : (!rest s.data.toList == [0]) = false := by assumption
      have h2 : (s.size : Int) ≤ 255 := by assumption
      refine ⟨by simp, .inl ⟨_, _, rfl, run_takeDeferred hK, ?_⟩⟩
      refine ⟨_, results_tmp rfl _ _ _, ?_, hB.trans (belowK_b (w := w) (Nat.le_refl _) W D _ _ (by simp at hD; omega) hK rfl rfl)⟩
      exact ret_i64 (chk_ok s h1 h2)
  case stop =>
    rintro D c pre W _ _ h _
    exact h.elim
theorem check_any (s : ByteArray) (hs : s.size ≤ 140737488351232) (w : World) :
    Calls Try.prog 38 #[.string s] w fun e w' => e = .returned (.int .i64 (chk s.data.toList)) ∧ Below w.heap.size w w' :=
  (callsIn_wide (n := 3)).1 (check_in Fence.wide 3 trivial trivial trivial rfl (by omega) s hs w)
end Go.Proofs.Ytjoplnkagfkffaa
