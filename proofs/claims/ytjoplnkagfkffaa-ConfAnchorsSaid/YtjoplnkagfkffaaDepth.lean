/-
  What Depth answers, for every text; no older memory is changed.
-/
import Derived.Test.YtjoplnkagfkffaaCheck
namespace Go.Proofs.Ytjoplnkagfkffaa
open Go.RowKit Go.Shelf
attribute [local go_sem] Oper.semAt_some
/-- How many labels a name has; -1: it is none. -/
def dep (l : Bs) : Int := if chk l = 0 then ((labs l).length : Int) else -1
theorem dep_yes {l : Bs} (h : chk l = 0) : ((labs l).length : Int) = dep l := by unfold dep; rw [if_pos h]
theorem dep_no {l : Bs} (h : ¬ chk l = 0) : -1 = dep l := by unfold dep; rw [if_neg h]
set_option maxRecDepth 100000 in
set_option maxHeartbeats 2000000 in
theorem depth_no (F : Fence) (n : Nat) (h18 : F.fn 24) (h16 : F.fn 38) (h36 : F.fn 39) (h43 : F.fn 60) (hro : F.round = none) (hn : 4 ≤ n) (s : ByteArray) (hs : s.size ≤ 140737488351232) (hz : ¬ chk s.data.toList = 0) (w : World) :
    CallsIn F n Try.prog 24 #[.string s] w fun e w' => e = .returned (.int .i64 (-1)) ∧ Below w.heap.size w w' := by
  have h1 : 1 ≤ n := by omega
  have q : (chk s.data.toList == 0) = false := by simpa using hz
  refine callsIn_of_wp_marks Try.func24 rfl h18 ?_ hro
  simp only [Try.ntmps24, List.size_toArray, List.length_cons, List.length_nil, Nat.reduceAdd, Nat.reduceSub, Array.replicate_succ, Array.replicate_zero, List.push_toArray, List.append_toArray, List.nil_append, List.cons_append]
  gi_wp2_with (gi_at_call 38; refine (check_in F (n - 1) h16 h36 h43 hro (by omega) s hs _).mono ?_; rintro e w1 ⟨rfl, hb1⟩)
  exact ⟨_, results_tmp rfl _ _ _, rfl, hb1⟩
set_option maxRecDepth 100000 in
set_option maxHeartbeats 2000000 in
theorem depth_yes (F : Fence) (n : Nat) (h18 : F.fn 24) (h16 : F.fn 38) (h36 : F.fn 39) (h43 : F.fn 60) (hro : F.round = none) (hn : 4 ≤ n) (s : ByteArray) (hs : s.size ≤ 140737488351232) (hz : chk s.data.toList = 0) (w : World) :
    CallsIn F n Try.prog 24 #[.string s] w fun e w' => e = .returned (.int .i64 ((labs s.data.toList).length : Int)) ∧ Below w.heap.size w w' := by
  have h1 : 1 ≤ n := by omega
  have HZ := Lib.hid hz
  clear hz
  refine callsIn_of_wp_marks Try.func24 rfl h18 ?_ hro
  simp only [Try.ntmps24, List.size_toArray, List.length_cons, List.length_nil, Nat.reduceAdd, Nat.reduceSub, Array.replicate_succ, Array.replicate_zero, List.push_toArray, List.append_toArray, List.nil_append, List.cons_append]
  gi_wp2_with (first | (gi_at_call 38; refine (check_in F (n - 1) h16 h36 h43 hro (by omega) s hs _).mono ?_; rintro e w1 ⟨rfl, hb1⟩; rw [HZ.out]) | (gi_at_call 39; refine (each_in F (n - 1) h36 hro _ _).mono ?_; rintro e w' ⟨rfl, rfl⟩))
  have hsw := hb1.size
  have bS := Boxed.new w1 3 (.int .i64 0)
  have bN := Boxed.new (w1.alloc (.cells #[.int .i64 0] 3)) 9 (.string s)
  rw [World.size_alloc] at bN
  have hB0 : Below w.heap.size w ((w1.alloc (.cells #[.int .i64 0] 3)).alloc (.cells #[.string s] 9)) := (hb1.alloc hsw _).alloc (by simp; omega) _
  refine wpIn_rangeFunc_ownG hro h1 (gf := 60) (lb := #[.pointer (some ⟨w1.heap.size + 1, 0, none⟩)]) rfl h43 (enters_of Try.func60 (by kernel_rfl) rfl)
    (each_stops F (n - 1) h43 hro (by omega) (w1.heap.size + 1) s hs _ (by simp) bN.cell) kpB_t kpB_b (Below.refl _ _) (fun _ => rfl)
    (fun pre W => Boxed W w1.heap.size 3 (.int .i64 (pre.length : Int)) ∧ Below w.heap.size w W)
    (fun _ _ _ => False)
    (OwnFrom.and (Own.from (boxed_own _ _ _) _) (ownFrom_below (Nat.le_refl _) (by simp; omega)))
    (fun _ _ _ _ _ hs _ _ => hs)
    ⟨bS.alloc _, hB0⟩
    (fun x => { tmps := #[.string s, undef, .int .i64 0, .pointer (some ⟨w1.heap.size, 0, none⟩), .string s, .int .i64 0, .bool false, .string s, .func (.func 60) #[] #[.pointer (some ⟨w1.heap.size + 1, 0, none⟩)], .string x.1.1, .int .i64 (x.1.2 : Int), undef, undef, undef], defers := [] }) ?assign ?body ?done ?stop
  case assign =>
    intro l x W K hK
    gi_wp2
    simpa [encI] using hK
  case body =>
    rintro l pre x W ⟨hb, hB⟩ hlt
    have hc := hb.cell
    have hf := hb.frozen
    have hel := enc_le s
    have hll := length_le_enc (labs s.data.toList)
    have hpl : (pre.length : Int) < 140737488351232 := by omega
    gi_wp2
    exact ⟨(KeepsOthers.setCell _ _ _).from _, kpB_set (by omega) _, by rw [List.length_append]; exact hb.set _, hB.setCell (p := ⟨w1.heap.size, 0, none⟩) hsw _⟩
  case done =>
    rintro D ys W hD rfl ⟨hb, hB⟩ hK
    rw [items_length] at hb
    have hc := hb.cell
    have hf := hb.frozen
    gi_wp2
    refine ⟨by simp, .inl ⟨_, _, rfl, run_takeDeferred hK, ?_⟩⟩
    exact ⟨_, results_tmp rfl _ _ _, rfl, hB.trans (belowK_b (w := w) (Nat.le_refl _) W D _ _ (by simp at hD; omega) hK rfl rfl)⟩
  case stop =>
    rintro D c pre W _ _ h _
    exact h.elim
theorem depth_any (s : ByteArray) (hs : s.size ≤ 140737488351232) (w : World) :
    Calls Try.prog 24 #[.string s] w fun e w' => e = .returned (.int .i64 (dep s.data.toList)) ∧ Below w.heap.size w w' := by
  refine (callsIn_wide (n := 4)).1 ?_
  by_cases hz : chk s.data.toList = 0
  · rw [← dep_yes hz]; exact depth_yes Fence.wide 4 trivial trivial trivial trivial rfl (by omega) s hs hz w
  · rw [← dep_no hz]; exact depth_no Fence.wide 4 trivial trivial trivial trivial rfl (by omega) s hs hz w
end Go.Proofs.Ytjoplnkagfkffaa
