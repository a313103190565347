/-
  What Cut answers, for every text and every number; no older memory is changed.
-/
import Derived.Test.YtpeojicimmofjaaDoorLabels
import Derived.Outline
namespace Go.Proofs.YtpeojicimmofjaaDoor
open Go.RowKit Go.Shelf
attribute [local go_sem] Oper.semAt_some
/-- How many of the first labels are left out. -/
def cutK (l : Bs) (d : Int) : Nat := (labs l).length - d.toNat
/-- What Cut answers. -/
def cutS (l : Bs) (d : Int) : Bs := if chk l = 0 then enc ((labs l).drop (cutK l d)) ++ [0] else []
theorem cutS_no {l : Bs} {d : Int} (h : ¬ chk l = 0) : cutS l d = [] := by unfold cutS; rw [if_neg h]
theorem extract_cut (s : ByteArray) (d : Int) (h : chk s.data.toList = 0) : s.extract (enc ((labs s.data.toList).take (cutK s.data.toList d))).length s.size = ⟨(cutS s.data.toList d).toArray⟩ := by
  have h1 := split s.data.toList
  rw [(chk_zero.1 h).1] at h1
  unfold cutS
  rw [if_pos h]
  generalize cutK s.data.toList d = k
  generalize labs s.data.toList = ls at h1 ⊢
  rw [← List.take_append_drop k ls, enc_append] at h1
  apply ByteArray.ext
  apply Array.toList_inj.1
  rw [ByteArray.data_extract, Array.toList_extract, size_list]
  simp only [List.extract]
  rw [← h1]
  simp
  rw [List.take_of_length_le (by simp)]
theorem cut_le (s : ByteArray) (k : Nat) : (enc ((labs s.data.toList).take k)).length ≤ s.size := by
  have h1 := split s.data.toList
  rw [← List.take_append_drop k (labs s.data.toList), enc_append] at h1
  have := congrArg List.length h1
  simp only [List.length_append] at this
  rw [size_list]; omega
set_option maxRecDepth 100000 in
set_option maxHeartbeats 2000000 in
theorem cut_no (s : ByteArray) (hs : s.size ≤ 1000000) (d : Int) (hz : ¬ chk s.data.toList = 0) (w : World) :
    CallsIn Fence.wide 6 Tryd.prog 14 #[.string s, .int .i64 d] w fun e w' => e = .returned (.string ⟨#[]⟩) ∧ Below w.heap.size w w' := by
  have HD := Lib.hid (dep_no hz)
  clear hz
  refine callsIn_of_wp_marks Tryd.func14 rfl trivial ?_ rfl
  simp only [Tryd.ntmps14, List.size_toArray, List.length_cons, List.length_nil, Nat.reduceAdd, Nat.reduceSub, Array.replicate_succ, Array.replicate_zero, List.push_toArray, List.append_toArray, List.nil_append, List.cons_append]
  gi_wp2_with (refine ⟨trivial, ?_⟩; gi_at_call 15; refine (callsIn_wide.2 (depth_any s (by omega) _)).mono ?_; rintro e w1 ⟨rfl, hb1⟩; rw [← HD.out])
  exact ⟨_, results_tmp rfl _ _ _, rfl, ((((Below.refl _ w).alloc (Nat.le_refl _) _).trans (hb1.mono (by simp)))).alloc (by have := hb1.size; simp at this; omega) _⟩
set_option maxRecDepth 100000 in
set_option maxHeartbeats 2000000 in
theorem cut_yes (s : ByteArray) (hs : s.size ≤ 1000000) (d : Int) (hz : chk s.data.toList = 0) (w : World) :
    CallsIn Fence.wide 6 Tryd.prog 14 #[.string s, .int .i64 d] w fun e w' => e = .returned (.string ⟨(cutS s.data.toList d).toArray⟩) ∧ Below w.heap.size w w' := by
  obtain ⟨N, hN⟩ : ∃ N, N = (labs s.data.toList).length := ⟨_, rfl⟩
  have HD : Hid (dep s.data.toList = (N : Int)) := Lib.hid (by rw [hN, dep_yes hz])
  have HX := Lib.hid (extract_cut s d hz)
  have HN := Lib.hid hN
  clear hz hN
  refine callsIn_of_wp_marks Tryd.func14 rfl trivial ?_ rfl
  simp only [Tryd.ntmps14, List.size_toArray, List.length_cons, List.length_nil, Nat.reduceAdd, Nat.reduceSub, Array.replicate_succ, Array.replicate_zero, List.push_toArray, List.append_toArray, List.nil_append, List.cons_append]
  gi_wp2_with (first | (refine ⟨trivial, ?_⟩; gi_at_call 15; refine (callsIn_wide.2 (depth_any s (by omega) _)).mono ?_; rintro e w1 ⟨rfl, hb1⟩; rw [HD.out]) | (refine ⟨trivial, ?_⟩; gi_at_call 21; refine (each_in Fence.wide _ trivial rfl _ _).mono ?_; rintro e w' ⟨rfl, rfl⟩))
  have hsw := hb1.size
  simp at hsw
  have hb1' : Below w.heap.size w w1 := ((Below.refl _ w).alloc (Nat.le_refl _) _).trans (hb1.mono (by simp))
  have bD1 : Boxed w1 w.heap.size 3 (.int .i64 d) := (hb1.block _ (by simp)).trans (Boxed.new w 3 (.int .i64 d))
  clear hb1
  have hN := HN.out
  have hNb : N ≤ 1000000 := by
    have hel := enc_le s
    have hll := length_le_enc (labs s.data.toList)
    omega
  obtain ⟨K, hK⟩ : ∃ K, K = N - d.toNat := ⟨_, rfl⟩
  have hKK : cutK s.data.toList d = K := by rw [hK, hN]; rfl
  rw [hKK] at HX
  have bH := Boxed.new w1 3 (.int .i64 (N : Int))
  have bS := Boxed.new (w1.alloc (.cells #[.int .i64 (N : Int)] 3)) 3 (.int .i64 0)
  have bN := Boxed.new ((w1.alloc (.cells #[.int .i64 (N : Int)] 3)).alloc (.cells #[.int .i64 0] 3)) 9 (.string s)
  rw [World.size_alloc] at bS
  rw [World.size_alloc, World.size_alloc] at bN
  have hB0 : Below w.heap.size w (((w1.alloc (.cells #[.int .i64 (N : Int)] 3)).alloc (.cells #[.int .i64 0] 3)).alloc (.cells #[.string s] 9)) := ((hb1'.alloc (by omega) _).alloc (by simp; omega) _).alloc (by simp; omega) _
  have hstop := each_stops Fence.wide 5 trivial rfl (by omega) (w1.heap.size + 1 + 1) s (by omega) (((w1.alloc (.cells #[.int .i64 (N : Int)] 3)).alloc (.cells #[.int .i64 0] 3)).alloc (.cells #[.string s] 9)) (by simp) bN.cell
  rw [← hN] at hstop
  have HK := Lib.hid hK
  clear hN hKK hK
  refine wpIn_rangeFunc_ownG rfl (by omega) (gf := 29) (lb := #[.pointer (some ⟨w1.heap.size + 1 + 1, 0, none⟩)]) rfl trivial (enters_of Tryd.func29 (by kernel_rfl) rfl)
    hstop kpB_t kpB_b (Below.refl _ _) (fun _ => rfl)
    (fun pre W => Boxed W w1.heap.size 3 (.int .i64 ((N : Int) - (pre.length : Int))) ∧ Boxed W (w1.heap.size + 1) 3 (.int .i64 (lastEnd pre : Int)) ∧ Boxed W w.heap.size 3 (.int .i64 d) ∧ pre.length ≤ K ∧ Below w.heap.size w W)
    (fun c pre W => (c = .exit 0 ∧ ∃ ini x, pre = ini ++ [x] ∧ ini.length = K ∧ Boxed W (w1.heap.size + 1) 3 (.int .i64 (lastEnd ini : Int))) ∧ Below w.heap.size w W)
    (OwnFrom.and (Own.from (boxed_own _ _ _) _) (OwnFrom.and (Own.from (boxed_own _ _ _) _) (OwnFrom.and (Own.from (boxed_own _ _ _) _) (OwnFrom.and (ownFrom_pure _ _) (ownFrom_below (Nat.le_refl _) (by simp; omega))))))
    (fun c => OwnFrom.and (Own.from (fun s A B row hs hg hr => by obtain ⟨h1, ini, x, h2, h3, h4⟩ := hs; exact ⟨h1, ini, x, h2, h3, boxed_own _ _ (fun _ : Unit => .int .i64 (lastEnd ini : Int)) () A B row h4 hg hr⟩) _) (ownFrom_below (Nat.le_refl _) (by simp; omega)))
    ⟨by rw [List.length_nil, Int.natCast_zero, Int.sub_zero]; exact (bH.alloc _).alloc _, bS.alloc _, ((bD1.alloc _).alloc _).alloc _, Nat.zero_le _, hB0⟩
    (fun x => { tmps := #[.string s, .int .i64 d, undef, .pointer (some ⟨w.heap.size, 0, none⟩), .string ⟨#[]⟩, .pointer (some ⟨w1.heap.size, 0, none⟩), .pointer (some ⟨w1.heap.size + 1, 0, none⟩), undef, .int .i64 (x.1.2 : Int), .string s, .int .i64 (N : Int), .int .i64 (N : Int), .bool (decide ((N : Int) < 0)), .string s, .func (.func 29) #[] #[.pointer (some ⟨w1.heap.size + 1 + 1, 0, none⟩)], .string x.1.1, .int .i64 (x.1.2 : Int), undef, undef, undef, undef, undef, undef, undef, undef, undef, undef], defers := [] }) ?assign ?body ?done ?stop
  case assign =>
    intro l x W K hK
    gi_wp2
    exact hK
  case body =>
    rintro l pre x W ⟨hH, hS, hD, hpk, hB⟩ hlt
    have cH := hH.cell
    have fH := hH.frozen
    have cS := hS.cell
    have fS := hS.frozen
    have cD := hD.cell
    have q0 : (N : Int) ≤ 1000000 := by omega
    have q00 : (pre.length : Int) ≤ (N : Int) := by omega
    by_cases g : pre.length < K
    · have q : decide ((N : Int) - (pre.length : Int) ≤ d) = false := by have := HK.out; simp; omega
      gi_wp2
      have e : (N : Int) - ((pre ++ [x]).length : Int) = (N : Int) - (pre.length : Int) - 1 := by simp; omega
      refine ⟨((KeepsOthers.setCell _ _ _).trans (KeepsOthers.setCell _ _ _)).from _, kpB_t (kpB_set (by omega) _) (kpB_set (by omega) _), ?_, ?_, (hD.other (by omega) _).other (by omega) _, by simp; omega, (hB.setCell (p := ⟨w1.heap.size + 1, 0, none⟩) (by show w.heap.size ≤ w1.heap.size + 1; omega) _).setCell (p := ⟨w1.heap.size, 0, none⟩) (by show w.heap.size ≤ w1.heap.size; omega) _⟩
      · rw [e]; exact (hH.other (by omega) _).set _
      · rw [lastEnd_snoc]; exact (hS.set _).other (by omega) _
    · have q : (N : Int) - (pre.length : Int) ≤ d := by have := HK.out; omega
      gi_wp2
      exact ⟨(KeepsOthers.refl _).from _, ⟨rfl, pre, x, rfl, by omega, hS⟩, hB⟩
  case done =>
    rintro D ys W hDD rfl ⟨hH, hS, hD, hpk, hB⟩ hKd
    rw [items_length, ← HN.out] at hpk
    rw [lastEnd_items] at hS
    have e1 : (labs s.data.toList).take K = labs s.data.toList := List.take_of_length_le (by rw [← HN.out]; exact hpk)
    have e2 := HX.out
    have e3 := cut_le s K
    rw [e1] at e2 e3
    have cS := hS.cell
    obtain ⟨p, hp⟩ : ∃ p, p = (enc (labs s.data.toList)).length := ⟨_, rfl⟩
    rw [← hp] at cS e2 e3
    clear hp e1
    have hsl : ∀ w, (Instr.slice 9 (.string s) (some (.int .i64 (p : Int))) none none).run Tryd.prog w = .ok (.string ⟨(cutS s.data.toList d).toArray⟩) w := fun w => by
      have h := run_slice_string_l (P := Tryd.prog) w 9 s Tryd.underlying9 .i64 (p : Int) (by omega) (by omega)
      rw [h, ← e2, Int.toNat_natCast]
    clear e2
    gi_wp2_with (refine ⟨trivial, ?_⟩; gi_at_call 25; refine (callsIn_wide.2 (copied_any _ _)).mono ?_; rintro e w2 ⟨rfl, hb2⟩)
    have hK2 : w2.heap[D]? = some (.deferred (some [])) := (hb2.block D (Array.getElem?_eq_some_iff.1 hKd).1).trans hKd
    refine ⟨by simp, .inl ⟨_, _, rfl, run_takeDeferred hK2, ?_⟩⟩
    exact ⟨_, results_tmp rfl _ _ _, rfl, (hB.trans (hb2.mono hB.size)).trans (belowK_b (w := w) (Nat.le_refl _) w2 D _ _ (by simp at hDD; omega) hK2 rfl rfl)⟩
  case stop =>
    rintro D c pre W hDD ⟨k, hk, rfl⟩ ⟨⟨rfl, ini, x, h2, h3, hS⟩, hB⟩ hKd
    have e1 : lastEnd ini = (enc ((labs s.data.toList).take K)).length := by
      have hl := congrArg List.length h2
      rw [items_length, List.length_append, List.length_take, Nat.min_eq_left hk, h3] at hl
      have hkK : k = K + 1 := by simpa using hl
      subst hkK
      obtain ⟨y, hy⟩ : ∃ y, (labs s.data.toList)[K]? = some y := ⟨_, List.getElem?_eq_getElem (by omega)⟩
      rw [take_snoc hy, items_snoc] at h2
      have := (List.append_inj' h2 rfl).1
      rw [← this, lastEnd_items]
    rw [e1] at hS
    have e2 := HX.out
    have e3 := cut_le s K
    have cS := hS.cell
    obtain ⟨p, hp⟩ : ∃ p, p = (enc ((labs s.data.toList).take K)).length := ⟨_, rfl⟩
    rw [← hp] at cS e2 e3
    clear hp e1 h2
    have hsl : ∀ w, (Instr.slice 9 (.string s) (some (.int .i64 (p : Int))) none none).run Tryd.prog w = .ok (.string ⟨(cutS s.data.toList d).toArray⟩) w := fun w => by
      have h := run_slice_string_l (P := Tryd.prog) w 9 s Tryd.underlying9 .i64 (p : Int) (by omega) (by omega)
      rw [h, ← e2, Int.toNat_natCast]
    clear e2
    gi_wp2_with (refine ⟨trivial, ?_⟩; gi_at_call 25; refine (callsIn_wide.2 (copied_any _ _)).mono ?_; rintro e w2 ⟨rfl, hb2⟩)
    have hK2 : w2.heap[D]? = some (.deferred (some [])) := (hb2.block D (Array.getElem?_eq_some_iff.1 hKd).1).trans hKd
    refine ⟨by simp, .inl ⟨_, _, rfl, run_takeDeferred hK2, ?_⟩⟩
    exact ⟨_, results_tmp rfl _ _ _, rfl, (hB.trans (hb2.mono hB.size)).trans (belowK_b (w := w) (Nat.le_refl _) w2 D _ _ (by simp at hDD; omega) hK2 rfl rfl)⟩
theorem cut_any (s : ByteArray) (hs : s.size ≤ 1000000) (d : Int) (w : World) :
    Calls Tryd.prog 14 #[.string s, .int .i64 d] w fun e w' => e = .returned (.string ⟨(cutS s.data.toList d).toArray⟩) ∧ Below w.heap.size w w' := by
  refine (callsIn_wide (n := 6)).1 ?_
  by_cases hz : chk s.data.toList = 0
  · exact cut_yes s hs d hz w
  · rw [cutS_no hz]; exact cut_no s hs d hz w
end Go.Proofs.YtpeojicimmofjaaDoor
