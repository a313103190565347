/-
  What fromLast hands back, and what that function answers, for every text; no older memory is changed.
-/
import Derived.Test.YtjoplnkagfkffaaCut
namespace Go.Proofs.Ytjoplnkagfkffaa
open Go.RowKit Go.Shelf
attribute [local go_sem] Oper.semAt_some
/-- The labels counted from the last one on; behind the first one nothing. -/
def frl (ls : List Bs) (i : Nat) : Bs := ls.reverse.getD i []
theorem frl_in {ls : List Bs} {i : Nat} (h : i < ls.length) : ls[ls.length - 1 - i]? = some (frl ls i) := by
  unfold frl
  rw [List.getD_eq_getElem?_getD, List.getElem?_reverse h, List.getElem?_eq_getElem (by omega)]
  rfl
theorem frl_out {ls : List Bs} {i : Nat} (h : ls.length ≤ i) : [] = frl ls i := by
  unfold frl
  rw [List.getD_eq_getElem?_getD, List.getElem?_eq_none (by simpa using h)]
  rfl
theorem ret_str {a b : ByteArray} (h : a = b) : Ending.returned (.string a) = .returned (.string b) := by rw [h]
set_option maxHeartbeats 800000 in
theorem fl1_any (i r : Nat) (v : Value) (ls : List Bs) (w : World) (hv : Boxed w r 22 v) (hr : Rd w v ls) (hl : ls.length ≤ 1000000) (hi : i ≤ 1000000) :
    Calls Try.prog 76 #[.int .i64 (i : Int), .pointer (some ⟨r, 0, none⟩)] w fun e w' => e = .returned (.string ⟨(frl ls i).toArray⟩) ∧ w = w' := by
  have hc := hv.cell
  rcases hr with ⟨rfl, rfl⟩ | ⟨b, off, cap, rfl, hb, hcs⟩
  · have q : (0 : Int) ≤ (i : Int) := by omega
    have e := frl_out (ls := []) (i := i) (by simp)
    have E := Lib.hid e
    clear e
    go_enter Try.func76, Try.ntmps76
    go_wp2
    go_ret
    exact ⟨ret_str (by rw [← E.out]), rfl⟩
  · by_cases h : i < ls.length
    · have hx := hcs _ _ (frl_in h)
      obtain ⟨n, hn⟩ : ∃ n, n = ls.length := ⟨_, rfl⟩
      rw [← hn] at h hx hl hc
      have q : decide ((n : Int) ≤ (i : Int)) = false := by simp; omega
      have hj : ((n : Int) - 1 - (i : Int)).toNat = n - 1 - i := by omega
      have q0 : (0 : Int) ≤ (n : Int) - 1 - (i : Int) := by omega
      have q1 : (n : Int) - 1 - (i : Int) < (n : Int) := by omega
      have q2 : (0 : Int) ≤ (n : Int) - 1 := by omega
      clear hn hcs
      go_enter Try.func76, Try.ntmps76
      go_wp2
      go_ret
      exact ⟨rfl, rfl⟩
    · have q : (ls.length : Int) ≤ (i : Int) := by omega
      have e := frl_out (ls := ls) (i := i) (by omega)
      have E := Lib.hid e
      clear e h hcs
      go_enter Try.func76, Try.ntmps76
      go_wp2
      go_ret
      exact ⟨ret_str (by rw [← E.out]), rfl⟩
/-- A function value that answers labels from the last one on. -/
def Fl (w : World) (f : Value) (ls : List Bs) : Prop := ∃ r v, f = .func (.func 76) #[] #[.pointer (some ⟨r, 0, none⟩)] ∧ Boxed w r 22 v ∧ Rd w v ls
theorem Fl.below {w w' : World} {f : Value} {ls : List Bs} (h : Fl w f ls) (hb : Below w.heap.size w w') : Fl w' f ls := by
  obtain ⟨r, v, e, hv, hr⟩ := h
  exact ⟨r, v, e, (hb.block _ hv.lt).trans hv, hr.below hb⟩
theorem low_size (s : ByteArray) : (⟨(low s.data.toList).toArray⟩ : ByteArray).size = s.size := by
  rw [size_list, size_list]; simp [low]
set_option maxRecDepth 100000 in
set_option maxHeartbeats 2000000 in
theorem fl_in (s : ByteArray) (hs : s.size ≤ 1000000) (w : World) :
    CallsIn Fence.wide 6 Try.prog 61 #[.string s] w fun e w' => ∃ f, e = .returned f ∧ Fl w' f (labs (low s.data.toList)) ∧ Below w.heap.size w w' := by
  obtain ⟨i0, hi, hz0, hz1, hz2⟩ := info_parts info9
  obtain ⟨u, hu⟩ : ∃ u : ByteArray, u = ⟨(low s.data.toList).toArray⟩ := ⟨_, rfl⟩
  have hul : u.data.toList = low s.data.toList := by rw [hu]
  have hus : u.size ≤ 1000000 := by rw [hu, low_size]; exact hs
  rw [← hul]
  have HU := Lib.hid hu
  clear hu hul
  refine callsIn_of_wp_marks Try.func61 rfl trivial ?_ rfl
  simp only [Try.ntmps61, List.size_toArray, List.length_cons, List.length_nil, Nat.reduceAdd, Nat.reduceSub, Array.replicate_succ, Array.replicate_zero, List.push_toArray, List.append_toArray, List.nil_append, List.cons_append]
  gi_wp2_with (first | (refine ⟨trivial, ?_⟩; gi_at_call 56; refine (callsIn_wide.2 (lower_any s (by omega) _)).mono ?_; rintro e w1 ⟨rfl, hb1⟩; rw [← HU.out]) | (refine ⟨trivial, ?_⟩; gi_at_call 39; refine (each_in Fence.wide _ trivial rfl _ _).mono ?_; rintro e w' ⟨rfl, rfl⟩))
  have bL := (hb1.block _ (by simp)).trans (Boxed.new w 22 (.slice none 0 0))
  have hsw := hb1.size
  simp at hsw
  have hb1' : Below w.heap.size w w1 := ((Below.refl _ w).alloc (Nat.le_refl _) _).trans (hb1.mono (by simp))
  clear hb1
  have bN := Boxed.new w1 9 (.string u)
  have hB0 : Below w.heap.size w (w1.alloc (.cells #[.string u] 9)) := hb1'.alloc (by omega) _
  obtain ⟨ls, hls⟩ : ∃ ls, ls = labs u.data.toList := ⟨_, rfl⟩
  have hll : ls.length ≤ 1000000 := by
    have hel := enc_le u
    have hll := length_le_enc (labs u.data.toList)
    rw [hls]; omega
  have hstop := each_stops Fence.wide 5 trivial rfl (by omega) w1.heap.size u (by omega) (w1.alloc (.cells #[.string u] 9)) (by simp) bN.cell
  rw [← hls] at hstop
  have HLS := Lib.hid hls
  clear hls
  refine wpIn_rangeFunc_ownG rfl (by omega) (gf := 60) (lb := #[.pointer (some ⟨w1.heap.size, 0, none⟩)]) rfl trivial (enters_of Try.func60 (by kernel_rfl) rfl)
    hstop kpB_t kpB_b (Below.refl _ _) (fun _ => rfl)
    (fun pre W => (∃ v, Boxed W w.heap.size 22 v ∧ W.ownsRow (w1.heap.size + 1) 9 1 v pre.length (pre.map fun x => Value.string x.1.1) ∧ True) ∧ w1.heap.size + 1 ≤ W.heap.size ∧ Below w.heap.size w W)
    (fun _ _ _ => False)
    (OwnFrom.and (Own.from (holdsRow_own (w1.heap.size + 1) w.heap.size 22 9 1 (fun pre : List Item => pre.length) (fun pre : List Item => pre.map fun x => Value.string x.1.1) (fun _ _ => True)) _) (OwnFrom.and (fun _ _ _ _ hs hg _ => Nat.le_trans hs hg.size) (ownFrom_below (Nat.le_refl _) (by simp; omega))))
    (fun _ _ _ _ _ hs _ _ => hs)
    ⟨⟨_, Boxed.alloc bL _, World.ownsRow_nil _ _ _ _, trivial⟩, by simp, hB0⟩
    (fun x => { tmps := #[.string s, undef, .nilFunc, .pointer (some ⟨w.heap.size, 0, none⟩), .string x.1.1, .string s, .string u, .func (.func 60) #[] #[.pointer (some ⟨w1.heap.size, 0, none⟩)], .string x.1.1, .int .i64 (x.1.2 : Int), undef, undef, undef, undef, undef], defers := [] }) ?assign ?body ?done ?stop
  case assign =>
    intro l x W K hK
    gi_wp2
    exact hK
  case body =>
    rintro l pre x W ⟨⟨v, hv, hrow, _⟩, hsb, hB⟩ hlt
    have hc := hv.cell
    gi_wp2_with (gi_at_builtin; refine wpListIn_append_own _ rfl (.tmp 10) (.tmp 12) 22 rfl (w1.heap.size + 1) 9 i0 (.string ⟨#[]⟩) 1 16 Try.underlying22 hi hz0 hz1 hz2 rfl (by decide) v pre.length (pre.map fun x => Value.string x.1.1) rfl (hrow.alloc _) ⟨W.heap.size, 0, none⟩ 1 1 [.string x.1.1] rfl rfl (cell_one_new _ _ _) (by simp [Value.oneCell']) (by unfold maxLen; omega) (by omega) (by simp; omega) ?_; intro v' w3 hown' hgrow _; obtain ⟨g', cap', rfl⟩ := ownsRow_succ hown'; obtain ⟨⟨hc3, hf3⟩, a1, a2, a3, a4, a5, a6⟩ := after_append (B := w1.heap.size) hv hrow (Below.refl _ _) hsb hown' hgrow (Nat.le_refl _) (by omega) (by omega) (by omega) hB; have A := Lib.hid (And.intro a1 (And.intro a2 (And.intro a3 (And.intro a4 (And.intro a5 a6))))); clear a1 a2 a3 a4 a5 a6)
    exact ⟨A.out.1.from _, A.out.2.1, ⟨⟨_, A.out.2.2.1, by rw [List.length_append, List.map_append]; exact A.out.2.2.2.1, trivial⟩, A.out.2.2.2.2.1, A.out.2.2.2.2.2⟩⟩
  case done =>
    rintro D ys W hD rfl ⟨⟨v, hv, hrow, _⟩, _, hB⟩ hK
    rw [items_length, items_strs 0 (labs_ok _)] at hrow
    gi_wp2
    refine ⟨by simp, .inl ⟨_, _, rfl, run_takeDeferred hK, ?_⟩⟩
    have hrow' : Own9 (W.putObj D (.deferred none)) (w1.heap.size + 1) v (labs u.data.toList) := ownsRow_putObj hrow _ hK rfl
    refine ⟨_, results_tmp rfl _ _ _, _, rfl, ⟨w.heap.size, v, rfl, ?_, hrow'.rd⟩, hB.trans (belowK_b (w := w) (Nat.le_refl _) W D _ _ (by simp at hD; omega) hK rfl rfl)⟩
    exact hv.kept (grownBy_putObj' W D _) (by simp at hD ⊢; omega)
  case stop =>
    rintro D c pre W _ _ h _
    exact h.elim
theorem fl_any (s : ByteArray) (hs : s.size ≤ 1000000) (w : World) :
    Calls Try.prog 61 #[.string s] w fun e w' => ∃ f, e = .returned f ∧ Fl w' f (labs (low s.data.toList)) ∧ Below w.heap.size w w' :=
  (callsIn_wide (n := 6)).1 (fl_in s hs w)
end Go.Proofs.Ytjoplnkagfkffaa
