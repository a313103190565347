/-
  Names put in order.
-/
import Derived.Test.YtpiiknbjllgaoaaSort
namespace Go.Proofs.Ytpiiknbjllgaoaa
open Go.RowKit
def srtN : Nat → List ByteArray → List ByteArray
  | 0, l => l
  | n + 1, l => if l.length < 2 then l else mrg (srtN n (l.take (l.length / 2))) (srtN n (l.drop (l.length / 2)))
def srt (l : List ByteArray) : List ByteArray := srtN l.length l
theorem srtN_eq : ∀ (n m : Nat) (l : List ByteArray), l.length ≤ n → l.length ≤ m → srtN n l = srtN m l
  | 0, m, l, h, _ => by
    have : l = [] := List.eq_nil_of_length_eq_zero (by omega)
    subst this
    cases m <;> rfl
  | n + 1, 0, l, _, h => by
    have : l = [] := List.eq_nil_of_length_eq_zero (by omega)
    subst this
    rfl
  | n + 1, m + 1, l, h, h' => by
    unfold srtN
    split
    · rfl
    · rw [srtN_eq n m _ (by rw [List.length_take]; omega) (by rw [List.length_take]; omega), srtN_eq n m _ (by rw [List.length_drop]; omega) (by rw [List.length_drop]; omega)]
theorem srt_short {l : List ByteArray} (h : l.length < 2) : srt l = l := by
  unfold srt
  cases hl : l.length with
  | zero => rfl
  | succ n => unfold srtN; rw [if_pos h]
theorem srt_long {l : List ByteArray} (h : ¬ l.length < 2) : srt l = mrg (srt (l.take (l.length / 2))) (srt (l.drop (l.length / 2))) := by
  unfold srt
  obtain ⟨n, hn⟩ : ∃ n, l.length = n + 1 := ⟨l.length - 1, by omega⟩
  conv => lhs; rw [hn]; unfold srtN
  rw [if_neg h, srtN_eq n _ (l.take (l.length / 2)) (by rw [List.length_take]; omega) (Nat.le_refl _), srtN_eq n _ (l.drop (l.length / 2)) (by rw [List.length_drop]; omega) (Nat.le_refl _)]
theorem srt_perm : ∀ (n : Nat) (l : List ByteArray), l.length ≤ n → (srt l).Perm l
  | 0, l, h => by rw [srt_short (by omega)]
  | n + 1, l, h => by
    by_cases hs : l.length < 2
    · rw [srt_short hs]
    · rw [srt_long hs]
      refine (mrg_perm _ _ _ (Nat.le_refl _)).trans ?_
      have h1 := srt_perm n (l.take (l.length / 2)) (by rw [List.length_take]; omega)
      have h2 := srt_perm n (l.drop (l.length / 2)) (by rw [List.length_drop]; omega)
      have := h1.append h2
      rw [List.take_append_drop] at this
      exact this
/-- The first ones, and those behind them. -/
theorem RdS.halves {w : World} {v : Value} {l : List ByteArray} (h : RdS w v l) {m : Nat} (hm : m < l.length) (h0 : 0 < m) :
    ∃ vl vr, RdS w vl (l.take m) ∧ RdS w vr (l.drop m) ∧ (∀ w' : World, (Instr.slice 27 v none (some (.int .i64 (m : Int))) none).run Try.prog w' = .ok vl w') ∧ ∀ w' : World, (Instr.slice 27 v (some (.int .i64 (m : Int))) none none).run Try.prog w' = .ok vr w' := by
  obtain ⟨i, hi, hz0, hz1, hz2⟩ := info_parts info9
  obtain ⟨a, cap, rfl, h1, h2, h3⟩ := h
  rcases h3 with rfl | ⟨g, k, rfl, hc⟩
  · simp at hm
  · have e1 : (l.take m).length = m := by rw [List.length_take]; omega
    have e2 : (l.drop m).length = l.length - m := List.length_drop
    have hmc : ¬ cap = m := by omega
    have hml : m ≤ l.length := by omega
    have hmc2 : m ≤ cap := by omega
    refine ⟨.slice (some ⟨g, k, none⟩) m cap, .slice (some ⟨g, k + m, none⟩) (l.length - m) (cap - m), ⟨_, cap, by rw [e1], by omega, h2, .inr ⟨g, k, rfl, fun i s hs => ?_⟩⟩, ⟨_, cap - m, by rw [e2], by omega, by omega, .inr ⟨g, k + m, rfl, fun i s hs => ?_⟩⟩, fun w' => ?_, fun w' => ?_⟩
    · refine hc i s ?_
      have hil := (List.getElem?_eq_some_iff.1 hs).1
      rw [List.getElem?_take, if_pos (by omega)] at hs
      exact hs
    · rw [List.getElem?_drop] at hs
      rw [Nat.add_assoc]
      exact hc (m + i) s hs
    · have hc0 : ¬ cap = 0 := by omega
      simp [Instr.slice, Instr.sliceBounds, Instr.sliceBound, run_underlying Try.underlying27, sizeOf, typeInfo, hi, asIntOf, hmc2, hc0, Addr.add_lit]
    · simp [Instr.slice, Instr.sliceBounds, Instr.sliceBound, run_underlying Try.underlying27, sizeOf, typeInfo, hi, hz1, asIntOf, hml, hmc, Addr.add_lit]
set_option maxRecDepth 100000 in
set_option maxHeartbeats 3200000 in
theorem sorted_any : ∀ (n : Nat) (l : List ByteArray) (v : Value) (w : World), l.length ≤ n → RdS w v l → l.length ≤ 1000000 → Calls Try.prog 70 #[v] w fun e w' => ∃ v', e = .returned v' ∧ RdS w' v' (srt l) ∧ (v' = v ∨ ∀ j, v'.ownBlock = some j → w.heap.size ≤ j) ∧ Below w.heap.size w w' := by
  intro n
  induction n with
  | zero =>
    intro l v w hn h hB
    obtain rfl : l = [] := List.eq_nil_of_length_eq_zero (by omega)
    have H := Lib.hid h
    obtain ⟨a, cap, e, _⟩ := h
    have e : v = .slice a 0 cap := e
    subst e
    rw [srt_short (by decide)]
    go_enter Try.func70, Try.ntmps70
    go_wp2
    go_ret
    exact ⟨_, rfl, H.out, .inl rfl, Below.refl _ _⟩
  | succ n ih =>
    intro l v w hn h hB
    by_cases hs : l.length < 2
    · rw [srt_short hs]
      have H := Lib.hid h
      obtain ⟨a, cap, rfl, _⟩ := h
      have q : (l.length : Int) < 2 := by omega
      go_enter Try.func70, Try.ntmps70
      go_wp2
      go_ret
      exact ⟨_, rfl, H.out, .inl rfl, Below.refl _ _⟩
    · rw [srt_long hs]
      have H := Lib.hid h
      obtain ⟨vl, vr, hl, hr, hsl, hsr⟩ := h.halves (m := l.length / 2) (by omega) (by omega)
      have HL := Lib.hid (fun w1 (hb : Below w.heap.size w w1) => ih (l.take (l.length / 2)) vl w1 (by rw [List.length_take]; omega) (hl.below hb) (by rw [List.length_take]; omega))
      have HR := Lib.hid (fun w1 (hb : Below w.heap.size w w1) => ih (l.drop (l.length / 2)) vr w1 (by rw [List.length_drop]; omega) (hr.below hb) (by rw [List.length_drop]; omega))
      have HS : Hid ((srt (l.take (l.length / 2))).length + (srt (l.drop (l.length / 2))).length ≤ 1000000) := Lib.hid (by
        rw [(srt_perm _ _ (Nat.le_refl _)).length_eq, (srt_perm _ _ (Nat.le_refl _)).length_eq, List.length_take, List.length_drop]; omega)
      obtain ⟨a, cap, rfl, _⟩ := h
      have q : decide ((l.length : Int) < 2) = false := by simp; omega
      have hcast : (((l.length / 2 : Nat)) : Int) = (l.length : Int) / 2 := by omega
      rw [hcast] at hsl hsr
      generalize srt (l.take (l.length / 2)) = L at *
      generalize srt (l.drop (l.length / 2)) = R at *
      have H0 := Lib.hid (Below.refl w.heap.size w).drew
      clear hl hr ih
      go_enter Try.func70, Try.ntmps70
      go_wp2_with fail
      go_region_held3 (fun _ => True) (first | trivial | fail)
        (first
          | (go_at_call_of 70 vl; refine (HL.out _ H0.out).mono ?_; rintro e w2 ⟨v2, rfl, hr2, _, hb2⟩; have HR2 := Lib.hid hr2; have HB2 : Hid (Below w.heap.size w w2) := Lib.hid (H0.out.trans (hb2.mono H0.out.size)); have HBB : Hid (w.heap.size ≤ w2.heap.size) := Lib.hid HB2.out.size; clear hr2 hb2)
          | (go_at_call_of 70 vr; refine (HR.out _ HB2.out).mono ?_; rintro e w3 ⟨v3, rfl, hr3, _, hb3⟩; have HR3 := Lib.hid hr3; have HR2' := Lib.hid (HR2.out.below hb3); have HB3 : Hid (Below w.heap.size w w3) := Lib.hid (HB2.out.trans (hb3.mono HBB.out)); clear hr3 hb3)
          | (go_at_call 81; refine (merged_any HR2'.out HR3.out HS.out).mono ?_; rintro e w4 ⟨v4, rfl, ho4, hb4⟩; have HR4 := Lib.hid (rds_of_own ho4); have HV4 : Hid (∀ j, v4.ownBlock = some j → w.heap.size ≤ j) := Lib.hid (fun j hj => Nat.le_trans HB3.out.size (World.ownsRow.lt ho4 j hj).1); have HB4 : Hid (Below w.heap.size w w4) := Lib.hid (HB3.out.trans (hb4.mono HB3.out.size)); clear ho4 hb4)
          | fail)
      go_wp2
      go_ret
      exact ⟨_, rfl, HR4.out, .inr HV4.out, HB4.out⟩
end Go.Proofs.Ytpiiknbjllgaoaa
