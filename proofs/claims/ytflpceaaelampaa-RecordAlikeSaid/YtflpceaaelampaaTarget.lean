/-
  What stands in a record's data: what Target answers, by the program and by the document; for every record. No older memory is changed.
-/
import Derived.Test.YtflpceaaelampaaRefCheck
import Derived.Test.YtflpceaaelampaaRes
import Derived.Test.YtflpceaaelampaaPutRec
namespace Go.Proofs.Ytflpceaaelampaa
open Go.RowKit
def firstN (ps : List Part) : Option Bs := (ps.find? (·.1)).map (·.2)
theorem firstN_names (l : List Bs) (qs : List Part) (h : firstN qs = none) : firstN (l.map (fun n => (true, n)) ++ qs) = l.head? := by
  cases l with
  | nil => simpa using h
  | cons x l => simp [firstN]
/-- The name that a record's data lead to. -/
def tg (r : Rc) : Option Bs := if rck r = 0 then (if named r.t then (nms r.t r.d.data.toList).bind (fun x => x.2.1.head?) else none) else none
theorem firstN_pts {t : Nat} {d : Bs} (h : vld t d = true) : firstN (pts t d) = if named t then (nms t d).bind (fun x => x.2.1.head?) else none := by
  unfold pts
  by_cases hn : named t = true
  · rw [if_pos hn, if_pos hn]
    unfold vld at h
    rw [if_pos hn] at h
    obtain ⟨x, hx⟩ := Option.isSome_iff_exists.1 h
    rw [hx]
    unfold ptsOf
    simp only [Option.bind_some]
    split
    · have := firstN_names x.2.1 [] rfl
      rw [List.append_nil] at this
      rw [← this]; simp [firstN]
    · split
      · exact firstN_names _ _ (by simp [firstN])
      · have := firstN_names x.2.1 [] rfl
        rw [List.append_nil] at this
        exact this
  · rw [if_neg hn, if_neg hn]; simp [firstN]
def tgV : Option Bs → Value
  | some n => .tuple #[str n, .bool true]
  | none => .tuple #[str [], .bool false]
theorem firstN_yes {ps : List Part} {k : Nat} {x : Bs} (h : ps[k]? = some (true, x)) : firstN (ps.drop k) = some x := by
  obtain ⟨hk, e⟩ := List.getElem?_eq_some_iff.1 h
  rw [List.drop_eq_getElem_cons hk, e]; simp [firstN]
theorem firstN_no {ps : List Part} {k : Nat} {x : Bs} (h : ps[k]? = some (false, x)) : firstN (ps.drop k) = firstN (ps.drop (k + 1)) := by
  obtain ⟨hk, e⟩ := List.getElem?_eq_some_iff.1 h
  rw [List.drop_eq_getElem_cons hk, e]; simp [firstN]
set_option maxRecDepth 100000 in
set_option maxHeartbeats 6400000 in
theorem target_any (r : Rc) (hr : r.Ok) (w : World) :
    Calls Try.prog 12 #[r.v] w fun e w' => e = .returned (tgV (tg r)) ∧ Below w.heap.size w w' := by
  have C := fun w => rcheckrec_any r hr w
  have hb := one_box w (.cells r.cells 25)
  have bk := Ce.new w 25 r.cells
  obtain ⟨T, hT⟩ : ∃ T, T = tg r := ⟨_, rfl⟩
  rw [← hT]
  by_cases g : rck r = 0
  · obtain ⟨_, hd2, z3⟩ := rck_zero g
    have S := fun w => split_any r.t hr.t r.d hr.d w
    rw [(spl_pts z3).1, (spl_pts z3).2] at S
    have hpl : (pts r.t r.d.data.toList).length ≤ 3 := by rw [← (spl_pts z3).1]; exact (spl_len r.t r.d.data.toList).1
    have hT2 : T = firstN (pts r.t r.d.data.toList) := by rw [hT, firstN_pts z3]; unfold tg; rw [if_pos g]
    rw [g] at C
    generalize pts r.t r.d.data.toList = ps at S hpl hT2
    have HT := Lib.hid hT2
    have HS := Lib.hid S
    have HC := Lib.hid C
    have HB := Lib.hid hb
    have HK := Lib.hid bk
    clear hT hT2 S C hb bk g z3
    obtain ⟨n, t, c, l, d⟩ := r
    go_enter Try.func12, Try.ntmps12
    go_wp2_with fail
    refine (HC.out _).mono ?_
    rintro e w1 ⟨rfl, hb1⟩
    have h1 := HB.out.trans (hb1.mono HB.out.size)
    obtain ⟨x0, x1, x2, x3, x4⟩ := c5 (HK.out.below hb1)
    clear hb1
    go_wp2_with fail
    refine (HS.out _).mono ?_
    rintro e w2 ⟨v, rfl, hp, hb2⟩
    have h2 := h1.trans (hb2.mono h1.size)
    obtain ⟨a, cap, rfl⟩ := row_slice hp
    unfold Pts at hp
    obtain ⟨m, hm⟩ : ∃ m, m = ps.length := ⟨_, rfl⟩
    rw [← hm] at hp hpl
    rw [← hm]
    have HP := Lib.hid hp
    have HM := Lib.hid hm
    have hmi : (m : Int) ≤ 3 := by omega
    have H2 := Lib.hid h2
    clear hb2 h1 hp hm h2 x0 x1 x2 x3 x4
    go_wp2
    go_loopw [21] (fun i wr => ∃ k : Nat, k ≤ m ∧ i = .int .i64 k ∧ firstN (ps.drop k) = T ∧ Below w2.heap.size w2 wr) (fun i _ => m - (intOf i).toNat)
    case atStart => exact ⟨0, by omega, rfl, by rw [List.drop_zero, HT.out], Below.refl _ _⟩
    case round =>
      obtain ⟨k, hk, rfl, hf, hb⟩ := hrel
      by_cases hlt : k < m
      · have q1 : (k : Int) < (m : Int) := by omega
        obtain ⟨p, hp⟩ : ∃ p, ps[k]? = some p := ⟨_, List.getElem?_eq_getElem (by rw [← HM.out]; exact hlt)⟩
        obtain ⟨g, rfl, hg, hc⟩ := row_at HP.out (by omega)
        obtain ⟨z1, z2⟩ := pc_get ps k p hp
        have d0 := (hb.cell (p := ⟨g, k * 2, none⟩) hg).trans (hc _ _ z1)
        have d1 := (hb.cell (p := ⟨g, k * 2 + 1, none⟩) hg).trans (hc _ _ z2)
        obtain ⟨b, x⟩ := p
        have HBB := Lib.hid hb
        cases b with
        | true =>
          rw [firstN_yes hp] at hf
          have HF := Lib.hid hf
          clear z1 z2 hc hp hf hb
          go_wp2
          go_ret2
          rw [← HF.out]
          exact ⟨rfl, H2.out.trans ((HBB.out.alloc HBB.out.size _).mono H2.out.size)⟩
        | false =>
          rw [firstN_no hp] at hf
          have HF := Lib.hid hf
          clear z1 z2 hc hp hf hb
          go_wp2
          go_roundw
          case rel => exact ⟨k + 1, by omega, by go_num, HF.out, HBB.out.alloc HBB.out.size _⟩
          case measure => simp [intOf]; omega
      · have q1 : decide ((k : Int) < (m : Int)) = false := by simp; omega
        rw [List.drop_eq_nil_of_le (by rw [← HM.out]; omega)] at hf
        have HF := Lib.hid hf
        clear hf
        go_wp2
        go_ret2
        rw [← HF.out]
        exact ⟨rfl, H2.out.trans (hb.mono H2.out.size)⟩
  · have hT2 : T = none := by rw [hT]; unfold tg; rw [if_neg g]
    generalize rck r = x at g C
    have q : (x == 0) = false := by simpa using g
    have q' : (x != 0) = true := by simpa using g
    have HT := Lib.hid hT2
    have HC := Lib.hid C
    have HB := Lib.hid hb
    clear hT hT2 C hb bk g
    obtain ⟨n, t, c, l, d⟩ := r
    go_enter Try.func12, Try.ntmps12
    go_wp2_with fail
    refine (HC.out _).mono ?_
    rintro e w1 ⟨rfl, hb1⟩
    go_wp2
    go_ret2
    rw [HT.out]
    exact ⟨rfl, HB.out.trans (hb1.mono HB.out.size)⟩
set_option maxRecDepth 100000 in
set_option maxHeartbeats 6400000 in
theorem rtarget_any (r : Rc) (hr : r.Ok) (hn : r.n.size ≤ 1000000) (hd : r.d.size ≤ 1000000) (w : World) :
    Calls Try.prog 13 #[r.v] w fun e w' => e = .returned (tgV (tg r)) ∧ Below w.heap.size w w' := by
  have C := fun w => rrcheck_any r hr hn w
  have N := fun w => rnames_any r.t hr.t r.d hd w
  have hb := one_box w (.cells r.cells 25)
  have bk := Ce.new w 25 r.cells
  obtain ⟨T, hT⟩ : ∃ T, T = tg r := ⟨_, rfl⟩
  rw [← hT]
  have hT2 : T = if rck r = 0 then ((if named r.t then nms r.t r.d.data.toList else none).bind (fun x => x.2.1.head?)) else none := by
    rw [hT]; unfold tg
    by_cases h : named r.t = true
    · rw [if_pos h, if_pos h]
    · rw [if_neg h, if_neg h]; rfl
  have hne : ∀ y, (if named r.t then nms r.t r.d.data.toList else none) = some y → y.2.1 ≠ [] := by
    intro y hy h0
    by_cases h : named r.t = true
    · rw [if_pos h, nms_nmL _ h] at hy
      split at hy
      · have hN : 1 ≤ nhN r.t := by
          unfold named at h; simp only [decide_eq_true_eq] at h
          unfold nhN; split
          · omega
          · rw [if_pos (by omega)]; omega
        obtain ⟨k, hk⟩ : ∃ k, nhN r.t = k + 1 := ⟨nhN r.t - 1, by omega⟩
        rw [hk] at hy
        simp only [nmL] at hy
        cases hf : fst1 (r.d.data.toList.drop (nhA r.t)) with
        | none => rw [hf] at hy; simp at hy
        | some p =>
          rw [hf] at hy
          simp only at hy
          cases hg : nmL k p.2 with
          | none => rw [hg] at hy; simp at hy
          | some q =>
            rw [hg] at hy
            simp only at hy
            split at hy
            · injection hy with hy; rw [← hy] at h0; simp at h0
            · cases hy
      · cases hy
    · rw [if_neg h] at hy; cases hy
  generalize (if named r.t then nms r.t r.d.data.toList else none) = x at N hT2 hne
  unfold NmPost at N
  generalize rck r = ck at C hT2
  have HC := Lib.hid C
  have HN := Lib.hid N
  have HB := Lib.hid hb
  have HK := Lib.hid bk
  have HNE := Lib.hid hne
  clear hT C N hb bk hne
  obtain ⟨n, t, c, l, d⟩ := r
  cases x with
  | none =>
    have HT : Hid (T = none) := Lib.hid (by rw [hT2]; split <;> rfl)
    clear hT2
    go_enter Try.func13, Try.ntmps13
    go_wp2_with fail
    refine (HN.out _).mono ?_
    rintro e w1 ⟨⟨a, v, b, rfl, _⟩, hb1⟩
    have h1 := HB.out.trans (hb1.mono HB.out.size)
    clear hb1
    go_wp2
    go_ret2
    rw [HT.out]
    exact ⟨rfl, h1⟩
  | some y =>
    by_cases g : ck = 0
    · subst g
      obtain ⟨z, zs, hz⟩ : ∃ z zs, y.2.1 = z :: zs := by
        cases h : y.2.1 with
        | nil => exact absurd h (HNE.out y rfl)
        | cons z zs => exact ⟨z, zs, rfl⟩
      have HT : Hid (T = some z) := Lib.hid (by rw [hT2, if_pos rfl]; simp [hz])
      have HZ := Lib.hid hz
      clear hT2 hz
      go_enter Try.func13, Try.ntmps13
      go_wp2_with fail
      refine (HN.out _).mono ?_
      rintro e w1 ⟨⟨a, v, b, rfl, hv⟩, hb1⟩
      have hO := (hv y rfl).2.2
      rw [HZ.out] at hO
      have h1 := HB.out.trans (hb1.mono HB.out.size)
      obtain ⟨x0, x1, x2, x3, x4⟩ := c5 (HK.out.below hb1)
      have HO := Lib.hid hO
      clear hb1 hv hO
      go_wp2_with fail
      refine (HC.out _).mono ?_
      rintro e w2 ⟨rfl, hb2⟩
      have hO2 := HO.out.below hb2
      have h2 := h1.trans (hb2.mono h1.size)
      obtain ⟨a', cap', rfl⟩ := row_slice hO2
      obtain ⟨g, rfl, hg, hc⟩ := row_at hO2 (by simp)
      have c0 := hc 0 _ rfl
      have hlen : (0 : Int) < ((z :: zs).length : Int) := by simp
      clear hb2 hc h1
      go_wp2
      go_ret2
      rw [HT.out]
      exact ⟨rfl, h2⟩
    · have q : (ck == 0) = false := by simpa using g
      have q' : (ck != 0) = true := by simpa using g
      have HT : Hid (T = none) := Lib.hid (by rw [hT2, if_neg g])
      clear hT2 g
      go_enter Try.func13, Try.ntmps13
      go_wp2_with fail
      refine (HN.out _).mono ?_
      rintro e w1 ⟨⟨a, v, b, rfl, hv⟩, hb1⟩
      have h1 := HB.out.trans (hb1.mono HB.out.size)
      obtain ⟨x0, x1, x2, x3, x4⟩ := c5 (HK.out.below hb1)
      clear hb1 hv
      go_wp2_with fail
      refine (HC.out _).mono ?_
      rintro e w2 ⟨rfl, hb2⟩
      go_wp2
      go_ret2
      rw [HT.out]
      exact ⟨rfl, h1.trans (hb2.mono h1.size)⟩
end Go.Proofs.Ytflpceaaelampaa
