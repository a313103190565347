/-
  What the law's functions on lists of texts answer: the same, a beginning, a few of them.
-/
import Derived.Test.YtpiiknbjllgaoaaWFns
namespace Go.Proofs.Ytpiiknbjllgaoaa
open Go.RowKit
set_option maxRecDepth 100000 in
set_option maxHeartbeats 1600000 in
theorem short_any (s : ByteArray) (n : Nat) (w : World) : Calls Try.prog 10 #[.string s, .int .i64 (n : Int)] w fun e w' => e = .returned (str (s.data.toList.take n)) ∧ w = w' := by
  by_cases h : n < s.size
  · have q : (n : Int) < (s.size : Int) := by omega
    have hp := pc_to s n (by omega) .i64
    go_enter Try.func10, Try.ntmps10
    go_wp2
    go_ret
    exact ⟨rfl, rfl⟩
  · have q : decide ((n : Int) < (s.size : Int)) = false := by simp; omega
    have q2 : decide (n < s.size) = false := by simp; omega
    have e : s.data.toList.take n = s.data.toList := List.take_of_length_le (by rw [← size_list]; omega)
    rw [e, str_of]
    clear e
    go_enter Try.func10, Try.ntmps10
    go_wp2
    go_ret
    exact ⟨rfl, rfl⟩
theorem RdS.cells {w : World} {v : Value} {l : List ByteArray} (h : RdS w v l) : ∃ a cap, v = .slice a l.length cap ∧ l.length ≤ cap ∧ cap ≤ maxLen ∧ ∀ w', Below w.heap.size w w' → ∀ k s, l[k]? = some s → ∃ g o, a = some ⟨g, o, none⟩ ∧ w'.cell? ⟨g, o + k, none⟩ = some (.string s) := by
  obtain ⟨a, cap, rfl, h1, h2, h3⟩ := h
  refine ⟨a, cap, rfl, h1, h2, fun w' hb k s hs => ?_⟩
  rcases h3 with rfl | ⟨g, o, rfl, hc⟩
  · simp at hs
  · have := hc k s hs
    exact ⟨g, o, rfl, (hb.cell (w.block_lt_of_cell? _ this)).trans this⟩
theorem tl_ne {s t : ByteArray} (h : ¬ s = t) : (s.toList == t.toList) = false := by
  apply beq_false_of_ne
  intro e
  apply h
  rw [ByteArray.toList_eq, ByteArray.toList_eq] at e
  exact ByteArray.ext (Array.toList_inj.1 e)
theorem ret_bool {a b : Bool} (h : a = b) : Ending.returned (.bool a) = .returned (.bool b) := by rw [h]
theorem take_eq_succ {l m : List ByteArray} {k : Nat} {s : ByteArray} (h : l.take k = m.take k) (h1 : l[k]? = some s) (h2 : m[k]? = some s) : l.take (k + 1) = m.take (k + 1) := by
  obtain ⟨a1, b1⟩ := List.getElem?_eq_some_iff.1 h1
  obtain ⟨a2, b2⟩ := List.getElem?_eq_some_iff.1 h2
  rw [List.take_succ_eq_append_getElem a1, List.take_succ_eq_append_getElem a2, h, b1, b2]
set_option maxRecDepth 100000 in
set_option maxHeartbeats 3200000 in
theorem same_any {w : World} {v u : Value} {l m : List ByteArray} (hv : RdS w v l) (hu : RdS w u m) (hl : l.length ≤ 1000000) :
    Calls Try.prog 15 #[v, u] w fun e w' => e = .returned (.bool (decide (l = m))) ∧ Below w.heap.size w w' := by
  obtain ⟨a, ca, rfl, ha1, ha2, ha3⟩ := hv.cells
  obtain ⟨b, cb, rfl, hb1, hb2, hb3⟩ := hu.cells
  have HA := Lib.hid ha3
  have HB := Lib.hid hb3
  obtain ⟨R, hR⟩ : ∃ R, R = decide (l = m) := ⟨_, rfl⟩
  have HR := Lib.hid hR
  rw [← hR]
  clear hv hu ha3 hb3 hR
  by_cases hlen : l.length = m.length
  · have HL := Lib.hid hlen
    rw [← hlen] at hb1 ⊢
    obtain ⟨n, hn⟩ : ∃ n, n = l.length := ⟨_, rfl⟩
    have HN := Lib.hid hn
    rw [← hn] at hl ha1 hb1 ⊢
    clear hlen hn
    go_enter Try.func15, Try.ntmps15
    go_wp2
    go_loopw [5] (fun i wr => ∃ k : Nat, k ≤ n ∧ i = .int .i64 (k : Int) ∧ l.take k = m.take k ∧ Below w.heap.size w wr) (fun i _ => n - (intOf i).toNat)
    case atStart => exact ⟨0, by omega, rfl, rfl, Below.refl _ _⟩
    case round =>
      obtain ⟨k, hk, rfl, hE, hbr⟩ := hrel
      by_cases hlt : k < n
      · have q : (k : Int) < (n : Int) := by omega
        have q2 : decide (k < n) = true := by simp; omega
        obtain ⟨s, hs⟩ : ∃ s, l[k]? = some s := ⟨_, List.getElem?_eq_getElem (by rw [← HN.out]; exact hlt)⟩
        obtain ⟨t, ht⟩ : ∃ t, m[k]? = some t := ⟨_, List.getElem?_eq_getElem (by rw [← HL.out, ← HN.out]; exact hlt)⟩
        obtain ⟨g, o, rfl, c1⟩ := HA.out wr hbr k s hs
        obtain ⟨g2, o2, rfl, c2⟩ := HB.out wr hbr k t ht
        have HE := Lib.hid hE
        have HBR := Lib.hid hbr
        have HS := Lib.hid hs
        have HT := Lib.hid ht
        clear hE hbr hs ht
        by_cases he : s = t
        · subst he
          go_wp2_with fail
          go_quiet (fail)
          go_wp2
          go_roundw
          case rel => exact ⟨k + 1, by omega, by go_num, take_eq_succ HE.out HS.out HT.out, HBR.out.trans ((below_drewN _ _).mono HBR.out.size)⟩
          case measure => simp [intOf]; omega
        · have q3 := tl_ne he
          have HF : Hid (R = false) := Lib.hid (by
            rw [HR.out, decide_eq_false_iff_not]; rintro rfl
            rw [HS.out] at HT; exact he (Option.some.inj HT.out))
          go_wp2_with fail
          go_quiet (fail)
          go_wp2
          go_ret
          exact ⟨ret_bool HF.out.symm, HBR.out.trans ((below_drewN _ _).mono HBR.out.size)⟩
      · have q : decide ((k : Int) < (n : Int)) = false := by simp; omega
        have q2 : decide (k < n) = false := by simp; omega
        have hkn : k = n := by omega
        have HF : Hid (R = true) := Lib.hid (by
          rw [HR.out, decide_eq_true_eq]
          rw [List.take_of_length_le (by rw [← HN.out]; omega), List.take_of_length_le (by rw [← HL.out, ← HN.out]; omega)] at hE
          exact hE)
        have HBR := Lib.hid hbr
        clear hE hbr
        go_wp2
        go_ret
        exact ⟨ret_bool HF.out.symm, HBR.out⟩
  · have q1 : ((l.length : Int) == (m.length : Int)) = false := by simp; omega
    have q2 : ((l.length : Int) != (m.length : Int)) = true := by simp; omega
    have q3 : (l.length == m.length) = false := by simpa using hlen
    have HF : Hid (R = false) := Lib.hid (by rw [HR.out, decide_eq_false_iff_not]; rintro rfl; exact hlen rfl)
    clear HA HB
    generalize l.length = x at *
    generalize m.length = y at *
    go_enter Try.func15, Try.ntmps15
    go_wp2
    go_ret
    exact ⟨ret_bool HF.out.symm, Below.refl _ _⟩
theorem sl27 (a : Option Addr) (n cap k : Nat) (hk : k ≤ cap) (ha : a = none → k = 0) : ∃ a', (0 < k → a' = a) ∧ ∀ w : World, (Instr.slice 27 (.slice a n cap) none (some (.int .i64 (k : Int))) none).run Try.prog w = .ok (.slice a' k cap) w := by
  obtain ⟨i, hi, hz0, hz1, hz2⟩ := info_parts info9
  cases a with
  | none =>
    obtain rfl := ha rfl
    refine ⟨none, fun h => by omega, fun w => ?_⟩
    simp [Instr.slice, Instr.sliceBounds, Instr.sliceBound, run_underlying Try.underlying27, sizeOf, typeInfo, hi, asIntOf]
  | some ad =>
    by_cases hc : cap = 0
    · subst hc
      obtain rfl : k = 0 := by omega
      refine ⟨some ad, fun _ => rfl, fun w => ?_⟩
      simp [Instr.slice, Instr.sliceBounds, Instr.sliceBound, run_underlying Try.underlying27, sizeOf, typeInfo, hi, asIntOf]
    · refine ⟨some ad, fun _ => rfl, fun w => ?_⟩
      have e : ad.add 0 = ad := by
        obtain ⟨g, o, p⟩ := ad
        cases p <;> simp [Addr.add]
      simp [Instr.slice, Instr.sliceBounds, Instr.sliceBound, run_underlying Try.underlying27, sizeOf, typeInfo, hi, asIntOf, hk, hc, e]
theorem RdS.take {w : World} {v : Value} {l : List ByteArray} (h : RdS w v l) (k : Nat) (hk : k ≤ l.length) : ∃ v', (∀ w', (Instr.slice 27 v none (some (.int .i64 (k : Int))) none).run Try.prog w' = .ok v' w') ∧ RdS w v' (l.take k) := by
  obtain ⟨a, cap, rfl, h1, h2, h3⟩ := h
  obtain ⟨a', ha', hr⟩ := sl27 a l.length cap k (by omega) (fun e => by
    rcases h3 with rfl | ⟨g, o, e2, _⟩
    · simpa using hk
    · rw [e] at e2; cases e2)
  refine ⟨_, hr, a', cap, by rw [List.length_take, Nat.min_eq_left hk], by rw [List.length_take]; omega, h2, ?_⟩
  by_cases h0 : k = 0
  · exact .inl (by rw [h0]; rfl)
  · rcases h3 with rfl | ⟨g, o, rfl, hc⟩
    · simp at hk; omega
    · refine .inr ⟨g, o, ha' (by omega), fun i s hs => hc i s ?_⟩
      rw [List.getElem?_take] at hs
      split at hs
      · exact hs
      · cases hs
/-- Is a list a beginning of another one, with n of it at least? -/
def pfx (l m : List ByteArray) (n : Nat) : Bool := decide (l.length ≤ m.length ∧ n ≤ l.length ∧ l = m.take l.length)
set_option maxRecDepth 100000 in
set_option maxHeartbeats 3200000 in
theorem prefix_any {w : World} {v u : Value} {l m : List ByteArray} (hv : RdS w v l) (hu : RdS w u m) (hl : l.length ≤ 1000000) (n : Nat) :
    Calls Try.prog 25 #[v, u, .int .i64 (n : Int)] w fun e w' => e = .returned (.bool (pfx l m n)) ∧ Below w.heap.size w w' := by
  have HVV := Lib.hid hv
  have HUU := Lib.hid hu
  obtain ⟨R, hR⟩ : ∃ R, R = pfx l m n := ⟨_, rfl⟩
  have HR := Lib.hid hR
  rw [← hR]
  clear hR
  by_cases h1 : m.length < l.length
  · have HF : Hid (R = false) := Lib.hid (by rw [HR.out]; unfold pfx; rw [decide_eq_false_iff_not]; rintro ⟨h, _⟩; omega)
    obtain ⟨a, ca, rfl, _⟩ := hv
    obtain ⟨b, cb, rfl, _⟩ := hu
    have q1 : (m.length : Int) < (l.length : Int) := by omega
    clear HVV HUU HR
    generalize l.length = x at *
    generalize m.length = y at *
    go_enter Try.func25, Try.ntmps25
    go_wp2
    go_ret
    exact ⟨ret_bool HF.out.symm, Below.refl _ _⟩
  · by_cases h2 : l.length < n
    · have HF : Hid (R = false) := Lib.hid (by rw [HR.out]; unfold pfx; rw [decide_eq_false_iff_not]; rintro ⟨_, h, _⟩; omega)
      obtain ⟨a, ca, rfl, _⟩ := hv
      obtain ⟨b, cb, rfl, _⟩ := hu
      have q1 : decide ((m.length : Int) < (l.length : Int)) = false := by simp; omega
      have q1' : decide (m.length < l.length) = false := by simp; omega
      have q2 : (l.length : Int) < (n : Int) := by omega
      clear HVV HUU HR
      generalize l.length = x at *
      generalize m.length = y at *
      go_enter Try.func25, Try.ntmps25
      go_wp2
      go_ret
      exact ⟨ret_bool HF.out.symm, Below.refl _ _⟩
    · have HF : Hid (R = decide (l = m.take l.length)) := Lib.hid (by
        rw [HR.out]; unfold pfx; rw [Bool.eq_iff_iff, decide_eq_true_eq, decide_eq_true_eq]; exact ⟨fun h => h.2.2, fun h => ⟨by omega, by omega, h⟩⟩)
      obtain ⟨u', hs, hu'⟩ := hu.take l.length (by omega)
      have HS := Lib.hid (same_any (w := w) hv hu' hl)
      have q1 : decide ((m.length : Int) < (l.length : Int)) = false := by simp; omega
      have q1' : decide (m.length < l.length) = false := by simp; omega
      have q2 : decide ((l.length : Int) < (n : Int)) = false := by simp; omega
      have q2' : decide (l.length < n) = false := by simp; omega
      obtain ⟨a, ca, rfl, _⟩ := hv
      obtain ⟨b, cb, rfl, _⟩ := hu
      clear HVV HUU HR hu'
      generalize l.length = x at *
      generalize m.length = y at *
      go_enter Try.func25, Try.ntmps25
      go_wp2_with fail
      refine HS.out.mono ?_
      rintro e w' ⟨rfl, hb⟩
      have HB := Lib.hid hb
      clear hb
      go_wp2
      go_ret
      exact ⟨ret_bool HF.out.symm, HB.out⟩
/-- A few of the texts, each cut off. -/
def few (L : List ByteArray) : List Bs := (L.take 8).map fun s => s.data.toList.take 200
theorem few_length (L : List ByteArray) : (few L).length ≤ 8 := by unfold few; rw [List.length_map, List.length_take]; omega
theorem few_size (L : List ByteArray) : ∀ s ∈ few L, s.length ≤ 200 := by
  intro s hs
  obtain ⟨x, _, rfl⟩ := List.mem_map.1 hs
  rw [List.length_take]; omega
theorem few_fit (L : List ByteArray) : Fit (few L) := fun s hs => by have := few_size L s hs; omega
/-- The first k of them. -/
def fewK (L : List ByteArray) (k : Nat) : List Bs := (L.take k).map fun s => s.data.toList.take 200
theorem fewK_succ (L : List ByteArray) (k : Nat) (s : ByteArray) (h : L[k]? = some s) : fewK L (k + 1) = fewK L k ++ [s.data.toList.take 200] := by
  obtain ⟨a1, b1⟩ := List.getElem?_eq_some_iff.1 h
  unfold fewK
  rw [List.take_succ_eq_append_getElem a1, List.map_append, b1]; rfl
set_option maxRecDepth 100000 in
set_option maxHeartbeats 3200000 in
theorem few_any {w : World} {v : Value} {l : List ByteArray} (hv : RdS w v l) :
    Calls Try.prog 18 #[v] w fun e w' => ∃ u, e = .returned u ∧ RdB w' u (few l) ∧ (∀ j, u.ownBlock = some j → w.heap.size ≤ j) ∧ Below w.heap.size w w' := by
  obtain ⟨i0, hi, hz0, hz1, hz2⟩ := info_parts info9
  obtain ⟨a, ca, rfl, ha1, ha2, ha3⟩ := hv.cells
  have HA := Lib.hid ha3
  obtain ⟨n, hn⟩ : ∃ n, n = l.length := ⟨_, rfl⟩
  have HN := Lib.hid hn
  rw [← hn] at ha1 ⊢
  have hnm : (n : Int) ≤ 9223372036854775807 := by have h := ha2; unfold maxLen at h; omega
  clear hv ha3 hn
  go_enter Try.func18, Try.ntmps18
  go_wp2
  go_loopw [3, 4] (fun u i wr => ∃ k : Nat, k ≤ n ∧ k ≤ 8 ∧ i = .int .i64 (k : Int) ∧ wr.ownsRow w.heap.size 9 1 u (fewK l k).length ((fewK l k).map str) ∧ Below w.heap.size w wr) (fun _ i _ => n - (intOf i).toNat)
  case atStart => exact ⟨0, by omega, by omega, rfl, World.ownsRow_nil _ _ _ _, Below.refl _ _⟩
  case round =>
    obtain ⟨k, hk, hk8, rfl, hown, hbr⟩ := hrel
    have hfl : (fewK l k).length = k := by unfold fewK; rw [List.length_map, List.length_take, ← HN.out]; omega
    have hown' := hown
    rw [hfl] at hown'
    have HW := Lib.hid hown'
    have HO := Lib.hid hown
    have HBR := Lib.hid hbr
    have hsz := hbr.size
    clear hown hown' hbr
    by_cases hlt : k < n ∧ k < 8
    · have q : (k : Int) < (n : Int) := by omega
      have q2 : decide (k < n) = true := by simp; omega
      have q3 : (k : Int) < 8 := by omega
      obtain ⟨s, hs⟩ : ∃ s, l[k]? = some s := ⟨_, List.getElem?_eq_getElem (by rw [← HN.out]; exact hlt.1)⟩
      obtain ⟨g, o, rfl, c1⟩ := HA.out wr HBR.out k s hs
      have HK := Lib.hid (fewK_succ l k s hs)
      obtain ⟨xs, hxs⟩ : ∃ xs, xs = (fewK l k).map str := ⟨_, rfl⟩
      rw [← hxs] at HW
      have HXS := Lib.hid hxs
      have HSH := Lib.hid (short_any s 200 wr)
      obtain ⟨T, hT⟩ : ∃ T, T = s.data.toList.take 200 := ⟨_, rfl⟩
      rw [← hT] at HK HSH
      clear hs hxs hT
      go_wp2_with fail
      refine HSH.out.mono ?_
      rintro e w' ⟨rfl, rfl⟩
      go_wp2_with (at_builtin; refine wpList_append_own_at _ rfl (.tmp 15) (.tmp 21) 27 rfl w.heap.size 9 i0 (.string ⟨#[]⟩) 1 16 Try.underlying27 hi hz0 hz1 hz2 rfl (by decide) u3 k xs rfl (own_below HW.out ((Below.refl _ _).alloc (Nat.le_refl _) _)) ⟨wr.heap.size, 0, none⟩ 1 1 [str T] rfl rfl (fun j u hj => World.news_of_block (cs := #[str T]) (t := 9) (fr := (0, 0)) (heap_alloc_new wr _) j u hj) (by simp [Value.oneCell']) (by unfold maxLen; omega) (by omega) (by simp; omega) ?_)
      intro v' w1 hown2 hg2 _ hloc
      have HO2 : Hid (w1.ownsRow w.heap.size 9 1 v' (fewK l (k + 1)).length ((fewK l (k + 1)).map str)) := Lib.hid (by
        rw [HK.out, List.length_append, hfl, List.map_append, ← HXS.out]; exact hown2)
      have HB2 : Hid (Below w.heap.size w w1) := Lib.hid ((HBR.out.alloc HBR.out.size _).grown hg2 (by simp; have := HBR.out.size; omega) (fun j hj => (World.ownsRow.lt HW.out j hj).1))
      clear hown2 hg2 hloc
      go_wp2
      go_roundw
      case rel => exact ⟨k + 1, by omega, by omega, by go_num, HO2.out, HB2.out⟩
      case measure => simp [intOf]; omega
    · have e : fewK l k = few l := by
        unfold fewK few
        by_cases h8 : k = 8
        · rw [h8]
        · rw [List.take_of_length_le (show l.length ≤ k by rw [← HN.out]; omega), List.take_of_length_le (show l.length ≤ 8 by rw [← HN.out]; omega)]
      rw [e] at HO
      have HRB : Hid (RdB wr u3 (few l)) := Lib.hid (rds_of_own (base := w.heap.size) (by rw [ab_length, sv_ab]; exact HO.out))
      have HV : Hid (∀ j, u3.ownBlock = some j → w.heap.size ≤ j) := Lib.hid (fun j hj => (World.ownsRow.lt HO.out j hj).1)
      clear e
      by_cases hkn : k < n
      · have q : (k : Int) < (n : Int) := by omega
        have q2 : decide (k < n) = true := by simp; omega
        have q3 : decide ((k : Int) < 8) = false := by simp; omega
        go_wp2
        go_ret
        exact ⟨_, rfl, HRB.out, HV.out, HBR.out⟩
      · have q : decide ((k : Int) < (n : Int)) = false := by simp; omega
        have q2 : decide (k < n) = false := by simp; omega
        go_wp2
        go_ret
        exact ⟨_, rfl, HRB.out, HV.out, HBR.out⟩
end Go.Proofs.Ytpiiknbjllgaoaa
