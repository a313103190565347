/-
  The statements' own small functions: cuts, comparisons.
-/
import Derived.Test.YtomghpielgkigaaDoorLMath
namespace Go.Proofs.YtomghpielgkigaaDoor
open Go.RowKit
theorem short_all (s : ByteArray) (n : Nat) (h : s.size ≤ n) (w : World) :
    Calls Tryd.prog 10 #[.string s, it (n : Int)] w fun e w' => e = .returned (.string s) ∧ w' = w := by
  go_enter Tryd.func10, Tryd.ntmps10
  go_wp2
  go_ret
  exact ⟨rfl, rfl⟩
theorem short_cut (s : ByteArray) (n : Nat) (h : n < s.size) (w : World) :
    Calls Tryd.prog 10 #[.string s, it (n : Int)] w fun e w' => e = .returned (.string (s.extract 0 n)) ∧ w' = w := by
  have q1 : (n : Int) < (s.size : Int) := by omega
  have q2 : n ≤ s.size := by omega
  go_enter Tryd.func10, Tryd.ntmps10
  go_wp2
  go_ret
  exact ⟨rfl, rfl⟩
/-- THE CUT: what stands there behind it is of no more than so many bytes. -/
theorem short_any (s : ByteArray) (n : Nat) :
    ∃ t : ByteArray, t.size ≤ n ∧ ∀ w : World, Calls Tryd.prog 10 #[.string s, it (n : Int)] w fun e w' => e = .returned (.string t) ∧ w' = w := by
  by_cases h : s.size ≤ n
  · exact ⟨s, h, fun w => short_all s n h w⟩
  · exact ⟨s.extract 0 n, by simp; omega, fun w => short_cut s n (by omega) w⟩
theorem rdx_take {w : World} {a : Option Addr} {n cap : Nat} {M : List Int} (h : RdX elI w (.slice a n cap) M) (k : Nat) (hk : k ≤ n) : RdX elI w (.slice a k cap) (M.take k) := by
  obtain ⟨a', cap', e, h1, h2, h3⟩ := h
  cases e
  have hl : (M.take k).length = k := by rw [List.length_take]; omega
  refine ⟨a, cap, by rw [hl], by rw [hl]; omega, h2, ?_⟩
  by_cases h0 : M.take k = []
  · exact .inl h0
  · rcases h3 with h3 | ⟨g, o, e, hc⟩
    · rw [h3] at h0; exact absurd List.take_nil h0
    · refine .inr ⟨g, o, e, fun j u hu => hc j u ?_⟩
      rw [El.fl_take] at hu
      rw [List.getElem?_take] at hu
      split at hu
      · exact hu
      · cases hu
set_option maxRecDepth 100000 in
set_option maxHeartbeats 1600000 in
theorem few_any {w : World} {v : Value} {M : List Int} (h : RdX elI w v M) : Calls Tryd.prog 8 #[v] w fun e w' => ∃ v', e = .returned v' ∧ RdX elI w v' (M.take 12) ∧ w' = w := by
  obtain ⟨a, cap, rfl, hcap, hcm⟩ := h.shape
  have HR := Lib.hid h
  obtain ⟨n, hn⟩ : ∃ n, n = M.length := ⟨_, rfl⟩
  rw [← hn] at HR hcap ⊢
  have HN := Lib.hid hn
  clear h hn
  by_cases h12 : n ≤ 12
  · have HF := Lib.hid (show RdX elI w (.slice a n cap) (M.take 12) by rw [List.take_of_length_le (by rw [← HN.out]; exact h12)]; exact HR.out)
    have q : decide ((12 : Int) < (n : Int)) = false := decide_eq_false (by omega)
    go_enter Tryd.func8, Tryd.ntmps8
    go_wp2
    go_ret
    exact ⟨_, rfl, HF.out, rfl⟩
  · have HF := Lib.hid (rdx_take HR.out 12 (by omega))
    have q : (12 : Int) < (n : Int) := by omega
    have q2 : (12 : Nat) ≤ cap := by omega
    obtain ⟨j, hj, hz0, hz1, hz2⟩ := info_parts infoI
    have hsl : ∀ W, (Instr.slice 22 (.slice a n cap) none (some (it 12)) none).run Tryd.prog W = .ok (.slice a 12 cap) W := fun W => by
      have q3 : (12 : Int) ≤ (cap : Int) := by omega
      cases a with
      | none => simp [Instr.slice, Instr.sliceBounds, Instr.sliceBound, run_underlying Tryd.underlying22, sizeOf, typeInfo, hj, asIntOf, q3]
      | some ad => simp [Instr.slice, Instr.sliceBounds, Instr.sliceBound, run_underlying Tryd.underlying22, sizeOf, typeInfo, hj, asIntOf, q3, Addr.add]
    go_enter Tryd.func8, Tryd.ntmps8
    go_wp2
    go_ret
    exact ⟨_, rfl, HF.out, rfl⟩
theorem rdx_at {w : World} {a : Option Addr} {n cap : Nat} {A : List Int} (h : RdX elI w (.slice a n cap) A) {i : Nat} {x : Int} (hi : A[i]? = some x) :
    ∃ g o, a = some ⟨g, o, none⟩ ∧ g < w.heap.size ∧ w.cell? ⟨g, o + i, none⟩ = some (it x) := by
  obtain ⟨_, g, o, e, hg, hc⟩ := h.at hi
  refine ⟨g, o, e, hg, ?_⟩
  have := hc 0 (by decide)
  rw [Nat.add_zero] at this
  exact (show o + i * 1 = o + i by omega) ▸ this
theorem take_eq_succ {A B : List Int} {k : Nat} {s : Int} (h : A.take k = B.take k) (ha : A[k]? = some s) (hb : B[k]? = some s) : A.take (k + 1) = B.take (k + 1) := by
  rw [List.take_add_one, List.take_add_one, h, ha, hb]
set_option maxRecDepth 100000 in
set_option maxHeartbeats 3200000 in
theorem sameInts_any {w : World} {v u : Value} {A B : List Int} (hv : RdX elI w v A) (hu : RdX elI w u B) (hl : A.length ≤ 1000000) :
    Calls Tryd.prog 12 #[v, u] w fun e w' => e = .returned (.bool (decide (A = B))) ∧ Below w.heap.size w w' := by
  obtain ⟨va, vc, rfl, _⟩ := hv.shape
  obtain ⟨ua, uc, rfl, _⟩ := hu.shape
  have HV := Lib.hid hv
  have HU := Lib.hid hu
  obtain ⟨R, hR⟩ : ∃ R, R = decide (A = B) := ⟨_, rfl⟩
  have HR := Lib.hid hR
  rw [← hR]
  clear hv hu hR
  by_cases hlen : A.length = B.length
  · have HL := Lib.hid hlen
    rw [← hlen] at HU ⊢
    obtain ⟨n, hn⟩ : ∃ n, n = A.length := ⟨_, rfl⟩
    have HN := Lib.hid hn
    rw [← hn] at HU HV hl ⊢
    clear hlen hn
    go_enter Tryd.func12, Tryd.ntmps12
    go_wp2
    go_loopw [5] (fun i wr => ∃ k : Nat, k ≤ n ∧ i = it (k : Int) ∧ A.take k = B.take k ∧ Below w.heap.size w wr) (fun i _ => n - (intOf i).toNat)
    case atStart => exact ⟨0, by omega, rfl, rfl, Below.refl _ _⟩
    case round =>
      obtain ⟨k, hk, rfl, hE, hbr⟩ := hrel
      by_cases hlt : k < n
      · have q : (k : Int) < (n : Int) := by omega
        have q2 : decide (k < n) = true := by simp; omega
        obtain ⟨s, hs⟩ : ∃ s, A[k]? = some s := ⟨_, List.getElem?_eq_getElem (by have := HN.out; omega)⟩
        obtain ⟨t, ht⟩ : ∃ t, B[k]? = some t := ⟨_, List.getElem?_eq_getElem (by have := HN.out; have := HL.out; omega)⟩
        obtain ⟨g, o, rfl, hg, c1⟩ := rdx_at HV.out hs
        obtain ⟨g2, o2, rfl, hg2, c2⟩ := rdx_at HU.out ht
        have c1 := (hbr.cell (p := ⟨g, o + k, none⟩) hg).trans c1
        have c2 := (hbr.cell (p := ⟨g2, o2 + k, none⟩) hg2).trans c2
        have HE := Lib.hid hE
        have HBR := Lib.hid hbr
        have HS := Lib.hid hs
        have HT := Lib.hid ht
        clear hE hbr hs ht
        by_cases he : s = t
        · subst he
          go_wp2_with fail
          go_quiet (fail)
          go_wp2
          go_roundw
          case rel => exact ⟨k + 1, by omega, by go_num, take_eq_succ HE.out HS.out HT.out, HBR.out.trans (below_drewN (Below.refl _ _) _ |>.mono HBR.out.size)⟩
          case measure => simp [intOf]; omega
        · have q3 : (s == t) = false := by simpa using he
          have q4 : (s != t) = true := by simpa using he
          have HF : Hid (R = false) := Lib.hid (by
            rw [HR.out, decide_eq_false_iff_not]; rintro rfl
            rw [HS.out] at HT; exact he (Option.some.inj HT.out))
          go_wp2_with fail
          go_quiet (fail)
          go_wp2
          go_ret
          exact ⟨by rw [HF.out]; rfl, HBR.out.trans (below_drewN (Below.refl _ _) _ |>.mono HBR.out.size)⟩
      · have q : decide ((k : Int) < (n : Int)) = false := by simp; omega
        have q2 : decide (k < n) = false := by simp; omega
        have HF : Hid (R = true) := Lib.hid (by
          rw [HR.out, decide_eq_true_eq]
          rw [List.take_of_length_le (by have := HN.out; omega), List.take_of_length_le (by have := HN.out; have := HL.out; omega)] at hE
          exact hE)
        have HBR := Lib.hid hbr
        clear hE hbr
        go_wp2
        go_ret
        exact ⟨by rw [HF.out]; rfl, HBR.out⟩
  · have q1 : ((A.length : Int) == (B.length : Int)) = false := by simp; omega
    have q2 : ((A.length : Int) != (B.length : Int)) = true := by simp; omega
    have q3 : (A.length == B.length) = false := by simpa using hlen
    have HF : Hid (R = false) := Lib.hid (by rw [HR.out, decide_eq_false_iff_not]; rintro rfl; exact hlen rfl)
    clear HV HU
    generalize A.length = x at *
    generalize B.length = y at *
    go_enter Tryd.func12, Tryd.ntmps12
    go_wp2
    go_ret
    exact ⟨by rw [HF.out]; rfl, Below.refl _ _⟩
set_option maxRecDepth 100000 in
set_option maxHeartbeats 1600000 in
theorem atNil_any (w : World) : Calls Tryd.prog 17 #[.pointer none, it 0] w fun e w' => e = .returned (.tuple #[.int .u64 0, it (-1)]) ∧ w' = w := by
  obtain ⟨sl, hr, ha⟩ := all_any (w := w) (Z := Z0) (v := .pointer none) (L := []) (.inl ⟨rfl, rfl⟩)
  obtain ⟨a, cap, rfl, _, _⟩ := hr.1.shape
  have HA := Lib.hid (ha w (Below.refl _ _))
  clear hr ha
  go_enter Tryd.func17, Tryd.ntmps17
  go_wp2_with fail
  refine HA.out.mono ?_
  rintro e w2 ⟨rfl, rfl⟩
  go_wp2
  go_ret2
  exact ⟨rfl, rfl⟩
end Go.Proofs.YtomghpielgkigaaDoor
