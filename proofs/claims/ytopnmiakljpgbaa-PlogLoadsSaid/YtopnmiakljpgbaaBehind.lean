/-
  Logs with other entries behind: behind, Add, Put.
-/
import Derived.Test.YtopnmiakljpgbaaApp
namespace Go.Proofs.Ytopnmiakljpgbaa
open Go.RowKit
theorem RdE.take {w : World} {a : Option Addr} {n cap : Nat} {L : List En} (h : RdE w (.slice a n cap) L) (k c : Nat) (hk : k ≤ L.length) (hc : k ≤ c) (hm : c ≤ maxLen) : RdE w (.slice a k c) (L.take k) := by
  obtain ⟨a', c', he, h1, h2, h3⟩ := h
  cases he
  have e : (L.take k).length = k := by rw [List.length_take]; omega
  refine ⟨a, c, by rw [e], by rw [e]; exact hc, hm, ?_⟩
  rcases h3 with rfl | ⟨g, o, rfl, hcell⟩
  · exact .inl (by simp)
  · refine .inr ⟨g, o, rfl, fun i x hx => hcell i x ?_⟩
    have hi := (List.getElem?_eq_some_iff.1 hx).1
    rw [e] at hi
    rw [List.getElem?_take, if_pos hi] at hx
    exact hx
/-- r[:k:k]. -/
theorem slice_kk {w0 : World} {a : Option Addr} {n cap : Nat} {L : List En} (h : RdE w0 (.slice a n cap) L) (k : Nat) (hk : k ≤ L.length) : ∀ w : World, (Instr.slice 22 (.slice a n cap) none (some (it (k : Int))) (some (it (k : Int)))).run Try.prog w = .ok (.slice a k k) w := by
  intro w
  obtain ⟨i, hi, hz0, hz1, hz2⟩ := info_parts info31
  obtain ⟨a', c', he, h1, h2, h3⟩ := h
  cases he
  have h4 : k ≤ cap := by omega
  cases a with
  | none =>
    rcases h3 with rfl | ⟨g, o, e, _⟩
    · obtain rfl : k = 0 := by simpa using hk
      simp [Instr.slice, Instr.sliceBounds, Instr.sliceBound, run_underlying Try.underlying22, sizeOf, typeInfo, hi, asIntOf]
    · cases e
  | some ad =>
    by_cases h0 : k = 0
    · subst h0
      simp [Instr.slice, Instr.sliceBounds, Instr.sliceBound, run_underlying Try.underlying22, sizeOf, typeInfo, hi, asIntOf]
    · have e : ad.add 0 = ad := by
        obtain ⟨g, o, p⟩ := ad
        cases p <;> simp [Addr.add]
      simp [Instr.slice, Instr.sliceBounds, Instr.sliceBound, run_underlying Try.underlying22, sizeOf, typeInfo, hi, asIntOf, h4, e]
theorem OwnE.set {w : World} {base : Nat} {v : Value} {L : List En} (h : OwnE w base v L) {b i : Nat} (hb : b < base) (x : Value) : OwnE (w.setCell ⟨b, i, none⟩ x) base v L := by
  refine ⟨h.1, ?_⟩
  rcases h.2 with h | ⟨g, cap, cur, rfl, hbg, hg, h2⟩
  · exact .inl h
  · exact .inr ⟨g, cap, cur, rfl, hbg, (heap_setCell_other w ⟨b, i, none⟩ g x (fun e => by have e : g = b := e; omega)).trans hg, h2⟩
theorem OwnE.set3 {w : World} {base : Nat} {v : Value} {L : List En} (h : OwnE w base v L) {b : Nat} (hb : b < base) (x y z : Value) : OwnE (set3 w b x y z) base v L := ((h.set hb x).set hb y).set hb z
theorem OwnE.weak {w : World} {base base' : Nat} {v : Value} {L : List En} (h : OwnE w base v L) (hb : base' ≤ base) : OwnE w base' v L := by
  refine ⟨h.1, ?_⟩
  rcases h.2 with h | ⟨g, cap, cur, hv, hbg, h2⟩
  · exact .inl h
  · exact .inr ⟨g, cap, cur, hv, by omega, h2⟩
section
variable {w : World} {base bt : Int} {a : Option Addr} {n cap : Nat} {L M : List En} {u : Value}
theorem behind_any (h : RdE w (.slice a n cap) L) (k : Nat) (hk : k ≤ L.length) (hu : RdE w u M) (hl : L.length ≤ 100000) (hm : M.length ≤ 100000) :
    Calls Try.prog 66 #[lv base bt (.slice a n cap), it (k : Int), u] w fun e w' => ∃ v, e = .returned (lv base bt v) ∧ OwnE w' w.heap.size v (L.take k ++ M) ∧ Below w.heap.size w w' := by
  have hn := h.len
  subst hn
  obtain ⟨ua, uc, rfl, _⟩ := hu.shape
  have HS := slice_kk h k hk
  have hT := h.take k k hk (Nat.le_refl _) (by unfold maxLen; omega)
  have e : (L.take k).length = k := by rw [List.length_take]; omega
  have H2 := Lib.hid (two_new w #[it base, it bt, .slice a L.length cap] #[it 0, it 0, .slice none 0 0] 24 24)
  have HT := Lib.hid hT
  have HU := Lib.hid hu
  obtain ⟨m, hmm⟩ : ∃ m, m = L.length := ⟨_, rfl⟩
  obtain ⟨z, hzz⟩ : ∃ z, z = M.length := ⟨_, rfl⟩
  obtain ⟨T, hTT⟩ : ∃ T, T = L.take k := ⟨_, rfl⟩
  rw [← hmm] at HS H2 hk hl ⊢
  rw [← hzz] at HU hm ⊢
  rw [← hTT] at HT e ⊢
  have HE := Lib.hid e
  have HZ := Lib.hid hzz
  clear h hu hT hmm hzz hTT e
  by_cases h0 : z = 0
  · subst h0
    have hM : M = [] := List.eq_nil_of_length_eq_zero HZ.out.symm
    subst hM
    go_enter Try.func66, Try.ntmps66
    go_wp2_with (at_builtin; refine wp_app_own rfl (.tmp 17) (.tmp 18) rfl rfl _ _ [] T rfl (ownE_nil _ _) _ rfl (HT.out.below H2.out.2.2.2) (by have := HE.out; simp; omega) (Nat.le_refl _) ?_)
    intro v w1 ho hb1
    obtain ⟨a1, a2, a3, a4⟩ := H2.out
    obtain ⟨wA, hwA⟩ : ∃ wA, wA = (w.alloc (.cells #[it base, it bt, .slice a m cap] 24)).alloc (.cells #[it 0, it 0, .slice none 0 0] 24) := ⟨_, rfl⟩
    rw [← hwA] at a1 a2 a3 a4 hb1
    have hb1 : Below wA.heap.size wA w1 := by rw [a3]; exact hb1
    have ho : OwnE w1 wA.heap.size v T := by rw [a3]; exact ho
    obtain ⟨va, vc, rfl, _⟩ := ho.rd.shape
    have HO := Lib.hid ho
    have HA := Lib.hid a3
    have HB := Lib.hid (a4.trans (hb1.mono a4.size))
    have HC1 := Lib.hid (a1.below hb1)
    have HC2 := Lib.hid (a2.below hb1)
    obtain ⟨c0, c1, c2⟩ := c3 HC1.out
    obtain ⟨f0, f1, f2⟩ := f3 HC1.out
    obtain ⟨d0, d1, d2⟩ := c3 HC2.out
    obtain ⟨g0, g1, g2⟩ := f3 HC2.out
    clear ho hb1 a1 a2 a3 a4 hwA
    go_wp2
    refine bodyPost_ret (resL rfl rfl (set3_ce (HC2.out.other (by omega) _ (i := 2)) _ _ _)) rfl ?_
    refine ⟨_, rfl, ?_, set3_below (HB.out.setCell (p := ⟨w.heap.size, 2, none⟩) (Nat.le_refl _) _) (Nat.le_succ _) _ _ _⟩
    rw [List.append_nil]
    exact ((HO.out.set (by have := HA.out; omega) _).set3 (by have := HA.out; omega) _ _ _).weak (by have := HA.out; omega)
  · have q : ((z : Int) == 0) = false := by simp; omega
    have hM : M ≠ [] := by intro e; subst e; exact h0 HZ.out
    have HZ' := HZ.out
    go_enter Try.func66, Try.ntmps66
    go_wp2_with (at_builtin; refine wp_app_full rfl (.tmp 17) (.tmp 18) rfl rfl T M a (by rw [HE.out]; rfl) (by have := HT.out.below H2.out.2.2.2; rw [← HE.out] at this; exact this) _ rfl (HU.out.below H2.out.2.2.2) hM (by have := HE.out; omega) ?_)
    intro v w1 ho hb1
    obtain ⟨a1, a2, a3, a4⟩ := H2.out
    obtain ⟨wA, hwA⟩ : ∃ wA, wA = (w.alloc (.cells #[it base, it bt, .slice a m cap] 24)).alloc (.cells #[it 0, it 0, .slice none 0 0] 24) := ⟨_, rfl⟩
    rw [← hwA] at a1 a2 a3 a4 hb1
    have hb1 : Below wA.heap.size wA w1 := by rw [a3]; exact hb1
    have ho : OwnE w1 wA.heap.size v (T ++ M) := by rw [a3]; exact ho
    obtain ⟨va, vc, rfl, _⟩ := ho.rd.shape
    have HO := Lib.hid ho
    rw [List.length_append] at HO
    rw [List.length_append]
    have HA := Lib.hid a3
    have HB := Lib.hid (a4.trans (hb1.mono a4.size))
    have HC1 := Lib.hid (a1.below hb1)
    have HC2 := Lib.hid (a2.below hb1)
    obtain ⟨c0, c1, c2⟩ := c3 HC1.out
    obtain ⟨f0, f1, f2⟩ := f3 HC1.out
    obtain ⟨d0, d1, d2⟩ := c3 HC2.out
    obtain ⟨g0, g1, g2⟩ := f3 HC2.out
    clear ho hb1 a1 a2 a3 a4 hwA
    go_wp2
    refine bodyPost_ret (resL rfl rfl (set3_ce (HC2.out.other (by omega) _ (i := 2)) _ _ _)) rfl ?_
    refine ⟨_, rfl, ?_, set3_below (HB.out.setCell (p := ⟨w.heap.size, 2, none⟩) (Nat.le_refl _) _) (Nat.le_succ _) _ _ _⟩
    exact ((HO.out.set (by have := HA.out; omega) _).set3 (by have := HA.out; omega) _ _ _).weak (by have := HA.out; omega)
end
end Go.Proofs.Ytopnmiakljpgbaa
