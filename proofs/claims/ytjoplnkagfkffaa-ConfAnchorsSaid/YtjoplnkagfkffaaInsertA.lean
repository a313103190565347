/-
  An anchor is put among others.
-/
import Derived.Test.YtjoplnkagfkffaaCmpA
namespace Go.Proofs.Ytjoplnkagfkffaa
open Go.RowKit
set_option maxRecDepth 100000 in
set_option maxHeartbeats 6400000 in
theorem binA_any {w : World} {a : Option Addr} {n cap : Nat} {L : List An} (h : RdX elA w (.slice a n cap) L) (hl : L.length ≤ 1000) (t : An) (g : FuncId) (cf : An → Int) (i0 : Nat) (hi0 : i0 ≤ n)
    (hN : ∀ args w, (callFunc g args).run Try.prog w = .ok (.enter g args) w)
    (hc : ∀ W, ∀ x ∈ L, Below w.heap.size w W → Calls Try.prog g #[x.v, t.v] W fun e W' => e = .returned (it (cf x)) ∧ Below W.heap.size W W')
    (h1 : ∀ j x, L[j]? = some x → j < i0 → cf x < 0) (h2 : ∀ j x, L[j]? = some x → i0 ≤ j → 0 ≤ cf x) :
    Calls Try.prog 69 #[.slice a n cap, t.v, .func (.func g) #[] #[]] w fun e w' => ∃ b, e = .returned (.tuple #[it (i0 : Int), .bool b]) ∧ Below w.heap.size w w' := by
  have hn := h.len
  have HR := Lib.hid h
  have HN := Lib.hid hn
  have HC := Lib.hid hc
  have H1 := Lib.hid h1
  have H2 := Lib.hid h2
  have hl' : n ≤ 1000 := by omega
  clear h hl hn hc h1 h2
  have hT := Ce.new w 43 #[.string t.name, .string t.text]
  have hbw := one_new w (.cells #[.string t.name, .string t.text] 43)
  obtain ⟨tb, htb⟩ : ∃ tb, tb = w.heap.size := ⟨_, rfl⟩
  go_enter Try.func69, Try.ntmps69
  go_upto_region 1 with fail
  generalize w.alloc _ = wA at *
  rw [← htb] at hT ⊢
  have HT := Lib.hid hT
  have HBW := Lib.hid hbw
  clear hT hbw htb
  go_upto_region 3 with fail
  go_loopw [9, 10] (fun i j wr => ∃ p q : Nat, p ≤ i0 ∧ i0 ≤ q ∧ q ≤ n ∧ i = it (p : Int) ∧ j = it (q : Int) ∧ Below wA.heap.size wA wr) (fun i j _ => (intOf j).toNat - (intOf i).toNat)
  case atStart => exact ⟨0, n, Nat.zero_le _, hi0, Nat.le_refl _, rfl, rfl, Below.refl _ _⟩
  case round =>
    obtain ⟨p, q, hp, hq, hqn, rfl, rfl, hb⟩ := hrel
    have HB := Lib.hid hb
    have HBY := Lib.hid (HBW.out.trans (hb.mono HBW.out.size))
    obtain ⟨d0, d1⟩ := c2 (HT.out.below hb)
    by_cases hlt : p < q
    · have q1 : (p : Int) < (q : Int) := by omega
      obtain ⟨m, hm⟩ : ∃ m, m = (p + q) / 2 := ⟨_, rfl⟩
      have e1 : wrap64 ((p : Int) + (q : Int)) = (p : Int) + (q : Int) := by unfold wrap64; omega
      have e2 : IntKind.u64.wrap ((p : Int) + (q : Int)) = (p : Int) + (q : Int) := by unfold IntKind.wrap; simp only [IntKind.bits, IntKind.signed]; simp; omega
      have e3 : ((p : Int) + (q : Int)) / 2 = (m : Int) := by omega
      have e4 : IntKind.i64.wrap (m : Int) = (m : Int) := by unfold IntKind.wrap; simp only [IntKind.bits, IntKind.signed]; simp; omega
      have hm1 : p ≤ m := by omega
      have hm2 : m < q := by omega
      clear hm
      go_upto_region 5 with fail
      obtain ⟨x, hx⟩ : ∃ x, L[m]? = some x := ⟨_, List.getElem?_eq_getElem (by rw [← HN.out]; omega)⟩
      obtain ⟨b, o, rfl, hg, c0, c1⟩ := at2 HR.out rfl hx rfl
      have c0 := (HBY.out.cell (p := ⟨b, o + m * 2, none⟩) hg).trans c0
      have c1 := (HBY.out.cell (p := ⟨b, o + m * 2 + 1, none⟩) hg).trans c1
      have HCX := Lib.hid (HC.out wr.drew x (List.mem_of_getElem? hx) HBY.out.drew)
      have q2 : (0 : Int) ≤ (m : Int) := by omega
      have q3 : (m : Int) < (n : Int) := by omega
      have HX := Lib.hid hx
      clear hx hb
      go_still_tail 6, (by kernel_rfl)
      change wpList _ _ _ _ _ wr.drew
      go_wp2_with fail
      refine HCX.out.mono ?_
      rintro e w2 ⟨rfl, hb2⟩
      have HB2 : Hid (Below wA.heap.size wA w2) := Lib.hid (HB.out.drew.trans (hb2.mono (show wA.heap.size ≤ wr.drew.heap.size from HB.out.size)))
      clear hb2
      by_cases hneg : cf x < 0
      · have hmi : m + 1 ≤ i0 := by
          rcases Nat.lt_or_ge m i0 with h | h
          · exact h
          · have := H2.out m x HX.out h; omega
        go_wp2
        go_roundw
        case rel => exact ⟨m + 1, q, hmi, hq, hqn, by go_num, rfl, HB2.out⟩
        case measure => simp [intOf]; omega
      · have hmi : i0 ≤ m := by
          rcases Nat.lt_or_ge m i0 with h | h
          · have := H1.out m x HX.out h; omega
          · exact h
        have q4 : decide (cf x < 0) = false := decide_eq_false hneg
        go_wp2
        go_roundw
        case rel => exact ⟨p, m, hp, hmi, by omega, rfl, rfl, HB2.out⟩
        case measure => simp [intOf]; omega
    · have q1 : decide ((p : Int) < (q : Int)) = false := decide_eq_false (by omega)
      obtain rfl : p = i0 := by omega
      obtain rfl : q = p := by omega
      by_cases hqn2 : q < n
      · have q3 : (q : Int) < (n : Int) := by omega
        have q3' : decide ((q : Int) < (n : Int)) = true := decide_eq_true q3
        obtain ⟨x, hx⟩ : ∃ x, L[q]? = some x := ⟨_, List.getElem?_eq_getElem (by rw [← HN.out]; omega)⟩
        obtain ⟨b, o, rfl, hg, c0, c1⟩ := at2 HR.out rfl hx rfl
        have c0 := (HBY.out.cell (p := ⟨b, o + q * 2, none⟩) hg).trans c0
        have c1 := (HBY.out.cell (p := ⟨b, o + q * 2 + 1, none⟩) hg).trans c1
        have HCX := Lib.hid (HC.out wr.drew x (List.mem_of_getElem? hx) HBY.out.drew)
        clear hx hb
        have HK := Lib.hid (fun w' (hb : Below wr.heap.size wr w') => And.intro (c2 (HT.out.below (HB.out.trans (hb.mono HB.out.size)))) (And.intro ((hb.cell (p := ⟨b, o + q * 2, none⟩) (Nat.lt_of_lt_of_le hg HBY.out.size)).trans c0) ((hb.cell (p := ⟨b, o + q * 2 + 1, none⟩) (Nat.lt_of_lt_of_le hg HBY.out.size)).trans c1)))
        have H0 : Hid (Below wr.heap.size wr wr.drew) := Lib.hid (Below.refl _ wr).drew
        go_upto_region 8 with fail
        go_region_held3 (fun w' => (w'.cell? ⟨tb, 0, none⟩ = some (.string t.name) ∧ w'.cell? ⟨tb, 1, none⟩ = some (.string t.text)) ∧ w'.cell? ⟨b, o + q * 2, none⟩ = some (.string x.name) ∧ w'.cell? ⟨b, o + q * 2 + 1, none⟩ = some (.string x.text))
          (first | with_reducible exact HK.out _ BA.out | with_reducible exact HK.out _ H0.out | fail)
          (first
            | (refine HCX.out.mono ?_; rintro e w2 ⟨rfl, hb2⟩; have HB2 : Hid (Below wA.heap.size wA w2) := Lib.hid (HB.out.drew.trans (hb2.mono (show wA.heap.size ≤ wr.drew.heap.size from HB.out.size))); have BA : Hid (Below wr.heap.size wr w2) := Lib.hid (H0.out.trans (hb2.mono H0.out.size)); clear hb2)
            | fail)
        go_wp2
        go_ret2
        exact ⟨_, rfl, HBW.out.trans (HB2.out.mono HBW.out.size)⟩
      · have q3 : decide ((q : Int) < (n : Int)) = false := decide_eq_false (by omega)
        have q3' : decide (q < n) = false := decide_eq_false hqn2
        clear hb
        go_upto_region 8 with fail
        go_quiet (fail)
        go_wp2
        go_ret2
        exact ⟨_, rfl, HBY.out.trans ((below_drewN' _ _).mono HBY.out.size)⟩
end Go.Proofs.Ytjoplnkagfkffaa
