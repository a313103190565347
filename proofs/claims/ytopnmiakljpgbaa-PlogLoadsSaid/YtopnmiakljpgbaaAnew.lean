/-
  A full record.
-/
import Derived.Test.YtopnmiakljpgbaaSteps
namespace Go.Proofs.Ytopnmiakljpgbaa
open Go.RowKit
theorem NumR.nn {v : Int} {s : Option Bs} (h : NumR none v s) : s = none := h
theorem BytR.nn {k : Int} {b : Bs} {s : Option Bs} (h : BytR none k b s) : s = none := h.2
theorem NumR.ge {s : Option Bs} {v : Int} {s' : Option Bs} (h : NumR s v s') : s' ≠ none → 0 ≤ v := by
  intro hs
  cases s' with
  | none => exact absurd rfl hs
  | some r => obtain ⟨q, _, hn⟩ := h.yes; exact (num1_ge hn).1
theorem stW_chain {r0 : Bs} {v1 v2 v3 v4 v5 v7 : Int} {s1 s2 s3 s4 s5 s6 s7 s8 : Option Bs} {d sn : Bs} (N1 : NumR (some r0) v1 s1) (N2 : NumR s1 v2 s2) (N3 : NumR s2 v3 s3) (N4 : NumR s3 v4 s4) (N5 : NumR s4 v5 s5)
    (B6 : BytR s5 v5 d s6) (N7 : NumR s6 v7 s7) (B8 : BytR s7 v7 sn s8) : stW r0 = if lftV s8 = 0 ∧ lok d = true ∧ sn.length ≤ 50000 then some ⟨v1, v2, vot d, ⟨sn.toArray⟩, v3, v4, []⟩ else none := by
  have hno : s8 = none → (if lftV s8 = 0 ∧ lok d = true ∧ sn.length ≤ 50000 then some (⟨v1, v2, vot d, ⟨sn.toArray⟩, v3, v4, []⟩ : Hs) else none) = none := by
    rintro rfl
    rw [if_neg]
    rintro ⟨h, _⟩
    cases h
  unfold stW
  cases s1 with
  | none =>
    obtain rfl := N2.nn; obtain rfl := N3.nn; obtain rfl := N4.nn; obtain rfl := N5.nn; obtain rfl := B6.nn; obtain rfl := N7.nn; obtain rfl := B8.nn
    rw [hno rfl, N1.no]; rfl
  | some q1 =>
  obtain ⟨_, hq, h1⟩ := N1.yes
  cases hq
  simp only [h1, Option.bind_some]
  cases s2 with
  | none =>
    obtain rfl := N3.nn; obtain rfl := N4.nn; obtain rfl := N5.nn; obtain rfl := B6.nn; obtain rfl := N7.nn; obtain rfl := B8.nn
    rw [hno rfl, N2.no]; rfl
  | some q2 =>
  obtain ⟨_, hq, h2⟩ := N2.yes
  cases hq
  simp only [h2, Option.bind_some]
  cases s3 with
  | none =>
    obtain rfl := N4.nn; obtain rfl := N5.nn; obtain rfl := B6.nn; obtain rfl := N7.nn; obtain rfl := B8.nn
    rw [hno rfl, N3.no]; rfl
  | some q3 =>
  obtain ⟨_, hq, h3⟩ := N3.yes
  cases hq
  simp only [h3, Option.bind_some]
  cases s4 with
  | none =>
    obtain rfl := N5.nn; obtain rfl := B6.nn; obtain rfl := N7.nn; obtain rfl := B8.nn
    rw [hno rfl, N4.no]; rfl
  | some q4 =>
  obtain ⟨_, hq, h4⟩ := N4.yes
  cases hq
  simp only [h4, Option.bind_some]
  cases s5 with
  | none =>
    obtain rfl := B6.nn; obtain rfl := N7.nn; obtain rfl := B8.nn
    rw [hno rfl, N5.no]; rfl
  | some q5 =>
  obtain ⟨_, hq, h5⟩ := N5.yes
  cases hq
  simp only [h5, Option.bind_some]
  cases s6 with
  | none =>
    obtain rfl := N7.nn; obtain rfl := B8.nn
    rw [hno rfl, B6.no]; rfl
  | some q6 =>
  obtain ⟨_, hq, h6⟩ := B6.yes
  cases hq
  simp only [h6, Option.bind_some]
  cases s7 with
  | none =>
    obtain rfl := B8.nn
    rw [hno rfl, N7.no]; rfl
  | some q7 =>
  obtain ⟨_, hq, h7⟩ := N7.yes
  cases hq
  simp only [h7, Option.bind_some]
  cases s8 with
  | none => rw [hno rfl, B8.no]; rfl
  | some q8 =>
  obtain ⟨_, hq, h8⟩ := B8.yes
  cases hq
  simp only [h8, Option.bind_some]
  by_cases h : q8 = []
  · rw [(lft_zero q8).2 h, h]; simp
  · have : ¬ lftV (some q8) = 0 := fun h' => h ((lft_zero q8).1 h')
    simp [h, this]
theorem set_c45 {w : World} {n : Nat} {T : TypeId} {v0 v1 v2 v3 v4 v5 v6 : Value} (h : Ce w n T #[v0, v1, v2, v3, v4, v5, v6]) (x y : Value) : Ce ((w.setCell ⟨n, 4, none⟩ x).setCell ⟨n, 5, none⟩ y) n T #[v0, v1, v2, v3, x, y, v6] := (h.set x (i := 4)).set y (i := 5)
theorem set_c01 {w : World} {n : Nat} {T : TypeId} {v0 v1 v2 v3 v4 v5 v6 : Value} (h : Ce w n T #[v0, v1, v2, v3, v4, v5, v6]) (x y : Value) : Ce ((w.setCell ⟨n, 0, none⟩ x).setCell ⟨n, 1, none⟩ y) n T #[x, y, v2, v3, v4, v5, v6] := (h.set x (i := 0)).set y (i := 1)
set_option maxRecDepth 100000 in
set_option maxHeartbeats 12800000 in
theorem anew_any {w : World} {H : Nat} {S : Hs} (h : HvI w H S) (c : UInt8) (r : Bs) (hr : r.length ≤ 1000000) :
    Calls Try.prog 70 #[ptr H, str (c :: r)] w fun e w' => ∃ b S', e = .returned (.bool b) ∧ HvI w' H S' ∧ Below H w w' ∧ stW r = if b = true then some S' else none := by
  obtain ⟨vs, es, hc, hv, he⟩ := h
  obtain ⟨xa, xc, rfl, _⟩ := hv.shape
  obtain ⟨ya, yc, rfl, _⟩ := he.rd.shape
  have HH := Lib.hid hc.lt
  have RD := Lib.hid (reader_any c r hr w)
  obtain ⟨RS, hRS⟩ : ∃ RS : Value, RS = str (c :: r) := ⟨_, rfl⟩
  rw [← hRS] at RD ⊢
  clear hv he hRS
  obtain ⟨t, vo, V, sn, ba, bt, L⟩ := S
  dsimp only at *
  generalize (ivs V).length = lv1 at *
  generalize L.length = le1 at *
  have HC := Lib.hid hc
  clear hc
  go_enter Try.func70, Try.ntmps70
  go_wp2_with fail
  refine RD.out.mono ?_
  obtain ⟨n, hn⟩ : ∃ n, n = w.heap.size := ⟨_, rfl⟩
  have HN := Lib.hid hn
  rw [← hn]
  clear hn
  have HHn : Hid (H < n) := Lib.hid (by rw [HN.out]; exact HH.out)
  rintro e w1 ⟨rfl, hr1, hb1⟩
  have HC1 := Lib.hid (HC.out.below (by rw [← HN.out]; exact hb1))
  have HR1 := Lib.hid hr1
  have HB1 := Lib.hid (hb1.mono (Nat.le_of_lt HHn.out))
  clear hr1 hb1
  obtain ⟨c0, c1, c2, c3', c4, c5, c6⟩ := c7 HC1.out
  obtain ⟨f2, f3', f4, f5, f6⟩ := f7 HC1.out
  obtain ⟨f0, f1⟩ := f7a HC1.out
  go_upto_region 3 with fail
  generalize hw2 : World.setCell (World.setCell (World.setCell (World.setCell (World.setCell (World.setCell (World.setCell w1 _ _) _ _) _ _) _ _) _ _) _ _) _ _ = w2
  have HC2 : Hid (Ce w2 H 42 #[it 0, it 0, .slice none 0 0, .string ⟨#[]⟩, it 0, it 0, .slice none 0 0]) := Lib.hid (by rw [← hw2]; exact set7_ce HC1.out _ _ _ _ _ _ _)
  have HR2 : Hid (Rr w2 n (some r)) := Lib.hid (by rw [← hw2]; exact ((((((HR1.out.set HHn.out _).set HHn.out _).set HHn.out _).set HHn.out _).set HHn.out _).set HHn.out _).set HHn.out _)
  have HB2 : Hid (Below H w w2) := Lib.hid (by
    rw [← hw2]
    exact ((((((HB1.out.setCell (p := ⟨H, 0, none⟩) (Nat.le_refl _) _).setCell (p := ⟨H, 1, none⟩) (Nat.le_refl _) _).setCell (p := ⟨H, 2, none⟩) (Nat.le_refl _) _).setCell (p := ⟨H, 3, none⟩) (Nat.le_refl _) _).setCell (p := ⟨H, 4, none⟩) (Nat.le_refl _) _).setCell (p := ⟨H, 5, none⟩) (Nat.le_refl _) _).setCell (p := ⟨H, 6, none⟩) (Nat.le_refl _) _)
  clear hw2 c0 c1 c2 c3' c4 c5 c6 f0 f1 f2 f3' f4 f5 f6 HC1 HR1 HB1
  have HCL := Lib.hid (fun (wa wb : World) (cs : Array Value) (h : Ce wa H 42 cs) (hb : Below n wa wb) => (show Ce wb H 42 cs from (hb.block H HHn.out).trans h))
  go_wp2_with fail
  refine (rnumber_any HR2.out).mono ?_
  rintro e w3 ⟨v1, s1, rfl, hr', hb, hn1⟩
  have HR3 := Lib.hid hr'
  have HC3 := Lib.hid (HCL.out _ _ _ HC2.out hb)
  have HB3 := Lib.hid (HB2.out.trans (hb.mono (Nat.le_of_lt HHn.out)))
  have HN1 := Lib.hid hn1
  clear hr' hb hn1 HR2 HC2 HB2
  go_wp2_with fail
  refine (rnumber_any HR3.out).mono ?_
  rintro e w4 ⟨v2, s2, rfl, hr', hb, hn1⟩
  have HR4 := Lib.hid hr'
  have HC4 := Lib.hid (HCL.out _ _ _ HC3.out hb)
  have HB4 := Lib.hid (HB3.out.trans (hb.mono (Nat.le_of_lt HHn.out)))
  have HN2 := Lib.hid hn1
  clear hr' hb hn1 HR3 HC3 HB3
  obtain ⟨c0, c1, c2, c3', c4, c5, c6⟩ := c7 HC4.out
  obtain ⟨f0, f1⟩ := f7a HC4.out
  go_upto_region 4 with fail
  generalize hw5 : World.setCell (World.setCell w4 _ _) _ _ = w5
  have HC5 : Hid (Ce w5 H 42 #[it v1, it v2, .slice none 0 0, .string ⟨#[]⟩, it 0, it 0, .slice none 0 0]) := Lib.hid (by rw [← hw5]; exact set_c01 HC4.out _ _)
  have HR5 : Hid (Rr w5 n s2) := Lib.hid (by rw [← hw5]; exact (HR4.out.set HHn.out _).set HHn.out _)
  have HB5 : Hid (Below H w w5) := Lib.hid (by rw [← hw5]; exact (HB4.out.setCell (p := ⟨H, 0, none⟩) (Nat.le_refl _) _).setCell (p := ⟨H, 1, none⟩) (Nat.le_refl _) _)
  clear hw5 c0 c1 c2 c3' c4 c5 c6 f0 f1 HC4 HR4 HB4
  go_wp2_with fail
  refine (rnumber_any HR5.out).mono ?_
  rintro e w6 ⟨v3, s3, rfl, hr', hb, hn1⟩
  have HR6 := Lib.hid hr'
  have HC6 := Lib.hid (HCL.out _ _ _ HC5.out hb)
  have HB6 := Lib.hid (HB5.out.trans (hb.mono (Nat.le_of_lt HHn.out)))
  have HN3 := Lib.hid hn1
  clear hr' hb hn1 HR5 HC5 HB5
  go_wp2_with fail
  refine (rnumber_any HR6.out).mono ?_
  rintro e w7 ⟨v4, s4, rfl, hr', hb, hn1⟩
  have HR7 := Lib.hid hr'
  have HC7 := Lib.hid (HCL.out _ _ _ HC6.out hb)
  have HB7 := Lib.hid (HB6.out.trans (hb.mono (Nat.le_of_lt HHn.out)))
  have HN4 := Lib.hid hn1
  clear hr' hb hn1 HR6 HC6 HB6
  obtain ⟨c0, c1, c2, c3', c4, c5, c6⟩ := c7 HC7.out
  obtain ⟨f2, f3', f4, f5, f6⟩ := f7 HC7.out
  go_upto_region 5 with fail
  generalize hw8 : World.setCell (World.setCell w7 _ _) _ _ = w8
  have HC8 : Hid (Ce w8 H 42 #[it v1, it v2, .slice none 0 0, .string ⟨#[]⟩, it v3, it v4, .slice none 0 0]) := Lib.hid (by rw [← hw8]; exact set_c45 HC7.out _ _)
  have HR8 : Hid (Rr w8 n s4) := Lib.hid (by rw [← hw8]; exact (HR7.out.set HHn.out _).set HHn.out _)
  have HB8 : Hid (Below H w w8) := Lib.hid (by rw [← hw8]; exact (HB7.out.setCell (p := ⟨H, 4, none⟩) (Nat.le_refl _) _).setCell (p := ⟨H, 5, none⟩) (Nat.le_refl _) _)
  clear hw8 c0 c1 c2 c3' c4 c5 c6 f2 f3' f4 f5 f6 HC7 HR7 HB7
  go_wp2_with fail
  refine (rnumber_any HR8.out).mono ?_
  rintro e w9 ⟨v5, s5, rfl, hr', hb, hn1⟩
  have HR9 := Lib.hid hr'
  have HC9 := Lib.hid (HCL.out _ _ _ HC8.out hb)
  have HB9 := Lib.hid (HB8.out.trans (hb.mono (Nat.le_of_lt HHn.out)))
  have HN5 := Lib.hid hn1
  clear hr' hb hn1 HR8 HC8 HB8
  go_wp2_with fail
  refine (bytes_any HR9.out v5 HN5.out.ge).mono ?_
  rintro e w10 ⟨d, s6, rfl, hr', hb, hdl, hn1⟩
  have HR10 := Lib.hid hr'
  have HC10 := Lib.hid (HCL.out _ _ _ HC9.out hb)
  have HB10 := Lib.hid (HB9.out.trans (hb.mono (Nat.le_of_lt HHn.out)))
  have HN6 := Lib.hid hn1
  have HDL := Lib.hid hdl
  clear hr' hb hn1 hdl HR9 HC9 HB9
  obtain ⟨D, hD⟩ : ∃ D : ByteArray, D = ⟨d.toArray⟩ := ⟨_, rfl⟩
  have HDD := Lib.hid hD
  unfold str
  rw [← hD]
  clear hD
  go_wp2_with fail
  refine (rnumber_any HR10.out).mono ?_
  rintro e w11 ⟨v7, s7, rfl, hr', hb, hn1⟩
  have HR11 := Lib.hid hr'
  have HC11 := Lib.hid (HCL.out _ _ _ HC10.out hb)
  have HB11 := Lib.hid (HB10.out.trans (hb.mono (Nat.le_of_lt HHn.out)))
  have HN7 := Lib.hid hn1
  clear hr' hb hn1 HR10 HC10 HB10
  go_wp2_with fail
  refine (bytes_any HR11.out v7 HN7.out.ge).mono ?_
  rintro e w12 ⟨sx, s8, rfl, hr', hb, hsl, hn1⟩
  have HR12 := Lib.hid hr'
  have HC12 := Lib.hid (HCL.out _ _ _ HC11.out hb)
  have HB12 := Lib.hid (HB11.out.trans (hb.mono (Nat.le_of_lt HHn.out)))
  have HN8 := Lib.hid hn1
  clear hr' hb hn1 hsl HR11 HC11 HB11
  obtain ⟨SX, hSX⟩ : ∃ D : ByteArray, D = ⟨sx.toArray⟩ := ⟨_, rfl⟩
  have HSX := Lib.hid hSX
  unfold str
  rw [← hSX]
  clear hSX
  obtain ⟨c0, c1, c2, c3', c4, c5, c6⟩ := c7 HC12.out
  obtain ⟨f2, f3', f4, f5, f6⟩ := f7 HC12.out
  go_upto_region 7 with fail
  generalize hw13 : World.setCell w12 _ _ = w13
  have HC13 : Hid (Ce w13 H 42 #[it v1, it v2, .slice none 0 0, .string SX, it v3, it v4, .slice none 0 0]) := Lib.hid (by rw [← hw13]; exact set_c3 HC12.out _)
  have HR13 : Hid (Rr w13 n s8) := Lib.hid (by rw [← hw13]; exact HR12.out.set HHn.out _)
  have HB13 : Hid (Below H w w13) := Lib.hid (by rw [← hw13]; exact HB12.out.setCell (p := ⟨H, 3, none⟩) (Nat.le_refl _) _)
  clear hw13 c0 c1 c2 c3' c4 c5 c6 f2 f3' f4 f5 f6 HC12 HR12 HB12
  go_wp2_with fail
  refine (list_any D (by rw [HDD.out, ba_len']; exact HDL.out) w13).mono ?_
  rintro e w14 ⟨va, rfl, ho, hb⟩
  obtain ⟨la, lc, rfl, _⟩ := ho.shape
  have HR14 := Lib.hid (HR13.out.below hb)
  have HC14 := Lib.hid (HC13.out.below hb)
  have HB14 := Lib.hid (HB13.out.trans (hb.mono (Nat.le_of_lt HC13.out.lt)))
  have hdd : D.data.toList = d := by rw [HDD.out]
  rw [hdd] at ho ⊢
  have HO14 := Lib.hid (ho.weak (base' := H + 1) HC13.out.lt)
  generalize (ivs (lst d)).length = ln at *
  obtain ⟨li, hli⟩ : ∃ li, li = lsk d := ⟨_, rfl⟩
  have HLI := Lib.hid hli
  rw [← hli]
  clear ho hb hdd hli HC13 HR13 HB13
  obtain ⟨c0, c1, c2, c3', c4, c5, c6⟩ := c7 HC14.out
  obtain ⟨f2, f3', f4, f5, f6⟩ := f7 HC14.out
  go_upto_region 9 with fail
  generalize hw15 : World.setCell w14 _ _ = w15
  have HC15 : Hid (Ce w15 H 42 #[it v1, it v2, .slice la ln lc, .string SX, it v3, it v4, .slice none 0 0]) := Lib.hid (by rw [← hw15]; exact set_c2 HC14.out _)
  have HR15 : Hid (Rr w15 n s8) := Lib.hid (by rw [← hw15]; exact HR14.out.set HHn.out _)
  have HB15 : Hid (Below H w w15) := Lib.hid (by rw [← hw15]; exact HB14.out.setCell (p := ⟨H, 2, none⟩) (Nat.le_refl _) _)
  have HO15 : Hid (OwnV w15 (H + 1) 3 (.slice la ln lc) (ivs (lst d))) := Lib.hid (by rw [← hw15]; exact HO14.out.set (Nat.lt_succ_self _) _)
  clear hw15 c0 c1 c2 c3' c4 c5 c6 f2 f3' f4 f5 f6 HC14 HR14 HB14 HO14
  have HF := Lib.hid (stW_chain HN1.out HN2.out HN3.out HN4.out HN5.out HN6.out HN7.out HN8.out)
  obtain ⟨c0, c1, c2, c3', c4, c5, c6⟩ := c7 HC15.out
  go_wp2_with fail
  refine (left_any HR15.out).mono ?_
  rintro e w16 ⟨rfl, rfl⟩
  have HIN : Hid (HvI w15 H ⟨v1, v2, lst d, SX, v3, v4, []⟩) := Lib.hid ⟨_, _, HC15.out, HO15.out, ownE_nil _ _⟩
  have HG : Hid (∀ b : Bool, b = decide (lftV s8 = 0 ∧ lok d = true ∧ SX.size ≤ 50000) → stW r = if b = true then some ⟨v1, v2, lst d, SX, v3, v4, []⟩ else none) := Lib.hid (fun b hb => by
    have hsz : SX.size = sx.length := by rw [HSX.out, ba_len']
    rw [HF.out, hb, hsz, HSX.out]
    by_cases h : lftV s8 = 0 ∧ lok d = true ∧ sx.length ≤ 50000
    · rw [if_pos h, if_pos (decide_eq_true h), show lst d = vot d from if_pos h.2.1]
    · rw [if_neg h, if_neg (by simpa using h)])
  have HLK : Hid (lok d = true ↔ (li = true ∨ D.size = 0)) := Lib.hid (by
    rw [HLI.out, HDD.out, ba_len']
    unfold lsk
    cases d with
    | nil => simp [lok]
    | cons x q => simp)
  clear HF
  obtain ⟨lf, hlf⟩ : ∃ lf, lf = lftV s8 := ⟨_, rfl⟩
  rw [← hlf] at HG ⊢
  clear hlf
  by_cases hl : lf = 0
  · have q1 : (lf == 0) = true := by simpa using hl
    have HLF := Lib.hid hl
    clear hl
    by_cases hs : SX.size ≤ 50000
    · have q2 : (SX.size : Int) ≤ 50000 := by omega
      have q2' : SX.size ≤ 50000 := hs
      cases li with
      | true =>
        go_wp2
        all_goals
          go_ret
          exact ⟨_, _, rfl, HIN.out, HB15.out, HG.out _ (by simp [HLF.out, HLK.out, q2'])⟩
      | false =>
        by_cases hd : D.size = 0
        · have HDZ := Lib.hid hd
          have q3 : D = ⟨#[]⟩ := by
            apply ByteArray.ext
            exact Array.eq_empty_of_size_eq_zero hd
          have HD0 := Lib.hid q3
          clear hd
          subst q3
          go_wp2
          all_goals
            go_ret
            exact ⟨_, _, rfl, HIN.out, HB15.out, HG.out _ (by simp [HLF.out, HLK.out, q2', HDZ.out])⟩
        · have q3 : D.toList ≠ [] := fun h => hd (by
            rw [ByteArray.toList_eq] at h
            rw [size_list, h]; rfl)
          have q4 : D.toList.isEmpty = false := by
            cases h : D.toList with
            | nil => exact absurd h q3
            | cons a b => rfl
          have q6 : (D.toList == []) = false := by simpa using q3
          have HDZ := Lib.hid hd
          clear hd
          go_wp2
          all_goals
            go_ret
            exact ⟨_, _, rfl, HIN.out, HB15.out, HG.out _ (by simp [HLF.out, HLK.out, HDZ.out])⟩
    · have q2 : decide ((SX.size : Int) ≤ 50000) = false := decide_eq_false (by omega)
      have q2' : decide (SX.size ≤ 50000) = false := decide_eq_false hs
      cases li with
      | true =>
        go_wp2
        all_goals
          go_ret
          exact ⟨_, _, rfl, HIN.out, HB15.out, HG.out _ (by simp [hs])⟩
      | false =>
        by_cases hd : D.size = 0
        · have q3 : D = ⟨#[]⟩ := by
            apply ByteArray.ext
            exact Array.eq_empty_of_size_eq_zero hd
          clear hd
          subst q3
          go_wp2
          all_goals
            go_ret
            exact ⟨_, _, rfl, HIN.out, HB15.out, HG.out _ (by simp [hs])⟩
        · have q3 : D.toList ≠ [] := fun h => hd (by
            rw [ByteArray.toList_eq] at h
            rw [size_list, h]; rfl)
          have q4 : D.toList.isEmpty = false := by
            cases h : D.toList with
            | nil => exact absurd h q3
            | cons a b => rfl
          have q6 : (D.toList == []) = false := by simpa using q3
          clear hd
          go_wp2
          all_goals
            go_ret
            exact ⟨_, _, rfl, HIN.out, HB15.out, HG.out _ (by simp [hs])⟩
  · have q1 : (lf == 0) = false := by simpa using hl
    have HLF := Lib.hid hl
    clear hl
    go_wp2
    all_goals
      go_ret
      exact ⟨_, _, rfl, HIN.out, HB15.out, HG.out _ (by simp [HLF.out])⟩
end Go.Proofs.Ytopnmiakljpgbaa
