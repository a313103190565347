/-
  An entry's record.
-/
import Derived.Test.YtopnmiakljpgbaaAnew
namespace Go.Proofs.Ytopnmiakljpgbaa
open Go.RowKit
/-- An entry appended to a list of one's own; all blocks but that list's stay. -/
theorem wp_app_ownK {ops : Array Oper} {rest : List Oper} {o : Oper} {a : Act} {w : World} {Q : Exit → Act → World → Prop} (hgd : o.guard = none) (s x : Operand)
    (ho : o.op = .call { callee := .builtin .append, args := #[s, x], argTypes := #[22, 22] }) (base : Nat) (v : Value) (L M : List En) (hs : a.eval s = v) (hown : OwnE w base v L)
    (u : Value) (hx : a.eval x = u) (hr : RdE w u M) (hM : M ≠ []) (hn : L.length + M.length ≤ 1000000) (hbase : base ≤ w.heap.size)
    (h : ∀ v' w', OwnE w' base v' (L ++ M) → Below base w w' → w.grownBy w' v.ownBlock → wpList Try.prog ops Q rest (a.put o.dst v') w') : wpList Try.prog ops Q (o :: rest) a w := by
  obtain ⟨i0, hi, hz0, hz1, hz2⟩ := info_parts info31
  obtain ⟨ad, cap, rfl, h1, h2, h3⟩ := hr
  rcases h3 with h3 | ⟨g, o2, rfl, hc⟩
  · exact absurd h3 hM
  have hcs := RdE.cells (w := w) (g := g) (k := o2) (n := M.length) (cap := cap) (L := M) ⟨_, cap, rfl, h1, h2, .inr ⟨g, o2, rfl, hc⟩⟩
  refine wpList_append_own_at _ hgd s x 22 ho base 31 i0 _ 3 32 Try.underlying22 hi hz0 hz1 hz2 rfl (by decide) v L.length _ hs hown ⟨g, o2, none⟩ M.length cap (ecs M) hx (ecs_length M) hcs (ecs_ones M) (by unfold maxLen; omega) (by omega) hbase ?_
  intro v' w' g1 g2 _ _
  refine h v' w' ?_ ?_ g2
  · unfold OwnE
    rw [List.length_append, ecs_append]
    exact g1
  · refine ⟨g2.os, g2.tape, g2.output, g2.size, fun i hi => g2.block i (by omega) ?_⟩
    intro e
    have := (World.ownsRow.lt hown i e.symm).1
    omega
theorem OwnV.grown {w w' : World} {base b2 : Nat} {vs v : Value} {xs : List Value} {L : List En} (h : OwnV w base 3 vs xs) (he : OwnE w b2 v L) (hg : w.grownBy w' v.ownBlock) : OwnV w' base 3 vs xs := by
  refine World.ownsRow.kept h hg ?_
  rcases h.2 with ⟨rfl, _⟩ | ⟨g, cap, cur, rfl, _, hgg, _⟩
  · exact .inl rfl
  · refine .inr fun e => ?_
    rcases he.2 with ⟨rfl, _⟩ | ⟨g', cap', cur', rfl, _, hgg', _⟩
    · simp [Value.ownBlock] at e
    · simp [Value.ownBlock] at e
      subst e
      rw [hgg] at hgg'
      injection hgg' with hgg'
      injection hgg' with _ h3 _
      exact absurd h3 (by decide)
theorem ecs_take (L : List En) (k : Nat) : ecs (L.take k) = (ecs L).take (k * 3) := by
  induction L generalizing k with
  | nil => simp [ecs]
  | cons e r ih =>
    cases k with
    | zero => simp [ecs]
    | succ k =>
      have := ih k
      have hlen : (ec e).length = 3 := rfl
      simp only [List.take_succ_cons]
      show ec e ++ ecs (r.take k) = (ec e ++ ecs r).take ((k + 1) * 3)
      rw [this, List.take_append, List.take_of_length_le (l := ec e) (by rw [hlen]; omega), hlen, show (k + 1) * 3 - 3 = k * 3 by omega]
theorem OwnE.take {w : World} {base : Nat} {a : Option Addr} {n cap : Nat} {L : List En} (h : OwnE w base (.slice a n cap) L) (k : Nat) (hk : k ≤ L.length) : OwnE w base (.slice a k cap) (L.take k) := by
  have hl : (L.take k).length = k := by rw [List.length_take]; omega
  refine ⟨by rw [ecs_length, hl], ?_⟩
  rw [hl]
  rcases h.2 with ⟨e, h0⟩ | ⟨g, cap', cur, e, hb, hg, h1, h2, h3, h4⟩
  · cases e
    exact .inl ⟨by congr 1; omega, by omega⟩
  · cases e
    refine .inr ⟨g, _, cur, rfl, hb, hg, by omega, h2, h3, ?_⟩
    rw [ecs_take, ← h4, List.take_take]
    congr 1
    omega
theorem bytR_all {q b : Bs} {s : Option Bs} (h : BytR (some q) (q.length : Int) b s) : b = q ∧ s = some [] := by
  unfold BytR byt1 at h
  simp at h
  exact h
theorem bytR_one {q b r : Bs} (h : BytR (some q) 1 b (some r)) : ∃ x, b = [x] ∧ q = x :: r := by
  obtain ⟨q', hq, h2⟩ := h.yes
  cases hq
  unfold byt1 at h2
  split at h2
  · rename_i h1
    cases q with
    | nil => simp at h1
    | cons x q =>
      simp at h2
      exact ⟨x, h2.1.symm, by rw [h2.2]⟩
  · cases h2
theorem stE_none {S : Hs} {r : Bs} {v1 v2 : Int} {kb : Bs} {s1 s2 : Option Bs} (N1 : NumR (some r) v1 s1) (N2 : NumR s1 v2 s2) (B3 : BytR s2 1 kb none) : stE S r = none := by
  unfold stE
  cases s1 with
  | none => rw [N1.no]; rfl
  | some q1 =>
  obtain ⟨_, hq, h1⟩ := N1.yes
  cases hq
  simp only [h1, Option.bind_some]
  cases s2 with
  | none => rw [N2.no]; rfl
  | some q2 =>
  obtain ⟨_, hq, h2⟩ := N2.yes
  cases hq
  simp only [h2, Option.bind_some]
  rw [B3.no]; rfl
theorem stE_some {S : Hs} {r q3 : Bs} {v1 v2 : Int} {kb : Bs} {s1 s2 : Option Bs} (N1 : NumR (some r) v1 s1) (N2 : NumR s1 v2 s2) (B3 : BytR s2 1 kb (some q3)) :
    0 ≤ v1 ∧ v1 < 2199023255552 ∧ 0 ≤ v2 ∧ v2 < 2199023255552 ∧ ∃ x, kb = [x] ∧
    stE S r = if S.ba < v1 ∧ v1 ≤ S.ba + S.L.length + 1 then some ⟨S.t, S.vo, S.V, S.sn, S.ba, S.bt, S.L.take (v1 - S.ba - 1).toNat ++ [⟨v2, (x.toNat : Int), ⟨q3.toArray⟩⟩]⟩ else none := by
  obtain ⟨q2, rfl, h3⟩ := B3.yes
  obtain ⟨q1, rfl, h2⟩ := N2.yes
  obtain ⟨q0, hq, h1⟩ := N1.yes
  cases hq
  have g1 := num1_ge h1
  have g2 := num1_ge h2
  obtain ⟨x, rfl, _⟩ := bytR_one B3
  refine ⟨g1.1, g1.2.1, g2.1, g2.2.1, x, rfl, ?_⟩
  unfold stE
  simp only [h1, h2, h3, Option.bind_some]
  rfl
set_option maxRecDepth 100000 in
set_option maxHeartbeats 12800000 in
theorem putE_any {w : World} {H : Nat} {S : Hs} (h : HvI w H S) (hb : 0 ≤ S.ba ∧ S.ba ≤ 1125899906842624) (hl : S.L.length ≤ 10000) (c : UInt8) (r : Bs) (hr : r.length ≤ 1000000) :
    Calls Try.prog 72 #[ptr H, str (c :: r)] w fun e w' => ∃ b S', e = .returned (.bool b) ∧ HvI w' H S' ∧ Below H w w' ∧ stE S r = if b = true then some S' else none := by
  have HI := Lib.hid h
  obtain ⟨vs, es, hc, hv, he⟩ := h
  obtain ⟨ya, yc, rfl, _⟩ := he.rd.shape
  have HH := Lib.hid hc.lt
  have HC := Lib.hid hc
  have HV := Lib.hid hv
  have HE := Lib.hid he
  have RD := Lib.hid (reader_any c r hr w)
  obtain ⟨RS, hRS⟩ : ∃ RS : Value, RS = str (c :: r) := ⟨_, rfl⟩
  rw [← hRS] at RD ⊢
  clear hc hv he hRS
  obtain ⟨t, vo, V, sn, ba, bt, L⟩ := S
  dsimp only at *
  obtain ⟨m, hm⟩ : ∃ m, m = L.length := ⟨_, rfl⟩
  have HM := Lib.hid hm
  rw [← hm] at HC HE hl
  clear hm
  go_enter Try.func72, Try.ntmps72
  go_wp2_with fail
  refine RD.out.mono ?_
  obtain ⟨n, hn⟩ : ∃ n, n = w.heap.size := ⟨_, rfl⟩
  have HN := Lib.hid hn
  rw [← hn]
  clear hn
  have HHn : Hid (H < n) := Lib.hid (by rw [HN.out]; exact HH.out)
  rintro e w1 ⟨rfl, hr1, hb1⟩
  have HR1 := Lib.hid hr1
  have HB1 := Lib.hid hb1
  clear hr1 hb1
  go_wp2_with fail
  refine (rnumber_any HR1.out).mono ?_
  rintro e w2 ⟨v1, s1, rfl, hr2, hb2, hn1⟩
  have HR2 := Lib.hid hr2
  have HB2 := Lib.hid (HB1.out.trans hb2)
  have HN1 := Lib.hid hn1
  clear hr2 hb2 hn1
  go_wp2_with fail
  refine (rnumber_any HR2.out).mono ?_
  rintro e w3 ⟨v2, s2, rfl, hr3, hb3, hn2⟩
  have HR3 := Lib.hid hr3
  have HB3 := Lib.hid (HB2.out.trans hb3)
  have HN2 := Lib.hid hn2
  clear hr3 hb3 hn2
  go_wp2_with fail
  refine (bytes_any HR3.out 1 (fun _ => by decide)).mono ?_
  rintro e w4 ⟨kb, s3, rfl, hr4, hb4, hkl, hn3⟩
  have HR4 := Lib.hid hr4
  have HB4 := Lib.hid (HB3.out.trans hb4)
  have HN3 := Lib.hid hn3
  clear hr4 hb4 hn3 hkl
  obtain ⟨KB, hKB⟩ : ∃ KB : ByteArray, KB = ⟨kb.toArray⟩ := ⟨_, rfl⟩
  have HKB := Lib.hid hKB
  unfold str
  rw [← hKB]
  clear hKB
  go_wp2_with fail
  refine (left_any HR4.out).mono ?_
  rintro e w5 ⟨rfl, rfl⟩
  have hlv : s3 ≠ none → 0 ≤ lftV s3 := fun h => by
    cases s3 with
    | none => exact absurd rfl h
    | some q => show (0 : Int) ≤ (q.length : Int); omega
  have HB5 := bytes_any HR4.out (lftV s3) hlv
  obtain ⟨l3, hl3⟩ : ∃ l3, l3 = lftV s3 := ⟨_, rfl⟩
  rw [← hl3] at HB5 ⊢
  have HL3 := Lib.hid hl3
  clear hl3 hlv
  go_wp2_with fail
  refine HB5.mono ?_
  rintro e w5 ⟨db, s4, rfl, hr5, hb5, hdl, hn4⟩
  have HR5 := Lib.hid hr5
  have HB5 := Lib.hid (show Below w.heap.size w w5 by rw [← HN.out]; exact HB4.out.trans hb5)
  have HN4 := Lib.hid hn4
  have HC5 := Lib.hid (HC.out.below HB5.out)
  have HV5 := Lib.hid (HV.out.below HB5.out)
  have HE5 := Lib.hid (HE.out.below HB5.out)
  clear hr5 hb5 hdl hn4
  obtain ⟨DB, hDB⟩ : ∃ DB : ByteArray, DB = ⟨db.toArray⟩ := ⟨_, rfl⟩
  have HDB := Lib.hid hDB
  unfold str
  rw [← hDB]
  clear hDB
  go_wp2_with fail
  refine (left_any HR5.out).mono ?_
  rintro e w6 ⟨rfl, rfl⟩
  have HBH : Hid (Below H w w5) := Lib.hid (HB5.out.mono (Nat.le_of_lt HH.out))
  have HIN : Hid (HvI w5 H ⟨t, vo, V, sn, ba, bt, L⟩) := Lib.hid ⟨vs, _, HC5.out, HV5.out, HE5.out⟩
  obtain ⟨c0, c1, c2, c3', c4, c5, c6⟩ := c7 HC5.out
  obtain ⟨f2, f3', f4, f5, f6⟩ := f7 HC5.out
  cases s3 with
  | none =>
    have h4 : s4 = none := HN4.out.nn
    subst h4
    have HF := Lib.hid (stE_none (S := ⟨t, vo, V, sn, ba, bt, L⟩) HN1.out HN2.out HN3.out)
    rw [show lftV none = -1 from rfl]
    go_wp2
    all_goals
      go_ret
      exact ⟨false, _, rfl, HIN.out, HBH.out, by rw [HF.out]; rfl⟩
  | some q3 =>
    have h4 := HN4.out
    rw [HL3.out] at h4
    obtain ⟨hdq, rfl⟩ := bytR_all h4
    obtain ⟨g1, g2, g3, g4, x, hkx, hst⟩ := stE_some (S := ⟨t, vo, V, sn, ba, bt, L⟩) HN1.out HN2.out HN3.out
    dsimp only at hst
    rw [← HM.out, ← hdq, ← HDB.out] at hst
    have HST := Lib.hid hst
    have HKX := Lib.hid (getE (d := KB) (k := 0) (x := x) (by rw [HKB.out, hkx]; rfl))
    rw [show lftV (some []) = 0 from rfl]
    clear h4 hdq hkx hst
    have hw1 : IntKind.i64.wrap (ba + (m : Int) + 1) = ba + (m : Int) + 1 := by unfold IntKind.wrap; simp only [IntKind.bits, IntKind.signed]; simp; omega
    have LA := Lib.hid (fun w' => last_any (base := ba) (bt := bt) (a := ya) (n := m) (cap := yc) (by omega) (by omega) w')
    by_cases e1 : v1 ≤ ba
    · have HF : Hid (stE ⟨t, vo, V, sn, ba, bt, L⟩ r = none) := Lib.hid (by rw [HST.out, if_neg (by omega)])
      go_wp2
      all_goals
        go_ret
        exact ⟨false, _, rfl, HIN.out, HBH.out, by rw [HF.out]; rfl⟩
    · have q1 : decide (v1 ≤ ba) = false := decide_eq_false e1
      go_wp2_with fail
      refine (LA.out _).mono ?_
      rintro e w7 ⟨rfl, hb7⟩
      have HC7 := Lib.hid (HC5.out.below hb7)
      have HV7 := Lib.hid (HV5.out.below hb7)
      have HE7 := Lib.hid (HE5.out.below hb7)
      have HB7 : Hid (Below H w w7) := Lib.hid (HBH.out.trans (hb7.mono (Nat.le_of_lt HC5.out.lt)))
      clear hb7 c0 c1 c2 c3' c4 c5 c6 f2 f3' f4 f5 f6
      obtain ⟨c0, c1, c2, c3', c4, c5, c6⟩ := c7 HC7.out
      obtain ⟨f2, f3', f4, f5, f6⟩ := f7 HC7.out
      by_cases e2 : ba + (m : Int) + 1 < v1
      · have HF : Hid (stE ⟨t, vo, V, sn, ba, bt, L⟩ r = none) := Lib.hid (by rw [HST.out, if_neg (by omega)])
        have HIN7 : Hid (HvI w7 H ⟨t, vo, V, sn, ba, bt, L⟩) := Lib.hid ⟨vs, _, HC7.out, HV7.out, HE7.out⟩
        go_wp2
        all_goals
          go_ret
          exact ⟨false, _, rfl, HIN7.out, HB7.out, by rw [HF.out]; rfl⟩
      · have q2 : decide (ba + (m : Int) + 1 < v1) = false := decide_eq_false e2
        obtain ⟨k, hk⟩ : ∃ k : Nat, (k : Int) = v1 - ba - 1 := ⟨(v1 - ba - 1).toNat, by omega⟩
        have HF : Hid (stE ⟨t, vo, V, sn, ba, bt, L⟩ r = some ⟨t, vo, V, sn, ba, bt, L.take k ++ [⟨v2, (x.toNat : Int), DB⟩]⟩) := Lib.hid (by
          rw [HST.out, if_pos (by omega)]
          have : (v1 - ba - 1).toNat = k := by omega
          rw [this])
        have hw2 : IntKind.i64.wrap (v1 - ba) = v1 - ba := by unfold IntKind.wrap; simp only [IntKind.bits, IntKind.signed]; simp; omega
        have hw3 : IntKind.i64.wrap (v1 - ba - 1) = (k : Int) := by rw [hk]; unfold IntKind.wrap; simp only [IntKind.bits, IntKind.signed]; simp; omega
        have hkm : k ≤ L.length := by have := HM.out; omega
        have hsl := (slice_to HE7.out.rd k hkm).1
        have HEK := Lib.hid (HE7.out.take k hkm)
        have HKM := Lib.hid hkm
        have HVX : Hid (IntKind.i64.wrap (x.toNat : Int) = (x.toNat : Int)) := Lib.hid (by have := x.toNat_lt; unfold IntKind.wrap; simp only [IntKind.bits, IntKind.signed]; simp; omega)
        clear hkm e1 e2 hk
        go_upto_region 7 with fail
        go_quiet (fail)
        have hd8 := below_drewN w7 nq
        have HC8 := Lib.hid (HC7.out.below hd8)
        have HV8 := Lib.hid (HV7.out.below hd8)
        have HE8 := Lib.hid (HEK.out.below hd8)
        have HB8 : Hid (Below H w (w7.drewN nq)) := Lib.hid (HB7.out.trans (hd8.mono (Nat.le_of_lt HC7.out.lt)))
        generalize w7.drewN nq = w8 at *
        have hvx := HVX.out
        obtain ⟨hk0, hkx0⟩ := HKX.out
        have hb9 := one_new w8 (.cells #[it v2, it (x.toNat : Int), .string DB] 31)
        have HR9 := Lib.hid (rdE_one w8 ⟨v2, (x.toNat : Int), DB⟩)
        have HE9 := Lib.hid (HE8.out.below hb9)
        have HV9 := Lib.hid (HV8.out.below hb9)
        have HC9 := Lib.hid (HC8.out.below hb9)
        have HB9 := Lib.hid (HB8.out.trans (hb9.mono (Nat.le_of_lt HC8.out.lt)))
        have HLT := Lib.hid (HC9.out.lt)
        have HNN : Hid ((L.take k).length + [(⟨v2, (x.toNat : Int), DB⟩ : En)].length ≤ 1000000) := Lib.hid (by rw [List.length_take]; have := HM.out; simp; omega)
        obtain ⟨LT, hLT⟩ : ∃ LT, LT = L.take k := ⟨_, rfl⟩
        rw [← hLT] at HE9 HNN HF
        clear hd8 hb9 c0 c1 c2 c3' c4 c5 c6 f2 f3' f4 f5 f6 hLT HC7 HV7 HE7 HB7 HEK HC8 HV8 HE8 HB8 hsl hw1 hw2 hw3
        go_wp2_with (at_builtin; refine wp_app_ownK rfl (.tmp 66) (.tmp 73) rfl (H + 1) _ LT [⟨v2, (x.toNat : Int), DB⟩] rfl HE9.out _ rfl HR9.out (by simp) HNN.out HLT.out ?_)
        intro v' wa ho hba hgr
        obtain ⟨za, zc, rfl, _⟩ := ho.rd.shape
        have HOA := Lib.hid ho
        have HVA := Lib.hid (HV9.out.grown HE9.out hgr)
        have HCA : Hid (Ce wa H 42 _) := Lib.hid ((hba.block H (Nat.lt_succ_self _)).trans HC9.out)
        have HBA := Lib.hid (HB9.out.trans (hba.mono (Nat.le_succ _)))
        generalize (LT ++ [(⟨v2, (x.toNat : Int), DB⟩ : En)]).length = zl at *
        clear ho hba hgr
        obtain ⟨c0, c1, c2, c3', c4, c5, c6⟩ := c7 HCA.out
        obtain ⟨f2, f3', f4, f5, f6⟩ := f7 HCA.out
        go_wp2
        all_goals
          go_ret
          refine ⟨true, ⟨t, vo, V, sn, ba, bt, LT ++ [⟨v2, (x.toNat : Int), DB⟩]⟩, rfl, ⟨vs, _, HCA.out.set _ (i := 6), HVA.out.set (Nat.lt_succ_self _) _, HOA.out.set (Nat.lt_succ_self _) _⟩, HBA.out.setCell (p := ⟨H, 6, none⟩) (Nat.le_refl _) _, ?_⟩
          rw [HF.out]
          rfl
end Go.Proofs.Ytopnmiakljpgbaa
