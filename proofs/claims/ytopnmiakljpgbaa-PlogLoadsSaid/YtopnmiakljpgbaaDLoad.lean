/-
  Loading, as the document says.
-/
import Derived.Test.YtopnmiakljpgbaaRAdd
import Derived.Test.YtopnmiakljpgbaaMay
import Derived.Laws.CopyRow
import Derived.Great.BuildSlice
namespace Go.Proofs.Ytopnmiakljpgbaa
open Go.RowKit
theorem bytD_R {s : Option Bs} {k : Int} {b : Bs} {s' : Option Bs} (h : BytD s k b s') (hk : s ≠ none → 0 ≤ k) : ∃ b', BytR s k b' s' ∧ (s ≠ none → b' = b) := by
  cases s with
  | none => exact ⟨[], ⟨rfl, h⟩, fun h => absurd rfl h⟩
  | some q =>
    have h0 := hk (by simp)
    refine ⟨b, ?_, fun _ => rfl⟩
    unfold BytR byt1
    simp only [Option.bind_some]
    by_cases hl : k ≤ q.length
    · rw [if_pos hl]
      exact (if_pos (show 0 ≤ k ∧ k ≤ (q.length : Int) from ⟨h0, hl⟩)).mp h
    · rw [if_neg hl]
      exact (if_neg (show ¬ (0 ≤ k ∧ k ≤ (q.length : Int)) from fun hh => hl hh.2)).mp h
theorem lok_vot (d : Bs) : lok d = true ↔ vGood (vot d) := by
  have hl : (vot d).length = d.length := by simp [vot]
  have hg : ∀ j, j < d.length → (vot d).getD j 0 = ((d.getD j 0).toNat : Int) := by
    intro j hj
    have h1 : d[j]? = some d[j] := List.getElem?_eq_getElem hj
    rw [List.getD_eq_getElem?_getD, List.getD_eq_getElem?_getD, h1]
    unfold vot
    rw [List.getElem?_map, h1]
    rfl
  unfold lok
  rw [decide_eq_true_eq]
  constructor
  · intro h
    refine ⟨fun x hx => ?_, fun i h0 hi => ?_⟩
    · obtain ⟨j, hj, rfl⟩ := List.mem_iff_getElem.1 hx
      rw [hl] at hj
      have := (h j hj).1
      have h2 := hg j hj
      rw [List.getD_eq_getElem?_getD, List.getElem?_eq_getElem (by rw [hl]; exact hj)] at h2
      have h3 : (vot d)[j]'(by rw [hl]; exact hj) = ((d.getD j 0).toNat : Int) := h2
      rw [h3]; omega
    · rw [hl] at hi
      have := (h i hi).2 h0
      rw [hg i hi, hg (i - 1) (by omega)]
      omega
  · rintro ⟨h1, h2⟩ i hi
    refine ⟨?_, fun h0 => ?_⟩
    · have := h1 ((vot d).getD i 0) (by rw [List.getD_eq_getElem?_getD, List.getElem?_eq_getElem (by rw [hl]; exact hi)]; exact List.getElem_mem _)
      rw [hg i hi] at this
      omega
    · have := h2 i h0 (by rw [hl]; exact hi)
      rw [hg i hi, hg (i - 1) (by omega)] at this
      omega
theorem stT_chain {S : Hs} {r : Bs} {v1 v2 : Int} {s1 s2 : Option Bs} (N1 : NumR (some r) v1 s1) (N2 : NumR s1 v2 s2) : stT S r = if lftV s2 = 0 then some ⟨v1, v2, S.V, S.sn, S.ba, S.bt, S.L⟩ else none := by
  unfold stT
  cases s1 with
  | none =>
    rw [N1.no, N2.nn]
    rfl
  | some q1 =>
    obtain ⟨q, hq, h1⟩ := N1.yes
    cases hq
    rw [h1]
    cases s2 with
    | none =>
      simp only [Option.bind_some]
      rw [N2.no]
      rfl
    | some q2 =>
      obtain ⟨q', hq, h2⟩ := N2.yes
      cases hq
      simp only [Option.bind_some, h2]
      by_cases h : q2 = []
      · rw [if_pos h, if_pos ((lft_zero q2).2 h)]
      · rw [if_neg h, if_neg (fun h' => h ((lft_zero q2).1 h'))]
theorem Dr.other {w : World} {B H i : Nat} {s : Option Bs} (h : Dr w B s) (hH : B ≠ H) (v : Value) : Dr (w.setCell ⟨H, i, none⟩ v) B s := by
  obtain ⟨ok, r, h1, h4, h5⟩ := h
  exact ⟨ok, r, h1.other hH v, h4, h5⟩
theorem OwnV.keep {w w' : World} {b : Nat} {e : TypeId} {v : Value} {xs : List Value} (h : OwnV w b e v xs) (hk : ∀ g, b ≤ g → g < w.heap.size → w'.heap[g]? = w.heap[g]?) : OwnV w' b e v xs := by
  refine ⟨h.1, ?_⟩
  rcases h.2 with h | ⟨g, cap, cur, hv, hbg, hg, h2⟩
  · exact .inl h
  · exact .inr ⟨g, cap, cur, hv, hbg, (hk g hbg (Array.getElem?_eq_some_iff.1 hg).1).trans hg, h2⟩
theorem OwnE.keep {w w' : World} {b : Nat} {v : Value} {L : List En} (h : OwnE w b v L) (hk : ∀ g, b ≤ g → g < w.heap.size → w'.heap[g]? = w.heap[g]?) : OwnE w' b v L := by
  refine ⟨h.1, ?_⟩
  rcases h.2 with h | ⟨g, cap, cur, hv, hbg, hg, h2⟩
  · exact .inl h
  · exact .inr ⟨g, cap, cur, hv, hbg, (hk g hbg (Array.getElem?_eq_some_iff.1 hg).1).trans hg, h2⟩
theorem NumR.nonneg {s : Option Bs} {v : Int} {s' : Option Bs} (h : NumR s v s') (hs : s' ≠ none) : 0 ≤ v := by
  cases s' with
  | none => exact absurd rfl hs
  | some r =>
    obtain ⟨q, _, h1⟩ := h.yes
    exact (num1_ge h1).1
theorem k18_of {w : World} {B : Nat} {v x : Value} (h : w.cell? ⟨B, 1, none⟩ = some x) (_hf : w.frozen? ⟨B, 1, none⟩ = false) : (w.setCell ⟨B, 1, none⟩ v).cell? ⟨B, 1, none⟩ = some v := World.cell?_setCell_same _ _ _ h
theorem stW_out {q0 : Bs} {v1 v2 v3 v4 v5 v6 : Int} {s1 s2 s3 s4 s5 s6 s7 s8 : Option Bs} {d db sn sb : Bs} {bad ok : Bool} {r8 : Bs} (hD : match s8 with | some q => bad = false ∧ r8 = q | none => bad = true) (N1 : NumR (some q0) v1 s1) (N2 : NumR s1 v2 s2) (N3 : NumR s2 v3 s3) (N4 : NumR s3 v4 s4) (N5 : NumR s4 v5 s5)
    (B6 : BytR s5 v5 d s6) (h6 : s5 ≠ none → d = db) (N7 : NumR s6 v6 s7) (B8 : BytR s7 v6 sn s8) (h8 : s7 ≠ none → sn = sb) 
    (hok : ok = true ↔ vGood (vot db) ∧ 0 < (vot db).length) {ul : Nat} (hul : ul = (ivs (vot db)).length) {SN R8 : ByteArray} (hSN : SN = ⟨sb.toArray⟩) (hR8 : R8 = ⟨r8.toArray⟩) {BAD : Bool}
    (hB : BAD = (bad || (!ok && decide (0 < ul)) || decide (50000 < SN.size) || !(R8.toList == []))) :
    (BAD = true → stW q0 = none) ∧ (BAD = false → stW q0 = some ⟨v1, v2, vot db, SN, v3, v4, []⟩) := by
  have hch := stW_chain N1 N2 N3 N4 N5 B6 N7 B8
  cases s8 with
  | none =>
    obtain rfl : bad = true := hD
    rw [hch, hB]
    refine ⟨fun _ => if_neg (fun h => absurd h.1 (by decide)), fun h => by simp at h⟩
  | some q8 =>
    obtain ⟨rfl, rfl⟩ := hD
    obtain ⟨x7, e7, _⟩ := B8.yes
    obtain rfl := h8 (by rw [e7]; simp)
    subst e7
    obtain ⟨x6, e6, _⟩ := N7.yes
    subst e6
    obtain ⟨x5, e5, _⟩ := B6.yes
    obtain rfl := h6 (by rw [e5]; simp)
    have hul' : ul = d.length := by rw [hul]; simp [vot]
    have hsz : SN.size = sn.length := by rw [hSN]; rfl
    have hr : (R8.toList == []) = (r8 == []) := by rw [hR8, ByteArray.toList_eq]
    have hlv : (vot d).length = d.length := by simp [vot]
    have hz : lok d = true ↔ (!ok && decide (0 < ul)) = false := by
      rw [lok_vot]
      by_cases hd0 : 0 < d.length
      · have : ok = true ↔ vGood (vot d) := by rw [hok, hlv]; simp [hd0]
        rw [← this, hul', decide_eq_true hd0]
        cases ok <;> simp
      · have hd1 : d = [] := List.eq_nil_of_length_eq_zero (by omega)
        have : vGood (vot d) := by subst hd1; exact ⟨fun x hx => (by cases hx), fun i _ hi => absurd hi (by simp [vot])⟩
        rw [hul', decide_eq_false hd0]
        simp [this]
    rw [hch, hB, hsz, hr]
    have hl8 := lft_zero r8
    constructor
    · intro h
      refine if_neg (fun ⟨g1, g2, g3⟩ => ?_)
      rw [hl8.1 g1, hz.1 g2, decide_eq_false (show ¬ 50000 < sn.length by omega)] at h
      simp at h
    · intro h
      simp only [Bool.or_eq_false_iff, Bool.false_or] at h
      obtain ⟨⟨h1, h2⟩, h3⟩ := h
      have h3' : r8 = [] := by simpa using h3
      have h2' : sn.length ≤ 50000 := by have := of_decide_eq_false h2; omega
      rw [if_pos ⟨hl8.2 h3', hz.2 h1, h2'⟩, hSN]
theorem measW {n j : Nat} (h : j + 1 ≤ n) (hw : wrap64 ((j : Int) + 1) = (j : Int) + 1) : n - (intOf (Value.int IntKind.i64 (wrap64 ((j : Int) + 1)))).toNat < n - (intOf (it (j : Int))).toNat := by
  rw [hw]
  show n - ((j : Int) + 1).toNat < n - ((j : Int)).toNat
  omega
theorem wpOp_here {P : Program} {ops : Array Oper} {Q : Exit → Act → World → Prop} {i : Nat} {K : Act → World → Prop} {a : Act} {w : World} {o : Oper} (h : ops[i]? = some o) (hg : Region.wanted o (yielded ops a.tmps) = true) (hw : o.wp P a w K Q) : wpOp P ops Q i K a w := by
  unfold wpOp
  rw [h]
  simp only [hg, if_true]
  exact .inl hw
theorem app_oneW {o : Oper} {a : Act} {w : World} {K : Act → World → Prop} {Q : Exit → Act → World → Prop} (s x : Operand)
    (ho : o.op = .call { callee := .builtin .append, args := #[s, x], argTypes := #[40, 40] }) (base : Nat) (v : Value) (xs : List Value) (hs : a.eval s = v) (hown : OwnV w base 3 v xs)
    (y : Value) (hy : y.oneCell' = true) (ad : Addr) (hx : a.eval x = .slice (some ad) 1 1) (hc : ∀ (j : Nat) u, [y][j]? = some u → w.cell? (ad.add j) = some u) (hn : xs.length ≤ 1000000) (hbase : base ≤ w.heap.size)
    (h : ∀ v' w', OwnV w' base 3 v' (xs ++ [y]) → Below base w w' → K (a.put o.dst v') w') : o.wp Try.prog a w K Q := by
  obtain ⟨i0, hi, hz0, hz1, hz2⟩ := info_parts info3
  refine wp_append_own w s x 40 ho base 3 i0 _ 1 8 Try.underlying40 hi hz0 hz1 hz2 rfl (by decide) v xs.length xs hs hown ad 1 1 [y] hx rfl hc (by simpa using hy) (by unfold maxLen; omega) (by omega) hbase ?_
  intro v' w' g1 g2 _
  refine h v' w' ?_ ?_
  · unfold OwnV; rw [List.length_append]; exact g1
  · refine ⟨g2.os, g2.tape, g2.output, g2.size, fun i hi => g2.block i (by omega) ?_⟩
    intro e'
    have := (World.ownsRow.lt hown i e'.symm).1
    omega
theorem stp_pos {S S' : Hs} {rec : Bs} (h : 0 ≤ S.t ∧ 0 ≤ S.vo) (hs : stp S rec = some S') : 0 ≤ S'.t ∧ 0 ≤ S'.vo := by
  cases rec with
  | nil => cases hs
  | cons c r =>
    have hs : (if c = 87 then stW r else if c = 84 then stT S r else if c = 69 then stE S r else none) = some S' := hs
    split at hs
    · unfold stW at hs
      obtain ⟨t, ht, hs⟩ := Option.bind_eq_some_iff.1 hs
      obtain ⟨vo, hvo, hs⟩ := Option.bind_eq_some_iff.1 hs
      obtain ⟨ba, _, hs⟩ := Option.bind_eq_some_iff.1 hs
      obtain ⟨bt, _, hs⟩ := Option.bind_eq_some_iff.1 hs
      obtain ⟨n, _, hs⟩ := Option.bind_eq_some_iff.1 hs
      obtain ⟨d, _, hs⟩ := Option.bind_eq_some_iff.1 hs
      obtain ⟨m, _, hs⟩ := Option.bind_eq_some_iff.1 hs
      obtain ⟨s, _, hs⟩ := Option.bind_eq_some_iff.1 hs
      split at hs
      · cases hs
        exact ⟨(num1_ge ht).1, (num1_ge hvo).1⟩
      · cases hs
    · split at hs
      · unfold stT at hs
        obtain ⟨p, hp, hs⟩ := Option.bind_eq_some_iff.1 hs
        obtain ⟨q, hq, hs⟩ := Option.bind_eq_some_iff.1 hs
        split at hs
        · cases hs
          exact ⟨(num1_ge hp).1, (num1_ge hq).1⟩
        · cases hs
      · split at hs
        · unfold stE at hs
          obtain ⟨p, hp, hs⟩ := Option.bind_eq_some_iff.1 hs
          obtain ⟨q, hq, hs⟩ := Option.bind_eq_some_iff.1 hs
          obtain ⟨b, hb, hs⟩ := Option.bind_eq_some_iff.1 hs
          split at hs
          · cases hs
            exact h
          · cases hs
        · cases hs
theorem ldF_pos : ∀ (A : List Bs) (S S' : Hs), (0 ≤ S.t ∧ 0 ≤ S.vo) → ldF S A = some S' → 0 ≤ S'.t ∧ 0 ≤ S'.vo
  | [], S, S', h, hs => by cases hs; exact h
  | a :: A, S, S', h, hs => by
    obtain ⟨S1, h1, h2⟩ := Option.bind_eq_some_iff.1 (show (stp S a).bind (fun S' => ldF S' A) = some S' from hs)
    exact ldF_pos A S1 S' (stp_pos h h1) h2
set_option maxRecDepth 100000 in
set_option maxHeartbeats 25600000 in
theorem dload_any {w : World} {v : Value} {T : List Bs} (hvv : RdV w v (tv T)) (hl : T.length ≤ 5000) (hd : ∀ b ∈ T, b.length ≤ 1000000) :
    Calls Try.prog 36 #[v] w fun e w' => ∃ S vs es er, e = .returned (.tuple #[hv S.t S.vo vs S.sn S.ba S.bt es, it er]) ∧ RdN w' vs S.V ∧ RdE w' es S.L ∧ Below w.heap.size w w' ∧ LoadR T S er := by
  obtain ⟨va, vc, rfl, _⟩ := hvv.shape
  have HV := Lib.hid hvv
  have HDD := Lib.hid hd
  obtain ⟨m, hm⟩ : ∃ m, m = (tv T).length := ⟨_, rfl⟩
  have hm2 : m = T.length := by rw [hm, List.length_map]
  have HM := Lib.hid hm2
  rw [← hm] at HV ⊢
  have HA := Lib.hid (two_new w zerosH zerosH 42 42)
  have hm5 : m ≤ 5000 := by omega
  have HM5 := Lib.hid hm5
  clear hvv hd hm hm2 hm5 hl
  go_enter Try.func36, Try.ntmps36
  go_upto_region 2 with fail
  generalize (w.alloc _).alloc _ = wA at *
  obtain ⟨B, hB⟩ : ∃ B, B = w.heap.size := ⟨_, rfl⟩
  have HBB := Lib.hid hB
  rw [← hB] at HA ⊢
  clear hB
  have HW : Hid (Below B w wA) := Lib.hid HA.out.2.2.2
  have HR0 : Hid (Ce wA B 42 zerosH) := Lib.hid HA.out.1
  have HI0 : Hid (HvI wA (B + 1) Hs.zero) := Lib.hid ⟨_, _, HA.out.2.1, OwnV.nil _ _ _, ownE_nil _ _⟩
  have HZA : Hid (B + 1 < wA.heap.size) := Lib.hid (by have := HA.out.2.2.1; omega)
  clear HA
  go_upto_region 3 with fail
  go_loopw [5, 6, 7, 8, 9, 10, 11, 12, 13, 14] (fun i _ _ _ _ _ _ _ _ _ wr => ∃ (k : Nat) (S : Hs), k ≤ m ∧ i = it (k : Int) ∧ HvI wr (B + 1) S ∧ Below (B + 1) wA wr ∧ B + 1 < wr.heap.size ∧ S.Ok k ∧ ldF Hs.zero (T.take k) = some S ∧ (0 < k → ∃ r rs, T = r :: rs ∧ isW r = true)) (fun i _ _ _ _ _ _ _ _ _ _ => m - (intOf i).toNat)
  case atStart => exact ⟨0, Hs.zero, by omega, rfl, HI0.out, Below.refl _ _, HZA.out, ⟨by decide, by decide, Nat.le_refl _, fun e he => by cases he⟩, rfl, fun h => absurd h (by decide)⟩
  case round =>
    obtain ⟨k, S, hk, rfl, hI, hbr, hlt0, hok, hld, hw⟩ := hrel
    have HI := Lib.hid hI
    have HBR := Lib.hid hbr
    have HLT := Lib.hid hlt0
    have HOK := Lib.hid hok
    have HLD := Lib.hid hld
    have HWW := Lib.hid hw
    have HBW : Hid (Below w.heap.size w wr) := Lib.hid (by rw [← HBB.out]; exact HW.out.trans (hbr.mono (Nat.le_succ _)))
    have HR := Lib.hid (show Ce wr B 42 zerosH from (hbr.block B (Nat.lt_succ_self _)).trans HR0.out)
    have HWr : Hid (Below B w wr) := Lib.hid (by rw [HBB.out]; exact HBW.out)
    clear hI hbr hlt0 hok hld hw
    by_cases hlt : k < m
    · have p1 : (k : Int) < (m : Int) := by omega
      have hm5 := HM5.out
      obtain ⟨r, hr⟩ : ∃ r, T[k]? = some r := ⟨_, List.getElem?_eq_getElem (by have := HM.out; omega)⟩
      have hrl : r.length ≤ 1000000 := HDD.out r (List.mem_of_getElem? hr)
      have hr' : (tv T)[k]? = some (str r) := by rw [List.getElem?_map, hr]; rfl
      obtain ⟨e1, g, o, rfl, hg, c0⟩ := HV.out.at hr'
      have c0 := (HBW.out.cell (p := ⟨g, o + k, none⟩) hg).trans c0
      have HSN := Lib.hid (ldF_snoc r (T.take k) Hs.zero)
      rw [← take_succ_of hr, HLD.out] at HSN
      have HT : Hid (k = 0 → ∃ rs, T = r :: rs) := Lib.hid (fun hk0 => by
        rw [hk0] at hr
        cases T with
        | nil => simp at hr
        | cons a rs => simp at hr; exact ⟨rs, by rw [hr]⟩)
      have hwk : IntKind.i64.wrap ((k : Int) + 1) = ((k + 1 : Nat) : Int) := by unfold IntKind.wrap; simp only [IntKind.bits, IntKind.signed]; simp; omega
      have HWK := Lib.hid hwk
      have HFAIL : Hid (stp S r = none → loadM T = none) := Lib.hid (fun h => load_fail (j := k + 1) (by rw [HSN.out]; exact h))
      have HRLL := Lib.hid hrl
      clear hr hr' e1 hwk
      cases r with
      | nil =>
        have q1 : ((⟨([] : Bs).toArray⟩ : ByteArray).toList == []) = true := by rw [ByteArray.toList_eq]; rfl
        have HNO := Lib.hid (HFAIL.out rfl)
        have HBX := HWr
        have HRX := HR
        obtain ⟨E, hE⟩ : ∃ E : ByteArray, E = ⟨([] : Bs).toArray⟩ := ⟨_, rfl⟩
        unfold str at c0
        rw [← hE] at c0 q1
        clear hE
        obtain ⟨z0, z1, z2, z3, z4, z5, z6⟩ := c7 HRX.out
        obtain ⟨y2, y3', y4, y5, y6⟩ := f7 HRX.out
        obtain ⟨y0, y1⟩ := f7a HRX.out
        go_wp2
        refine bodyPost_ret (resHt rfl rfl (set7_ce HRX.out _ _ _ _ _ _ _)) rfl ?_
        have HBF := set7_below (n := B) (by rw [← HBB.out]; exact HBX.out) (by rw [← HBB.out]; exact Nat.le_refl _) (it 0) (it 0) (.slice none 0 0) (.string ⟨#[]⟩) (it 0) (it 0) (.slice none 0 0)
        exact ⟨Hs.zero, .slice none 0 0, .slice none 0 0, 10, rfl, RdN.nil _, RdE.nil _, HBF, LoadR.no HNO.out⟩
      | cons c q =>
        have hql : q.length ≤ 1000000 := by simp at hrl; omega
        obtain ⟨E, hE⟩ : ∃ E : ByteArray, E = ⟨(c :: q).toArray⟩ := ⟨_, rfl⟩
        have q1 : (E.toList == []) = false := by rw [ByteArray.toList_eq, hE]; rfl
        have q1' : E.toList.isEmpty = false := by rw [ByteArray.toList_eq, hE]; rfl
        have hsz : 1 ≤ E.size := by rw [hE, ba_len']; simp
        have hsz' : (1 : Int) ≤ (E.size : Int) := by omega
        obtain ⟨i0, g0⟩ := getE (d := E) (k := 0) (x := c) (by rw [hE]; rfl)
        have i0' : (0 : Int) < (E.size : Int) := by omega
        have HEX : Hid (E.extract 1 E.size = ⟨q.toArray⟩) := Lib.hid (by rw [hE, sub_str, ba_len']; simp)
        have HQL := Lib.hid hql
        unfold str at c0
        rw [← hE] at c0
        clear hE hql hrl
        by_cases hbad : k = 0 ∧ c ≠ 87
        · have q2 : ((k : Int) == 0) = true := by rw [hbad.1]; rfl
          have hcn : ¬ c.toNat = 87 := fun h => hbad.2 (by
            have : c = UInt8.ofNat c.toNat := by simp
            rw [this, h]; rfl)
          have q3 : ((c.toNat : Int) == 87) = false := by simp; omega
          have q3' : (c.toNat == 87) = false := by simpa using hcn
          have HNO : Hid (loadM T = none) := Lib.hid (by
            obtain ⟨rs, hT⟩ := HT.out hbad.1
            rw [hT]
            exact load_notW (by show (c == 87) = false; simpa using hbad.2))
          have HBX := HWr
          have HRX := HR
          clear hbad hcn
          obtain ⟨z0, z1, z2, z3, z4, z5, z6⟩ := c7 HRX.out
          obtain ⟨y2, y3', y4, y5, y6⟩ := f7 HRX.out
          obtain ⟨y0, y1⟩ := f7a HRX.out
          go_wp2
          refine bodyPost_ret (resHt rfl rfl (set7_ce HRX.out _ _ _ _ _ _ _)) rfl ?_
          have HBF := set7_below (n := B) (by rw [← HBB.out]; exact HBX.out) (by rw [← HBB.out]; exact Nat.le_refl _) (it 0) (it 0) (.slice none 0 0) (.string ⟨#[]⟩) (it 0) (it 0) (.slice none 0 0)
          exact ⟨Hs.zero, .slice none 0 0, .slice none 0 0, 10, rfl, RdN.nil _, RdE.nil _, HBF, LoadR.no HNO.out⟩
        · have HFW : Hid (∀ S', stp S (c :: q) = some S' → (0 < k + 1 → ∃ r rs, T = r :: rs ∧ isW r = true)) := Lib.hid (fun S' _ _ => by
            by_cases hk0 : k = 0
            · obtain ⟨rs, hT⟩ := HT.out hk0
              have : c = 87 := Classical.byContradiction (fun h => hbad ⟨hk0, h⟩)
              exact ⟨_, _, hT, by show (c == 87) = true; rw [this]; rfl⟩
            · exact HWW.out (by omega))
          have hDR : Dr (wr.alloc (.cells #[.string (E.extract 1 E.size), .bool false] 88)) wr.heap.size (some q) := by
            rw [HEX.out]
            exact ⟨false, q, Ce.new _ _ _, ⟨rfl, rfl⟩, HQL.out⟩
          have HDR := Lib.hid hDR
          have HB1 := Lib.hid (one_new wr (.cells #[.string (E.extract 1 E.size), .bool false] 88))
          have HBAD := Lib.hid hbad
          clear hDR
          go_upto_region 6 with fail
          go_cut [35] from 25 to 35 (fun b wx => b = .bool false ∧ wr = wx)
          case first =>
            by_cases hk0 : k = 0
            · have q2 : ((k : Int) == 0) = true := by rw [hk0]; rfl
              have hc : c = 87 := Classical.byContradiction (fun h => hbad ⟨hk0, h⟩)
              have q3 : ((c.toNat : Int) == 87) = true := by rw [hc]; rfl
              have q3' : (c.toNat == 87) = true := by rw [hc]; rfl
              have q4 : ((c.toNat : Int) != 87) = false := by rw [hc]; rfl
              clear hk0 hc hbad
              go_wp2
              all_goals
                go_meet
                exact ⟨rfl, rfl⟩
            · have q2 : ((k : Int) == 0) = false := by simp; omega
              clear hk0 hbad
              go_wp2
              all_goals
                go_meet
                exact ⟨rfl, rfl⟩
          case rest =>
            obtain ⟨rfl, rfl⟩ := hcut
            clear hbad
            go_upto_region 9 with fail
            obtain ⟨w1, hw1⟩ : ∃ w1, w1 = wr.alloc (.cells #[.string (E.extract 1 E.size), .bool false] 88) := ⟨_, rfl⟩
            obtain ⟨RB, hRB⟩ : ∃ RB, RB = wr.heap.size := ⟨_, rfl⟩
            rw [← hw1, ← hRB] at HDR
            rw [← hw1] at HB1
            rw [← hw1, ← hRB]
            obtain ⟨vs, es, hI1, hI2, hI3⟩ := HI.out
            have HC1 := Lib.hid (hI1.below HB1.out)
            have HRBE := Lib.hid hRB
            have HKV := Lib.hid (fun (w' : World) (h : ∀ g, B + 2 ≤ g → g < RB → w'.heap[g]? = wr.heap[g]?) => hI2.keep (w' := w') (by rw [← hRB]; exact h))
            have HKE := Lib.hid (fun (w' : World) (h : ∀ g, B + 2 ≤ g → g < RB → w'.heap[g]? = wr.heap[g]?) => hI3.keep (w' := w') (by rw [← hRB]; exact h))
            have HKP : Hid (∀ g, B + 2 ≤ g → g < RB → w1.heap[g]? = wr.heap[g]?) := Lib.hid (fun g _ hg => HB1.out.block g (by rw [← hRB]; exact hg))
            have HES : Hid (∃ x y z, es = .slice x y z ∧ y = S.L.length) := Lib.hid (let ⟨x, z, e, _⟩ := hI3.rd.shape; ⟨x, _, z, e, rfl⟩)
            have HE0 := Lib.hid hI3
            clear hI1 hI2 hI3
            have HR1 := Lib.hid (HR.out.below HB1.out)
            have HBR1 := Lib.hid (HBR.out.trans (HB1.out.mono (Nat.le_of_lt HLT.out)))
            have HW1 := Lib.hid (HWr.out.trans (HB1.out.mono (by have := HLT.out; omega)))
            have HRBX : Hid (B + 1 < RB) := Lib.hid (by rw [hRB]; exact HLT.out)
            have HSZ1 : Hid (RB < w1.heap.size) := Lib.hid (by have := HDR.out.lt; exact this)
            clear hw1 hRB HI HR HBR HWr HB1
            by_cases c87 : c = 87
            · skip
              have t1 : ((c.toNat : Int) == 87) = true := by rw [c87]; rfl
              have t1' : (c.toNat == 87) = true := by rw [c87]; rfl
              have HST : Hid (stp S (c :: q) = stW q) := Lib.hid (by show (if c = 87 then stW q else if c = 84 then stT S q else if c = 69 then stE S q else none) = _; rw [if_pos c87])
              have HDw1 := HDR
              have HCw1 := HC1
              have HRw1 := HR1
              have HBRw1 := HBR1
              have HWw1 := HW1
              clear c87 HKP HES HE0 HKV HKE
              obtain ⟨c0, c1, c2, c3', c4, c5, c6⟩ := c7 HCw1.out
              obtain ⟨f2, f3', f4, f5, f6⟩ := f7 HCw1.out
              obtain ⟨f0, f1⟩ := f7a HCw1.out
              go_upto_region 13 with fail
              generalize hwN : World.setCell (World.setCell (World.setCell (World.setCell (World.setCell (World.setCell (World.setCell w1 _ _) _ _) _ _) _ _) _ _) _ _) _ _ = w2
              have HCw2 : Hid (Ce w2 (B + 1) 42 zerosH) := Lib.hid (by rw [← hwN]; exact set7_ce HCw1.out _ _ _ _ _ _ _)
              have HRw2 : Hid (Ce w2 B 42 zerosH) := Lib.hid (by rw [← hwN]; exact (((((((HRw1.out.other (by omega) _ (i := 0)).other (by omega) _ (i := 1)).other (by omega) _ (i := 2)).other (by omega) _ (i := 3)).other (by omega) _ (i := 4)).other (by omega) _ (i := 5)).other (by omega) _ (i := 6)))
              have HDw2 := Lib.hid (show Dr w2 RB _ from by rw [← hwN]; exact (((((((HDw1.out.set HRBX.out (i := 0) _).set HRBX.out (i := 1) _).set HRBX.out (i := 2) _).set HRBX.out (i := 3) _).set HRBX.out (i := 4) _).set HRBX.out (i := 5) _).set HRBX.out (i := 6) _))
              have HBRw2 : Hid (Below (B + 1) wA w2) := Lib.hid (by rw [← hwN]; exact (((((((HBRw1.out.setCell (p := ⟨B + 1, 0, none⟩) (Nat.le_refl _) _).setCell (p := ⟨B + 1, 1, none⟩) (Nat.le_refl _) _).setCell (p := ⟨B + 1, 2, none⟩) (Nat.le_refl _) _).setCell (p := ⟨B + 1, 3, none⟩) (Nat.le_refl _) _).setCell (p := ⟨B + 1, 4, none⟩) (Nat.le_refl _) _).setCell (p := ⟨B + 1, 5, none⟩) (Nat.le_refl _) _).setCell (p := ⟨B + 1, 6, none⟩) (Nat.le_refl _) _))
              have HWw2 : Hid (Below B w w2) := Lib.hid (by rw [← hwN]; exact (((((((HWw1.out.setCell (p := ⟨B + 1, 0, none⟩) (Nat.le_succ B) _).setCell (p := ⟨B + 1, 1, none⟩) (Nat.le_succ B) _).setCell (p := ⟨B + 1, 2, none⟩) (Nat.le_succ B) _).setCell (p := ⟨B + 1, 3, none⟩) (Nat.le_succ B) _).setCell (p := ⟨B + 1, 4, none⟩) (Nat.le_succ B) _).setCell (p := ⟨B + 1, 5, none⟩) (Nat.le_succ B) _).setCell (p := ⟨B + 1, 6, none⟩) (Nat.le_succ B) _))
              clear hwN c0 c1 c2 c3' c4 c5 c6 f0 f1 f2 f3' f4 f5 f6
              go_wp2_with fail
              go_wp2_with fail
              refine (dnumber_any HDw2.out).mono ?_
              rintro e w3 ⟨v1, s1, rfl, hd, hb, hn, hgr⟩
              have HDw3 := Lib.hid hd
              have HCw3 := Lib.hid (show Ce w3 (B + 1) 42 _ from (hb.block (B + 1) HRBX.out).trans HCw2.out)
              have HRw3 := Lib.hid (show Ce w3 B 42 zerosH from (hb.block B (by have := HRBX.out; omega)).trans HRw2.out)
              have HBRw3 := Lib.hid (HBRw2.out.trans (hb.mono (Nat.le_of_lt HRBX.out)))
              have HWw3 := Lib.hid (HWw2.out.trans (hb.mono (by have := HRBX.out; omega)))
              have HN1 := Lib.hid hn
              clear hd hb hn hgr
              obtain ⟨c0, c1, c2, c3', c4, c5, c6⟩ := c7 HCw3.out
              obtain ⟨f2, f3', f4, f5, f6⟩ := f7 HCw3.out
              obtain ⟨f0, f1⟩ := f7a HCw3.out
              go_upto_region 14 with fail
              generalize hwN : World.setCell w3 _ _ = w4
              have HCw4 : Hid (Ce w4 (B + 1) 42 #[it v1, it 0, .slice none 0 0, .string ⟨#[]⟩, it 0, it 0, .slice none 0 0]) := Lib.hid (by rw [← hwN]; exact HCw3.out.set _ (i := 0))
              have HRw4 : Hid (Ce w4 B 42 zerosH) := Lib.hid (by rw [← hwN]; exact HRw3.out.other (by omega) _)
              have HDw4 := Lib.hid (show Dr w4 RB _ from by rw [← hwN]; exact HDw3.out.set HRBX.out _)
              have HBRw4 : Hid (Below (B + 1) wA w4) := Lib.hid (by rw [← hwN]; exact HBRw3.out.setCell (p := ⟨B + 1, 0, none⟩) (Nat.le_refl _) _)
              have HWw4 : Hid (Below B w w4) := Lib.hid (by rw [← hwN]; exact HWw3.out.setCell (p := ⟨B + 1, 0, none⟩) (Nat.le_succ B) _)
              clear hwN c0 c1 c2 c3' c4 c5 c6 f0 f1 f2 f3' f4 f5 f6
              go_wp2_with fail
              go_wp2_with fail
              refine (dnumber_any HDw4.out).mono ?_
              rintro e w5 ⟨v2, s2, rfl, hd, hb, hn, hgr⟩
              have HDw5 := Lib.hid hd
              have HCw5 := Lib.hid (show Ce w5 (B + 1) 42 _ from (hb.block (B + 1) HRBX.out).trans HCw4.out)
              have HRw5 := Lib.hid (show Ce w5 B 42 zerosH from (hb.block B (by have := HRBX.out; omega)).trans HRw4.out)
              have HBRw5 := Lib.hid (HBRw4.out.trans (hb.mono (Nat.le_of_lt HRBX.out)))
              have HWw5 := Lib.hid (HWw4.out.trans (hb.mono (by have := HRBX.out; omega)))
              have HN2 := Lib.hid hn
              clear hd hb hn hgr
              obtain ⟨c0, c1, c2, c3', c4, c5, c6⟩ := c7 HCw5.out
              obtain ⟨f2, f3', f4, f5, f6⟩ := f7 HCw5.out
              obtain ⟨f0, f1⟩ := f7a HCw5.out
              go_upto_region 15 with fail
              generalize hwN : World.setCell w5 _ _ = w6
              have HCw6 : Hid (Ce w6 (B + 1) 42 #[it v1, it v2, .slice none 0 0, .string ⟨#[]⟩, it 0, it 0, .slice none 0 0]) := Lib.hid (by rw [← hwN]; exact HCw5.out.set _ (i := 1))
              have HRw6 : Hid (Ce w6 B 42 zerosH) := Lib.hid (by rw [← hwN]; exact HRw5.out.other (by omega) _)
              have HDw6 := Lib.hid (show Dr w6 RB _ from by rw [← hwN]; exact HDw5.out.set HRBX.out _)
              have HBRw6 : Hid (Below (B + 1) wA w6) := Lib.hid (by rw [← hwN]; exact HBRw5.out.setCell (p := ⟨B + 1, 1, none⟩) (Nat.le_refl _) _)
              have HWw6 : Hid (Below B w w6) := Lib.hid (by rw [← hwN]; exact HWw5.out.setCell (p := ⟨B + 1, 1, none⟩) (Nat.le_succ B) _)
              clear hwN c0 c1 c2 c3' c4 c5 c6 f0 f1 f2 f3' f4 f5 f6
              go_wp2_with fail
              go_wp2_with fail
              refine (dnumber_any HDw6.out).mono ?_
              rintro e w7 ⟨v3, s3, rfl, hd, hb, hn, hgr⟩
              have HDw7 := Lib.hid hd
              have HCw7 := Lib.hid (show Ce w7 (B + 1) 42 _ from (hb.block (B + 1) HRBX.out).trans HCw6.out)
              have HRw7 := Lib.hid (show Ce w7 B 42 zerosH from (hb.block B (by have := HRBX.out; omega)).trans HRw6.out)
              have HBRw7 := Lib.hid (HBRw6.out.trans (hb.mono (Nat.le_of_lt HRBX.out)))
              have HWw7 := Lib.hid (HWw6.out.trans (hb.mono (by have := HRBX.out; omega)))
              have HN3 := Lib.hid hn
              clear hd hb hn hgr
              obtain ⟨c0, c1, c2, c3', c4, c5, c6⟩ := c7 HCw7.out
              obtain ⟨f2, f3', f4, f5, f6⟩ := f7 HCw7.out
              obtain ⟨f0, f1⟩ := f7a HCw7.out
              go_upto_region 16 with fail
              generalize hwN : World.setCell w7 _ _ = w8
              have HCw8 : Hid (Ce w8 (B + 1) 42 #[it v1, it v2, .slice none 0 0, .string ⟨#[]⟩, it v3, it 0, .slice none 0 0]) := Lib.hid (by rw [← hwN]; exact HCw7.out.set _ (i := 4))
              have HRw8 : Hid (Ce w8 B 42 zerosH) := Lib.hid (by rw [← hwN]; exact HRw7.out.other (by omega) _)
              have HDw8 := Lib.hid (show Dr w8 RB _ from by rw [← hwN]; exact HDw7.out.set HRBX.out _)
              have HBRw8 : Hid (Below (B + 1) wA w8) := Lib.hid (by rw [← hwN]; exact HBRw7.out.setCell (p := ⟨B + 1, 4, none⟩) (Nat.le_refl _) _)
              have HWw8 : Hid (Below B w w8) := Lib.hid (by rw [← hwN]; exact HWw7.out.setCell (p := ⟨B + 1, 4, none⟩) (Nat.le_succ B) _)
              clear hwN c0 c1 c2 c3' c4 c5 c6 f0 f1 f2 f3' f4 f5 f6
              go_wp2_with fail
              go_wp2_with fail
              refine (dnumber_any HDw8.out).mono ?_
              rintro e w9 ⟨v4, s4, rfl, hd, hb, hn, hgr⟩
              have HDw9 := Lib.hid hd
              have HCw9 := Lib.hid (show Ce w9 (B + 1) 42 _ from (hb.block (B + 1) HRBX.out).trans HCw8.out)
              have HRw9 := Lib.hid (show Ce w9 B 42 zerosH from (hb.block B (by have := HRBX.out; omega)).trans HRw8.out)
              have HBRw9 := Lib.hid (HBRw8.out.trans (hb.mono (Nat.le_of_lt HRBX.out)))
              have HWw9 := Lib.hid (HWw8.out.trans (hb.mono (by have := HRBX.out; omega)))
              have HN4 := Lib.hid hn
              clear hd hb hn hgr
              obtain ⟨c0, c1, c2, c3', c4, c5, c6⟩ := c7 HCw9.out
              obtain ⟨f2, f3', f4, f5, f6⟩ := f7 HCw9.out
              obtain ⟨f0, f1⟩ := f7a HCw9.out
              go_upto_region 17 with fail
              generalize hwN : World.setCell w9 _ _ = w10
              have HCw10 : Hid (Ce w10 (B + 1) 42 #[it v1, it v2, .slice none 0 0, .string ⟨#[]⟩, it v3, it v4, .slice none 0 0]) := Lib.hid (by rw [← hwN]; exact HCw9.out.set _ (i := 5))
              have HRw10 : Hid (Ce w10 B 42 zerosH) := Lib.hid (by rw [← hwN]; exact HRw9.out.other (by omega) _)
              have HDw10 := Lib.hid (show Dr w10 RB _ from by rw [← hwN]; exact HDw9.out.set HRBX.out _)
              have HBRw10 : Hid (Below (B + 1) wA w10) := Lib.hid (by rw [← hwN]; exact HBRw9.out.setCell (p := ⟨B + 1, 5, none⟩) (Nat.le_refl _) _)
              have HWw10 : Hid (Below B w w10) := Lib.hid (by rw [← hwN]; exact HWw9.out.setCell (p := ⟨B + 1, 5, none⟩) (Nat.le_succ B) _)
              clear hwN c0 c1 c2 c3' c4 c5 c6 f0 f1 f2 f3' f4 f5 f6
              go_wp2_with fail
              go_wp2_with fail
              refine (dnumber_any HDw10.out).mono ?_
              rintro e w11 ⟨v5, s5, rfl, hd, hb, hn, hgr⟩
              have HDw11 := Lib.hid hd
              have HCw11 := Lib.hid (show Ce w11 (B + 1) 42 _ from (hb.block (B + 1) HRBX.out).trans HCw10.out)
              have HRw11 := Lib.hid (show Ce w11 B 42 zerosH from (hb.block B (by have := HRBX.out; omega)).trans HRw10.out)
              have HBRw11 := Lib.hid (HBRw10.out.trans (hb.mono (Nat.le_of_lt HRBX.out)))
              have HWw11 := Lib.hid (HWw10.out.trans (hb.mono (by have := HRBX.out; omega)))
              have HN5 := Lib.hid hn
              clear hd hb hn hgr
              go_upto_region 18 with fail
              go_wp2_with fail
              refine (take_any HDw11.out v5).mono ?_
              rintro e w12 ⟨db, s6, rfl, hd, hb, hkl, hn, hk1, hgr⟩
              obtain ⟨d, HB6a, hkk⟩ := bytD_R hn (fun h => HN5.out.nonneg h)
              have HDw12 := Lib.hid hd
              have HCw12 := Lib.hid (show Ce w12 (B + 1) 42 _ from (hb.block (B + 1) HRBX.out).trans HCw11.out)
              have HRw12 := Lib.hid (show Ce w12 B 42 zerosH from (hb.block B (by have := HRBX.out; omega)).trans HRw11.out)
              have HBRw12 := Lib.hid (HBRw11.out.trans (hb.mono (Nat.le_of_lt HRBX.out)))
              have HWw12 := Lib.hid (HWw11.out.trans (hb.mono (by have := HRBX.out; omega)))
              have HB6 := Lib.hid HB6a
              have HB6D := Lib.hid hn
              have HDL := Lib.hid hkl
              have HKK := Lib.hid hkk
              clear hd hb hkl hn hk1 hgr HB6a hkk
              go_upto_region 19 with fail
              obtain ⟨D, hD⟩ : ∃ D : ByteArray, D = ⟨db.toArray⟩ := ⟨_, rfl⟩
              have HDB : Hid (db = D.data.toList) := Lib.hid (by rw [hD])
              have HNS : Hid (D.size = db.length) := Lib.hid (by rw [HDB.out]; exact size_list D)
              unfold str
              rw [← hD]
              clear hD
              obtain ⟨n, hn⟩ : ∃ n, n = D.size := ⟨_, rfl⟩
              have HNN := Lib.hid hn
              clear hn
              go_upto_region 20 with fail
              go_loopw [10] (fun i wr2 => ∃ (j : Nat) (us : Value), j ≤ n ∧ i = it (j : Int) ∧ Ce wr2 (B + 1) 42 #[it v1, it v2, us, .string ⟨#[]⟩, it v3, it v4, .slice none 0 0] ∧ OwnV wr2 (RB + 1) 3 us (ivs (vot (db.take j))) ∧ Ce wr2 B 42 zerosH ∧ Dr wr2 RB s6 ∧ Below (B + 1) wA wr2 ∧ Below B w wr2) (fun i _ => n - (intOf i).toNat)
              case atStart => exact ⟨0, _, by omega, rfl, HCw12.out, OwnV.nil _ _ _, HRw12.out, HDw12.out, HBRw12.out, HWw12.out⟩
              case round => as_aux_lemma =>
                obtain ⟨j, us, hj, rfl, hC, hO, hB, hD, hb1, hb2⟩ := hrel
                have HCw13 := Lib.hid hC
                have HOw13 := Lib.hid hO
                have HRw13 := Lib.hid hB
                have HDw13 := Lib.hid hD
                have HBRw13 := Lib.hid hb1
                have HWw13 := Lib.hid hb2
                clear hC hO hB hD hb1 hb2
                by_cases hjn : j < n
                · have q : (j : Int) < (D.size : Int) := by have := HNN.out; omega
                  have q' : j < D.size := by have := HNN.out; omega
                  obtain ⟨x, hx⟩ : ∃ x, db[j]? = some x := ⟨_, List.getElem?_eq_getElem (by have := HNS.out; have := HNN.out; omega)⟩
                  obtain ⟨hk1, hget⟩ := getE (d := D) (k := j) (x := x) (by rw [← HDB.out]; exact hx)
                  have hxl := x.toNat_lt
                  have HJN : Hid (j + 1 ≤ n) := Lib.hid hjn
                  have HWJ : Hid (wrap64 ((j : Int) + 1) = (j : Int) + 1) := Lib.hid (by have h1 := HNS.out; have h2 := HNN.out; have h3 := HDL.out; unfold wrap64; omega)
                  have hw : IntKind.i64.wrap (x.toNat : Int) = (x.toNat : Int) := by unfold IntKind.wrap; simp only [IntKind.bits, IntKind.signed]; simp; omega
                  have hlen : (ivs (vot (db.take j))).length = j := by simp [vot]; have := HNS.out; have := HNN.out; omega
                  obtain ⟨TT, hTT⟩ : ∃ TT, TT = ivs (vot (db.take j)) := ⟨_, rfl⟩
                  have HE := Lib.hid (show TT ++ [it (x.toNat : Int)] = ivs (vot (db.take (j + 1))) by rw [hTT, take_succ_of hx]; simp [vot])
                  have hO := HOw13.out
                  rw [← hTT] at hO hlen
                  have HO := Lib.hid hO
                  have HL := Lib.hid hlen
                  clear hx hlen hTT hO HOw13
                  obtain ⟨c0, c1, c2, c3', c4, c5, c6⟩ := c7 HCw13.out
                  obtain ⟨f2, f3', f4, f5, f6⟩ := f7 HCw13.out
                  obtain ⟨f0, f1⟩ := f7a HCw13.out
                  go_upto_region 22 with fail
                  have D0 : Hid (Below wr.heap.size wr wr.drew) := Lib.hid (Below.refl _ wr).drew
                  have HCa := Lib.hid (HCw13.out.below D0.out)
                  have HOa := Lib.hid (HO.out.below D0.out)
                  obtain ⟨oa, oc, rfl, _⟩ := HO.out.shape
                  have hlk := HL.out
                  rw [hlk] at HCw13 HCa HO HOa
                  clear hlk
                  obtain ⟨c0, c1, c2, c3', c4, c5, c6⟩ := c7 HCa.out
                  refine wp_region_held_drew (S := fun _ => True) (by kernel_rfl) trivial (fun hHeld => ?_)
                  refine' wpAnyH_take (i := 0) (v := ?v22) rfl (by kernel_rfl) (by kernel_rfl) (by kernel_rfl) (fun _ _ _ h => h) (Or.inl ⟨by rfl, ?y22⟩) (by assumption) ?r22
                  case y22 => (intro w hSw; (try dsimp only at hSw); go_simp; try with_reducible rfl)
                  try simp only [Act.put, List.getElem_toArray, List.getElem_cons_zero, List.setIfInBounds_toArray, List.set_cons_zero, List.set_cons_succ]
                  refine' wpAnyH_take (i := 2) (v := ?v23) rfl (by kernel_rfl) (by kernel_rfl) (by kernel_rfl) (fun _ _ _ h => h) (Or.inl ⟨by rfl, ?y23⟩) (by assumption) ?r23
                  case y23 => (intro w hSw; (try dsimp only at hSw); go_simp; try with_reducible rfl)
                  try simp only [Act.put, List.getElem_toArray, List.getElem_cons_succ, List.getElem_cons_zero, List.setIfInBounds_toArray, List.set_cons_zero, List.set_cons_succ]
                  refine' wpAnyH_take (i := 3) (v := ?v24) rfl (by kernel_rfl) (by kernel_rfl) (by kernel_rfl) (fun _ _ _ h => h) (Or.inl ⟨by rfl, ?y24⟩) (by assumption) ?r24
                  case y24 => (intro w hSw; (try dsimp only at hSw); go_simp; try with_reducible rfl)
                  try simp only [Act.put, List.getElem_toArray, List.getElem_cons_succ, List.getElem_cons_zero, List.setIfInBounds_toArray, List.set_cons_zero, List.set_cons_succ]
                  refine' wpAnyH_take (i := 4) (v := ?v25) rfl (by kernel_rfl) (by kernel_rfl) (by kernel_rfl) (fun _ _ _ h => h) (Or.inl ⟨by rfl, ?y25⟩) (by assumption) ?r25
                  case y25 => (intro w hSw; (try dsimp only at hSw); go_simp; try with_reducible rfl)
                  try simp only [Act.put, List.getElem_toArray, List.getElem_cons_succ, List.getElem_cons_zero, List.setIfInBounds_toArray, List.set_cons_zero, List.set_cons_succ]
                  refine' wpAnyH_take (i := 5) (v := ?v26) rfl (by kernel_rfl) (by kernel_rfl) (by kernel_rfl) (fun _ _ _ h => h) (Or.inl ⟨by rfl, ?y26⟩) (by assumption) ?r26
                  case y26 => (intro w hSw; (try dsimp only at hSw); go_simp; try with_reducible rfl)
                  try simp only [Act.put, List.getElem_toArray, List.getElem_cons_succ, List.getElem_cons_zero, List.setIfInBounds_toArray, List.set_cons_zero, List.set_cons_succ]
                  refine wpAnyH_ready (rs := [1, 6]) (by kernel_rfl) (by simp) ?_
                  refine AllReadyH.cons rfl (fun K hK => ?_) ?_
                  ·
                    go_simp
                    refine hK.out _ _ (by first | with_reducible exact trivial | exact trivial) (fun hHeld => ?_)
                    clear hK K
                    try simp only [Act.put, List.getElem_toArray, List.getElem_cons_succ, List.getElem_cons_zero, List.setIfInBounds_toArray, List.set_cons_zero, List.set_cons_succ]
                    as_aux_lemma =>
                    refine wpAnyH_ready (rs := [6]) (by kernel_rfl) (by simp) ?_
                    refine AllReadyH.cons rfl (fun K hK => ?_) AllReadyH.nil
                    go_simp
                    have DW_17 : Hid (Below wr.heap.size wr (wr.alloc (.cells #[it (x.toNat : Int)] 3)).drew) := Lib.hid (one_new wr (.cells #[it (x.toNat : Int)] 3)).drew
                    have HCW_18 := Lib.hid (HCw13.out.below DW_17.out)
                    obtain ⟨c0, c1, c2, c3', c4, c5, c6⟩ := c7 HCW_18.out
                    refine hK.out _ _ (by first | with_reducible exact trivial | exact trivial) (fun hHeld => ?_)
                    clear hK K
                    try simp only [Act.put, List.getElem_toArray, List.getElem_cons_succ, List.getElem_cons_zero, List.setIfInBounds_toArray, List.set_cons_zero, List.set_cons_succ]
                    as_aux_lemma =>
                    refine wpAnyH_ready (rs := [7]) (by kernel_rfl) (by simp) ?_
                    refine AllReadyH.cons rfl (fun K hK => ?_) AllReadyH.nil
                    have HOW : Hid (OwnV (wr.alloc (.cells #[it (x.toNat : Int)] 3)).drew (RB + 1) 3 (.slice oa j oc) TT) := Lib.hid (HO.out.below DW_17.out)
                    refine app_oneW (.tmp 73) (.tmp 78) rfl (RB + 1) _ TT rfl HOW.out (it (x.toNat : Int)) rfl ⟨wr.heap.size, 0, none⟩ rfl (fun i u h => cell_one_new wr _ _ i u h) (by have := HL.out; have := HNN.out; have := HNS.out; have := HDL.out; omega) (Nat.le_trans (Nat.succ_le_of_lt HDw13.out.lt) DW_17.out.size) ?_
                    intro v14 w14 ho hb
                    rw [HE.out] at ho
                    obtain ⟨za, zc, rfl, _⟩ := ho.shape
                    obtain ⟨zl, hzl⟩ : ∃ zl, zl = (ivs (vot (db.take (j + 1)))).length := ⟨_, rfl⟩
                    rw [← hzl] at ho ⊢
                    clear hzl
                    have HCw14 := Lib.hid (show Ce w14 (B + 1) 42 _ from (hb.block (B + 1) (by have := HRBX.out; omega)).trans HCW_18.out)
                    have HRw14 := Lib.hid (show Ce w14 B 42 zerosH from (hb.block B (by have := HRBX.out; omega)).trans (HRw13.out.below DW_17.out))
                    have HDw14 := Lib.hid (show Dr w14 RB s6 from let ⟨ok, r, h1, h4, h5⟩ := HDw13.out.below DW_17.out; ⟨ok, r, (hb.block RB (Nat.lt_succ_self _)).trans h1, h4, h5⟩)
                    have HBRw14 := Lib.hid ((HBRw13.out.trans (DW_17.out.mono (Nat.le_of_lt HCw13.out.lt))).trans (hb.mono (by have := HRBX.out; omega)))
                    have HWw14 := Lib.hid ((HWw13.out.trans (DW_17.out.mono (by have := HCw13.out.lt; omega))).trans (hb.mono (by have := HRBX.out; omega)))
                    have HO14 := Lib.hid ho
                    clear ho hb
                    obtain ⟨c0, c1, c2, c3', c4, c5, c6⟩ := c7 HCw14.out
                    obtain ⟨f2, f3', f4, f5, f6⟩ := f7 HCw14.out
                    refine hK.out _ _ (by first | with_reducible exact trivial | exact trivial) (fun hHeld => ?_)
                    clear hK K
                    try simp only [Act.put, List.getElem_toArray, List.getElem_cons_succ, List.getElem_cons_zero, List.setIfInBounds_toArray, List.set_cons_zero, List.set_cons_succ]
                    as_aux_lemma =>
                    refine' wpAnyH_take (i := 8) (v := ?v27) rfl (by kernel_rfl) (by kernel_rfl) (by kernel_rfl) (fun _ _ _ h => h) (Or.inl ⟨by rfl, ?y27⟩) (by assumption) ?r27
                    case y27 => (intro w hSw; (try dsimp only at hSw); go_simp; try with_reducible rfl)
                    try simp only [Act.put, List.getElem_toArray, List.getElem_cons_succ, List.getElem_cons_zero, List.setIfInBounds_toArray, List.set_cons_zero, List.set_cons_succ]
                    refine wpAnyH_ready (rs := [9]) (by kernel_rfl) (by simp) ?_
                    refine AllReadyH.cons rfl (fun K hK => ?_) AllReadyH.nil
                    go_simp
                    refine hK.out _ _ (by first | with_reducible exact trivial | exact trivial) (fun hHeld => ?_)
                    clear hK K
                    try simp only [Act.put, List.getElem_toArray, List.getElem_cons_succ, List.getElem_cons_zero, List.setIfInBounds_toArray, List.set_cons_zero, List.set_cons_succ]
                    as_aux_lemma =>
                    refine wpAnyH_done (by kernel_rfl) ?_ _
                    have HCw15 := Lib.hid (HCw14.out.set (.slice za zl zc) (i := 2))
                    have HOw15 := Lib.hid (HO14.out.set (b := B + 1) (i := 2) (by have := HRBX.out; omega) (.slice za zl zc))
                    have HRw15 := Lib.hid (HRw14.out.other (show B ≠ B + 1 by omega) (.slice za zl zc) (i := 2))
                    have HDw15 := Lib.hid (HDw14.out.set HRBX.out (i := 2) (.slice za zl zc))
                    have HBRw15 := Lib.hid (HBRw14.out.setCell (p := ⟨B + 1, 2, none⟩) (Nat.le_refl _) (.slice za zl zc))
                    have HWw15 := Lib.hid (HWw14.out.setCell (p := ⟨B + 1, 2, none⟩) (Nat.le_succ B) (.slice za zl zc))
                    go_wp2
                    go_roundw
                    case rel => exact ⟨j + 1, _, HJN.out, by rw [HWJ.out]; rfl, HCw15.out, HOw15.out, HRw15.out, HDw15.out, HBRw15.out, HWw15.out⟩
                    case measure =>
                      exact measW HJN.out HWJ.out
                  refine AllReadyH.cons rfl (fun K hK => ?_) AllReadyH.nil
                  go_simp
                  have DW_19 : Hid (Below wr.heap.size wr (wr.alloc (.cells #[it (x.toNat : Int)] 3)).drew) := Lib.hid (one_new wr (.cells #[it (x.toNat : Int)] 3)).drew
                  have HCW_20 := Lib.hid (HCw13.out.below DW_19.out)
                  obtain ⟨c0, c1, c2, c3', c4, c5, c6⟩ := c7 HCW_20.out
                  refine hK.out _ _ (by first | with_reducible exact trivial | exact trivial) (fun hHeld => ?_)
                  clear hK K
                  try simp only [Act.put, List.getElem_toArray, List.getElem_cons_succ, List.getElem_cons_zero, List.setIfInBounds_toArray, List.set_cons_zero, List.set_cons_succ]
                  as_aux_lemma =>
                  refine wpAnyH_ready (rs := [1]) (by kernel_rfl) (by simp) ?_
                  refine AllReadyH.cons rfl (fun K hK => ?_) AllReadyH.nil
                  go_simp
                  refine hK.out _ _ (by first | with_reducible exact trivial | exact trivial) (fun hHeld => ?_)
                  clear hK K
                  try simp only [Act.put, List.getElem_toArray, List.getElem_cons_succ, List.getElem_cons_zero, List.setIfInBounds_toArray, List.set_cons_zero, List.set_cons_succ]
                  as_aux_lemma =>
                  refine wpAnyH_ready (rs := [7]) (by kernel_rfl) (by simp) ?_
                  refine AllReadyH.cons rfl (fun K hK => ?_) AllReadyH.nil
                  have HOW : Hid (OwnV (wr.alloc (.cells #[it (x.toNat : Int)] 3)).drew (RB + 1) 3 (.slice oa j oc) TT) := Lib.hid (HO.out.below DW_19.out)
                  refine app_oneW (.tmp 73) (.tmp 78) rfl (RB + 1) _ TT rfl HOW.out (it (x.toNat : Int)) rfl ⟨wr.heap.size, 0, none⟩ rfl (fun i u h => cell_one_new wr _ _ i u h) (by have := HL.out; have := HNN.out; have := HNS.out; have := HDL.out; omega) (Nat.le_trans (Nat.succ_le_of_lt HDw13.out.lt) DW_19.out.size) ?_
                  intro v14 w14 ho hb
                  rw [HE.out] at ho
                  obtain ⟨za, zc, rfl, _⟩ := ho.shape
                  obtain ⟨zl, hzl⟩ : ∃ zl, zl = (ivs (vot (db.take (j + 1)))).length := ⟨_, rfl⟩
                  rw [← hzl] at ho ⊢
                  clear hzl
                  have HCw14 := Lib.hid (show Ce w14 (B + 1) 42 _ from (hb.block (B + 1) (by have := HRBX.out; omega)).trans HCW_20.out)
                  have HRw14 := Lib.hid (show Ce w14 B 42 zerosH from (hb.block B (by have := HRBX.out; omega)).trans (HRw13.out.below DW_19.out))
                  have HDw14 := Lib.hid (show Dr w14 RB s6 from let ⟨ok, r, h1, h4, h5⟩ := HDw13.out.below DW_19.out; ⟨ok, r, (hb.block RB (Nat.lt_succ_self _)).trans h1, h4, h5⟩)
                  have HBRw14 := Lib.hid ((HBRw13.out.trans (DW_19.out.mono (Nat.le_of_lt HCw13.out.lt))).trans (hb.mono (by have := HRBX.out; omega)))
                  have HWw14 := Lib.hid ((HWw13.out.trans (DW_19.out.mono (by have := HCw13.out.lt; omega))).trans (hb.mono (by have := HRBX.out; omega)))
                  have HO14 := Lib.hid ho
                  clear ho hb
                  obtain ⟨c0, c1, c2, c3', c4, c5, c6⟩ := c7 HCw14.out
                  obtain ⟨f2, f3', f4, f5, f6⟩ := f7 HCw14.out
                  refine hK.out _ _ (by first | with_reducible exact trivial | exact trivial) (fun hHeld => ?_)
                  clear hK K
                  try simp only [Act.put, List.getElem_toArray, List.getElem_cons_succ, List.getElem_cons_zero, List.setIfInBounds_toArray, List.set_cons_zero, List.set_cons_succ]
                  as_aux_lemma =>
                  refine' wpAnyH_take (i := 8) (v := ?v28) rfl (by kernel_rfl) (by kernel_rfl) (by kernel_rfl) (fun _ _ _ h => h) (Or.inl ⟨by rfl, ?y28⟩) (by assumption) ?r28
                  case y28 => (intro w hSw; (try dsimp only at hSw); go_simp; try with_reducible rfl)
                  try simp only [Act.put, List.getElem_toArray, List.getElem_cons_succ, List.getElem_cons_zero, List.setIfInBounds_toArray, List.set_cons_zero, List.set_cons_succ]
                  refine wpAnyH_ready (rs := [9]) (by kernel_rfl) (by simp) ?_
                  refine AllReadyH.cons rfl (fun K hK => ?_) AllReadyH.nil
                  go_simp
                  refine hK.out _ _ (by first | with_reducible exact trivial | exact trivial) (fun hHeld => ?_)
                  clear hK K
                  try simp only [Act.put, List.getElem_toArray, List.getElem_cons_succ, List.getElem_cons_zero, List.setIfInBounds_toArray, List.set_cons_zero, List.set_cons_succ]
                  as_aux_lemma =>
                  refine wpAnyH_done (by kernel_rfl) ?_ _
                  have HCw15 := Lib.hid (HCw14.out.set (.slice za zl zc) (i := 2))
                  have HOw15 := Lib.hid (HO14.out.set (b := B + 1) (i := 2) (by have := HRBX.out; omega) (.slice za zl zc))
                  have HRw15 := Lib.hid (HRw14.out.other (show B ≠ B + 1 by omega) (.slice za zl zc) (i := 2))
                  have HDw15 := Lib.hid (HDw14.out.set HRBX.out (i := 2) (.slice za zl zc))
                  have HBRw15 := Lib.hid (HBRw14.out.setCell (p := ⟨B + 1, 2, none⟩) (Nat.le_refl _) (.slice za zl zc))
                  have HWw15 := Lib.hid (HWw14.out.setCell (p := ⟨B + 1, 2, none⟩) (Nat.le_succ B) (.slice za zl zc))
                  go_wp2
                  go_roundw
                  case rel => exact ⟨j + 1, _, HJN.out, by rw [HWJ.out]; rfl, HCw15.out, HOw15.out, HRw15.out, HDw15.out, HBRw15.out, HWw15.out⟩
                  case measure =>
                    exact measW HJN.out HWJ.out
                · as_aux_lemma =>
                  have q1 : decide ((j : Int) < (D.size : Int)) = false := decide_eq_false (by have := HNN.out; omega)
                  have q2 : decide (j < D.size) = false := decide_eq_false (by have := HNN.out; omega)
                  have e13 : db.take j = db := List.take_of_length_le (by have h1 := HNS.out; have h2 := HNN.out; have h3 : ¬ j < n := hjn; omega)
                  rw [e13] at HOw13
                  have HV13 : Hid (OwnV wr (RB + 1) 3 us (ivs (vot db))) := HOw13
                  clear e13
                  clear HOw13
                  obtain ⟨ua, uc, rfl, _⟩ := HV13.out.shape
                  obtain ⟨ul, hul⟩ : ∃ ul, ul = (ivs (vot db)).length := ⟨_, rfl⟩
                  rw [← hul] at HV13 HCw13
                  have HUL := Lib.hid hul
                  clear hul
                  go_wp2_with fail
                  refine (dnumber_any HDw13.out).mono ?_
                  rintro e w14 ⟨v6, s7, rfl, hd, hb, hn, hgr⟩
                  have HDw14 := Lib.hid hd
                  have HCw14 := Lib.hid (show Ce w14 (B + 1) 42 _ from (hb.block (B + 1) HRBX.out).trans HCw13.out)
                  have HRw14 := Lib.hid (show Ce w14 B 42 zerosH from (hb.block B (by have := HRBX.out; omega)).trans HRw13.out)
                  have HBRw14 := Lib.hid (HBRw13.out.trans (hb.mono (Nat.le_of_lt HRBX.out)))
                  have HWw14 := Lib.hid (HWw13.out.trans (hb.mono (by have := HRBX.out; omega)))
                  have HN7 := Lib.hid hn
                  have HVw14 := Lib.hid (HV13.out.keep (fun g h1 h2 => hgr.block g h2 (by intro e; injection e with e; omega)))
                  clear hd hb hn hgr
                  go_upto_region 24 with fail
                  go_wp2_with fail
                  refine (take_any HDw14.out v6).mono ?_
                  rintro e w15 ⟨sb, s8, rfl, hd, hb, hkl, hn, hk1, hgr⟩
                  obtain ⟨sn, HB8a, hkk8⟩ := bytD_R hn (fun h => HN7.out.nonneg h)
                  have HDw15 := Lib.hid hd
                  have HCw15 := Lib.hid (show Ce w15 (B + 1) 42 _ from (hb.block (B + 1) HRBX.out).trans HCw14.out)
                  have HRw15 := Lib.hid (show Ce w15 B 42 zerosH from (hb.block B (by have := HRBX.out; omega)).trans HRw14.out)
                  have HBRw15 := Lib.hid (HBRw14.out.trans (hb.mono (Nat.le_of_lt HRBX.out)))
                  have HWw15 := Lib.hid (HWw14.out.trans (hb.mono (by have := HRBX.out; omega)))
                  have HVw15 := Lib.hid (HVw14.out.keep (fun g h1 h2 => hgr.block g h2 (by intro e; injection e with e; omega)))
                  have HB8 := Lib.hid HB8a
                  have HKK8 := Lib.hid hkk8
                  obtain ⟨SN, hSN⟩ : ∃ SN : ByteArray, SN = ⟨sb.toArray⟩ := ⟨_, rfl⟩
                  have HSNB : Hid (SN = ⟨sb.toArray⟩) := Lib.hid hSN
                  have HSNS : Hid (SN.size = sb.length) := Lib.hid (by rw [hSN]; rfl)
                  unfold str
                  rw [← hSN]
                  clear hd hb hkl hn hk1 hgr HB8a hkk8 hSN
                  obtain ⟨c0, c1, c2, c3', c4, c5, c6⟩ := c7 HCw15.out
                  obtain ⟨f2, f3', f4, f5, f6⟩ := f7 HCw15.out
                  obtain ⟨f0, f1⟩ := f7a HCw15.out
                  go_upto_region 25 with fail
                  generalize hwN : World.setCell w15 _ _ = w16
                  have HCw16 : Hid (Ce w16 (B + 1) 42 #[it v1, it v2, .slice ua ul uc, .string SN, it v3, it v4, .slice none 0 0]) := Lib.hid (by rw [← hwN]; exact HCw15.out.set _ (i := 3))
                  have HRw16 : Hid (Ce w16 B 42 zerosH) := Lib.hid (by rw [← hwN]; exact HRw15.out.other (by omega) _)
                  have HDw16 := Lib.hid (show Dr w16 RB _ from by rw [← hwN]; exact HDw15.out.set HRBX.out _)
                  have HBRw16 : Hid (Below (B + 1) wA w16) := Lib.hid (by rw [← hwN]; exact HBRw15.out.setCell (p := ⟨B + 1, 3, none⟩) (Nat.le_refl _) _)
                  have HWw16 : Hid (Below B w w16) := Lib.hid (by rw [← hwN]; exact HWw15.out.setCell (p := ⟨B + 1, 3, none⟩) (Nat.le_succ B) _)
                  have HVw16 : Hid (OwnV w16 (RB + 1) 3 (.slice ua ul uc) (ivs (vot db))) := Lib.hid (by rw [← hwN]; exact HVw15.out.set (b := B + 1) (i := 3) (by have := HRBX.out; omega) _)
                  clear hwN c0 c1 c2 c3' c4 c5 c6 f0 f1 f2 f3' f4 f5 f6
                  obtain ⟨c0, c1, c2, c3', c4, c5, c6⟩ := c7 HCw16.out
                  go_wp2_with fail
                  refine (rright_any HVw16.out.rdN (by simp only [vot, List.length_map]; exact HDL.out)).mono ?_
                  rintro e w17 ⟨ok, rfl, hok, hb⟩
                  have HOKR := Lib.hid hok
                  have HDw17 := Lib.hid (HDw16.out.below hb)
                  have HCw17 := Lib.hid (HCw16.out.below hb)
                  have HRw17 := Lib.hid (HRw16.out.below hb)
                  have HVw17 := Lib.hid (HVw16.out.below hb)
                  have HBRw17 := Lib.hid (HBRw16.out.trans (hb.mono (Nat.le_of_lt HCw16.out.lt)))
                  have HWw17 := Lib.hid (HWw16.out.trans (hb.mono (Nat.le_of_lt HRw16.out.lt)))
                  clear hb hok c0 c1 c2 c3' c4 c5 c6
                  go_upto_region 26 with fail
                  obtain ⟨bad, r8, hd1, hd2, hd3⟩ := HDw17.out
                  obtain ⟨R8, hR8⟩ : ∃ R8 : ByteArray, R8 = ⟨r8.toArray⟩ := ⟨_, rfl⟩
                  have HR8 := Lib.hid hR8
                  unfold str at hd1
                  rw [← hR8] at hd1
                  obtain ⟨BAD, hBAD⟩ : ∃ BAD, BAD = (bad || (!ok && decide (0 < ul)) || decide (50000 < SN.size) || !(R8.toList == [])) := ⟨_, rfl⟩
                  have HBAD' := Lib.hid hBAD
                  have HMW := Lib.hid (stW_out hd2 HN1.out HN2.out HN3.out HN4.out HN5.out HB6.out HKK.out HN7.out HB8.out HKK8.out HOKR.out HUL.out HSNB.out hR8 hBAD)
                  obtain ⟨k0, k1⟩ := c2' hd1
                  have j1 : w17.frozen? ⟨RB, 1, none⟩ = false := hd1.frozen 1
                  obtain ⟨c0, c1, c2, c3', c4, c5, c6⟩ := c7 HCw17.out
                  have HBAD := HBAD'
                  clear hd1 hd2 hd3 hR8 hBAD HBAD'
                  have HGEN : Hid (∀ b : Bool, Ce (w17.setCell ⟨RB, 1, none⟩ (.bool b)) (B + 1) 42 #[it v1, it v2, .slice ua ul uc, .string SN, it v3, it v4, .slice none 0 0] ∧ OwnV (w17.setCell ⟨RB, 1, none⟩ (.bool b)) (RB + 1) 3 (.slice ua ul uc) (ivs (vot db)) ∧ Below B w (w17.setCell ⟨RB, 1, none⟩ (.bool b)) ∧ Ce (w17.setCell ⟨RB, 1, none⟩ (.bool b)) B 42 zerosH ∧
                      Below (B + 1) wA (w17.setCell ⟨RB, 1, none⟩ (.bool b)) ∧ B + 1 < (w17.setCell ⟨RB, 1, none⟩ (.bool b)).heap.size) := Lib.hid (fun b => ⟨HCw17.out.other (B' := RB) (i := 1) (by have := HRBX.out; omega) _, HVw17.out.set (b := RB) (i := 1) (by omega) _, HWw17.out.setCell (p := ⟨RB, 1, none⟩) (by have := HRBX.out; show B ≤ RB; omega) _, HRw17.out.other (by have := HRBX.out; omega) _,
                    HBRw17.out.setCell (p := ⟨RB, 1, none⟩) (by have := HRBX.out; show B + 1 ≤ RB; omega) _, by have := HCw17.out.lt; simpa using this⟩)
                  cases bad
                  · cases ok
                    · by_cases hu : 0 < ul
                      · have u1 : decide ((0 : Int) < (ul : Int)) = true := decide_eq_true (by omega)
                        have u2 : decide (0 < ul) = true := decide_eq_true hu
                        as_aux_lemma =>
                        obtain ⟨hc18, hv18, hbx, hrx, hbf, hsf⟩ := HGEN.out true
                        have HBX := Lib.hid hbx
                        have HRX := Lib.hid hrx
                        clear hc18 hv18 hbx hrx hbf hsf
                        have HNO := Lib.hid (HFAIL.out (by rw [HST.out]; exact HMW.out.1 (by rw [HBAD.out]; simp [hu])))
                        have k18 := k18_of (v := .bool true) k1 j1
                        go_upto_region 41 with fail
                        generalize w17.setCell ⟨RB, 1, none⟩ (.bool true) = w18 at *
                        clear c0 c1 c2 c3' c4 c5 c6 k0 k1 j1
                        go_upto_region 42 with fail
                        go_wp2_with (refine wpList_store_rowTo rfl 42 (.tmp 2) (.tmp 210) rfl rfl B zerosH rfl rfl 42 zerosH HRX.out (by kernel_rfl) rfl (by kernel_rfl) ?_; rw [setRow_self _ _ _ _ _ HRX.out])
                        refine bodyPost_ret (resHt rfl rfl HRX.out) rfl ?_
                        have HBF : Below w.heap.size w w18 := by rw [← HBB.out]; exact HBX.out
                        exact ⟨Hs.zero, .slice none 0 0, .slice none 0 0, 10, rfl, RdN.nil _, RdE.nil _, HBF, LoadR.no HNO.out⟩
                      · have u1 : decide ((0 : Int) < (ul : Int)) = false := decide_eq_false (by omega)
                        have u2 : decide (0 < ul) = false := decide_eq_false hu
                        by_cases h50 : 50000 < SN.size
                        · have x1 : decide ((50000 : Int) < (SN.size : Int)) = true := decide_eq_true (by omega)
                          have x2 : decide (50000 < SN.size) = true := decide_eq_true h50
                          as_aux_lemma =>
                          obtain ⟨hc18, hv18, hbx, hrx, hbf, hsf⟩ := HGEN.out true
                          have HBX := Lib.hid hbx
                          have HRX := Lib.hid hrx
                          clear hc18 hv18 hbx hrx hbf hsf
                          have HNO := Lib.hid (HFAIL.out (by rw [HST.out]; exact HMW.out.1 (by rw [HBAD.out]; simp [u2, h50])))
                          have k18 := k18_of (v := .bool true) k1 j1
                          go_upto_region 41 with fail
                          generalize w17.setCell ⟨RB, 1, none⟩ (.bool true) = w18 at *
                          clear c0 c1 c2 c3' c4 c5 c6 k0 k1 j1
                          go_upto_region 42 with fail
                          go_wp2_with (refine wpList_store_rowTo rfl 42 (.tmp 2) (.tmp 210) rfl rfl B zerosH rfl rfl 42 zerosH HRX.out (by kernel_rfl) rfl (by kernel_rfl) ?_; rw [setRow_self _ _ _ _ _ HRX.out])
                          refine bodyPost_ret (resHt rfl rfl HRX.out) rfl ?_
                          have HBF : Below w.heap.size w w18 := by rw [← HBB.out]; exact HBX.out
                          exact ⟨Hs.zero, .slice none 0 0, .slice none 0 0, 10, rfl, RdN.nil _, RdE.nil _, HBF, LoadR.no HNO.out⟩
                        · have x1 : decide ((50000 : Int) < (SN.size : Int)) = false := decide_eq_false (by omega)
                          have x2 : decide (50000 < SN.size) = false := decide_eq_false h50
                          cases r8 with
                          | nil =>
                            have q9 : (R8.toList == []) = true := by rw [ByteArray.toList_eq, HR8.out]; rfl
                            have q9' : (R8.toList != []) = false := by rw [ByteArray.toList_eq, HR8.out]; rfl
                            as_aux_lemma =>
                            obtain ⟨HCw18, HVw18, hbx, hrx, hbf, hsf⟩ := HGEN.out false
                            have HBF := Lib.hid hbf
                            have HSF := Lib.hid hsf
                            have HS2 : Hid (stp S (c :: q) = some ⟨v1, v2, vot db, SN, v3, v4, []⟩) := Lib.hid (by rw [HST.out]; exact HMW.out.2 (by rw [HBAD.out]; simp [u2, x2, q9]))
                            have HIF : Hid (HvI (w17.setCell ⟨RB, 1, none⟩ (.bool false)) (B + 1) ⟨v1, v2, vot db, SN, v3, v4, []⟩) := Lib.hid ⟨_, _, HCw18, HVw18.weak (by have := HRBX.out; omega), ownE_nil _ _⟩
                            have hwk := HWK.out
                            clear HCw18 HVw18 hbx hrx hbf hsf c0 c1 c4 c5 c6
                            go_wp2
                            go_roundw
                            case rel => exact ⟨k + 1, ⟨v1, v2, vot db, SN, v3, v4, []⟩, by omega, rfl, HIF.out, HBF.out, HSF.out, stp_ok HOK.out HRLL.out HS2.out, by rw [HSN.out]; exact HS2.out, HFW.out _ HS2.out⟩
                            case measure => simp [intOf]; omega
                          | cons x t =>
                            have q9 : (R8.toList == []) = false := by rw [ByteArray.toList_eq, HR8.out]; rfl
                            have q9' : (R8.toList != []) = true := by rw [ByteArray.toList_eq, HR8.out]; rfl
                            have q9'' : R8.toList.isEmpty = false := by rw [ByteArray.toList_eq, HR8.out]; rfl
                            as_aux_lemma =>
                            obtain ⟨hc18, hv18, hbx, hrx, hbf, hsf⟩ := HGEN.out true
                            have HBX := Lib.hid hbx
                            have HRX := Lib.hid hrx
                            clear hc18 hv18 hbx hrx hbf hsf
                            have HNO := Lib.hid (HFAIL.out (by rw [HST.out]; exact HMW.out.1 (by rw [HBAD.out]; simp [u2, q9])))
                            have k18 := k18_of (v := .bool true) k1 j1
                            go_upto_region 41 with fail
                            generalize w17.setCell ⟨RB, 1, none⟩ (.bool true) = w18 at *
                            clear c0 c1 c2 c3' c4 c5 c6 k0 k1 j1
                            go_upto_region 42 with fail
                            go_wp2_with (refine wpList_store_rowTo rfl 42 (.tmp 2) (.tmp 210) rfl rfl B zerosH rfl rfl 42 zerosH HRX.out (by kernel_rfl) rfl (by kernel_rfl) ?_; rw [setRow_self _ _ _ _ _ HRX.out])
                            refine bodyPost_ret (resHt rfl rfl HRX.out) rfl ?_
                            have HBF : Below w.heap.size w w18 := by rw [← HBB.out]; exact HBX.out
                            exact ⟨Hs.zero, .slice none 0 0, .slice none 0 0, 10, rfl, RdN.nil _, RdE.nil _, HBF, LoadR.no HNO.out⟩
                    · skip
                      by_cases h50 : 50000 < SN.size
                      · have x1 : decide ((50000 : Int) < (SN.size : Int)) = true := decide_eq_true (by omega)
                        have x2 : decide (50000 < SN.size) = true := decide_eq_true h50
                        as_aux_lemma =>
                        obtain ⟨hc18, hv18, hbx, hrx, hbf, hsf⟩ := HGEN.out true
                        have HBX := Lib.hid hbx
                        have HRX := Lib.hid hrx
                        clear hc18 hv18 hbx hrx hbf hsf
                        have HNO := Lib.hid (HFAIL.out (by rw [HST.out]; exact HMW.out.1 (by rw [HBAD.out]; simp [h50])))
                        have k18 := k18_of (v := .bool true) k1 j1
                        go_upto_region 41 with fail
                        generalize w17.setCell ⟨RB, 1, none⟩ (.bool true) = w18 at *
                        clear c0 c1 c2 c3' c4 c5 c6 k0 k1 j1
                        go_upto_region 42 with fail
                        go_wp2_with (refine wpList_store_rowTo rfl 42 (.tmp 2) (.tmp 210) rfl rfl B zerosH rfl rfl 42 zerosH HRX.out (by kernel_rfl) rfl (by kernel_rfl) ?_; rw [setRow_self _ _ _ _ _ HRX.out])
                        refine bodyPost_ret (resHt rfl rfl HRX.out) rfl ?_
                        have HBF : Below w.heap.size w w18 := by rw [← HBB.out]; exact HBX.out
                        exact ⟨Hs.zero, .slice none 0 0, .slice none 0 0, 10, rfl, RdN.nil _, RdE.nil _, HBF, LoadR.no HNO.out⟩
                      · have x1 : decide ((50000 : Int) < (SN.size : Int)) = false := decide_eq_false (by omega)
                        have x2 : decide (50000 < SN.size) = false := decide_eq_false h50
                        cases r8 with
                        | nil =>
                          have q9 : (R8.toList == []) = true := by rw [ByteArray.toList_eq, HR8.out]; rfl
                          have q9' : (R8.toList != []) = false := by rw [ByteArray.toList_eq, HR8.out]; rfl
                          as_aux_lemma =>
                          obtain ⟨HCw18, HVw18, hbx, hrx, hbf, hsf⟩ := HGEN.out false
                          have HBF := Lib.hid hbf
                          have HSF := Lib.hid hsf
                          have HS2 : Hid (stp S (c :: q) = some ⟨v1, v2, vot db, SN, v3, v4, []⟩) := Lib.hid (by rw [HST.out]; exact HMW.out.2 (by rw [HBAD.out]; simp [x2, q9]))
                          have HIF : Hid (HvI (w17.setCell ⟨RB, 1, none⟩ (.bool false)) (B + 1) ⟨v1, v2, vot db, SN, v3, v4, []⟩) := Lib.hid ⟨_, _, HCw18, HVw18.weak (by have := HRBX.out; omega), ownE_nil _ _⟩
                          have hwk := HWK.out
                          clear HCw18 HVw18 hbx hrx hbf hsf c0 c1 c4 c5 c6
                          go_wp2
                          go_roundw
                          case rel => exact ⟨k + 1, ⟨v1, v2, vot db, SN, v3, v4, []⟩, by omega, rfl, HIF.out, HBF.out, HSF.out, stp_ok HOK.out HRLL.out HS2.out, by rw [HSN.out]; exact HS2.out, HFW.out _ HS2.out⟩
                          case measure => simp [intOf]; omega
                        | cons x t =>
                          have q9 : (R8.toList == []) = false := by rw [ByteArray.toList_eq, HR8.out]; rfl
                          have q9' : (R8.toList != []) = true := by rw [ByteArray.toList_eq, HR8.out]; rfl
                          have q9'' : R8.toList.isEmpty = false := by rw [ByteArray.toList_eq, HR8.out]; rfl
                          as_aux_lemma =>
                          obtain ⟨hc18, hv18, hbx, hrx, hbf, hsf⟩ := HGEN.out true
                          have HBX := Lib.hid hbx
                          have HRX := Lib.hid hrx
                          clear hc18 hv18 hbx hrx hbf hsf
                          have HNO := Lib.hid (HFAIL.out (by rw [HST.out]; exact HMW.out.1 (by rw [HBAD.out]; simp [q9])))
                          have k18 := k18_of (v := .bool true) k1 j1
                          go_upto_region 41 with fail
                          generalize w17.setCell ⟨RB, 1, none⟩ (.bool true) = w18 at *
                          clear c0 c1 c2 c3' c4 c5 c6 k0 k1 j1
                          go_upto_region 42 with fail
                          go_wp2_with (refine wpList_store_rowTo rfl 42 (.tmp 2) (.tmp 210) rfl rfl B zerosH rfl rfl 42 zerosH HRX.out (by kernel_rfl) rfl (by kernel_rfl) ?_; rw [setRow_self _ _ _ _ _ HRX.out])
                          refine bodyPost_ret (resHt rfl rfl HRX.out) rfl ?_
                          have HBF : Below w.heap.size w w18 := by rw [← HBB.out]; exact HBX.out
                          exact ⟨Hs.zero, .slice none 0 0, .slice none 0 0, 10, rfl, RdN.nil _, RdE.nil _, HBF, LoadR.no HNO.out⟩
                  · skip
                    as_aux_lemma =>
                    obtain ⟨hc18, hv18, hbx, hrx, hbf, hsf⟩ := HGEN.out true
                    have HBX := Lib.hid hbx
                    have HRX := Lib.hid hrx
                    clear hc18 hv18 hbx hrx hbf hsf
                    have HNO := Lib.hid (HFAIL.out (by rw [HST.out]; exact HMW.out.1 (by rw [HBAD.out]; simp)))
                    have k18 := k18_of (v := .bool true) k1 j1
                    go_upto_region 41 with fail
                    generalize w17.setCell ⟨RB, 1, none⟩ (.bool true) = w18 at *
                    clear c0 c1 c2 c3' c4 c5 c6 k0 k1 j1
                    go_upto_region 42 with fail
                    go_wp2_with (refine wpList_store_rowTo rfl 42 (.tmp 2) (.tmp 210) rfl rfl B zerosH rfl rfl 42 zerosH HRX.out (by kernel_rfl) rfl (by kernel_rfl) ?_; rw [setRow_self _ _ _ _ _ HRX.out])
                    refine bodyPost_ret (resHt rfl rfl HRX.out) rfl ?_
                    have HBF : Below w.heap.size w w18 := by rw [← HBB.out]; exact HBX.out
                    exact ⟨Hs.zero, .slice none 0 0, .slice none 0 0, 10, rfl, RdN.nil _, RdE.nil _, HBF, LoadR.no HNO.out⟩
            · have t1 : ((c.toNat : Int) == 87) = false := by
                have : ¬ c.toNat = 87 := fun h => c87 (by
                  have : c = UInt8.ofNat c.toNat := by simp
                  rw [this, h]; rfl)
                simp; omega
              have t1' : (c.toNat == 87) = false := by simp at t1 ⊢; omega
              by_cases c84 : c = 84
              · skip
                have t2 : ((c.toNat : Int) == 84) = true := by rw [c84]; rfl
                have t2' : (c.toNat == 84) = true := by rw [c84]; rfl
                have HST : Hid (stp S (c :: q) = stT S q) := Lib.hid (by show (if c = 87 then stW q else if c = 84 then stT S q else if c = 69 then stE S q else none) = _; rw [if_neg c87, if_pos c84])
                have HDw1 := HDR
                have HCw1 := HC1
                have HRw1 := HR1
                have HBRw1 := HBR1
                have HWw1 := HW1
                have HKPw1 := HKP
                clear c87 c84
                go_wp2_with fail
                refine (dnumber_any HDw1.out).mono ?_
                rintro e w2 ⟨v1, s1, rfl, hd, hb, hn, hgr⟩
                have HDw2 := Lib.hid hd
                have HCw2 := Lib.hid (show Ce w2 (B + 1) 42 _ from (hb.block (B + 1) HRBX.out).trans HCw1.out)
                have HRw2 := Lib.hid (show Ce w2 B 42 zerosH from (hb.block B (by have := HRBX.out; omega)).trans HRw1.out)
                have HBRw2 := Lib.hid (HBRw1.out.trans (hb.mono (Nat.le_of_lt HRBX.out)))
                have HWw2 := Lib.hid (HWw1.out.trans (hb.mono (by have := HRBX.out; omega)))
                have HKPw2 : Hid (∀ g, B + 2 ≤ g → g < RB → w2.heap[g]? = wr.heap[g]?) := Lib.hid (fun g h1 h2 => (hb.block g h2).trans (HKPw1.out g h1 h2))
                have HN1 := Lib.hid hn
                clear hd hb hn hgr
                obtain ⟨c0, c1, c2, c3', c4, c5, c6⟩ := c7 HCw2.out
                obtain ⟨f2, f3', f4, f5, f6⟩ := f7 HCw2.out
                obtain ⟨f0, f1⟩ := f7a HCw2.out
                go_upto_region 29 with fail
                generalize hwN : World.setCell w2 _ _ = w3
                have HCw3 : Hid (Ce w3 (B + 1) 42 #[it v1, it S.vo, vs, .string S.sn, it S.ba, it S.bt, es]) := Lib.hid (by rw [← hwN]; exact HCw2.out.set _ (i := 0))
                have HRw3 : Hid (Ce w3 B 42 zerosH) := Lib.hid (by rw [← hwN]; exact HRw2.out.other (by omega) _)
                have HDw3 := Lib.hid (show Dr w3 RB _ from by rw [← hwN]; exact HDw2.out.set HRBX.out _)
                have HBRw3 : Hid (Below (B + 1) wA w3) := Lib.hid (by rw [← hwN]; exact HBRw2.out.setCell (p := ⟨B + 1, 0, none⟩) (Nat.le_refl _) _)
                have HWw3 : Hid (Below B w w3) := Lib.hid (by rw [← hwN]; exact HWw2.out.setCell (p := ⟨B + 1, 0, none⟩) (Nat.le_succ B) _)
                have HKPw3 : Hid (∀ g, B + 2 ≤ g → g < RB → w3.heap[g]? = wr.heap[g]?) := Lib.hid (fun g h1 h2 => by rw [← hwN, heap_setCell_other _ _ _ _ (show g ≠ B + 1 by omega)]; exact HKPw2.out g h1 h2)
                clear hwN c0 c1 c2 c3' c4 c5 c6 f0 f1 f2 f3' f4 f5 f6
                go_wp2_with fail
                refine (dnumber_any HDw3.out).mono ?_
                rintro e w4 ⟨v2, s2, rfl, hd, hb, hn, hgr⟩
                have HDw4 := Lib.hid hd
                have HCw4 := Lib.hid (show Ce w4 (B + 1) 42 _ from (hb.block (B + 1) HRBX.out).trans HCw3.out)
                have HRw4 := Lib.hid (show Ce w4 B 42 zerosH from (hb.block B (by have := HRBX.out; omega)).trans HRw3.out)
                have HBRw4 := Lib.hid (HBRw3.out.trans (hb.mono (Nat.le_of_lt HRBX.out)))
                have HWw4 := Lib.hid (HWw3.out.trans (hb.mono (by have := HRBX.out; omega)))
                have HKPw4 : Hid (∀ g, B + 2 ≤ g → g < RB → w4.heap[g]? = wr.heap[g]?) := Lib.hid (fun g h1 h2 => (hb.block g h2).trans (HKPw3.out g h1 h2))
                have HN2 := Lib.hid hn
                clear hd hb hn hgr
                obtain ⟨c0, c1, c2, c3', c4, c5, c6⟩ := c7 HCw4.out
                obtain ⟨f2, f3', f4, f5, f6⟩ := f7 HCw4.out
                obtain ⟨f0, f1⟩ := f7a HCw4.out
                go_upto_region 30 with fail
                generalize hwN : World.setCell w4 _ _ = w5
                have HCw5 : Hid (Ce w5 (B + 1) 42 #[it v1, it v2, vs, .string S.sn, it S.ba, it S.bt, es]) := Lib.hid (by rw [← hwN]; exact HCw4.out.set _ (i := 1))
                have HRw5 : Hid (Ce w5 B 42 zerosH) := Lib.hid (by rw [← hwN]; exact HRw4.out.other (by omega) _)
                have HDw5 := Lib.hid (show Dr w5 RB _ from by rw [← hwN]; exact HDw4.out.set HRBX.out _)
                have HBRw5 : Hid (Below (B + 1) wA w5) := Lib.hid (by rw [← hwN]; exact HBRw4.out.setCell (p := ⟨B + 1, 1, none⟩) (Nat.le_refl _) _)
                have HWw5 : Hid (Below B w w5) := Lib.hid (by rw [← hwN]; exact HWw4.out.setCell (p := ⟨B + 1, 1, none⟩) (Nat.le_succ B) _)
                have HKPw5 : Hid (∀ g, B + 2 ≤ g → g < RB → w5.heap[g]? = wr.heap[g]?) := Lib.hid (fun g h1 h2 => by rw [← hwN, heap_setCell_other _ _ _ _ (show g ≠ B + 1 by omega)]; exact HKPw4.out g h1 h2)
                clear hwN c0 c1 c2 c3' c4 c5 c6 f0 f1 f2 f3' f4 f5 f6
                have HCH := Lib.hid (stT_chain (S := S) HN1.out HN2.out)
                obtain ⟨bad, r2, hd1, hd2, hd3⟩ := HDw5.out
                obtain ⟨k0, k1⟩ := c2' hd1
                have j1 : w5.frozen? ⟨RB, 1, none⟩ = false := hd1.frozen 1
                have HDC := Lib.hid hd1
                have HD2 := Lib.hid hd2
                clear hd1 hd2 hd3
                cases s2 with
                | none =>
                  obtain rfl := HD2.out
                  have HNO := Lib.hid (HFAIL.out (by rw [HST.out, HCH.out]; exact if_neg (by decide)))
                  have HBX : Hid (Below B w (w5.setCell ⟨RB, 1, none⟩ (.bool true))) := Lib.hid (HWw5.out.setCell (p := ⟨RB, 1, none⟩) (by have := HRBX.out; show B ≤ RB; omega) _)
                  have HRX : Hid (Ce (w5.setCell ⟨RB, 1, none⟩ (.bool true)) B 42 zerosH) := Lib.hid (HRw5.out.other (by have := HRBX.out; omega) _)
                  obtain ⟨z0, z1, z2, z3, z4, z5, z6⟩ := c7 HRX.out
                  obtain ⟨y2, y3', y4, y5, y6⟩ := f7 HRX.out
                  obtain ⟨y0, y1⟩ := f7a HRX.out
                  go_wp2
                  refine bodyPost_ret (resHt rfl rfl (set7_ce HRX.out _ _ _ _ _ _ _)) rfl ?_
                  have HBF := set7_below (n := B) (by rw [← HBB.out]; exact HBX.out) (by rw [← HBB.out]; exact Nat.le_refl _) (it 0) (it 0) (.slice none 0 0) (.string ⟨#[]⟩) (it 0) (it 0) (.slice none 0 0)
                  exact ⟨Hs.zero, .slice none 0 0, .slice none 0 0, 10, rfl, RdN.nil _, RdE.nil _, HBF, LoadR.no HNO.out⟩
                | some q2 =>
                  obtain ⟨rfl, rfl⟩ := HD2.out
                  cases r2 with
                  | nil =>
                    have q9 : ((⟨([] : Bs).toArray⟩ : ByteArray).toList == []) = true := by rw [ByteArray.toList_eq]; rfl
                    have q9' : ((⟨([] : Bs).toArray⟩ : ByteArray).toList != []) = false := by rw [ByteArray.toList_eq]; rfl
                    obtain ⟨R2, hR2⟩ : ∃ R2 : ByteArray, R2 = ⟨([] : Bs).toArray⟩ := ⟨_, rfl⟩
                    unfold str at k0
                    rw [← hR2] at k0 q9 q9'
                    clear hR2
                    have HS2 : Hid (stp S (c :: q) = some ⟨v1, v2, S.V, S.sn, S.ba, S.bt, S.L⟩) := Lib.hid (by rw [HST.out, HCH.out]; exact if_pos rfl)
                    have HIF : Hid (HvI (w5.setCell ⟨RB, 1, none⟩ (.bool false)) (B + 1) ⟨v1, v2, S.V, S.sn, S.ba, S.bt, S.L⟩) := Lib.hid ⟨vs, es, HCw5.out.other (by have := HRBX.out; omega) _, HKV.out _ (fun g h1 h2 => by rw [heap_setCell_other _ _ _ _ (show g ≠ RB by omega)]; exact HKPw5.out g h1 h2), HKE.out _ (fun g h1 h2 => by rw [heap_setCell_other _ _ _ _ (show g ≠ RB by omega)]; exact HKPw5.out g h1 h2)⟩
                    have HBF : Hid (Below (B + 1) wA (w5.setCell ⟨RB, 1, none⟩ (.bool false))) := Lib.hid (HBRw5.out.setCell (p := ⟨RB, 1, none⟩) (by have := HRBX.out; show B + 1 ≤ RB; omega) _)
                    have HSF : Hid (B + 1 < (w5.setCell ⟨RB, 1, none⟩ (.bool false)).heap.size) := Lib.hid (by have := HCw5.out.lt; simpa using this)
                    have hwk := HWK.out
                    go_wp2
                    go_roundw
                    case rel => exact ⟨k + 1, ⟨v1, v2, S.V, S.sn, S.ba, S.bt, S.L⟩, by omega, rfl, HIF.out, HBF.out, HSF.out, stp_ok HOK.out HRLL.out HS2.out, by rw [HSN.out]; exact HS2.out, HFW.out _ HS2.out⟩
                    case measure => simp [intOf]; omega
                  | cons x t =>
                    have q9 : ((⟨(x :: t).toArray⟩ : ByteArray).toList == []) = false := by rw [ByteArray.toList_eq]; rfl
                    have q9' : ((⟨(x :: t).toArray⟩ : ByteArray).toList != []) = true := by rw [ByteArray.toList_eq]; rfl
                    obtain ⟨R2, hR2⟩ : ∃ R2 : ByteArray, R2 = ⟨(x :: t).toArray⟩ := ⟨_, rfl⟩
                    have q9'' : R2.toList.isEmpty = false := by rw [ByteArray.toList_eq, hR2]; rfl
                    unfold str at k0
                    rw [← hR2] at k0 q9 q9'
                    clear hR2
                    have HNO := Lib.hid (HFAIL.out (by rw [HST.out, HCH.out]; exact if_neg (fun h => by have := (lft_zero _).1 h; cases this)))
                    have HBX : Hid (Below B w (w5.setCell ⟨RB, 1, none⟩ (.bool true))) := Lib.hid (HWw5.out.setCell (p := ⟨RB, 1, none⟩) (by have := HRBX.out; show B ≤ RB; omega) _)
                    have HRX : Hid (Ce (w5.setCell ⟨RB, 1, none⟩ (.bool true)) B 42 zerosH) := Lib.hid (HRw5.out.other (by have := HRBX.out; omega) _)
                    obtain ⟨z0, z1, z2, z3, z4, z5, z6⟩ := c7 HRX.out
                    obtain ⟨y2, y3', y4, y5, y6⟩ := f7 HRX.out
                    obtain ⟨y0, y1⟩ := f7a HRX.out
                    go_wp2
                    refine bodyPost_ret (resHt rfl rfl (set7_ce HRX.out _ _ _ _ _ _ _)) rfl ?_
                    have HBF := set7_below (n := B) (by rw [← HBB.out]; exact HBX.out) (by rw [← HBB.out]; exact Nat.le_refl _) (it 0) (it 0) (.slice none 0 0) (.string ⟨#[]⟩) (it 0) (it 0) (.slice none 0 0)
                    exact ⟨Hs.zero, .slice none 0 0, .slice none 0 0, 10, rfl, RdN.nil _, RdE.nil _, HBF, LoadR.no HNO.out⟩
              · have t2 : ((c.toNat : Int) == 84) = false := by
                  have : ¬ c.toNat = 84 := fun h => c84 (by
                    have : c = UInt8.ofNat c.toNat := by simp
                    rw [this, h]; rfl)
                  simp; omega
                have t2' : (c.toNat == 84) = false := by simp at t2 ⊢; omega
                by_cases c69 : c = 69
                · skip
                  have t3 : ((c.toNat : Int) == 69) = true := by rw [c69]; rfl
                  have t3' : (c.toNat == 69) = true := by rw [c69]; rfl
                  have HST : Hid (stp S (c :: q) = stE S q) := Lib.hid (by show (if c = 87 then stW q else if c = 84 then stT S q else if c = 69 then stE S q else none) = _; rw [if_neg c87, if_neg c84, if_pos c69])
                  obtain ⟨ya, lm, yc, rfl, hlm⟩ := HES.out
                  have HLM := Lib.hid hlm
                  have HDw1 := HDR
                  have HCw1 := HC1
                  have HRw1 := HR1
                  have HBRw1 := HBR1
                  have HWw1 := HW1
                  have HKPw1 := HKP
                  clear c87 c84 c69 hlm
                  go_wp2_with fail
                  refine (dnumber_any HDw1.out).mono ?_
                  rintro e w2 ⟨v1, s1, rfl, hd, hb, hn, hgr⟩
                  have HDw2 := Lib.hid hd
                  have HCw2 := Lib.hid (show Ce w2 (B + 1) 42 _ from (hb.block (B + 1) HRBX.out).trans HCw1.out)
                  have HRw2 := Lib.hid (show Ce w2 B 42 zerosH from (hb.block B (by have := HRBX.out; omega)).trans HRw1.out)
                  have HBRw2 := Lib.hid (HBRw1.out.trans (hb.mono (Nat.le_of_lt HRBX.out)))
                  have HWw2 := Lib.hid (HWw1.out.trans (hb.mono (by have := HRBX.out; omega)))
                  have HKPw2 : Hid (∀ g, B + 2 ≤ g → g < RB → w2.heap[g]? = wr.heap[g]?) := Lib.hid (fun g h1 h2 => (hb.block g h2).trans (HKPw1.out g h1 h2))
                  have HN1 := Lib.hid hn
                  clear hd hb hn hgr
                  go_wp2_with fail
                  refine (dnumber_any HDw2.out).mono ?_
                  rintro e w3 ⟨v2, s2, rfl, hd, hb, hn, hgr⟩
                  have HDw3 := Lib.hid hd
                  have HCw3 := Lib.hid (show Ce w3 (B + 1) 42 _ from (hb.block (B + 1) HRBX.out).trans HCw2.out)
                  have HRw3 := Lib.hid (show Ce w3 B 42 zerosH from (hb.block B (by have := HRBX.out; omega)).trans HRw2.out)
                  have HBRw3 := Lib.hid (HBRw2.out.trans (hb.mono (Nat.le_of_lt HRBX.out)))
                  have HWw3 := Lib.hid (HWw2.out.trans (hb.mono (by have := HRBX.out; omega)))
                  have HKPw3 : Hid (∀ g, B + 2 ≤ g → g < RB → w3.heap[g]? = wr.heap[g]?) := Lib.hid (fun g h1 h2 => (hb.block g h2).trans (HKPw2.out g h1 h2))
                  have HN2 := Lib.hid hn
                  clear hd hb hn hgr
                  go_upto_region 34 with fail
                  have hb4 := one_new w3 (.cells #[it v2, it 0, .string ⟨#[]⟩] 31)
                  have HEw4 := Lib.hid (Ce.new w3 31 #[it v2, it 0, .string ⟨#[]⟩])
                  have HEBX : Hid (RB < w3.heap.size) := Lib.hid HDw3.out.lt
                  have HDw4 := Lib.hid (HDw3.out.below hb4)
                  have HCw4 := Lib.hid (HCw3.out.below hb4)
                  have HRw4 := Lib.hid (HRw3.out.below hb4)
                  have HBRw4 := Lib.hid (HBRw3.out.trans (hb4.mono (Nat.le_of_lt HCw3.out.lt)))
                  have HWw4 := Lib.hid (HWw3.out.trans (hb4.mono (Nat.le_of_lt HRw3.out.lt)))
                  have HKPw4 : Hid (∀ g, B + 2 ≤ g → g < RB → (w3.alloc (.cells #[it v2, it 0, .string ⟨#[]⟩] 31)).heap[g]? = wr.heap[g]?) := Lib.hid (fun g h1 h2 => (hb4.block g (by have := HEBX.out; omega)).trans (HKPw3.out g h1 h2))
                  generalize w3.alloc _ = w4 at *
                  obtain ⟨EB, hEB⟩ : ∃ EB, EB = w3.heap.size := ⟨_, rfl⟩
                  rw [← hEB] at HEw4 HEBX ⊢
                  clear hb4 hEB
                  go_wp2_with fail
                  refine (take_any HDw4.out 1).mono ?_
                  rintro e w5 ⟨kb, s3, rfl, hd, hb, hkl, hn, hk1, hgr⟩
                  obtain ⟨kb', HB3, hkk⟩ := bytD_R hn (fun _ => by decide)
                  have HDw5 := Lib.hid hd
                  have HCw5 := Lib.hid (show Ce w5 (B + 1) 42 _ from (hb.block (B + 1) HRBX.out).trans HCw4.out)
                  have HRw5 := Lib.hid (show Ce w5 B 42 zerosH from (hb.block B (by have := HRBX.out; omega)).trans HRw4.out)
                  have HBRw5 := Lib.hid (HBRw4.out.trans (hb.mono (Nat.le_of_lt HRBX.out)))
                  have HWw5 := Lib.hid (HWw4.out.trans (hb.mono (by have := HRBX.out; omega)))
                  have HKPw5 : Hid (∀ g, B + 2 ≤ g → g < RB → w5.heap[g]? = wr.heap[g]?) := Lib.hid (fun g h1 h2 => (hb.block g h2).trans (HKPw4.out g h1 h2))
                  have HEw5 := Lib.hid (show Ce w5 EB 31 _ from (hgr.block EB HEw4.out.lt (by intro e; injection e with e; have := HEBX.out; omega)).trans HEw4.out)
                  have HBY := Lib.hid hn
                  have HB3' := Lib.hid HB3
                  have HKK := Lib.hid hkk
                  clear hd hb hkl hn hk1 hgr HB3 hkk
                  obtain ⟨KB, hKB⟩ : ∃ KB : ByteArray, KB = ⟨kb.toArray⟩ := ⟨_, rfl⟩
                  have HKB := Lib.hid hKB
                  unfold str
                  rw [← hKB]
                  clear hKB
                  obtain ⟨bad3, r3, hd1, hd2, hd3⟩ := HDw5.out
                  obtain ⟨k0, k1⟩ := c2' hd1
                  have HD2 := Lib.hid hd2
                  clear hd1 hd2 hd3
                  cases s3 with
                  | none =>
                    obtain rfl := HD2.out
                    have HNO := Lib.hid (HFAIL.out (by rw [HST.out]; exact stE_none HN1.out HN2.out HB3'.out))
                    obtain ⟨R3, hR3⟩ : ∃ R3 : ByteArray, R3 = ⟨r3.toArray⟩ := ⟨_, rfl⟩
                    unfold str at k0
                    rw [← hR3] at k0
                    clear hR3
                    obtain ⟨e0, e1, e2⟩ := c3 HEw5.out
                    obtain ⟨x0, x1, x2⟩ := f3 HEw5.out
                    have HBX : Hid (Below B w (w5.setCell ⟨EB, 2, none⟩ (.string R3))) := Lib.hid (HWw5.out.setCell (p := ⟨EB, 2, none⟩) (by have := HEBX.out; have := HRBX.out; show B ≤ EB; omega) _)
                    have HRX : Hid (Ce (w5.setCell ⟨EB, 2, none⟩ (.string R3)) B 42 zerosH) := Lib.hid (HRw5.out.other (by have := HEBX.out; have := HRBX.out; omega) _)
                    have k1X : (w5.setCell ⟨EB, 2, none⟩ (.string R3)).cell? ⟨RB, 1, none⟩ = some (.bool true) := by
                      rw [World.cell?_of_block (heap_setCell_other w5 ⟨EB, 2, none⟩ RB _ (by have := HEBX.out; show RB ≠ EB; omega))]; exact k1
                    go_upto_region 38 with fail
                    generalize w5.setCell _ _ = w6 at *
                    clear k0 k1 e0 e1 e2 x0 x1 x2
                    obtain ⟨z0, z1, z2, z3, z4, z5, z6⟩ := c7 HRX.out
                    obtain ⟨y2, y3', y4, y5, y6⟩ := f7 HRX.out
                    obtain ⟨y0, y1⟩ := f7a HRX.out
                    go_wp2
                    refine bodyPost_ret (resHt rfl rfl (set7_ce HRX.out _ _ _ _ _ _ _)) rfl ?_
                    have HBF := set7_below (n := B) (by rw [← HBB.out]; exact HBX.out) (by rw [← HBB.out]; exact Nat.le_refl _) (it 0) (it 0) (.slice none 0 0) (.string ⟨#[]⟩) (it 0) (it 0) (.slice none 0 0)
                    exact ⟨Hs.zero, .slice none 0 0, .slice none 0 0, 10, rfl, RdN.nil _, RdE.nil _, HBF, LoadR.no HNO.out⟩
                  | some q3 =>
                    obtain ⟨rfl, rfl⟩ := HD2.out
                    obtain ⟨g1, g2, g3, g4, x, hkx, hst⟩ := stE_some (S := S) HN1.out HN2.out HB3'.out
                    have hkb : kb = [x] := by
                      rw [← HKK.out (by obtain ⟨q', hq, _⟩ := HB3'.out.yes; rw [hq]; simp), hkx]
                    obtain ⟨ik, gk⟩ := getE (d := KB) (k := 0) (x := x) (by rw [HKB.out, hkb]; rfl)
                    have ik' : (0 : Int) < (KB.size : Int) := by omega
                    have hvx : IntKind.i64.wrap ((x.toNat : Nat) : Int) = (x.toNat : Int) := by have := x.toNat_lt; unfold IntKind.wrap; simp only [IntKind.bits, IntKind.signed]; simp; omega
                    obtain ⟨R3, hR3⟩ : ∃ R3 : ByteArray, R3 = ⟨r3.toArray⟩ := ⟨_, rfl⟩
                    unfold str at k0
                    rw [← hR3] at k0 hst
                    have HST2 := Lib.hid hst
                    have HR3 := Lib.hid hR3
                    clear hR3 hst hkx hkb
                    obtain ⟨e0, e1, e2⟩ := c3 HEw5.out
                    obtain ⟨y0, y1, y2⟩ := f3 HEw5.out
                    go_upto_region 37 with fail
                    generalize hwN : World.setCell w5 _ _ = w6
                    have HEw6 : Hid (Ce w6 EB 31 #[it v2, it (x.toNat : Int), .string ⟨#[]⟩]) := Lib.hid (by rw [← hwN]; exact HEw5.out.set _ (i := 1))
                    have HCw6 := Lib.hid (show Ce w6 (B + 1) 42 _ from by rw [← hwN]; exact HCw5.out.other (by have := HEBX.out; have := HRBX.out; omega) _)
                    have HRw6 : Hid (Ce w6 B 42 zerosH) := Lib.hid (by rw [← hwN]; exact HRw5.out.other (by have := HEBX.out; have := HRBX.out; omega) _)
                    have HDw6 := Lib.hid (show Dr w6 RB _ from by rw [← hwN]; exact HDw5.out.other (by have := HEBX.out; omega) _)
                    have HBRw6 : Hid (Below (B + 1) wA w6) := Lib.hid (by rw [← hwN]; exact HBRw5.out.setCell (p := ⟨EB, 1, none⟩) (by have := HEBX.out; have := HRBX.out; show B + 1 ≤ EB; omega) _)
                    have HWw6 : Hid (Below B w w6) := Lib.hid (by rw [← hwN]; exact HWw5.out.setCell (p := ⟨EB, 1, none⟩) (by have := HEBX.out; have := HRBX.out; show B ≤ EB; omega) _)
                    have HKPw6 : Hid (∀ g, B + 2 ≤ g → g < RB → w6.heap[g]? = wr.heap[g]?) := Lib.hid (fun g h1 h2 => by rw [← hwN, heap_setCell_other _ _ _ _ (show g ≠ EB by have := HEBX.out; omega)]; exact HKPw5.out g h1 h2)
                    clear hwN e0 e1 e2 y0 y1 y2
                    clear k0 k1 ik gk ik' hvx
                    obtain ⟨b6, q6, hd1, hd2, _⟩ := HDw6.out
                    obtain ⟨rfl, rfl⟩ := hd2
                    obtain ⟨k0, k1⟩ := c2' hd1
                    unfold str at k0
                    rw [← HR3.out] at k0
                    clear hd1
                    obtain ⟨e0, e1, e2⟩ := c3 HEw6.out
                    obtain ⟨y0, y1, y2⟩ := f3 HEw6.out
                    go_upto_region 38 with fail
                    generalize hwN : World.setCell w6 _ _ = w7
                    have HEw7 : Hid (Ce w7 EB 31 #[it v2, it (x.toNat : Int), .string R3]) := Lib.hid (by rw [← hwN]; exact HEw6.out.set _ (i := 2))
                    have HCw7 := Lib.hid (show Ce w7 (B + 1) 42 _ from by rw [← hwN]; exact HCw6.out.other (by have := HEBX.out; have := HRBX.out; omega) _)
                    have HRw7 : Hid (Ce w7 B 42 zerosH) := Lib.hid (by rw [← hwN]; exact HRw6.out.other (by have := HEBX.out; have := HRBX.out; omega) _)
                    have HDw7 := Lib.hid (show Dr w7 RB _ from by rw [← hwN]; exact HDw6.out.other (by have := HEBX.out; omega) _)
                    have HBRw7 : Hid (Below (B + 1) wA w7) := Lib.hid (by rw [← hwN]; exact HBRw6.out.setCell (p := ⟨EB, 2, none⟩) (by have := HEBX.out; have := HRBX.out; show B + 1 ≤ EB; omega) _)
                    have HWw7 : Hid (Below B w w7) := Lib.hid (by rw [← hwN]; exact HWw6.out.setCell (p := ⟨EB, 2, none⟩) (by have := HEBX.out; have := HRBX.out; show B ≤ EB; omega) _)
                    have HKPw7 : Hid (∀ g, B + 2 ≤ g → g < RB → w7.heap[g]? = wr.heap[g]?) := Lib.hid (fun g h1 h2 => by rw [← hwN, heap_setCell_other _ _ _ _ (show g ≠ EB by have := HEBX.out; omega)]; exact HKPw6.out g h1 h2)
                    clear hwN e0 e1 e2 y0 y1 y2
                    clear k0 k1
                    obtain ⟨b7, q7, hd1, hd2, _⟩ := HDw7.out
                    obtain ⟨rfl, rfl⟩ := hd2
                    obtain ⟨k0, k1⟩ := c2' hd1
                    clear hd1
                    have HBA := Lib.hid HOK.out.1
                    have HBA2 := Lib.hid HOK.out.2.1
                    have hba1 := HBA.out
                    have hba2 := HBA2.out
                    have hlm5 : lm ≤ 5000 := by have := HOK.out.2.2.1; have := HLM.out; omega
                    obtain ⟨c0, c1, c2, c3', c4, c5, c6⟩ := c7 HCw7.out
                    by_cases e1 : v1 ≤ S.ba
                    · have HNO := Lib.hid (HFAIL.out (by rw [HST.out, HST2.out]; exact if_neg (by have := HLM.out; omega)))
                      have HBX := HWw7
                      have HRX := HRw7
                      obtain ⟨z0, z1, z2, z3, z4, z5, z6⟩ := c7 HRX.out
                      obtain ⟨y2, y3', y4, y5, y6⟩ := f7 HRX.out
                      obtain ⟨y0, y1⟩ := f7a HRX.out
                      go_wp2
                      refine bodyPost_ret (resHt rfl rfl (set7_ce HRX.out _ _ _ _ _ _ _)) rfl ?_
                      have HBF := set7_below (n := B) (by rw [← HBB.out]; exact HBX.out) (by rw [← HBB.out]; exact Nat.le_refl _) (it 0) (it 0) (.slice none 0 0) (.string ⟨#[]⟩) (it 0) (it 0) (.slice none 0 0)
                      exact ⟨Hs.zero, .slice none 0 0, .slice none 0 0, 10, rfl, RdN.nil _, RdE.nil _, HBF, LoadR.no HNO.out⟩
                    · have q1 : decide (v1 ≤ S.ba) = false := decide_eq_false e1
                      have hw1 : IntKind.i64.wrap (S.ba + (lm : Int) + 1) = S.ba + (lm : Int) + 1 := by unfold IntKind.wrap; simp only [IntKind.bits, IntKind.signed]; simp; omega
                      go_wp2_with fail
                      refine (rlast_any (base := S.ba) (bt := S.bt) (a := ya) (n := lm) (cap := yc) (by omega) (by omega) w7).mono ?_
                      rintro e w8 ⟨rfl, hb⟩
                      have HCw8 := Lib.hid (HCw7.out.below hb)
                      have HRw8 := Lib.hid (HRw7.out.below hb)
                      have HEw8 := Lib.hid (HEw7.out.below hb)
                      have HDw8 := Lib.hid (HDw7.out.below hb)
                      have HBRw8 := Lib.hid (HBRw7.out.trans (hb.mono (Nat.le_of_lt HCw7.out.lt)))
                      have HWw8 := Lib.hid (HWw7.out.trans (hb.mono (Nat.le_of_lt HRw7.out.lt)))
                      have HKPw8 : Hid (∀ g, B + 2 ≤ g → g < RB → w8.heap[g]? = wr.heap[g]?) := Lib.hid (fun g h1 h2 => (hb.block g (by have := HDw7.out.lt; omega)).trans (HKPw7.out g h1 h2))
                      clear hb c0 c1 c2 c3' c4 c5 c6 k0 k1
                      obtain ⟨c0, c1, c2, c3', c4, c5, c6⟩ := c7 HCw8.out
                      by_cases e2 : S.ba + (lm : Int) + 1 < v1
                      · have HNO := Lib.hid (HFAIL.out (by rw [HST.out, HST2.out]; exact if_neg (by have := HLM.out; omega)))
                        have HBX := HWw8
                        have HRX := HRw8
                        obtain ⟨z0, z1, z2, z3, z4, z5, z6⟩ := c7 HRX.out
                        obtain ⟨y2, y3', y4, y5, y6⟩ := f7 HRX.out
                        obtain ⟨y0, y1⟩ := f7a HRX.out
                        go_wp2
                        refine bodyPost_ret (resHt rfl rfl (set7_ce HRX.out _ _ _ _ _ _ _)) rfl ?_
                        have HBF := set7_below (n := B) (by rw [← HBB.out]; exact HBX.out) (by rw [← HBB.out]; exact Nat.le_refl _) (it 0) (it 0) (.slice none 0 0) (.string ⟨#[]⟩) (it 0) (it 0) (.slice none 0 0)
                        exact ⟨Hs.zero, .slice none 0 0, .slice none 0 0, 10, rfl, RdN.nil _, RdE.nil _, HBF, LoadR.no HNO.out⟩
                      · have q2 : decide (S.ba + (lm : Int) + 1 < v1) = false := decide_eq_false e2
                        obtain ⟨kk, hkk⟩ : ∃ kk : Nat, (kk : Int) = v1 - S.ba - 1 := ⟨(v1 - S.ba - 1).toNat, by omega⟩
                        have hkm : kk ≤ S.L.length := by have := HLM.out; omega
                        have HS2 : Hid (stp S (c :: q) = some ⟨S.t, S.vo, S.V, S.sn, S.ba, S.bt, S.L.take kk ++ [⟨v2, (x.toNat : Int), R3⟩]⟩) := Lib.hid (by
                          rw [HST.out, HST2.out, if_pos (by have := HLM.out; omega)]
                          have : (v1 - S.ba - 1).toNat = kk := by omega
                          rw [this])
                        have hw2 : IntKind.i64.wrap (v1 - S.ba) = v1 - S.ba := by unfold IntKind.wrap; simp only [IntKind.bits, IntKind.signed]; simp; omega
                        have hw3 : IntKind.i64.wrap (v1 - S.ba - 1) = (kk : Int) := by rw [hkk]; unfold IntKind.wrap; simp only [IntKind.bits, IntKind.signed]; simp; omega
                        have hE8 : RdE w8 (.slice ya lm yc) S.L := (HKE.out w8 HKPw8.out).rd
                        obtain ⟨hsl, hrd⟩ := slice_to hE8 kk hkm
                        have HRD := Lib.hid hrd
                        have HLT : Hid ((S.L.take kk).length ≤ 100000) := Lib.hid (by rw [List.length_take]; have := HLM.out; omega)
                        obtain ⟨e0, e1', e2'⟩ := c3 HEw8.out
                        have HAD := Lib.hid (fun w' (hb : Below w8.heap.size w8 w') (u : Value) (hu : RdE w' u [(⟨v2, (x.toNat : Int), R3⟩ : En)]) => radd_any (base := S.ba) (bt := S.bt) (HRD.out.below hb) hu HLT.out (by simp))
                        clear hkm hrd hE8 hkk e1 e2
                        go_upto_region 40 with fail
                        clear q1 q2 hw1
                        have HK1 : Hid (w8.cell? ⟨RB, 1, none⟩ = some (.bool false)) := Lib.hid (by obtain ⟨b8, q8, hd1, hd2, _⟩ := HDw8.out; rw [(c2' hd1).2, hd2.1])
                        clear c0 c1 c2 c3' c4 c5 c6 e0 e1' e2'
                        have HKS := Lib.hid (fun (w' : World) (X : Value) (h : Ce w' (B + 1) 42 #[it S.t, it S.vo, vs, .string S.sn, it S.ba, it S.bt, X]) (he : Ce w' EB 31 #[it v2, it (x.toNat : Int), .string R3]) =>
                          (show (w'.cell? ⟨B + 1, 0, none⟩ = some (it S.t) ∧ w'.cell? ⟨B + 1, 4, none⟩ = some (it S.ba) ∧ w'.cell? ⟨B + 1, 5, none⟩ = some (it S.bt)) ∧ (w'.cell? ⟨EB, 0, none⟩ = some (it v2) ∧ w'.cell? ⟨EB, 1, none⟩ = some (it (x.toNat : Int)) ∧ w'.cell? ⟨EB, 2, none⟩ = some (.string R3)) from
                            ⟨⟨(c7 h).1, (c7 h).2.2.2.2.1, (c7 h).2.2.2.2.2.1⟩, c3 he⟩))
                        have D0 : Hid (Below w8.heap.size w8 w8.drew) := Lib.hid (Below.refl _ w8).drew
                        have HCa := Lib.hid (HCw8.out.below D0.out)
                        have HEa := Lib.hid (HEw8.out.below D0.out)
                        obtain ⟨c0, c1, c2, c3', c4, c5, c6⟩ := c7 HCa.out
                        refine wp_region_held_drew (S := (fun w' => (w'.cell? ⟨B + 1, 0, none⟩ = some (it S.t) ∧ w'.cell? ⟨B + 1, 4, none⟩ = some (it S.ba) ∧ w'.cell? ⟨B + 1, 5, none⟩ = some (it S.bt)) ∧ (w'.cell? ⟨EB, 0, none⟩ = some (it v2) ∧ w'.cell? ⟨EB, 1, none⟩ = some (it (x.toNat : Int)) ∧ w'.cell? ⟨EB, 2, none⟩ = some (.string R3)))) (by kernel_rfl) (HKS.out _ _ HCa.out HEa.out) (fun hHeld => ?_)
                        refine' wpAnyH_take (i := 0) (v := ?v1) rfl (by kernel_rfl) (by kernel_rfl) (by kernel_rfl) (fun _ _ _ h => h) (Or.inl ⟨by rfl, ?y1⟩) (by assumption) ?r1
                        case y1 => (intro w hSw; (try dsimp only at hSw); go_simp; try with_reducible rfl)
                        try simp only [Act.put, List.getElem_toArray, List.getElem_cons_zero, List.setIfInBounds_toArray, List.set_cons_zero, List.set_cons_succ]
                        refine' wpAnyH_take (i := 3) (v := ?v2) rfl (by kernel_rfl) (by kernel_rfl) (by kernel_rfl) (fun _ _ _ h => h) (Or.inl ⟨by rfl, ?y2⟩) (by assumption) ?r2
                        case y2 => (intro w hSw; (try dsimp only at hSw); go_simp; try with_reducible rfl)
                        try simp only [Act.put, List.getElem_toArray, List.getElem_cons_succ, List.getElem_cons_zero, List.setIfInBounds_toArray, List.set_cons_zero, List.set_cons_succ]
                        refine' wpAnyH_take (i := 6) (v := ?v3) rfl (by kernel_rfl) (by kernel_rfl) (by kernel_rfl) (fun _ _ _ h => h) (Or.inl ⟨by rfl, ?y3⟩) (by assumption) ?r3
                        case y3 => (intro w hSw; (try dsimp only at hSw); go_simp; try with_reducible rfl)
                        try simp only [Act.put, List.getElem_toArray, List.getElem_cons_succ, List.getElem_cons_zero, List.setIfInBounds_toArray, List.set_cons_zero, List.set_cons_succ]
                        refine' wpAnyH_take (i := 9) (v := ?v4) rfl (by kernel_rfl) (by kernel_rfl) (by kernel_rfl) (fun _ _ _ h => h) (Or.inl ⟨by rfl, ?y4⟩) (by assumption) ?r4
                        case y4 => (intro w hSw; (try dsimp only at hSw); go_simp; try with_reducible rfl)
                        try simp only [Act.put, List.getElem_toArray, List.getElem_cons_succ, List.getElem_cons_zero, List.setIfInBounds_toArray, List.set_cons_zero, List.set_cons_succ]
                        refine' wpAnyH_take (i := 10) (v := ?v5) rfl (by kernel_rfl) (by kernel_rfl) (by kernel_rfl) (fun _ _ _ h => h) (Or.inl ⟨by rfl, ?y5⟩) (by assumption) ?r5
                        case y5 => (intro w hSw; (try dsimp only at hSw); go_simp; try with_reducible rfl)
                        try simp only [Act.put, List.getElem_toArray, List.getElem_cons_succ, List.getElem_cons_zero, List.setIfInBounds_toArray, List.set_cons_zero, List.set_cons_succ]
                        refine' wpAnyH_take (i := 17) (v := ?v6) rfl (by kernel_rfl) (by kernel_rfl) (by kernel_rfl) (fun _ _ _ h => h) (Or.inl ⟨by rfl, ?y6⟩) (by assumption) ?r6
                        case y6 => (intro w hSw; (try dsimp only at hSw); go_simp; try with_reducible rfl)
                        try simp only [Act.put, List.getElem_toArray, List.getElem_cons_succ, List.getElem_cons_zero, List.setIfInBounds_toArray, List.set_cons_zero, List.set_cons_succ]
                        refine' wpAnyH_take (i := 1) (v := ?v7) rfl (by kernel_rfl) (by kernel_rfl) (by kernel_rfl) (fun _ _ _ h => h) (Or.inl ⟨by rfl, ?y7⟩) (by assumption) ?r7
                        case y7 => (intro w hSw; (try dsimp only at hSw); go_simp; try with_reducible rfl)
                        try simp only [Act.put, List.getElem_toArray, List.getElem_cons_succ, List.getElem_cons_zero, List.setIfInBounds_toArray, List.set_cons_zero, List.set_cons_succ]
                        refine' wpAnyH_take (i := 4) (v := ?v8) rfl (by kernel_rfl) (by kernel_rfl) (by kernel_rfl) (fun _ _ _ h => h) (Or.inl ⟨by rfl, ?y8⟩) (by assumption) ?r8
                        case y8 => (intro w hSw; (try dsimp only at hSw); go_simp; try with_reducible rfl)
                        try simp only [Act.put, List.getElem_toArray, List.getElem_cons_succ, List.getElem_cons_zero, List.setIfInBounds_toArray, List.set_cons_zero, List.set_cons_succ]
                        refine' wpAnyH_take (i := 7) (v := ?v9) rfl (by kernel_rfl) (by kernel_rfl) (by kernel_rfl) (fun _ _ _ h => h) (Or.inl ⟨by rfl, ?y9⟩) (by assumption) ?r9
                        case y9 => (intro w hSw; (try dsimp only at hSw); go_simp; try with_reducible rfl)
                        try simp only [Act.put, List.getElem_toArray, List.getElem_cons_succ, List.getElem_cons_zero, List.setIfInBounds_toArray, List.set_cons_zero, List.set_cons_succ]
                        refine' wpAnyH_take (i := 11) (v := ?v10) rfl (by kernel_rfl) (by kernel_rfl) (by kernel_rfl) (fun _ _ _ h => h) (Or.inl ⟨by rfl, ?y10⟩) (by assumption) ?r10
                        case y10 => (intro w hSw; (try dsimp only at hSw); go_simp; try with_reducible rfl)
                        try simp only [Act.put, List.getElem_toArray, List.getElem_cons_succ, List.getElem_cons_zero, List.setIfInBounds_toArray, List.set_cons_zero, List.set_cons_succ]
                        refine' wpAnyH_take (i := 2) (v := ?v11) rfl (by kernel_rfl) (by kernel_rfl) (by kernel_rfl) (fun _ _ _ h => h) (Or.inl ⟨by rfl, ?y11⟩) (by assumption) ?r11
                        case y11 => (intro w hSw; (try dsimp only at hSw); go_simp; try with_reducible rfl)
                        try simp only [Act.put, List.getElem_toArray, List.getElem_cons_succ, List.getElem_cons_zero, List.setIfInBounds_toArray, List.set_cons_zero, List.set_cons_succ]
                        refine' wpAnyH_take (i := 5) (v := ?v12) rfl (by kernel_rfl) (by kernel_rfl) (by kernel_rfl) (fun _ _ _ h => h) (Or.inl ⟨by rfl, ?y12⟩) (by assumption) ?r12
                        case y12 => (intro w hSw; (try dsimp only at hSw); go_simp; try with_reducible rfl)
                        try simp only [Act.put, List.getElem_toArray, List.getElem_cons_succ, List.getElem_cons_zero, List.setIfInBounds_toArray, List.set_cons_zero, List.set_cons_succ]
                        refine' wpAnyH_take (i := 12) (v := ?v13) rfl (by kernel_rfl) (by kernel_rfl) (by kernel_rfl) (fun _ _ _ h => h) (Or.inl ⟨by rfl, ?y13⟩) (by assumption) ?r13
                        case y13 => (intro w hSw; (try dsimp only at hSw); go_simp; try with_reducible rfl)
                        try simp only [Act.put, List.getElem_toArray, List.getElem_cons_succ, List.getElem_cons_zero, List.setIfInBounds_toArray, List.set_cons_zero, List.set_cons_succ]
                        refine' wpAnyH_take (i := 13) (v := ?v14) rfl (by kernel_rfl) (by kernel_rfl) (by kernel_rfl) (fun _ _ _ h => h) (Or.inl ⟨by rfl, ?y14⟩) (by assumption) ?r14
                        case y14 => (intro w hSw; (try dsimp only at hSw); go_simp; try with_reducible rfl)
                        try simp only [Act.put, List.getElem_toArray, List.getElem_cons_succ, List.getElem_cons_zero, List.setIfInBounds_toArray, List.set_cons_zero, List.set_cons_succ]
                        refine' wpAnyH_take (i := 14) (v := ?v15) rfl (by kernel_rfl) (by kernel_rfl) (by kernel_rfl) (fun _ _ _ h => h) (Or.inl ⟨by rfl, ?y15⟩) (by assumption) ?r15
                        case y15 => (intro w hSw; (try dsimp only at hSw); go_simp; try with_reducible rfl)
                        try simp only [Act.put, List.getElem_toArray, List.getElem_cons_succ, List.getElem_cons_zero, List.setIfInBounds_toArray, List.set_cons_zero, List.set_cons_succ]
                        refine wpAnyH_ready (rs := [8, 18]) (by kernel_rfl) (by simp) ?_
                        refine AllReadyH.cons rfl (fun K hK => ?_) ?_
                        ·
                          go_simp
                          refine hK.out _ _ (by first | with_reducible exact HKS.out _ _ HCa.out HEa.out | exact HKS.out _ _ HCa.out HEa.out) (fun hHeld => ?_)
                          clear hK K
                          try simp only [Act.put, List.getElem_toArray, List.getElem_cons_succ, List.getElem_cons_zero, List.setIfInBounds_toArray, List.set_cons_zero, List.set_cons_succ]
                          refine' wpAnyH_take (i := 15) (v := ?v16) rfl (by kernel_rfl) (by kernel_rfl) (by kernel_rfl) (fun _ _ _ h => h) (Or.inl ⟨by rfl, ?y16⟩) (by assumption) ?r16
                          case y16 => (intro w hSw; (try dsimp only at hSw); go_simp; try with_reducible rfl)
                          try simp only [Act.put, List.getElem_toArray, List.getElem_cons_succ, List.getElem_cons_zero, List.setIfInBounds_toArray, List.set_cons_zero, List.set_cons_succ]
                          refine' wpAnyH_take (i := 16) (v := ?v17) rfl (by kernel_rfl) (by kernel_rfl) (by kernel_rfl) (fun _ _ _ h => h) (Or.inl ⟨by rfl, ?y17⟩) (by assumption) ?r17
                          case y17 => (intro w hSw; (try dsimp only at hSw); go_simp; try with_reducible rfl)
                          try simp only [Act.put, List.getElem_toArray, List.getElem_cons_succ, List.getElem_cons_zero, List.setIfInBounds_toArray, List.set_cons_zero, List.set_cons_succ]
                          refine wpAnyH_ready (rs := [18]) (by kernel_rfl) (by simp) ?_
                          refine AllReadyH.cons rfl (fun K hK => ?_) AllReadyH.nil
                          go_simp
                          have DD_1 : Hid (Below w8.heap.size w8 (w8.alloc (.cells #[it v2, it (x.toNat : Int), .string R3] 31)).drew) := Lib.hid (one_new w8 (.cells #[it v2, it (x.toNat : Int), .string R3] 31)).drew
                          have HC_2 := Lib.hid (HCw8.out.below DD_1.out)
                          have HE_3 := Lib.hid (HEw8.out.below DD_1.out)
                          obtain ⟨c0, c1, c2, c3', c4, c5, c6⟩ := c7 HC_2.out
                          refine hK.out _ _ (by first | with_reducible exact HKS.out _ _ HC_2.out HE_3.out | exact HKS.out _ _ HC_2.out HE_3.out) (fun hHeld => ?_)
                          clear hK K
                          try simp only [Act.put, List.getElem_toArray, List.getElem_cons_succ, List.getElem_cons_zero, List.setIfInBounds_toArray, List.set_cons_zero, List.set_cons_succ]
                          refine wpAnyH_ready (rs := [19]) (by kernel_rfl) (by simp) ?_
                          refine AllReadyH.cons rfl (fun K hK => ?_) AllReadyH.nil
                          go_simp
                          refine (HAD.out _ DD_1.out _ ((rdE_one w8 ⟨v2, (x.toNat : Int), R3⟩).below (Below.refl _ _).drew)).mono ?_
                          rintro e w9 ⟨v9, rfl, ho9, hb9⟩
                          obtain ⟨za, zl, zc, rfl⟩ : ∃ x y z, v9 = .slice x y z := let ⟨x, z, e, _⟩ := ho9.rd.shape; ⟨x, _, z, e⟩
                          have HC_5 := Lib.hid (HC_2.out.below hb9)
                          have HE_6 := Lib.hid (HE_3.out.below hb9)
                          have HO9 : Hid (OwnE w9 (B + 2) (.slice za zl zc) (S.L.take kk ++ [⟨v2, (x.toNat : Int), R3⟩])) := Lib.hid (ho9.weak (by have := HC_2.out.lt; omega))
                          have HB9 := Lib.hid (DD_1.out.trans (hb9.mono DD_1.out.size))
                          clear ho9 hb9
                          obtain ⟨c0, c1, c2, c3', c4, c5, c6⟩ := c7 HC_5.out
                          obtain ⟨f2, f3', f4, f5, f6⟩ := f7 HC_5.out
                          go_wp2_with fail
                          refine hK.out _ _ (by first | with_reducible exact HKS.out _ _ HC_5.out HE_6.out | exact HKS.out _ _ HC_5.out HE_6.out) (fun hHeld => ?_)
                          clear hK K
                          try simp only [Act.put, List.getElem_toArray, List.getElem_cons_succ, List.getElem_cons_zero, List.setIfInBounds_toArray, List.set_cons_zero, List.set_cons_succ]
                          refine' wpAnyH_take (i := 20) (v := ?v18) rfl (by kernel_rfl) (by kernel_rfl) (by kernel_rfl) (fun _ _ _ h => h) (Or.inl ⟨by rfl, ?y18⟩) (by assumption) ?r18
                          case y18 => (intro w hSw; (try dsimp only at hSw); go_simp; try with_reducible rfl)
                          try simp only [Act.put, List.getElem_toArray, List.getElem_cons_succ, List.getElem_cons_zero, List.setIfInBounds_toArray, List.set_cons_zero, List.set_cons_succ]
                          refine wpAnyH_ready (rs := [21]) (by kernel_rfl) (by simp) ?_
                          refine AllReadyH.cons rfl (fun K hK => ?_) AllReadyH.nil
                          go_simp
                          have HC_7 := Lib.hid (set_c456 HC_5.out (it S.ba) (it S.bt) (.slice za zl zc))
                          have HE_8 := Lib.hid ((((HE_6.out.other (show EB ≠ B + 1 by have := HEBX.out; have := HRBX.out; omega) (it S.ba) (i := 4)).other (show EB ≠ B + 1 by have := HEBX.out; have := HRBX.out; omega) (it S.bt) (i := 5)).other (show EB ≠ B + 1 by have := HEBX.out; have := HRBX.out; omega) (.slice za zl zc) (i := 6)))
                          refine hK.out _ _ (by first | with_reducible exact HKS.out _ _ HC_7.out HE_8.out | exact HKS.out _ _ HC_7.out HE_8.out) (fun hHeld => ?_)
                          clear hK K
                          try simp only [Act.put, List.getElem_toArray, List.getElem_cons_succ, List.getElem_cons_zero, List.setIfInBounds_toArray, List.set_cons_zero, List.set_cons_succ]
                          refine wpAnyH_done (by kernel_rfl) ?_ _
                          have HBX9 : Hid (Below w8.heap.size w8 w9) := HB9
                          have HIF : Hid (HvI (((w9.setCell ⟨B + 1, 4, none⟩ (it S.ba)).setCell ⟨B + 1, 5, none⟩ (it S.bt)).setCell ⟨B + 1, 6, none⟩ (.slice za zl zc)) (B + 1) ⟨S.t, S.vo, S.V, S.sn, S.ba, S.bt, S.L.take kk ++ [⟨v2, (x.toNat : Int), R3⟩]⟩) := Lib.hid ⟨vs, _, HC_7.out, HKV.out _ (fun g h1 h2 => by rw [heap_setCell_other _ _ _ _ (show g ≠ B + 1 by omega), heap_setCell_other _ _ _ _ (show g ≠ B + 1 by omega), heap_setCell_other _ _ _ _ (show g ≠ B + 1 by omega)]; exact (HBX9.out.block g (by have := HDw8.out.lt; omega)).trans (HKPw8.out g h1 h2)), ((HO9.out.set (b := B + 1) (i := 4) (by omega) (it S.ba)).set (b := B + 1) (i := 5) (by omega) (it S.bt)).set (b := B + 1) (i := 6) (by omega) (.slice za zl zc)⟩
                          have HB9' : Hid (Below (B + 1) wA w9) := Lib.hid (HBRw8.out.trans (HBX9.out.mono (Nat.le_of_lt HCw8.out.lt)))
                          have HBF : Hid (Below (B + 1) wA (((w9.setCell ⟨B + 1, 4, none⟩ (it S.ba)).setCell ⟨B + 1, 5, none⟩ (it S.bt)).setCell ⟨B + 1, 6, none⟩ (.slice za zl zc))) := Lib.hid (((HB9'.out.setCell (p := ⟨B + 1, 4, none⟩) (Nat.le_refl _) (it S.ba)).setCell (p := ⟨B + 1, 5, none⟩) (Nat.le_refl _) (it S.bt)).setCell (p := ⟨B + 1, 6, none⟩) (Nat.le_refl _) (.slice za zl zc))
                          have HSF : Hid (B + 1 < (((w9.setCell ⟨B + 1, 4, none⟩ (it S.ba)).setCell ⟨B + 1, 5, none⟩ (it S.bt)).setCell ⟨B + 1, 6, none⟩ (.slice za zl zc)).heap.size) := Lib.hid HC_7.out.lt
                          have k1 : (((w9.setCell ⟨B + 1, 4, none⟩ (it S.ba)).setCell ⟨B + 1, 5, none⟩ (it S.bt)).setCell ⟨B + 1, 6, none⟩ (.slice za zl zc)).cell? ⟨RB, 1, none⟩ = some (.bool false) := by
                            rw [World.cell?_of_block (heap_setCell_other _ ⟨B + 1, 6, none⟩ RB _ (by have := HRBX.out; show RB ≠ B + 1; omega)), World.cell?_of_block (heap_setCell_other _ ⟨B + 1, 5, none⟩ RB _ (by have := HRBX.out; show RB ≠ B + 1; omega)), World.cell?_of_block (heap_setCell_other _ ⟨B + 1, 4, none⟩ RB _ (by have := HRBX.out; show RB ≠ B + 1; omega)), World.cell?_of_block (HBX9.out.block RB HDw8.out.lt)]
                            exact HK1.out
                          have hwk := HWK.out
                          go_wp2
                          go_roundw
                          case rel => exact ⟨k + 1, _, by omega, rfl, HIF.out, HBF.out, HSF.out, stp_ok HOK.out HRLL.out HS2.out, by rw [HSN.out]; exact HS2.out, HFW.out _ HS2.out⟩
                          case measure => simp [intOf]; omega
                        refine AllReadyH.cons rfl (fun K hK => ?_) AllReadyH.nil
                        go_simp
                        have DD_9 : Hid (Below w8.heap.size w8 (w8.alloc (.cells #[it v2, it (x.toNat : Int), .string R3] 31)).drew) := Lib.hid (one_new w8 (.cells #[it v2, it (x.toNat : Int), .string R3] 31)).drew
                        have HC_10 := Lib.hid (HCw8.out.below DD_9.out)
                        have HE_11 := Lib.hid (HEw8.out.below DD_9.out)
                        obtain ⟨c0, c1, c2, c3', c4, c5, c6⟩ := c7 HC_10.out
                        refine hK.out _ _ (by first | with_reducible exact HKS.out _ _ HC_10.out HE_11.out | exact HKS.out _ _ HC_10.out HE_11.out) (fun hHeld => ?_)
                        clear hK K
                        try simp only [Act.put, List.getElem_toArray, List.getElem_cons_succ, List.getElem_cons_zero, List.setIfInBounds_toArray, List.set_cons_zero, List.set_cons_succ]
                        refine wpAnyH_ready (rs := [8]) (by kernel_rfl) (by simp) ?_
                        refine AllReadyH.cons rfl (fun K hK => ?_) AllReadyH.nil
                        go_simp
                        refine hK.out _ _ (by first | with_reducible exact HKS.out _ _ HC_10.out HE_11.out | exact HKS.out _ _ HC_10.out HE_11.out) (fun hHeld => ?_)
                        clear hK K
                        try simp only [Act.put, List.getElem_toArray, List.getElem_cons_succ, List.getElem_cons_zero, List.setIfInBounds_toArray, List.set_cons_zero, List.set_cons_succ]
                        refine' wpAnyH_take (i := 15) (v := ?v19) rfl (by kernel_rfl) (by kernel_rfl) (by kernel_rfl) (fun _ _ _ h => h) (Or.inl ⟨by rfl, ?y19⟩) (by assumption) ?r19
                        case y19 => (intro w hSw; (try dsimp only at hSw); go_simp; try with_reducible rfl)
                        try simp only [Act.put, List.getElem_toArray, List.getElem_cons_succ, List.getElem_cons_zero, List.setIfInBounds_toArray, List.set_cons_zero, List.set_cons_succ]
                        refine' wpAnyH_take (i := 16) (v := ?v20) rfl (by kernel_rfl) (by kernel_rfl) (by kernel_rfl) (fun _ _ _ h => h) (Or.inl ⟨by rfl, ?y20⟩) (by assumption) ?r20
                        case y20 => (intro w hSw; (try dsimp only at hSw); go_simp; try with_reducible rfl)
                        try simp only [Act.put, List.getElem_toArray, List.getElem_cons_succ, List.getElem_cons_zero, List.setIfInBounds_toArray, List.set_cons_zero, List.set_cons_succ]
                        refine wpAnyH_ready (rs := [19]) (by kernel_rfl) (by simp) ?_
                        refine AllReadyH.cons rfl (fun K hK => ?_) AllReadyH.nil
                        go_simp
                        refine (HAD.out _ DD_9.out _ ((rdE_one w8 ⟨v2, (x.toNat : Int), R3⟩).below (Below.refl _ _).drew)).mono ?_
                        rintro e w9 ⟨v9, rfl, ho9, hb9⟩
                        obtain ⟨za, zl, zc, rfl⟩ : ∃ x y z, v9 = .slice x y z := let ⟨x, z, e, _⟩ := ho9.rd.shape; ⟨x, _, z, e⟩
                        have HC_13 := Lib.hid (HC_10.out.below hb9)
                        have HE_14 := Lib.hid (HE_11.out.below hb9)
                        have HO9 : Hid (OwnE w9 (B + 2) (.slice za zl zc) (S.L.take kk ++ [⟨v2, (x.toNat : Int), R3⟩])) := Lib.hid (ho9.weak (by have := HC_10.out.lt; omega))
                        have HB9 := Lib.hid (DD_9.out.trans (hb9.mono DD_9.out.size))
                        clear ho9 hb9
                        obtain ⟨c0, c1, c2, c3', c4, c5, c6⟩ := c7 HC_13.out
                        obtain ⟨f2, f3', f4, f5, f6⟩ := f7 HC_13.out
                        go_wp2_with fail
                        refine hK.out _ _ (by first | with_reducible exact HKS.out _ _ HC_13.out HE_14.out | exact HKS.out _ _ HC_13.out HE_14.out) (fun hHeld => ?_)
                        clear hK K
                        try simp only [Act.put, List.getElem_toArray, List.getElem_cons_succ, List.getElem_cons_zero, List.setIfInBounds_toArray, List.set_cons_zero, List.set_cons_succ]
                        refine' wpAnyH_take (i := 20) (v := ?v21) rfl (by kernel_rfl) (by kernel_rfl) (by kernel_rfl) (fun _ _ _ h => h) (Or.inl ⟨by rfl, ?y21⟩) (by assumption) ?r21
                        case y21 => (intro w hSw; (try dsimp only at hSw); go_simp; try with_reducible rfl)
                        try simp only [Act.put, List.getElem_toArray, List.getElem_cons_succ, List.getElem_cons_zero, List.setIfInBounds_toArray, List.set_cons_zero, List.set_cons_succ]
                        refine wpAnyH_ready (rs := [21]) (by kernel_rfl) (by simp) ?_
                        refine AllReadyH.cons rfl (fun K hK => ?_) AllReadyH.nil
                        go_simp
                        have HC_15 := Lib.hid (set_c456 HC_13.out (it S.ba) (it S.bt) (.slice za zl zc))
                        have HE_16 := Lib.hid ((((HE_14.out.other (show EB ≠ B + 1 by have := HEBX.out; have := HRBX.out; omega) (it S.ba) (i := 4)).other (show EB ≠ B + 1 by have := HEBX.out; have := HRBX.out; omega) (it S.bt) (i := 5)).other (show EB ≠ B + 1 by have := HEBX.out; have := HRBX.out; omega) (.slice za zl zc) (i := 6)))
                        refine hK.out _ _ (by first | with_reducible exact HKS.out _ _ HC_15.out HE_16.out | exact HKS.out _ _ HC_15.out HE_16.out) (fun hHeld => ?_)
                        clear hK K
                        try simp only [Act.put, List.getElem_toArray, List.getElem_cons_succ, List.getElem_cons_zero, List.setIfInBounds_toArray, List.set_cons_zero, List.set_cons_succ]
                        refine wpAnyH_done (by kernel_rfl) ?_ _
                        have HBX9 : Hid (Below w8.heap.size w8 w9) := HB9
                        have HIF : Hid (HvI (((w9.setCell ⟨B + 1, 4, none⟩ (it S.ba)).setCell ⟨B + 1, 5, none⟩ (it S.bt)).setCell ⟨B + 1, 6, none⟩ (.slice za zl zc)) (B + 1) ⟨S.t, S.vo, S.V, S.sn, S.ba, S.bt, S.L.take kk ++ [⟨v2, (x.toNat : Int), R3⟩]⟩) := Lib.hid ⟨vs, _, HC_15.out, HKV.out _ (fun g h1 h2 => by rw [heap_setCell_other _ _ _ _ (show g ≠ B + 1 by omega), heap_setCell_other _ _ _ _ (show g ≠ B + 1 by omega), heap_setCell_other _ _ _ _ (show g ≠ B + 1 by omega)]; exact (HBX9.out.block g (by have := HDw8.out.lt; omega)).trans (HKPw8.out g h1 h2)), ((HO9.out.set (b := B + 1) (i := 4) (by omega) (it S.ba)).set (b := B + 1) (i := 5) (by omega) (it S.bt)).set (b := B + 1) (i := 6) (by omega) (.slice za zl zc)⟩
                        have HB9' : Hid (Below (B + 1) wA w9) := Lib.hid (HBRw8.out.trans (HBX9.out.mono (Nat.le_of_lt HCw8.out.lt)))
                        have HBF : Hid (Below (B + 1) wA (((w9.setCell ⟨B + 1, 4, none⟩ (it S.ba)).setCell ⟨B + 1, 5, none⟩ (it S.bt)).setCell ⟨B + 1, 6, none⟩ (.slice za zl zc))) := Lib.hid (((HB9'.out.setCell (p := ⟨B + 1, 4, none⟩) (Nat.le_refl _) (it S.ba)).setCell (p := ⟨B + 1, 5, none⟩) (Nat.le_refl _) (it S.bt)).setCell (p := ⟨B + 1, 6, none⟩) (Nat.le_refl _) (.slice za zl zc))
                        have HSF : Hid (B + 1 < (((w9.setCell ⟨B + 1, 4, none⟩ (it S.ba)).setCell ⟨B + 1, 5, none⟩ (it S.bt)).setCell ⟨B + 1, 6, none⟩ (.slice za zl zc)).heap.size) := Lib.hid HC_15.out.lt
                        have k1 : (((w9.setCell ⟨B + 1, 4, none⟩ (it S.ba)).setCell ⟨B + 1, 5, none⟩ (it S.bt)).setCell ⟨B + 1, 6, none⟩ (.slice za zl zc)).cell? ⟨RB, 1, none⟩ = some (.bool false) := by
                          rw [World.cell?_of_block (heap_setCell_other _ ⟨B + 1, 6, none⟩ RB _ (by have := HRBX.out; show RB ≠ B + 1; omega)), World.cell?_of_block (heap_setCell_other _ ⟨B + 1, 5, none⟩ RB _ (by have := HRBX.out; show RB ≠ B + 1; omega)), World.cell?_of_block (heap_setCell_other _ ⟨B + 1, 4, none⟩ RB _ (by have := HRBX.out; show RB ≠ B + 1; omega)), World.cell?_of_block (HBX9.out.block RB HDw8.out.lt)]
                          exact HK1.out
                        have hwk := HWK.out
                        go_wp2
                        go_roundw
                        case rel => exact ⟨k + 1, _, by omega, rfl, HIF.out, HBF.out, HSF.out, stp_ok HOK.out HRLL.out HS2.out, by rw [HSN.out]; exact HS2.out, HFW.out _ HS2.out⟩
                        case measure => simp [intOf]; omega
                · have t3 : ((c.toNat : Int) == 69) = false := by
                    have : ¬ c.toNat = 69 := fun h => c69 (by
                      have : c = UInt8.ofNat c.toNat := by simp
                      rw [this, h]; rfl)
                    simp; omega
                  have t3' : (c.toNat == 69) = false := by simp at t3 ⊢; omega
                  have HNO := Lib.hid (HFAIL.out (by show (if c = 87 then stW q else if c = 84 then stT S q else if c = 69 then stE S q else none) = none; rw [if_neg c87, if_neg c84, if_neg c69]))
                  have HBX := HW1
                  have HRX := HR1
                  clear c87 c84 c69
                  obtain ⟨z0, z1, z2, z3, z4, z5, z6⟩ := c7 HRX.out
                  obtain ⟨y2, y3', y4, y5, y6⟩ := f7 HRX.out
                  obtain ⟨y0, y1⟩ := f7a HRX.out
                  go_wp2
                  refine bodyPost_ret (resHt rfl rfl (set7_ce HRX.out _ _ _ _ _ _ _)) rfl ?_
                  have HBF := set7_below (n := B) (by rw [← HBB.out]; exact HBX.out) (by rw [← HBB.out]; exact Nat.le_refl _) (it 0) (it 0) (.slice none 0 0) (.string ⟨#[]⟩) (it 0) (it 0) (.slice none 0 0)
                  exact ⟨Hs.zero, .slice none 0 0, .slice none 0 0, 10, rfl, RdN.nil _, RdE.nil _, HBF, LoadR.no HNO.out⟩
    · skip
      have p1 : decide ((k : Int) < (m : Int)) = false := decide_eq_false (by omega)
      have p2 : decide (k < m) = false := decide_eq_false (by omega)
      have hld := HLD.out
      rw [show T.take k = T from List.take_of_length_le (by have := HM.out; omega)] at hld
      have HALL := Lib.hid (load_all hld (fun h => HWW.out (by have := HM.out; omega)))
      have HPOS := Lib.hid (ldF_pos T Hs.zero S ⟨Int.le_refl _, Int.le_refl _⟩ hld)
      obtain ⟨vs, es, hC, hV, hE⟩ := HI.out
      obtain ⟨xa, xc, rfl, _⟩ := hV.shape
      obtain ⟨ya, yc, rfl, _⟩ := hE.rd.shape
      obtain ⟨t, vo, V, sn, ba, bt, L⟩ := S
      dsimp only at hC hV hE
      have CK := Lib.hid (rcheck_any (base := ba) (bt := bt) hE.rd (by have := HOK.out.2.2.1; have := HM5.out; dsimp only at *; omega) HOK.out.2.2.2)
      obtain ⟨ce, hce⟩ : ∃ ce, ce = chk ba bt L := ⟨_, rfl⟩
      have hchE : chE ba bt L = if ce = true then 0 else 1 := by rw [hce]; rfl
      rw [hchE] at CK
      obtain ⟨it1, hit1⟩ : ∃ b, b = idx t := ⟨_, rfl⟩
      obtain ⟨iv1, hiv1⟩ : ∃ b, b = idx vo := ⟨_, rfl⟩
      have HOKB : Hid (ldok ⟨t, vo, V, sn, ba, bt, L⟩ = (ce && it1 && iv1)) := Lib.hid (by unfold ldok; rw [hce, hit1, hiv1])
      have HT1 : Hid (it1 = decide (t ≤ 1099511627776)) := Lib.hid (by rw [hit1]; unfold idx; have := HPOS.out.1; dsimp only at this; simp [this])
      have HV1 : Hid (iv1 = decide (vo ≤ 1099511627776)) := Lib.hid (by rw [hiv1]; unfold idx; have := HPOS.out.2; dsimp only at this; simp [this])
      generalize (ivs V).length = zV at *
      generalize L.length = zL at *
      have HC := Lib.hid hC
      have HVV := Lib.hid hV
      have HEE := Lib.hid hE
      clear hld hC hV hE hce hchE hit1 hiv1
      obtain ⟨c0, c1, c2, c3', c4, c5, c6⟩ := c7 HC.out
      go_wp2_with fail
      refine CK.out.mono ?_
      rintro e w2 ⟨rfl, hb⟩
      have HRX := Lib.hid (HR.out.below hb)
      have HCX := Lib.hid (HC.out.below hb)
      have HVX := Lib.hid (HVV.out.below hb)
      have HEX := Lib.hid (HEE.out.below hb)
      have HBX : Hid (Below B w w2) := Lib.hid (by have := HBW.out.trans (hb.mono HBW.out.size); rw [HBB.out]; exact this)
      clear hb c0 c1 c2 c3' c4 c5 c6
      obtain ⟨c0, c1, c2, c3', c4, c5, c6⟩ := c7 HCX.out
      cases ce with
      | false =>
        rw [show (if false = true then (0 : Int) else 1) = 1 from rfl]
        have HNO := Lib.hid (show loadM T = none from by rw [HALL.out, if_neg (by rw [HOKB.out]; simp)])
        obtain ⟨z0, z1, z2, z3, z4, z5, z6⟩ := c7 HRX.out
        obtain ⟨y2, y3', y4, y5, y6⟩ := f7 HRX.out
        obtain ⟨y0, y1⟩ := f7a HRX.out
        go_wp2
        refine bodyPost_ret (resHt rfl rfl (set7_ce HRX.out _ _ _ _ _ _ _)) rfl ?_
        have HBF := set7_below (n := B) (by rw [← HBB.out]; exact HBX.out) (by rw [← HBB.out]; exact Nat.le_refl _) (it 0) (it 0) (.slice none 0 0) (.string ⟨#[]⟩) (it 0) (it 0) (.slice none 0 0)
        exact ⟨Hs.zero, .slice none 0 0, .slice none 0 0, 10, rfl, RdN.nil _, RdE.nil _, HBF, LoadR.no HNO.out⟩
      | true =>
        rw [show (if true = true then (0 : Int) else 1) = 0 from rfl]
        by_cases ht : t ≤ 1099511627776
        · have ht1 : decide (1099511627776 < t) = false := decide_eq_false (by omega)
          have hit : it1 = true := by rw [HT1.out]; exact decide_eq_true ht
          by_cases hv : vo ≤ 1099511627776
          · have hv1 : decide (1099511627776 < vo) = false := decide_eq_false (by omega)
            have hiv : iv1 = true := by rw [HV1.out]; exact decide_eq_true hv
            have HYES := Lib.hid (show loadM T = some ⟨t, vo, V, sn, ba, bt, L⟩ from by rw [HALL.out, if_pos (by rw [HOKB.out, hit, hiv]; rfl)])
            clear hit hiv ht hv
            obtain ⟨z0, z1, z2, z3, z4, z5, z6⟩ := c7 HRX.out
            obtain ⟨f2, f3', f4, f5, f6⟩ := f7 HRX.out
            obtain ⟨f0, f1⟩ := f7a HRX.out
            go_wp2
            refine bodyPost_ret (resHt rfl rfl (set7_ce HRX.out _ _ _ _ _ _ _)) rfl ?_
            have HBF := set7_below (n := B) (by rw [← HBB.out]; exact HBX.out) (by rw [← HBB.out]; exact Nat.le_refl _) (it t) (it vo) (.slice xa zV xc) (.string sn) (it ba) (it bt) (.slice ya zL yc)
            have hV2 := ((((((HVX.out.set (b := B) (i := 0) (by omega) (it t)).set (b := B) (i := 1) (by omega) (it vo)).set (b := B) (i := 2) (by omega) (.slice xa zV xc)).set (b := B) (i := 3) (by omega) (.string sn)).set (b := B) (i := 4) (by omega) (it ba)).set (b := B) (i := 5) (by omega) (it bt)).set (b := B) (i := 6) (by omega) (.slice ya zL yc)
            have hE2 := HEX.out.set7 (b := B) (by omega) (it t) (it vo) (.slice xa zV xc) (.string sn) (it ba) (it bt) (.slice ya zL yc)
            exact ⟨⟨t, vo, V, sn, ba, bt, L⟩, _, _, 0, rfl, hV2.rdN, hE2.rd, HBF, LoadR.yes HYES.out⟩
          · have hv1 : decide (1099511627776 < vo) = true := decide_eq_true (by omega)
            have hiv : iv1 = false := by rw [HV1.out]; exact decide_eq_false hv
            have HNO := Lib.hid (show loadM T = none from by rw [HALL.out, if_neg (by rw [HOKB.out, hiv]; simp)])
            clear hit hiv ht hv
            obtain ⟨z0, z1, z2, z3, z4, z5, z6⟩ := c7 HRX.out
            obtain ⟨y2, y3', y4, y5, y6⟩ := f7 HRX.out
            obtain ⟨y0, y1⟩ := f7a HRX.out
            go_wp2
            refine bodyPost_ret (resHt rfl rfl (set7_ce HRX.out _ _ _ _ _ _ _)) rfl ?_
            have HBF := set7_below (n := B) (by rw [← HBB.out]; exact HBX.out) (by rw [← HBB.out]; exact Nat.le_refl _) (it 0) (it 0) (.slice none 0 0) (.string ⟨#[]⟩) (it 0) (it 0) (.slice none 0 0)
            exact ⟨Hs.zero, .slice none 0 0, .slice none 0 0, 10, rfl, RdN.nil _, RdE.nil _, HBF, LoadR.no HNO.out⟩
        · have ht1 : decide (1099511627776 < t) = true := decide_eq_true (by omega)
          have hit : it1 = false := by rw [HT1.out]; exact decide_eq_false ht
          have HNO := Lib.hid (show loadM T = none from by rw [HALL.out, if_neg (by rw [HOKB.out, hit]; simp)])
          clear hit ht
          obtain ⟨z0, z1, z2, z3, z4, z5, z6⟩ := c7 HRX.out
          obtain ⟨y2, y3', y4, y5, y6⟩ := f7 HRX.out
          obtain ⟨y0, y1⟩ := f7a HRX.out
          go_wp2
          refine bodyPost_ret (resHt rfl rfl (set7_ce HRX.out _ _ _ _ _ _ _)) rfl ?_
          have HBF := set7_below (n := B) (by rw [← HBB.out]; exact HBX.out) (by rw [← HBB.out]; exact Nat.le_refl _) (it 0) (it 0) (.slice none 0 0) (.string ⟨#[]⟩) (it 0) (it 0) (.slice none 0 0)
          exact ⟨Hs.zero, .slice none 0 0, .slice none 0 0, 10, rfl, RdN.nil _, RdE.nil _, HBF, LoadR.no HNO.out⟩
end Go.Proofs.Ytopnmiakljpgbaa
