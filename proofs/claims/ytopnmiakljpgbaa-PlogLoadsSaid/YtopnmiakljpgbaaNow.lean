/-
  The voters as of a log's end: the program's and the document's.
-/
import Derived.Test.YtopnmiakljpgbaaLists
namespace Go.Proofs.Ytopnmiakljpgbaa
open Go.RowKit
/-- A slice that reads as these values, a cell each. -/
def RdV (w : World) (v : Value) (xs : List Value) : Prop := ∃ a cap, v = .slice a xs.length cap ∧ xs.length ≤ cap ∧ cap ≤ maxLen ∧ (xs = [] ∨ ∃ g k, a = some ⟨g, k, none⟩ ∧ ∀ (i : Nat) x, xs[i]? = some x → w.cell? ⟨g, k + i, none⟩ = some x)
theorem RdN.rdV {w : World} {v : Value} {L : List Int} (h : RdN w v L) : RdV w v (ivs L) := by
  obtain ⟨a, cap, rfl, h1, h2, h3⟩ := h
  have e : (ivs L).length = L.length := by simp
  refine ⟨a, cap, by rw [e], by rw [e]; exact h1, h2, ?_⟩
  rcases h3 with rfl | ⟨g, k, rfl, hc⟩
  · exact .inl rfl
  · refine .inr ⟨g, k, rfl, fun i x hx => ?_⟩
    rw [List.getElem?_map] at hx
    cases hl : L[i]? with
    | none => rw [hl] at hx; cases hx
    | some y => rw [hl] at hx; cases hx; exact hc i y hl
theorem run_append_none1 {w : World} (t e : TypeId) (ht : Try.prog.underlying t = some (.slice e)) (i : TypeInfo) (hi : Try.prog.info? e = some i) (ty : TypeId) (base : Nat) (v : Value) (n : Nat) (xs : List Value) (hown : w.ownsRow base e 1 v n xs) (a : Option Addr) (c : Nat) :
    (Builtin.append_ #[t, t] ty #[v, .slice a 0 c]).run Try.prog w = .ok v w := by
  rcases hown.2 with ⟨rfl, rfl⟩ | ⟨g, cap, cur, rfl, _, _, hnc, _⟩
  · cases a <;> simp [Builtin.append_, run_underlying ht, sizeOf, typeInfo, hi, Builtin.lenOf, Builtin.firstCells, loadCells, loadCellsFrom]
  · cases a <;> simp [Builtin.append_, run_underlying ht, sizeOf, typeInfo, hi, Builtin.lenOf, Builtin.firstCells, hnc, storeCells, loadCells, loadCellsFrom]
/-- Values appended to one's own. -/
theorem wp_app_vals (t e : TypeId) (z : Value) (bytes : Nat) (ht : Try.prog.underlying t = some (.slice e)) (hinf : (Try.prog.info? e).map (fun i => (i.zero, i.size, i.bytes)) = some (some z, 1, bytes)) (hzc : z.cells.size = 1) (hby : bytes ≤ 100)
    {ops : Array Oper} {rest : List Oper} {o : Oper} {a : Act} {w : World} {Q : Exit → Act → World → Prop} (hgd : o.guard = none) (s x : Operand)
    (ho : o.op = .call { callee := .builtin .append, args := #[s, x], argTypes := #[t, t] }) (base : Nat) (v : Value) (xs ys : List Value) (hs : a.eval s = v) (hown : OwnV w base e v xs)
    (u : Value) (hx : a.eval x = u) (hr : RdV w u ys) (h1 : ∀ y ∈ ys, y.oneCell' = true) (hn : xs.length + ys.length ≤ 1000000) (hbase : base ≤ w.heap.size)
    (h : ∀ v' w', OwnV w' base e v' (xs ++ ys) → Below base w w' → wpList Try.prog ops Q rest (a.put o.dst v') w') : wpList Try.prog ops Q (o :: rest) a w := by
  obtain ⟨i0, hi, hz0, hz1, hz2⟩ := info_parts hinf
  obtain ⟨ad, cap, rfl, g1, g2, g3⟩ := hr
  by_cases he : ys = []
  · subst he
    refine wpList_plain hgd fun K hK => ?_
    have hrun := run_append_none1 (w := w) t e ht i0 hi o.type base v xs.length _ hown ad cap
    have hx' : a.eval x = .slice ad 0 cap := hx
    unfold Oper.wp
    simp [execOp, ho, resolve, invoke, builtin, hs, hx', hrun, Result.andThen]
    exact hK _ _ (h v w (by rw [List.append_nil]; exact hown) (Below.refl _ _))
  · rcases g3 with g3 | ⟨g, o2, rfl, hc⟩
    · exact absurd g3 he
    refine wpList_append_own_at _ hgd s x t ho base e i0 z 1 bytes ht hi hz0 hz1 hz2 hzc (by decide) v xs.length xs hs hown ⟨g, o2, none⟩ ys.length cap ys hx (by simp) (fun j y hj => by rw [add_any]; exact hc j y hj) h1 (by unfold maxLen; omega) ?_ hbase ?_
    · have : (xs.length + ys.length) * bytes ≤ 1000000 * 100 := Nat.mul_le_mul hn hby
      omega
    · intro v' w' k1 k2 _ _
      refine h v' w' ?_ ?_
      · unfold OwnV
        rw [List.length_append]
        exact k1
      · refine ⟨k2.os, k2.tape, k2.output, k2.size, fun i hi => k2.block i (by omega) ?_⟩
        intro e'
        have := (World.ownsRow.lt hown i e'.symm).1
        omega
/-- The voters as of a log's end. -/
def nowL (L : List En) (V : List Int) : List Int := L.foldl (fun acc e => if e.kind = 1 then lst e.data.data.toList else acc) V
theorem nowL_snoc (L : List En) (e : En) (V : List Int) : nowL (L ++ [e]) V = if e.kind = 1 then lst e.data.data.toList else nowL L V := by
  unfold nowL
  rw [List.foldl_append]
  rfl
/-- All of a node's, as a value. -/
abbrev hv (t vo : Int) (vs : Value) (sn : ByteArray) (ba bt : Int) (es : Value) : Value := .agg #[it t, it vo, vs, .string sn, it ba, it bt, es]
theorem c7 {w : World} {n : Nat} {T : TypeId} {v0 v1 v2 v3 v4 v5 v6 : Value} (h : Ce w n T #[v0, v1, v2, v3, v4, v5, v6]) : w.cell? ⟨n, 0, none⟩ = some v0 ∧ w.cell? ⟨n, 1, none⟩ = some v1 ∧ w.cell? ⟨n, 2, none⟩ = some v2 ∧ w.cell? ⟨n, 3, none⟩ = some v3 ∧ w.cell? ⟨n, 4, none⟩ = some v4 ∧ w.cell? ⟨n, 5, none⟩ = some v5 ∧ w.cell? ⟨n, 6, none⟩ = some v6 := by
  refine ⟨?_, ?_, ?_, ?_, ?_, ?_, ?_⟩ <;> (rw [h.cell]; rfl)
section
variable {w : World} {t vo ba bt : Int} {vs : Value} {sn : ByteArray} {a : Option Addr} {n cap : Nat} {L : List En} {V : List Int}
set_option maxRecDepth 100000 in
set_option maxHeartbeats 3200000 in
theorem now_any (h : RdE w (.slice a n cap) L) (hV : RdN w vs V) (hl : L.length ≤ 1000000) (hl2 : V.length ≤ 1000000) (hd : ∀ e ∈ L, e.data.size ≤ 1000000) :
    Calls Try.prog 27 #[hv t vo vs sn ba bt (.slice a n cap)] w fun e w' => ∃ v, e = .returned v ∧ OwnV w' w.heap.size 3 v (ivs (nowL L V)) ∧ Below w.heap.size w w' := by
  have hn := h.len
  subst hn
  obtain ⟨va, vc, rfl, _⟩ := hV.shape
  have HR := Lib.hid h
  have HV := Lib.hid hV
  have HD := Lib.hid hd
  have HC := Lib.hid (Ce.new w 42 #[it t, it vo, .slice va V.length vc, .string sn, it ba, it bt, .slice a L.length cap])
  have HB := Lib.hid (one_new w (.cells #[it t, it vo, .slice va V.length vc, .string sn, it ba, it bt, .slice a L.length cap] 42))
  obtain ⟨m, hm⟩ : ∃ m, m = L.length := ⟨_, rfl⟩
  obtain ⟨z, hz⟩ : ∃ z, z = V.length := ⟨_, rfl⟩
  have HM := Lib.hid hm
  have HZ := Lib.hid hz
  rw [← hz] at HV hl2
  rw [← hm] at HR hl
  rw [← hm, ← hz] at HC HB
  rw [← hm, ← hz]
  clear h hV hd hm hz
  go_enter Try.func27, Try.ntmps27
  go_upto_region 1 with fail
  generalize w.alloc _ = wA at *
  obtain ⟨c0, c1, c2, c3', c4, c5, c6⟩ := c7 HC.out
  have hw0 : IntKind.i64.wrap ((m : Int) - 1) = (m : Int) - 1 := by unfold IntKind.wrap; simp only [IntKind.bits, IntKind.signed]; simp; omega
  go_wp2
  clear c0 c1 c2 c3' c4 c5 c6 hw0
  go_loopw [3, 4, 5, 6] (fun i _ _ _ wr => ∃ k : Nat, k ≤ m ∧ i = it ((k : Int) - 1) ∧ nowL L V = nowL (L.take k) V ∧ Below wA.heap.size wA wr) (fun i _ _ _ _ => (intOf i + 1).toNat)
  case atStart => exact ⟨m, Nat.le_refl _, rfl, by rw [List.take_of_length_le (by have := HM.out; omega)], Below.refl _ _⟩
  case round =>
    obtain ⟨k, hk, rfl, hE, hbr⟩ := hrel
    have HE := Lib.hid hE
    have HBR := Lib.hid hbr
    have HBW := Lib.hid (HB.out.trans (hbr.mono HB.out.size))
    obtain ⟨c0, c1, c2, c3', c4, c5, c6⟩ := c7 (HC.out.below hbr)
    clear hE
    cases k with
    | zero =>
      have e0 : ((0 : Nat) : Int) - 1 = -1 := by omega
      rw [e0]
      have HF : Hid (nowL L V = V) := Lib.hid (by rw [HE.out]; rfl)
      have HV2 := Lib.hid (HV.out.below HBW.out)
      have HLZ : Hid (([] : List Value).length + (ivs V).length ≤ 1000000) := Lib.hid (by have := HZ.out; simp; omega)
      have HON := Lib.hid (show ∀ y ∈ ivs V, y.oneCell' = true from fun y hy => by obtain ⟨q, _, rfl⟩ := List.mem_map.1 hy; rfl)
      clear hbr c0 c1 c3' c4 c5 c6
      go_wp2_with (at_builtin; refine wp_app_vals 40 3 _ 8 Try.underlying40 info3 rfl (by decide) rfl (.const (.slice none 0 0)) (.tmp 33) rfl w.heap.size _ [] (ivs V) rfl (OwnV.nil _ _ _) _ rfl HV2.out.rdV HON.out HLZ.out HBW.out.size ?_)
      intro v' w2 ho hb2
      have HO := Lib.hid ho
      have HB2 := Lib.hid (HBW.out.trans hb2)
      clear ho hb2
      go_wp2
      go_ret
      exact ⟨_, rfl, by rw [HF.out]; exact HO.out, HB2.out⟩
    | succ j =>
      have e0 : ((j + 1 : Nat) : Int) - 1 = (j : Int) := by omega
      rw [e0]
      obtain ⟨x, hx⟩ : ∃ x, L[j]? = some x := ⟨_, List.getElem?_eq_getElem (by have := HM.out; omega)⟩
      obtain ⟨e1, g, o, rfl, hg, d0, d1, d2⟩ := HR.out.at hx
      have d0 := (HBW.out.cell (p := ⟨g, o + j * 3, none⟩) hg).trans d0
      have d1 := (HBW.out.cell (p := ⟨g, o + j * 3 + 1, none⟩) hg).trans d1
      have d2 := (HBW.out.cell (p := ⟨g, o + j * 3 + 2, none⟩) hg).trans d2
      have q0 : (0 : Int) ≤ (j : Int) := by omega
      have q1 : (j : Int) < (m : Int) := by omega
      have q2 : j < m := by omega
      have hN : nowL L V = if x.kind = 1 then lst x.data.data.toList else nowL (L.take j) V := by rw [HE.out, take_succ_of hx, nowL_snoc]
      have HLI := Lib.hid (fun w' => list_any x.data (HD.out x (List.mem_of_getElem? hx)) w')
      have HBX := Lib.hid (HBR.out.trans ((one_new wr (.cells #[it x.term, it x.kind, .string x.data] 31)).mono HBR.out.size))
      clear hbr hx e1 HE
      by_cases hk1 : x.kind = 1
      · rw [if_pos hk1] at hN
        have r1 : (x.kind == 1) = true := by simpa using hk1
        have HF := Lib.hid hN
        clear hN hk1
        go_wp2_with fail
        refine (HLI.out _).mono ?_
        rintro e w2 ⟨v, rfl, ho, hb2⟩
        have HO := Lib.hid ho
        have HB2 := Lib.hid (HBX.out.trans (hb2.mono HBX.out.size))
        have HS := Lib.hid (Nat.le_trans HB.out.size HBX.out.size)
        clear ho hb2
        go_wp2
        go_ret
        exact ⟨_, rfl, by rw [HF.out]; exact HO.out.weak HS.out, HB.out.trans (HB2.out.mono HB.out.size)⟩
      · rw [if_neg hk1] at hN
        have r1 : (x.kind == 1) = false := by simpa using hk1
        have HF := Lib.hid hN
        have hw : IntKind.i64.wrap ((j : Int) - 1) = (j : Int) - 1 := by unfold IntKind.wrap; simp only [IntKind.bits, IntKind.signed]; simp; omega
        clear hN hk1
        go_wp2
        go_roundw
        case rel => exact ⟨j, by omega, rfl, HF.out, HBX.out⟩
        case measure => simp [intOf]
set_option maxRecDepth 100000 in
set_option maxHeartbeats 3200000 in
theorem rnow_any (h : RdE w (.slice a n cap) L) (hV : RdN w vs V) (hl : L.length ≤ 1000000) (hd : ∀ e ∈ L, e.data.size ≤ 1000000) :
    Calls Try.prog 28 #[hv t vo vs sn ba bt (.slice a n cap)] w fun e w' => ∃ v, e = .returned v ∧ RdN w' v (nowL L V) ∧ Below w.heap.size w w' := by
  have hn := h.len
  subst hn
  obtain ⟨va, vc, rfl, _⟩ := hV.shape
  have HR := Lib.hid h
  have HV := Lib.hid hV
  have HD := Lib.hid hd
  have HC := Lib.hid (Ce.new w 42 #[it t, it vo, .slice va V.length vc, .string sn, it ba, it bt, .slice a L.length cap])
  have HB := Lib.hid (one_new w (.cells #[it t, it vo, .slice va V.length vc, .string sn, it ba, it bt, .slice a L.length cap] 42))
  obtain ⟨m, hm⟩ : ∃ m, m = L.length := ⟨_, rfl⟩
  obtain ⟨z, hz⟩ : ∃ z, z = V.length := ⟨_, rfl⟩
  have HM := Lib.hid hm
  rw [← hz] at HV
  rw [← hm] at HR hl
  rw [← hm, ← hz] at HC HB
  rw [← hm, ← hz]
  clear h hV hd hm hz
  go_enter Try.func28, Try.ntmps28
  go_upto_region 1 with fail
  generalize w.alloc _ = wA at *
  obtain ⟨c0, c1, c2, c3', c4, c5, c6⟩ := c7 HC.out
  go_wp2
  clear c0 c1 c2 c3' c4 c5 c6
  go_loopw [3, 4] (fun ov i wr => ∃ k : Nat, k ≤ m ∧ i = it (k : Int) ∧ RdN wr ov (nowL (L.take k) V) ∧ Below wA.heap.size wA wr) (fun _ i _ => m - (intOf i).toNat)
  case atStart => exact ⟨0, Nat.zero_le _, rfl, HV.out.below HB.out, Below.refl _ _⟩
  case round =>
    obtain ⟨k, hk, rfl, hE, hbr⟩ := hrel
    have HE := Lib.hid hE
    have HBR := Lib.hid hbr
    have HBW := Lib.hid (HB.out.trans (hbr.mono HB.out.size))
    obtain ⟨c0, c1, c2, c3', c4, c5, c6⟩ := c7 (HC.out.below hbr)
    by_cases hlt : k < m
    · obtain ⟨x, hx⟩ : ∃ x, L[k]? = some x := ⟨_, List.getElem?_eq_getElem (by have := HM.out; omega)⟩
      obtain ⟨e1, g, o, rfl, hg, d0, d1, d2⟩ := HR.out.at hx
      have d0 := (HBW.out.cell (p := ⟨g, o + k * 3, none⟩) hg).trans d0
      have d1 := (HBW.out.cell (p := ⟨g, o + k * 3 + 1, none⟩) hg).trans d1
      have d2 := (HBW.out.cell (p := ⟨g, o + k * 3 + 2, none⟩) hg).trans d2
      have q1 : (k : Int) < (m : Int) := by omega
      have hN : nowL (L.take (k + 1)) V = if x.kind = 1 then lst x.data.data.toList else nowL (L.take k) V := by rw [take_succ_of hx, nowL_snoc]
      have HLI := Lib.hid (rlist_any x.data (HD.out x (List.mem_of_getElem? hx)) wr)
      clear hbr hx e1 hE
      by_cases hk1 : x.kind = 1
      · rw [if_pos hk1] at hN
        have r1 : (x.kind == 1) = true := by simpa using hk1
        have HF := Lib.hid hN
        clear hN hk1
        go_wp2_with fail
        refine HLI.out.mono ?_
        rintro e w2 ⟨v, rfl, ho, hb2⟩
        have HO := Lib.hid ho.rdN
        have HB2 := Lib.hid (HBR.out.trans (hb2.mono HBR.out.size))
        clear ho hb2
        go_wp2
        go_roundw
        case rel => exact ⟨k + 1, by omega, by go_num, by rw [HF.out]; exact HO.out, HB2.out⟩
        case measure => simp [intOf]; omega
      · rw [if_neg hk1] at hN
        have r1 : (x.kind == 1) = false := by simpa using hk1
        have HF := Lib.hid hN
        clear hN hk1
        go_wp2
        go_roundw
        case rel => exact ⟨k + 1, by omega, by go_num, by rw [HF.out]; exact HE.out, HBR.out⟩
        case measure => simp [intOf]; omega
    · have q1 : decide ((k : Int) < (m : Int)) = false := by simp; omega
      have q2 : decide (k < m) = false := by simp; omega
      have HF : Hid (L.take k = L) := Lib.hid (List.take_of_length_le (by have := HM.out; omega))
      clear hbr hE
      go_wp2
      go_ret
      exact ⟨_, rfl, by rw [← HF.out]; exact HE.out, HBW.out⟩
end
end Go.Proofs.Ytopnmiakljpgbaa
