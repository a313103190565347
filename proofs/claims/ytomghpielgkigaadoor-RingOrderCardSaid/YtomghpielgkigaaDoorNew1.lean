/-
  A node's points; a new ring.
-/
import Derived.Test.YtomghpielgkigaaDoorArr2
namespace Go.Proofs.YtomghpielgkigaaDoor
open Go.RowKit Go.Shelf
/-- What a node's point is hashed of. -/
def seed (n : Fin 64) (k : Nat) : ByteArray := ⟨#[114, UInt8.ofNat n.val, UInt8.ofNat k]⟩
/-- A node's point. -/
def ptOf (n : Fin 64) (k : Nat) : Pt := (pk (seed n k), n)
theorem res2 {fn : Func} {t : Tmp} {tmps : Array Value} {w : World} {n : Nat} (h : fn.results = #[.cell t 50]) (e1 : tmps.getD t undef = ptr n) {v0 v1 : Value} (h1 : Ce w n 50 #[v0, v1]) :
    (results fn tmps).run Tryd.prog w = .ok (.agg #[v0, v1]) w := by
  have a0 : w.cell? ⟨n, 0, none⟩ = some v0 := h1.cell 0
  have a1 : w.cell? ⟨n, 1, none⟩ = some v1 := h1.cell 1
  rw [Array.getD_eq_getD_getElem?] at e1
  simp [results, h, e1, go_sem, a0, a1]
set_option maxRecDepth 100000 in
set_option maxHeartbeats 1600000 in
theorem pointOf_any {w : World} (hT : Tab w) (n : Fin 64) (k : Nat) (hk : k < 16) : Calls Tryd.prog 19 #[encN n, it (k : Int)] w fun e w' => e = .returned (encP (ptOf n k)) ∧ Below w.heap.size w w' := by
  have hn := n.isLt
  have w1 : IntKind.u8.wrap (n.val : Int) = (n.val : Int) := by unfold IntKind.wrap; simp only [IntKind.bits, IntKind.signed]; simp; omega
  have w2 : IntKind.u8.wrap (k : Int) = (k : Int) := by unfold IntKind.wrap; simp only [IntKind.bits, IntKind.signed]; simp; omega
  have hcv : ∀ (W : World) (b : Nat), Ce W b 5 #[.int .u8 114, .int .u8 (n.val : Int), .int .u8 (k : Int)] → (convert 60 9 (.slice (some ⟨b, 0, none⟩) 3 3)).run Tryd.prog W = .ok (.string (seed n k)) W := by
    intro W b hc
    refine run_convert_bytes_back (P := Tryd.prog) W 60 9 5 ⟨b, 0, none⟩ 3 [114, UInt8.ofNat n.val, UInt8.ofNat k] Tryd.underlying60 Tryd.underlying5 Tryd.underlying9 (fun j hj => ?_)
    have e := hc.cell (0 + j)
    match j, hj with
    | 0, _ => exact e
    | 1, _ =>
      rw [addr_any]
      refine e.trans ?_
      simp
      omega
    | 2, _ =>
      rw [addr_any]
      refine e.trans ?_
      simp
      omega
  obtain ⟨s, hs⟩ : ∃ s, s = seed n k := ⟨_, rfl⟩
  have hsz : s.size ≤ 140737488355328 := by rw [hs]; show (3 : Nat) ≤ 140737488355328; decide
  have hpt : ptOf n k = (pk s, n) := by rw [hs]; rfl
  rw [hpt]
  rw [← hs] at hcv
  have HT := Lib.hid hT
  have HCV := Lib.hid hcv
  clear hs hpt hT hcv
  obtain ⟨k1, k2, ks, kb⟩ := two_new w #[.int .u64 0, .int .i64 0] #[.int .u8 114, .int .u8 (n.val : Int), .int .u8 (k : Int)] 50 5
  have hcv1 := HCV.out _ _ k2
  have hb3 := one_new ((w.alloc (.cells #[.int .u64 0, .int .i64 0] 50)).alloc (.cells #[.int .u8 114, .int .u8 (n.val : Int), .int .u8 (k : Int)] 5)) (.cells #[.string s] 9)
  have hc3 := Ce.new ((w.alloc (.cells #[.int .u64 0, .int .i64 0] 50)).alloc (.cells #[.int .u8 114, .int .u8 (n.val : Int), .int .u8 (k : Int)] 5)) 9 #[.string s]
  rw [ks] at hc3 hb3
  have k13 := k1.below (by rw [ks]; exact hb3)
  have hbw := kb.trans (hb3.mono (by omega))
  have hp := pt_any (HT.out.below hbw) hc3 hsz
  have HP := Lib.hid hp
  have HBW := Lib.hid hbw
  have K1 := Lib.hid k13
  have hpos : w.heap.size < (((w.alloc (.cells #[.int .u64 0, .int .i64 0] 50)).alloc (.cells #[.int .u8 114, .int .u8 (n.val : Int), .int .u8 (k : Int)] 5)).alloc (.cells #[.string s] 9)).heap.size := k13.lt
  have HPOS := Lib.hid hpos
  clear k1 k2 ks kb hb3 hc3 k13 hbw hp hpos HCV
  go_enter Tryd.func19, Tryd.ntmps19
  go_wp2_with fail
  refine HP.out.mono ?_
  rintro e w4 ⟨rfl, hb4⟩
  have K4 := Lib.hid (K1.out.below hb4)
  have HB4 := Lib.hid (HBW.out.trans (hb4.mono HBW.out.size))
  have c0 := K4.out.cell 0
  have c1 := K4.out.cell 1
  have f0 := K4.out.frozen 0
  have f1 := K4.out.frozen 1
  simp at c0 c1
  have q := (K4.out.set (i := 0) (.int .u64 (pk s))).set (i := 1) (encN n)
  have qb := HB4.out.trans ((((Tr.refl (· = w.heap.size) w4).setCell (b := w.heap.size) (i := 0) (.inl rfl) (.int .u64 (pk s))).setCell (b := w.heap.size) (i := 1) (.inl rfl) (encN n)).below (n := w.heap.size) (by have := HB4.out.size; omega) fun j hj => by omega)
  have Q := Lib.hid q
  have QB := Lib.hid qb
  clear hb4 q qb hcv1 w1 w2
  go_wp2
  refine bodyPost_ret (res2 rfl rfl Q.out) rfl ⟨rfl, QB.out⟩
/-- append in a region that draws its order. -/
theorem step_app {α : Type} (E : El α) {ops : Array Oper} {o : Oper} {a : Act} {w : World} {K : Act → World → Prop} {Q : Exit → Act → World → Prop} {X : Prop} (hgd : o.guard = none) (s x : Operand)
    (ho : o.op = .call { callee := .builtin .append, args := #[s, x], argTypes := #[E.t, E.t] }) (base : Nat) (v : Value) (L M : List α) (hs : a.eval s = v) (hown : OwnX E w base v L)
    (u : Value) (hx : a.eval x = u) (hr : RdX E w u M) (hn : L.length + M.length ≤ 1000000) (hbase : base ≤ w.heap.size)
    (h : ∀ v' w', OwnX E w' base v' (L ++ M) → w.grownBy w' v.ownBlock → (v'.ownBlock = v.ownBlock ∨ v'.ownBlock = some w.heap.size) → K (a.put o.dst v') w') :
    if Region.wanted o (yielded ops a.tmps) = true then Oper.wp Tryd.prog o a w K Q else X := by
  rw [if_pos (by simp [Region.wanted, hgd])]
  obtain ⟨v', w', hrun, h2, h3, h4⟩ := run_app E o.type base v L M hown u hr hn hbase
  unfold Oper.wp
  simp [execOp, ho, resolve, invoke, builtin, hs, hx, hrun, Result.andThen]
  exact h v' w' h2 h3 h4
theorem rd_oneP {w : World} {b : Nat} {p : Pt} (h : Ce w b 50 #[.int .u64 p.1, .int .i64 (p.2.val : Int)]) : RdX elP w (.slice (some ⟨b, 0, none⟩) 1 1) [p] := by
  refine ⟨_, 1, rfl, Nat.le_refl _, by decide, .inr ⟨b, 0, rfl, fun j u hu => ?_⟩⟩
  rw [h.cell (0 + j)]
  match j with
  | 0 => exact hu
  | 1 => exact hu
  | j + 2 => simp [El.fl, elP] at hu
/-- The points of a node, so many; those of all nodes below a number that are there. -/
def ptsN (n : Fin 64) (k : Nat) : List Pt := (List.range k).map (ptOf n)
theorem ptsN_succ (n : Fin 64) (k : Nat) : ptsN n (k + 1) = ptsN n k ++ [ptOf n k] := by simp [ptsN, List.range_succ]
def ptsB (on : Fin 64 → Bool) : Nat → List Pt
  | 0 => []
  | i + 1 => ptsB on i ++ (if h : i < 64 then (if on ⟨i, h⟩ then ptsN ⟨i, h⟩ 16 else []) else [])
theorem ptsB_len (on : Fin 64 → Bool) (i : Nat) : (ptsB on i).length ≤ 16 * i := by
  induction i with
  | zero => exact Nat.le_refl _
  | succ i ih =>
    unfold ptsB
    rw [List.length_append]
    split
    · split
      · simp [ptsN]; omega
      · simp; omega
    · simp; omega
theorem index_on (on : Fin 64 → Bool) (i : Nat) (h : i < 64) (w : World) : (Instr.index 47 (.agg (onA on)) (it (i : Int))).run Tryd.prog w = .ok (.bool (on ⟨i, h⟩)) w := by
  have e := onA_at on ⟨i, h⟩
  simp at e
  simp [Instr.index, run_underlying und47, e, asIntOf, go_sem]
  omega
/-- What an append to a ring's points leaves. -/
theorem app_law {w3 w6 : World} {R : Nat} {v v6 : Value} {L : List Pt} {p : Pt} {o : Obj} (hc : Ce w3 R 41 #[v]) (ho : OwnX elP w3 (R + 1) v L) (ho6 : OwnX elP w6 (R + 1) v6 (L ++ [p])) (hg : (w3.alloc o).grownBy w6 v.ownBlock) :
    (∃ a cap, v6 = .slice a (L.length + 1) cap) ∧ Ce w6 R 41 #[v] ∧ OwnX elP w6 (R + 1) v6 (L ++ [p]) ∧ Below (R + 1) w3 w6 := by
  obtain ⟨a, cap, e, _, _⟩ := ho6.shape
  have hb := one_new w3 o
  have t : Tr (fun j => v.ownBlock = some j) (w3.alloc o) w6 := ⟨hg.os, hg.tape, hg.output, hg.size, fun j hj hS => hg.block j hj (fun e => hS e.symm)⟩
  refine ⟨⟨a, cap, by rw [e, List.length_append]; rfl⟩, (hc.below hb).tr t (ho.ne hc (by decide)), ho6, ?_⟩
  exact (hb.mono (by have := hc.lt; omega)).trans (t.below (by have := hc.lt; have := hb.size; omega) fun j hj => (ho.block j hj).1)
/-- All points of a new ring. -/
def ringL (M : List Int) : List Pt := srtP (ptsB (inL M) 64)
set_option maxRecDepth 100000 in
set_option maxHeartbeats 3200000 in
theorem new_any {w : World} (hT : Tab w) {v : Value} {M : List Int} (h : RdX elI w v M) (hM : M.length ≤ 1000000) :
    Calls Tryd.prog 9 #[v] w fun e w' => ∃ r, e = .returned r ∧ RingAt Z0 w' r (ringL M) ∧ Below w.heap.size w w' := by
  obtain ⟨a, cap, rfl, _, _⟩ := h.shape
  have HT := Lib.hid hT
  have HV := Lib.hid h
  generalize hn : M.length = n at *
  clear hT h
  go_enter Tryd.func9, Tryd.ntmps9
  go_upto_region 2 with fail
  have kb := one_new w (.cells #[.slice none 0 0] 41)
  have k1 := Ce.new w 41 #[.slice none 0 0]
  obtain ⟨R, hR⟩ : ∃ R, R = w.heap.size := ⟨_, rfl⟩
  rw [← hR] at k1 ⊢
  have HR := Lib.hid hR
  generalize w.alloc _ = w1 at *
  have HS := Lib.hid (setOf_any (HV.out.below kb) (by rw [hn]; exact hM))
  obtain ⟨on, hon⟩ : ∃ on, on = inL M := ⟨_, rfl⟩
  rw [← hon] at HS
  have HON := Lib.hid hon
  have K1 := Lib.hid k1
  have KB := Lib.hid kb
  clear kb k1 hR hon hn
  go_wp2_with fail
  refine HS.out.mono ?_
  rintro e w2 ⟨rfl, hb2⟩
  have K2 := Lib.hid (K1.out.below hb2)
  have KB2 := Lib.hid (KB.out.trans (hb2.mono KB.out.size))
  clear hb2
  have HIX := Lib.hid (index_on on)
  generalize onA on = arr at *
  go_upto_region 3 with fail
  have HO2 := Lib.hid (OwnX.nil (E := elP) w2 (R + 1))
  go_loopw [11] (fun t wr => ∃ i : Nat, t = it (i : Int) ∧ i ≤ 64 ∧ ∃ sl, Ce wr R 41 #[sl] ∧ OwnX elP wr (R + 1) sl (ptsB on i) ∧ Below w.heap.size w wr) (fun t _ => 64 - (intOf t).toNat)
  case atStart => exact ⟨0, rfl, Nat.zero_le _, _, K2.out, HO2.out, KB2.out⟩
  case round =>
    obtain ⟨i, rfl, hi, sl, hc, ho, hb⟩ := hrel
    have HC := Lib.hid hc
    have HO := Lib.hid ho
    have HB := Lib.hid hb
    clear hc ho hb
    by_cases hlt : i < 64
    · have hix := HIX.out i hlt
      obtain ⟨bo, hbo⟩ : ∃ bo, bo = on ⟨i, hlt⟩ := ⟨_, rfl⟩
      have HBO := Lib.hid hbo
      rw [← hbo] at hix
      clear hbo
      have hi64 : (i : Int) < 64 := by omega
      cases bo with
      | false =>
        have hstep : ptsB on (i + 1) = ptsB on i := by
          show ptsB on i ++ (if h : i < 64 then (if on ⟨i, h⟩ then ptsN ⟨i, h⟩ 16 else []) else []) = _
          rw [dif_pos hlt, if_neg (by rw [← HBO.out]; decide), List.append_nil]
        have HST := Lib.hid hstep
        clear hstep
        go_wp2
        go_roundw
        case rel => exact ⟨i + 1, by go_num, hlt, sl, HC.out, by rw [HST.out]; exact HO.out, HB.out⟩
        case measure => simp [intOf]; omega
      | true =>
        obtain ⟨nn, hnn⟩ : ∃ nn : Fin 64, nn = ⟨i, hlt⟩ := ⟨_, rfl⟩
        have hstep : ptsB on (i + 1) = ptsB on i ++ ptsN nn 16 := by
          show ptsB on i ++ (if h : i < 64 then (if on ⟨i, h⟩ then ptsN ⟨i, h⟩ 16 else []) else []) = _
          rw [dif_pos hlt, if_pos HBO.out.symm, hnn]
        have HST := Lib.hid hstep
        have HNN := Lib.hid (show (i : Int) = (nn.val : Int) by rw [hnn])
        have HPL := Lib.hid (show (ptsB on i).length ≤ 1024 by have := ptsB_len on i; omega)
        clear hstep hnn
        go_upto_region 7 with fail
        go_loopw [17] (fun t wq => ∃ k : Nat, t = it (k : Int) ∧ k ≤ 16 ∧ ∃ sl, Ce wq R 41 #[sl] ∧ OwnX elP wq (R + 1) sl (ptsB on i ++ ptsN nn k) ∧ Below w.heap.size w wq) (fun t _ => 16 - (intOf t).toNat)
        case atStart => exact ⟨0, rfl, Nat.zero_le _, sl, HC.out, by rw [show ptsN nn 0 = [] from rfl, List.append_nil]; exact HO.out, HB.out⟩
        case round =>
          obtain ⟨k, rfl, hk, sq, hc, ho, hb⟩ := hrel
          have HC := Lib.hid hc
          have HO := Lib.hid ho
          have HB := Lib.hid hb
          clear hc ho hb
          by_cases hk16 : k < 16
          · obtain ⟨a3, cap3, rfl, _, _⟩ := HO.out.shape
            have HB0 : Hid (Below w.heap.size w wr.drew) := Lib.hid HB.out.drew
            have HPT := Lib.hid (show Calls Tryd.prog 19 #[it (i : Int), it (k : Int)] wr.drew fun e w' => e = .returned (encP (ptOf nn k)) ∧ Below wr.drew.heap.size wr.drew w' by rw [HNN.out]; exact pointOf_any (HT.out.below HB0.out) nn k hk16)
            have HLS := Lib.hid (show (ptsB on i ++ ptsN nn k).length + [ptOf nn k].length ≤ 1000000 by
              have := HPL.out
              simp [ptsN]
              omega)
            have HPS := Lib.hid (ptsN_succ nn k)
            obtain ⟨p, hp⟩ : ∃ p, p = ptOf nn k := ⟨_, rfl⟩
            rw [← hp] at HPT HLS HPS
            have c0 := HC.out.cell 0
            have f0 := HC.out.frozen 0
            generalize hl3 : (ptsB on i ++ ptsN nn k).length = m3 at *
            simp at c0
            have HL3 := Lib.hid hl3
            have HLB := Lib.hid (show (ptsB on i ++ ptsN nn k).length + [p].length ≤ 1000000 by rw [hl3]; exact HLS.out)
            clear hp hl3
            go_upto_region 9 with fail
            go_region_law (first
              | (go_simp; go_at_call 19; refine HPT.out.mono ?_; rintro e w3 ⟨rfl, hb3⟩; have HB3 := Lib.hid hb3; have HC3 := Lib.hid (HC.out.below (show Below wr.heap.size wr w3 from ⟨hb3.os, hb3.tape, hb3.output, hb3.size, hb3.block⟩)); have c3 := HC3.out.cell 0; have f3 := HC3.out.frozen 0; simp at c3; have c4 : (w3.alloc (.cells #[.int .u64 p.1, .int .i64 (p.2.val : Int)] 50)).cell? ⟨R, 0, none⟩ = some (.slice a3 m3 cap3) := (HC3.out.below (one_new w3 _)).cell 0; have HO3 := Lib.hid (HO.out.below (show Below wr.heap.size wr w3 from ⟨hb3.os, hb3.tape, hb3.output, hb3.size, hb3.block⟩)); have HB3 := Lib.hid hb3; clear hb3)
              | (have q1 : R + 1 ≤ (w3.alloc (.cells #[.int .u64 p.1, .int .i64 (p.2.val : Int)] 50)).heap.size := Nat.le_trans HC3.out.lt (one_new w3 _).size; refine step_app elP rfl (.tmp 24) (.tmp 28) rfl (R + 1) _ (ptsB on i ++ ptsN nn k) [p] rfl (HO3.out.below (one_new w3 _)) _ rfl (rd_oneP (Ce.new w3 50 _)) HLB.out q1 ?_; intro v6 w6 ho6 hg6 hv6; have A := Lib.hid (app_law HC3.out HO3.out ho6 hg6); obtain ⟨a6, cap6, rfl⟩ := A.out.1; have c6 := A.out.2.1.cell 0; have f6 := A.out.2.1.frozen 0; simp at c6; clear ho6 hg6 hv6 q1)
              | fail)
            all_goals
              have hC6 : Ce (w6.setCell ⟨R, 0, none⟩ (.slice a6 ((ptsB on i ++ ptsN nn k).length + 1) cap6)) R 41 #[.slice a6 ((ptsB on i ++ ptsN nn k).length + 1) cap6] := A.out.2.1.set (i := 0) _
              have hO6 : OwnX elP (w6.setCell ⟨R, 0, none⟩ (.slice a6 ((ptsB on i ++ ptsN nn k).length + 1) cap6)) (R + 1) (.slice a6 ((ptsB on i ++ ptsN nn k).length + 1) cap6) (ptsB on i ++ ptsN nn (k + 1)) := by
                rw [HPS.out, ← List.append_assoc]
                exact A.out.2.2.1.setT A.out.2.1 (by decide) _
              have hs3 := HC3.out.lt
              have hB6 : Below w.heap.size w (w6.setCell ⟨R, 0, none⟩ (.slice a6 ((ptsB on i ++ ptsN nn k).length + 1) cap6)) := by
                have h1 : Below w.heap.size w w3 := HB0.out.trans (HB3.out.mono HB0.out.size)
                have h2 : Below w.heap.size w w6 := h1.trans (A.out.2.2.2.mono (by have := HR.out; omega))
                exact h2.trans (((Tr.refl (· = R) w6).setCell (b := R) (i := 0) (.inl rfl) _).below h2.size fun j hj => by have := HR.out; omega)
              rw [List.length_append] at hC6 hO6 hB6
              have HC6 := Lib.hid hC6
              have HO6 := Lib.hid hO6
              have HB6 := Lib.hid hB6
              clear hC6 hO6 hB6 hs3 c0 f0 c3 f3 c4 c6 f6 A
              have hk16' : (k : Int) < 16 := by omega
              go_wp2
              go_roundw
              case rel => exact ⟨k + 1, by go_num, hk16, _, HC6.out, HO6.out, HB6.out⟩
              case measure => simp [intOf]; omega
          · have hk : k = 16 := by omega
            subst hk
            go_wp2
            go_roundw
            case rel => exact ⟨i + 1, by go_num, hlt, sq, HC.out, by rw [HST.out]; exact HO.out, HB.out⟩
            case measure => simp [intOf]; omega
    · have hi64 : i = 64 := by omega
      subst hi64
      obtain ⟨a2, cap2, rfl, _, _⟩ := HO.out.shape
      have HA := Lib.hid (arrange_any HO.out (by have := ptsB_len on 64; omega))
      have c0 := HC.out.cell 0
      simp at c0
      have HL := Lib.hid (show srtP (ptsB on 64) = ringL M by rw [HON.out]; rfl)
      generalize (ptsB on 64).length = m at *
      go_wp2_with fail
      refine HA.out.mono ?_
      rintro e w5 ⟨rfl, hr, hg⟩
      have t5 : Tr (fun j => (Value.slice a2 m cap2).ownBlock = some j) wr w5 := ⟨hg.os, hg.tape, hg.output, hg.size, fun j hj hS => hg.block j hj (fun e => hS e.symm)⟩
      have HC5 := Lib.hid (HC.out.tr t5 (HO.out.ne HC.out (by decide)))
      have HB5 := Lib.hid (HB.out.trans (t5.below HB.out.size fun j hj => by have := (HO.out.block j hj).1; have := HR.out; omega))
      have HR5 := Lib.hid hr
      clear hr hg t5 c0
      go_wp2
      go_ret
      refine ⟨_, rfl, .inr ⟨R, _, rfl, HC5.out, fun h => h, ⟨?_, fun _ _ _ _ _ _ h => h⟩⟩, HB5.out⟩
      rw [← HL.out]
      exact HR5.out
end Go.Proofs.YtomghpielgkigaaDoor
