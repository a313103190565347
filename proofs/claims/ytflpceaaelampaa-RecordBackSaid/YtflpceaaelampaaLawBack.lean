/-
  The walk of the law RecordBack: for every text and every list of records it returns true; no older memory is changed.
-/
import Derived.Test.YtflpceaaelampaaRecs
import Derived.Test.YtflpceaaelampaaBackRec
import Derived.Test.YtflpceaaelampaaLawNil
import Derived.Laws.StructEq
namespace Go.Proofs.Ytflpceaaelampaa
open Go.RowKit
/-- Records that are read one behind the other, from a place to another. -/
def Ch (B : Bs) : Int → List Rc → Int → Prop
  | a, [], e => a = e
  | a, r :: rs, e => ∃ p, (∀ Z, gt (B ++ Z) a = (r, p, 0)) ∧ Ch B p rs e
theorem Ch.app {B : Bs} (X : Bs) : ∀ (rs : List Rc) (a e : Int), Ch B a rs e → Ch (B ++ X) a rs e := by
  intro rs
  induction rs with
  | nil => intro a e h; exact h
  | cons r rs ih =>
    intro a e ⟨p, h1, h2⟩
    exact ⟨p, fun Z => by rw [List.append_assoc]; exact h1 _, ih _ _ h2⟩
theorem Ch.snoc {B : Bs} {r : Rc} {p : Int} : ∀ (rs : List Rc) (a e : Int), Ch B a rs e → (∀ Z, gt (B ++ Z) e = (r, p, 0)) → Ch B a (rs ++ [r]) p := by
  intro rs
  induction rs with
  | nil => intro a e h h2; have : a = e := h; subst this; exact ⟨p, h2, rfl⟩
  | cons q rs ih =>
    intro a e ⟨p', h1, h2⟩ h3
    exact ⟨p', h1, ih _ _ h2 h3⟩
theorem rpB_app {B : Bs} {L : Kn} {r : Rc} (hk : KOk B L) (g : rck r = 0) : ∃ X, rpB B L r = B ++ X := by
  obtain ⟨v, _, eB, _, _⟩ := rpB_eq (B := B) (L := L) g
  obtain ⟨X1, x1⟩ := (kok_put hk (rck_zero g).1).2.1
  obtain ⟨X, x2, _, _⟩ := putD_shift (pts r.t r.d.data.toList) (rpH B L r ++ word v) (rpH B L r ++ word v) (rpK B L r) rfl
  rw [eB, x2]
  unfold rpH
  rw [x1]
  exact ⟨X1 ++ (word r.t ++ (word r.c ++ (long r.l ++ (word v ++ X)))), by simp⟩
theorem rp_no {B : Bs} {L : Kn} {r : Rc} (g : rck r ≠ 0) : rpB B L r = B ∧ rpL B L r = L := by unfold rpB rpL; rw [if_neg g, if_neg g]; exact ⟨rfl, rfl⟩
theorem gt_place (s : Bs) (a : Int) : 0 ≤ (gt s a).2.1 ∧ (gt s a).2.1 ≤ (s.length : Int) := by
  unfold gt gtW
  have := piP_bd s (hdP s a) (hdZ s a : Int)
  split
  · split
    · split
      · split
        · split
          · exact this
          · simp
        · simp
      · simp
    · simp
  · simp
theorem rc5 {w : World} {g k : Nat} {r : Rc} (h : RcAt w g k r) : RcAt w g k r := h
/-- What the first loop knows. -/
structure BkI (w0 : World) (b : Nat) (n0 k : Nat) (v : Value) (B : Bs) (L : Kn) (rs : List Rc) (wr : World) : Prop where
  br : BR w0 b [] B L v rs wr
  fit : Fit B L
  ko : KOk B L
  ch : Ch B (n0 : Int) rs (B.length : Int)
  len : B.length ≤ 50 + 2300 * k
  cnt : rs.length ≤ k
theorem BkI.no {w0 : World} {b n0 k : Nat} {v : Value} {B : Bs} {L : Kn} {rs : List Rc} {wr w' : World} (h : BkI w0 b n0 k v B L rs wr) (h2 : BR w0 b [] B L v rs w') : BkI w0 b n0 (k + 1) v B L rs w' :=
  ⟨h2, h.fit, h.ko, h.ch, by have := h.len; omega, by have := h.cnt; omega⟩
theorem BkI.yes {w0 : World} {b n0 k : Nat} {v v' : Value} {B : Bs} {L : Kn} {rs : List Rc} {r : Rc} {wr w' : World} (h : BkI w0 b n0 k v B L rs wr) (hr : r.Num) (g : rck r = 0) (h2 : BR w0 b [] (rpB B L r) (rpL B L r) v' (rs ++ [r]) w') : BkI w0 b n0 (k + 1) v' (rpB B L r) (rpL B L r) (rs ++ [r]) w' := by
  obtain ⟨p1, p2⟩ := gt_put hr h.ko h.fit g
  obtain ⟨X, hX⟩ := rpB_app (r := r) h.ko g
  have hf := rp_fit (r := r) h.fit
  refine ⟨h2, hf.1, p1, ?_, by have := h.len; omega, by rw [List.length_append]; have := h.cnt; simp; omega⟩
  refine Ch.snoc rs _ (B.length : Int) ?_ p2
  rw [hX]
  exact h.ch.app X
set_option maxRecDepth 100000 in
set_option maxHeartbeats 25600000 in
theorem lawBack_any (s : ByteArray) (a : Option Addr) (len cap : Nat) (w : World) (hc : Camr w a len) :
    Calls Try.prog 6 #[.string s, .slice a len cap] w fun e w' => e = .returned (.bool true) ∧ Below w.heap.size w w' := by
  obtain ⟨i0, hi, hz0, hz1, hz2⟩ := info_parts info25
  obtain ⟨t, ht, hsh⟩ := short_any s 50
  have HSH := Lib.hid hsh
  have HCM := Lib.hid hc
  clear hsh hc
  go_enter Try.func6, Try.ntmps6
  go_wp2_with fail
  refine (awake_any w).mono ?_
  rintro e w1 ⟨rfl, hb1⟩
  go_wp2_with fail
  refine (HSH.out _).mono ?_
  rintro e w' ⟨rfl, rfl⟩
  go_wp2_with fail
  refine (new_any w1).mono ?_
  rintro e w2 ⟨rfl, hp2, hb2⟩
  have hB2 := BR.start hp2 hb2
  obtain ⟨S2, hq2, hs2⟩ := hB2.step
  have HS2 := Lib.hid hs2
  have HB1 := Lib.hid hb1
  clear hb1 hp2 hb2 hB2 hs2
  go_wp2_with fail
  refine (praw_any t S2 _ [] [] w2 hq2 (by simp; omega)).mono ?_
  rintro e w3 ⟨⟨v, rfl⟩, hl3⟩
  obtain ⟨h3, hsz3⟩ := HS2.out _ _ _ hl3
  have hI : BkI w1 w1.heap.size t.size 0 (.slice none 0 0) ([] ++ t.data.toList) [] [] w3 :=
    ⟨h3, ⟨by simp, okK_nil⟩, by intro r a h; simp at h, by show (t.size : Int) = _; rw [List.nil_append, size_list], by rw [List.nil_append, ← size_list]; omega, by simp⟩
  have HI := Lib.hid hI
  clear h3 hI hl3 HS2 hq2
  go_wp2
  go_loopw [7, 8] (fun v i wr => ∃ (k : Nat) (B : Bs) (L : Kn) (rs : List Rc), k ≤ len ∧ k ≤ 20 ∧ i = .int .i64 k ∧ BkI w1 w1.heap.size t.size k v B L rs wr) (fun _ i _ => 20 - (intOf i).toNat)
  case atStart => exact ⟨0, _, _, _, by omega, by omega, rfl, HI.out⟩
  case round =>
    clear HI
    obtain ⟨k, B, L, rs, hk, hk20, rfl, hI⟩ := hrel
    by_cases hlt : k < len ∧ k < 20
    · obtain ⟨hl1, hl2⟩ := hlt
      have q1 : (k : Int) < (len : Int) := by omega
      have q2 : (k : Int) < 20 := by omega
      obtain ⟨ab, off, rf, rfl, hab, hnum, hcells⟩ : ∃ b off, ∃ rs : Nat → Rc, a = some ⟨b, off, none⟩ ∧ b < w.heap.size ∧ (∀ k, (rs k).Num) ∧ ∀ k, k < len → RcAt w b (off + k * 5) (rs k) := by
        rcases HCM.out with h | h
        · omega
        · exact h
      obtain ⟨c0, c1, c2, c3, c4⟩ := hcells k hl1
      have hbw := HB1.out.trans (hI.br.below.mono HB1.out.size)
      have d0 := (hbw.cell (p := ⟨ab, off + k * 5, none⟩) hab).trans c0
      have d1 := (hbw.cell (p := ⟨ab, off + k * 5 + 1, none⟩) hab).trans c1
      have d2 := (hbw.cell (p := ⟨ab, off + k * 5 + 2, none⟩) hab).trans c2
      have d3 := (hbw.cell (p := ⟨ab, off + k * 5 + 3, none⟩) hab).trans c3
      have d4 := (hbw.cell (p := ⟨ab, off + k * 5 + 4, none⟩) hab).trans c4
      obtain ⟨q, k1, k2, k3, k4, k5, hsm⟩ := small_any (rf k)
      have hnk := hnum k
      have hqn : q.Num := ⟨k3 ▸ hnk.t, k4 ▸ hnk.c, k5 ▸ hnk.l⟩
      have hqo : q.Ok := ⟨by omega, by omega, hqn.t, hqn.c, hqn.l⟩
      generalize rf k = r0 at d0 d1 d2 d3 d4 hsm
      obtain ⟨n, ty, c, l, d⟩ := r0
      simp only at d0 d1 d2 d3 d4
      have HSM := Lib.hid hsm
      have HQN := Lib.hid hqn
      have HQO := Lib.hid hqo
      have HI := Lib.hid hI
      clear c0 c1 c2 c3 c4 hcells hnum hnk k1 k2 k3 k4 k5 hsm hqn hqo hI hbw
      go_wp2_with fail
      refine (HSM.out _).mono ?_
      rintro e w4 ⟨rfl, hb4⟩
      have h4 := (HI.out.br.under hb4).alloc (.cells q.cells 25)
      obtain ⟨S5, hq5, hs5⟩ := h4.step
      have C := putrec_any q HQO.out S5 _ B L _ hq5 HI.out.fit (by have := HI.out.len; omega)
      have HC := Lib.hid C
      have HS5 := Lib.hid hs5
      obtain ⟨x0, x1, x2, x3, x4⟩ := c5 (h4.ce (List.mem_cons_self ..))
      clear hb4 h4 hs5 C hq5 d0 d1 d2 d3 d4
      by_cases g : rck q = 0
      · rw [g] at HC
        have HG := Lib.hid g
        clear g
        obtain ⟨qn, qt, qc, ql, qd⟩ := q
        go_wp2_with fail
        refine HC.out.mono ?_
        rintro e w6 ⟨rfl, hl6⟩
        obtain ⟨h6, hsz6⟩ := HS5.out _ _ _ hl6
        have C6 := h6.ce (List.mem_cons_self ..)
        have HB6 := Lib.hid h6
        have hrow := h6.row
        obtain ⟨va, vc, rfl⟩ := row_slice hrow
        have hlt1 := HB6.out.below.size
        have hcnt := HI.out.cnt
        obtain ⟨m, hm⟩ : ∃ m, m = rs.length := ⟨_, rfl⟩
        rw [← hm] at hrow hcnt
        have HM := Lib.hid hm
        have HROW := Lib.hid hrow
        clear x0 x1 x2 x3 x4 hl6
        obtain ⟨x0, x1, x2, x3, x4⟩ := c5 C6
        clear C6 h6 hrow hm
        rw [← HM.out]
        go_wp2_with (at_builtin; refine wpList_append_own_at _ rfl (.tmp 44) (.tmp 46) 42 rfl w1.heap.size 25 i0 (.agg #[.string ⟨#[]⟩, .int .u16 0, .int .u16 0, .int .u32 0, .string ⟨#[]⟩]) 5 40 Try.underlying42 hi hz0 hz1 hz2 rfl (by decide) _ m _ rfl (World.ownsRow.alloc HROW.out _) ⟨w6.heap.size, 0, none⟩ 1 1 [.string qn, .int .u16 (qt : Int), .int .u16 (qc : Int), .int .u32 (ql : Int), .string qd] rfl rfl (fun j u hj => World.news_of_block (cs := #[.string qn, .int .u16 (qt : Int), .int .u16 (qc : Int), .int .u32 (ql : Int), .string qd]) (t := 25) (fr := (0, 0)) (heap_alloc_new w6 _) j u hj) (by simp [Value.oneCell']) (by unfold maxLen; omega) (by omega) (by simp; omega) ?_)
        intro v' w7 hown' hgrow _ hat
        have h7 := BR.app (r := ⟨qn, qt, qc, ql, qd⟩) HB6.out (by rw [← HM.out]; exact hown') (by rw [← HM.out]; exact hgrow) (by rw [← HM.out]; simpa using hat)
        have H7 := Lib.hid (HI.out.yes HQN.out HG.out h7)
        clear hown' hgrow hat h7
        go_wp2
        go_roundw
        case rel => exact ⟨k + 1, _, _, _, by omega, by omega, by go_num, H7.out⟩
        case measure => simp [intOf]; omega
      · obtain ⟨e1, e2⟩ := rp_no (B := B) (L := L) g
        rw [e1, e2] at HC
        have qg : (rck q == 0) = false := by simpa using g
        obtain ⟨qn, qt, qc, ql, qd⟩ := q
        generalize rck ⟨qn, qt, qc, ql, qd⟩ = ck at HC qg
        clear g e1 e2
        go_wp2_with fail
        refine HC.out.mono ?_
        rintro e w6 ⟨rfl, hl6⟩
        obtain ⟨h6, hsz6⟩ := HS5.out _ _ _ hl6
        have H6 := Lib.hid (HI.out.no h6.forget)
        clear hl6 h6 x0 x1 x2 x3 x4
        go_wp2
        go_roundw
        case rel => exact ⟨k + 1, _, _, _, by omega, by omega, by go_num, H6.out⟩
        case measure => simp [intOf]; omega
    · have qq : (decide ((k : Int) < (len : Int)) = false ∧ decide (k < len) = false) ∨ ((k : Int) < (len : Int) ∧ decide (k < len) = true ∧ decide ((k : Int) < 20) = false) := by
        by_cases h : k < len
        · exact .inr ⟨by omega, by simp; omega, by simp; omega⟩
        · exact .inl ⟨by simp; omega, by simp; omega⟩
      have HST := Lib.hid hsz3
      obtain ⟨S9, hq9, hs9⟩ := hI.br.step
      have CB := pbytes_any S9 _ B L wr hq9
      obtain ⟨K, hK⟩ : ∃ K : ByteArray, (⟨B.toArray⟩ : ByteArray) = K := ⟨_, rfl⟩
      have hKB : K.data.toList = B := by rw [← hK]
      have hKs : K.size = B.length := by rw [size_list, hKB]
      rw [show str B = .string K by rw [← hK]] at CB
      have hrow := hI.br.row
      obtain ⟨va, vc, rfl⟩ := row_slice hrow
      have hch := hI.ch
      have hlen := hI.len
      have hcnt := hI.cnt
      obtain ⟨m, hm⟩ : ∃ m, m = rs.length := ⟨_, rfl⟩
      rw [← hm] at hrow hcnt
      have HCB := Lib.hid CB
      have HM := Lib.hid hm
      have HKB := Lib.hid hKB
      have HKS := Lib.hid hKs
      have HROW := Lib.hid hrow
      have HCH := Lib.hid hch
      have HBW := Lib.hid (HB1.out.trans (hI.br.below.mono HB1.out.size))
      have hmi : (m : Int) ≤ 20 := by omega
      have hKz : K.size ≤ 1000000 := by omega
      have hKi : (K.size : Int) ≤ 1000000 := by omega
      obtain ⟨wo, hwo⟩ : ∃ wo, wo = wr := ⟨_, rfl⟩
      subst hwo
      rw [← HM.out]
      clear hs9 CB hrow hch hlen hI hq9 hK hKB hKs hm
      rcases qq with ⟨q1, q1n⟩ | ⟨q1, q1n, q2⟩
      all_goals
        go_wp2_with fail
        refine HCB.out.mono ?_
        rintro e w' ⟨rfl, rfl⟩
        go_wp2
        go_loopw [11, 12] (fun at_ i wr => ∃ (j : Nat) (p : Int), j ≤ m ∧ i = .int .i64 j ∧ at_ = .int .i64 p ∧ Ch B p (rs.drop j) (B.length : Int) ∧ Below wo.heap.size wo wr ∧ (-9223372036854775808 ≤ p ∧ p ≤ 9223372036854775807)) (fun _ i _ => m - (intOf i).toNat)
        case atStart => exact ⟨0, (t.size : Int), by omega, rfl, rfl, by rw [List.drop_zero]; exact HCH.out, Below.refl _ _, by omega⟩
        case round =>
          obtain ⟨j, p, hj, rfl, rfl, hc, hb, hpb⟩ := hrel
          by_cases hlt : j < m
          · have q3 : (j : Int) < (m : Int) := by omega
            obtain ⟨r, hr⟩ : ∃ r, rs[j]? = some r := ⟨_, List.getElem?_eq_getElem (by rw [← HM.out]; exact hlt)⟩
            have hdrop : rs.drop j = r :: rs.drop (j + 1) := by
              obtain ⟨hlk, e⟩ := List.getElem?_eq_some_iff.1 hr
              rw [List.drop_eq_getElem_cons hlk, e]
            rw [hdrop] at hc
            obtain ⟨p', hg, hc'⟩ := hc
            have G := get_any K hKz p hpb wr
            have hg0 := hg []
            rw [List.append_nil] at hg0
            rw [HKB.out, hg0] at G
            unfold GetPost at G
            obtain ⟨g, rfl, hgs, hcell⟩ := row_at HROW.out (by omega)
            obtain ⟨z0, z1, z2, z3, z4⟩ := rcc_get rs j r hr
            have c0 := hcell _ _ z0
            have c1 := hcell _ _ z1
            have c2 := hcell _ _ z2
            have c3 := hcell _ _ z3
            have c4 := hcell _ _ z4
            have hpb' : -9223372036854775808 ≤ p' ∧ p' ≤ 9223372036854775807 := by
              have h1 := (congrArg (fun x => x.2.1) hg0)
              have h2 := gt_place B p
              rw [h1] at h2
              have := HKS.out
              simp only at h2
              omega
            obtain ⟨n, ty, c, l, d⟩ := r
            simp only at c0 c1 c2 c3 c4
            have HG := Lib.hid G
            have HC := Lib.hid hc'
            have HBB := Lib.hid hb
            clear G hg hg0 hc' z0 z1 z2 z3 z4 hcell hdrop hr
            go_wp2_with fail
            refine HG.out.mono ?_
            rintro e w9 ⟨rfl, hb9⟩
            have hbo := HBB.out.trans (hb9.mono HBB.out.size)
            have hbx := hbo.alloc hbo.size (.cells #[.string n, .int .u16 (ty : Int), .int .u16 (c : Int), .int .u32 (l : Int), .string d] 25)
            have d0 := (hbx.cell (p := ⟨g, j * 5, none⟩) hgs).trans c0
            have d1 := (hbx.cell (p := ⟨g, j * 5 + 1, none⟩) hgs).trans c1
            have d2 := (hbx.cell (p := ⟨g, j * 5 + 2, none⟩) hgs).trans c2
            have d3 := (hbx.cell (p := ⟨g, j * 5 + 3, none⟩) hgs).trans c3
            have d4 := (hbx.cell (p := ⟨g, j * 5 + 4, none⟩) hgs).trans c4
            obtain ⟨y0, y1, y2, y3, y4⟩ := c5 (Ce.new w9 25 #[.string n, .int .u16 (ty : Int), .int .u16 (c : Int), .int .u32 (l : Int), .string d])
            have HBX := Lib.hid hbx
            clear hb9 hbo hbx c0 c1 c2 c3 c4 hb
            go_wp2
            generalize World.alloc w9 _ = w8 at d0 d1 d2 d3 d4 y0 y1 y2 y3 y4 HBX ⊢
            go_quiet (fail)
            go_wp2
            go_roundw
            case rel => exact ⟨j + 1, p', by omega, by go_num, rfl, HC.out, HBX.out.trans ((drewN_below w8 _).mono HBX.out.size), hpb'⟩
            case measure => simp [intOf]; omega
          · have q3 : decide ((j : Int) < (m : Int)) = false := by simp; omega
            rw [List.drop_eq_nil_of_le (by rw [← HM.out]; omega)] at hc
            have hpe : p = (K.size : Int) := by rw [HKS.out]; exact hc
            subst hpe
            have HBB := Lib.hid hb
            clear hc hb
            go_wp2
            go_ret
            exact ⟨rfl, HBW.out.trans (HBB.out.mono HBW.out.size)⟩
end Go.Proofs.Ytflpceaaelampaa
