/-
  Check: the program's and the document's.
-/
import Derived.Test.YtopnmiakljpgbaaLists
namespace Go.Proofs.Ytopnmiakljpgbaa
open Go.RowKit
def idx (n : Int) : Bool := decide (0 ≤ n ∧ n ≤ 1099511627776)
/-- May an entry stand in a log? -/
def enV (e : En) : Bool := idx e.term && decide (e.data.size ≤ 8000) && (if e.kind = 1 then lsk e.data.data.toList else decide (e.kind = 0 ∨ e.kind = 2))
def chkL : Int → List En → Bool
  | _, [] => true
  | least, e :: r => decide (least ≤ e.term) && enV e && chkL e.term r
def chk (base bt : Int) (L : List En) : Bool := idx base && idx bt && decide (L.length ≤ 100000) && chkL bt L
def chE (base bt : Int) (L : List En) : Int := if chk base bt L = true then 0 else 1
theorem idx_any (n : Int) (w : World) : Calls Try.prog 47 #[it n] w fun e w' => e = .returned (.bool (idx n)) ∧ w = w' := by
  unfold idx
  by_cases h1 : 0 ≤ n
  · by_cases h2 : n ≤ 1099511627776
    · go_enter Try.func47, Try.ntmps47
      go_wp2
      go_ret
      exact ⟨congrArg (fun b => Ending.returned (Value.bool b)) (by simp [h1, h2]), rfl⟩
    · have q : decide (n ≤ 1099511627776) = false := by simpa using h2
      go_enter Try.func47, Try.ntmps47
      go_wp2
      go_ret
      exact ⟨congrArg (fun b => Ending.returned (Value.bool b)) (by simp), rfl⟩
  · have q : decide (0 ≤ n) = false := by simpa using h1
    go_enter Try.func47, Try.ntmps47
    go_wp2
    go_ret
    exact ⟨congrArg (fun b => Ending.returned (Value.bool b)) (by simp), rfl⟩
set_option maxRecDepth 100000 in
set_option maxHeartbeats 3200000 in
theorem valid_any (e : En) (he : e.data.size ≤ 1000000) (w : World) : Calls Try.prog 48 #[e.v] w fun r w' => r = .returned (.bool (enV e)) ∧ Below w.heap.size w w' := by
  obtain ⟨t, k, d⟩ := e
  have HI := Lib.hid (fun w' => idx_any t w')
  have HL := Lib.hid (fun w' => list_any d he w')
  have hc := c3 (Ce.new w 31 #[it t, it k, .string d])
  have hb := one_new w (.cells #[it t, it k, .string d] 31)
  have HC := Lib.hid hc
  have HB := Lib.hid hb
  have HE : Hid (enV ⟨t, k, d⟩ = (idx t && decide (d.size ≤ 8000) && (if k = 1 then lsk d.data.toList else decide (k = 0 ∨ k = 2)))) := Lib.hid rfl
  rw [HE.out]
  obtain ⟨R, hR⟩ : ∃ R, R = (idx t && decide (d.size ≤ 8000) && (if k = 1 then lsk d.data.toList else decide (k = 0 ∨ k = 2))) := ⟨_, rfl⟩
  rw [← hR]
  obtain ⟨i, hi⟩ : ∃ i, i = idx t := ⟨_, rfl⟩
  obtain ⟨ok, hok⟩ : ∃ ok, ok = lsk d.data.toList := ⟨_, rfl⟩
  rw [← hi] at HI hR
  rw [← hok] at HL hR
  have HR := Lib.hid hR
  clear hc hb hR hi hok HE
  go_enter Try.func48, Try.ntmps48
  go_wp2_with fail
  refine (HI.out _).mono ?_
  rintro e w1 ⟨rfl, rfl⟩
  generalize w.alloc _ = wA at *
  obtain ⟨c0, c1, c2⟩ := HC.out
  cases i with
  | false =>
    have HF : Hid (R = false) := Lib.hid (by rw [HR.out]; rfl)
    go_wp2
    go_ret
    exact ⟨by rw [HF.out]; rfl, HB.out⟩
  | true =>
    by_cases hd : d.size ≤ 8000
    · have q1 : decide ((8000 : Int) < (d.size : Int)) = false := decide_eq_false (by omega)
      have q2 : decide (8000 < d.size) = false := decide_eq_false (by omega)
      by_cases hk : k = 1
      · subst hk
        have HF : Hid (R = ok) := Lib.hid (by rw [HR.out, decide_eq_true hd]; simp)
        go_wp2_with fail
        refine (HL.out _).mono ?_
        rintro e w2 ⟨v, rfl, _, hb2⟩
        have HB2 := Lib.hid (HB.out.trans (hb2.mono HB.out.size))
        clear hb2
        go_wp2
        go_ret
        exact ⟨by rw [HF.out]; rfl, HB2.out⟩
      · have q3 : (k == 1) = false := by simpa using hk
        have HF : Hid (R = decide (k = 0 ∨ k = 2)) := Lib.hid (by rw [HR.out, decide_eq_true hd, if_neg hk]; simp)
        by_cases h0 : k = 0
        · subst h0
          go_wp2
          go_ret
          exact ⟨by rw [HF.out]; rfl, HB.out⟩
        · have q4 : (k == 0) = false := by simpa using h0
          by_cases h2 : k = 2
          · subst h2
            go_wp2
            go_ret
            exact ⟨by rw [HF.out]; rfl, HB.out⟩
          · have q5 : (k == 2) = false := by simpa using h2
            have HF2 : Hid (R = false) := Lib.hid (by rw [HF.out]; exact decide_eq_false (fun h => h.elim h0 h2))
            go_wp2
            go_ret
            exact ⟨by rw [HF2.out]; rfl, HB.out⟩
    · have q1 : (8000 : Int) < (d.size : Int) := by omega
      have q2 : 8000 < d.size := by omega
      have HF : Hid (R = false) := Lib.hid (by rw [HR.out, decide_eq_false hd]; rfl)
      go_wp2
      go_ret
      exact ⟨by rw [HF.out]; rfl, HB.out⟩
theorem atT_succ {bt : Int} {L : List En} {k : Nat} {x : En} (h : L[k]? = some x) : atT bt L (k + 1) = x.term := by
  unfold atT
  rw [if_neg (by omega), Nat.add_sub_cancel, List.getD_eq_getElem?_getD, h]; rfl
theorem drop_cons_of {α : Type} {L : List α} {k : Nat} {x : α} (h : L[k]? = some x) : L.drop k = x :: L.drop (k + 1) := by
  obtain ⟨h1, h2⟩ := List.getElem?_eq_some_iff.1 h
  rw [← h2]; exact List.drop_eq_getElem_cons h1
theorem chkL_drop {L : List En} {k : Nat} {x : En} (h : L[k]? = some x) (l : Int) : chkL l (L.drop k) = (decide (l ≤ x.term) && enV x && chkL x.term (L.drop (k + 1))) := by
  rw [drop_cons_of h]; rfl
section
variable {w : World} {base bt : Int} {a : Option Addr} {n cap : Nat} {L : List En}
set_option maxRecDepth 100000 in
set_option maxHeartbeats 3200000 in
theorem check_any (h : RdE w (.slice a n cap) L) (hl : L.length ≤ 1000000) (hd : ∀ e ∈ L, e.data.size ≤ 1000000) :
    Calls Try.prog 20 #[lv base bt (.slice a n cap)] w fun e w' => e = .returned (it (chE base bt L)) ∧ Below w.heap.size w w' := by
  have hn := h.len
  subst hn
  have HR := Lib.hid h
  have HD := Lib.hid hd
  have HLB := Lib.hid (lb_new w base bt (.slice a L.length cap))
  have HB := Lib.hid (one_new w (.cells #[it base, it bt, .slice a L.length cap] 24))
  have HI1 := Lib.hid (fun w' => idx_any base w')
  have HI2 := Lib.hid (fun w' => idx_any bt w')
  obtain ⟨R, hR⟩ : ∃ R, R = chE base bt L := ⟨_, rfl⟩
  rw [← hR]
  unfold chE chk at hR
  obtain ⟨i1, hi1⟩ : ∃ i, i = idx base := ⟨_, rfl⟩
  obtain ⟨i2, hi2⟩ : ∃ i, i = idx bt := ⟨_, rfl⟩
  rw [← hi1] at HI1 hR
  rw [← hi2] at HI2 hR
  have HRR := Lib.hid hR
  obtain ⟨m, hm⟩ : ∃ m, m = L.length := ⟨_, rfl⟩
  have HM := Lib.hid hm
  rw [← hm] at HR HLB HB hl ⊢
  clear h hd hR hi1 hi2 hm
  go_enter Try.func20, Try.ntmps20
  go_wp2_with fail
  refine (HI1.out _).mono ?_
  rintro e w1 ⟨rfl, rfl⟩
  generalize w.alloc _ = wA at *
  obtain ⟨c0, c1, c2⟩ := HLB.out
  cases i1 with
  | false =>
    have HF : Hid (R = 1) := Lib.hid (by rw [HRR.out]; rfl)
    go_wp2
    go_ret
    exact ⟨by rw [HF.out]; rfl, HB.out⟩
  | true =>
    go_wp2_with fail
    refine (HI2.out _).mono ?_
    rintro e w1 ⟨rfl, rfl⟩
    cases i2 with
    | false =>
      have HF : Hid (R = 1) := Lib.hid (by rw [HRR.out]; rfl)
      go_wp2
      go_ret
      exact ⟨by rw [HF.out]; rfl, HB.out⟩
    | true =>
      by_cases hm1 : m ≤ 100000
      · have q1 : decide ((100000 : Int) < (m : Int)) = false := decide_eq_false (by omega)
        have q2 : decide (100000 < m) = false := decide_eq_false (by omega)
        have HF : Hid (R = if chkL bt L = true then 0 else 1) := Lib.hid (by rw [HRR.out, decide_eq_true (show L.length ≤ 100000 by have := HM.out; omega)]; simp)
        clear HRR
        go_wp2
        clear c0 c1 c2
        go_loopw [3, 5, 27] (fun le _ i wr => ∃ k : Nat, k ≤ m ∧ i = it (k : Int) ∧ le = it (atT bt L k) ∧ chkL bt L = chkL (atT bt L k) (L.drop k) ∧ Below wA.heap.size wA wr) (fun _ _ i _ => m - (intOf i).toNat)
        case atStart => exact ⟨0, Nat.zero_le _, rfl, rfl, rfl, Below.refl _ _⟩
        case round =>
          obtain ⟨k, hk, rfl, rfl, hE, hbr⟩ := hrel
          have HBR := Lib.hid hbr
          have HBW := Lib.hid (HB.out.trans (hbr.mono HB.out.size))
          obtain ⟨c0, c1, c2⟩ := HLB.out.below hbr
          obtain ⟨lk, hlk⟩ : ∃ lk, lk = atT bt L k := ⟨_, rfl⟩
          rw [← hlk] at hE ⊢
          by_cases hlt : k < m
          · have q3 : (k : Int) < (m : Int) := by omega
            obtain ⟨x, hx⟩ : ∃ x, L[k]? = some x := ⟨_, List.getElem?_eq_getElem (by have := HM.out; omega)⟩
            obtain ⟨e1, g, o, rfl, hg, d0, d1, d2⟩ := HR.out.at hx
            have d0 := (HBW.out.cell (p := ⟨g, o + k * 3, none⟩) hg).trans d0
            have d1 := (HBW.out.cell (p := ⟨g, o + k * 3 + 1, none⟩) hg).trans d1
            have d2 := (HBW.out.cell (p := ⟨g, o + k * 3 + 2, none⟩) hg).trans d2
            have HN := Lib.hid (atT_succ (bt := bt) hx)
            have HE := Lib.hid (hE.trans (chkL_drop hx lk))
            have HV := Lib.hid (fun w' => valid_any x (HD.out x (List.mem_of_getElem? hx)) w')
            have HBX := Lib.hid (HBR.out.trans ((one_new wr (.cells #[it x.term, it x.kind, .string x.data] 31)).mono HBR.out.size))
            have HCX := Lib.hid (Ce.new wr 31 #[it x.term, it x.kind, .string x.data])
            obtain ⟨ok, hok⟩ : ∃ ok, ok = enV x := ⟨_, rfl⟩
            rw [← hok] at HV HE
            clear hbr hx e1 hE hlk hok
            by_cases hle : lk ≤ x.term
            · have r1 : decide (x.term < lk) = false := decide_eq_false (by omega)
              rw [decide_eq_true hle, Bool.true_and] at HE
              go_wp2_with fail
              refine (HV.out _).mono ?_
              rintro e w2 ⟨rfl, hb2⟩
              have HBY := Lib.hid (HBX.out.trans (hb2.mono HBX.out.size))
              obtain ⟨k0, k1, k2⟩ := c3 (HCX.out.below hb2)
              clear hb2
              cases ok with
              | true =>
                rw [Bool.true_and] at HE
                go_wp2
                go_roundw
                case rel => exact ⟨k + 1, by omega, by go_num, by rw [HN.out], by rw [HN.out]; exact HE.out, HBY.out⟩
                case measure => simp [intOf]; omega
              | false =>
                rw [Bool.false_and] at HE
                have HF2 : Hid (R = 1) := Lib.hid (by rw [HF.out, HE.out]; rfl)
                go_wp2
                go_ret
                exact ⟨by rw [HF2.out]; rfl, HB.out.trans (HBY.out.mono HB.out.size)⟩
            · have r1 : x.term < lk := by omega
              rw [decide_eq_false hle, Bool.false_and, Bool.false_and] at HE
              have HF2 : Hid (R = 1) := Lib.hid (by rw [HF.out, HE.out]; rfl)
              go_wp2
              go_ret
              exact ⟨by rw [HF2.out]; rfl, HB.out.trans (HBX.out.mono HB.out.size)⟩
          · have q3 : decide ((k : Int) < (m : Int)) = false := decide_eq_false (by omega)
            have q4 : decide (k < m) = false := decide_eq_false (by omega)
            have HF2 : Hid (R = 0) := Lib.hid (by
              rw [HF.out, hE, List.drop_eq_nil_of_le (by have := HM.out; omega)]; rfl)
            clear hE hlk hbr
            go_wp2
            go_ret
            exact ⟨by rw [HF2.out]; rfl, HBW.out⟩
      · have q1 : (100000 : Int) < (m : Int) := by omega
        have q2 : 100000 < m := by omega
        have HF : Hid (R = 1) := Lib.hid (by rw [HRR.out, decide_eq_false (show ¬ L.length ≤ 100000 by have := HM.out; omega)]; rfl)
        go_wp2
        go_ret
        exact ⟨by rw [HF.out]; rfl, HB.out⟩
set_option maxRecDepth 100000 in
set_option maxHeartbeats 6400000 in
theorem rcheck_any (h : RdE w (.slice a n cap) L) (hl : L.length ≤ 1000000) (hd : ∀ e ∈ L, e.data.size ≤ 1000000) :
    Calls Try.prog 21 #[lv base bt (.slice a n cap)] w fun e w' => e = .returned (it (chE base bt L)) ∧ Below w.heap.size w w' := by
  have hn := h.len
  subst hn
  have HR := Lib.hid h
  have HD := Lib.hid hd
  have HLB := Lib.hid (lb_new w base bt (.slice a L.length cap))
  have HB := Lib.hid (one_new w (.cells #[it base, it bt, .slice a L.length cap] 24))
  obtain ⟨R, hR⟩ : ∃ R, R = chE base bt L := ⟨_, rfl⟩
  rw [← hR]
  unfold chE chk at hR
  obtain ⟨m, hm⟩ : ∃ m, m = L.length := ⟨_, rfl⟩
  rw [← hm] at hR
  have HRR := Lib.hid hR
  have HM := Lib.hid hm
  rw [← hm] at HR HLB HB hl ⊢
  clear h hd hR hm
  by_cases b1 : base < 0
  · go_enter Try.func21, Try.ntmps21
    go_wp2_with fail
    generalize w.alloc _ = wA at *
    have HF : Hid (R = 1) := Lib.hid (by rw [HRR.out]; exact if_neg (by simp [idx]; omega))
    go_wp2
    go_ret
    exact ⟨by rw [HF.out]; rfl, HB.out⟩
  · have b1' : decide (base < 0) = false := by simpa using b1
    by_cases b2 : 1099511627776 < base
    · go_enter Try.func21, Try.ntmps21
      go_wp2_with fail
      generalize w.alloc _ = wA at *
      have HF : Hid (R = 1) := Lib.hid (by rw [HRR.out]; exact if_neg (by simp [idx]; omega))
      go_wp2
      go_ret
      exact ⟨by rw [HF.out]; rfl, HB.out⟩
    · have b2' : decide (1099511627776 < base) = false := by simpa using b2
      by_cases b3 : bt < 0
      · go_enter Try.func21, Try.ntmps21
        go_wp2_with fail
        generalize w.alloc _ = wA at *
        have HF : Hid (R = 1) := Lib.hid (by rw [HRR.out]; exact if_neg (by simp [idx]; omega))
        go_wp2
        go_ret
        exact ⟨by rw [HF.out]; rfl, HB.out⟩
      · have b3' : decide (bt < 0) = false := by simpa using b3
        by_cases b4 : 1099511627776 < bt
        · go_enter Try.func21, Try.ntmps21
          go_wp2_with fail
          generalize w.alloc _ = wA at *
          have HF : Hid (R = 1) := Lib.hid (by rw [HRR.out]; exact if_neg (by simp [idx]; omega))
          go_wp2
          go_ret
          exact ⟨by rw [HF.out]; rfl, HB.out⟩
        · have b4' : decide (1099511627776 < bt) = false := by simpa using b4
          by_cases b5 : 100000 < m
          · have b5' : (100000 : Int) < (m : Int) := by omega
            go_enter Try.func21, Try.ntmps21
            go_wp2_with fail
            generalize w.alloc _ = wA at *
            have HF : Hid (R = 1) := Lib.hid (by rw [HRR.out]; exact if_neg (by simp [idx]; omega))
            go_wp2
            go_ret
            exact ⟨by rw [HF.out]; rfl, HB.out⟩
          · have b5' : decide ((100000 : Int) < (m : Int)) = false := decide_eq_false (by omega)
            have b5'' : decide (100000 < m) = false := decide_eq_false (by omega)
            have HF : Hid (R = if chkL bt L = true then 0 else 1) := Lib.hid (by
              rw [HRR.out]
              have h1 : idx base = true := decide_eq_true (by omega)
              have h2 : idx bt = true := decide_eq_true (by omega)
              have h3 : decide (m ≤ 100000) = true := decide_eq_true (by omega)
              rw [h1, h2, h3]; rfl)
            go_enter Try.func21, Try.ntmps21
            go_upto_region 3 with fail
            generalize w.alloc _ = wA at *
            obtain ⟨c0, c1, c2⟩ := HLB.out
            clear HRR b1' b2 b2' b3' b4 b4' b5 b5' b5'' b1
            go_wp2
            clear c0 c1 c2
            go_loopw [3, 4, 5, 6, 7] (fun le i _ _ _ wr => ∃ k : Nat, k ≤ m ∧ i = it (k : Int) ∧ le = it (atT bt L k) ∧ 0 ≤ atT bt L k ∧ chkL bt L = chkL (atT bt L k) (L.drop k) ∧ Below wA.heap.size wA wr) (fun _ i _ _ _ _ => m - (intOf i).toNat)
            case atStart => exact ⟨0, Nat.zero_le _, rfl, rfl, by show 0 ≤ bt; omega, rfl, Below.refl _ _⟩
            case round =>
              obtain ⟨k, hk, rfl, rfl, h0, hE, hbr⟩ := hrel
              have HBR := Lib.hid hbr
              have HBW := Lib.hid (HB.out.trans (hbr.mono HB.out.size))
              obtain ⟨c0, c1, c2⟩ := HLB.out.below hbr
              obtain ⟨lk, hlk⟩ : ∃ lk, lk = atT bt L k := ⟨_, rfl⟩
              rw [← hlk] at hE h0 ⊢
              by_cases hlt : k < m
              · have q3 : (k : Int) < (m : Int) := by omega
                obtain ⟨x, hx⟩ : ∃ x, L[k]? = some x := ⟨_, List.getElem?_eq_getElem (by have := HM.out; omega)⟩
                obtain ⟨e1, g, o, rfl, hg, d0, d1, d2⟩ := HR.out.at hx
                have d0 := (HBW.out.cell (p := ⟨g, o + k * 3, none⟩) hg).trans d0
                have d1 := (HBW.out.cell (p := ⟨g, o + k * 3 + 1, none⟩) hg).trans d1
                have d2 := (HBW.out.cell (p := ⟨g, o + k * 3 + 2, none⟩) hg).trans d2
                have HN := Lib.hid (atT_succ (bt := bt) hx)
                have HE := Lib.hid (hE.trans (chkL_drop hx lk))
                have HV := Lib.hid (fun w' => rlist_any x.data (HD.out x (List.mem_of_getElem? hx)) w')
                have HBX := Lib.hid (HBR.out.trans ((one_new wr (.cells #[it x.term, it x.kind, .string x.data] 31)).mono HBR.out.size))
                have HCX := Lib.hid (Ce.new wr 31 #[it x.term, it x.kind, .string x.data])
                have HBZ := Lib.hid (HB.out.trans (HBX.out.mono HB.out.size))
                have HH0 := Lib.hid h0
                obtain ⟨ok, hok⟩ : ∃ ok, ok = lsk x.data.data.toList := ⟨_, rfl⟩
                have hbad : (decide (lk ≤ x.term) && enV x) = false → R = 1 := by
                  intro hh
                  rw [HF.out, HE.out, hh]; rfl
                have HBAD := Lib.hid hbad
                have HEN : Hid (enV x = (idx x.term && decide (x.data.size ≤ 8000) && (if x.kind = 1 then ok else decide (x.kind = 0 ∨ x.kind = 2)))) := Lib.hid (by rw [hok]; rfl)
                rw [← hok] at HV
                clear hbr hx e1 hE hlk hok hbad h0
                by_cases t1 : x.term < lk
                · have HF2 : Hid (R = 1) := Lib.hid (HBAD.out (by rw [HEN.out]; rw [decide_eq_false (show ¬ lk ≤ x.term by omega)]; rfl))
                  go_wp2
                  go_ret
                  exact ⟨by rw [HF2.out]; rfl, HBZ.out⟩
                · have t1' : decide (x.term < lk) = false := by simpa using t1
                  by_cases t2 : 1099511627776 < x.term
                  · have HF2 : Hid (R = 1) := Lib.hid (HBAD.out (by rw [HEN.out]; rw [show idx x.term = false from decide_eq_false (by omega)]; simp))
                    go_wp2
                    go_ret
                    exact ⟨by rw [HF2.out]; rfl, HBZ.out⟩
                  · have t2' : decide (1099511627776 < x.term) = false := by simpa using t2
                    by_cases t3 : x.kind < 0
                    · have HF2 : Hid (R = 1) := Lib.hid (HBAD.out (by rw [HEN.out]; rw [if_neg (by omega), decide_eq_false (show ¬ (x.kind = 0 ∨ x.kind = 2) by omega)]; simp))
                      go_wp2
                      go_ret
                      exact ⟨by rw [HF2.out]; rfl, HBZ.out⟩
                    · have t3' : decide (x.kind < 0) = false := by simpa using t3
                      by_cases t4 : 2 < x.kind
                      · have HF2 : Hid (R = 1) := Lib.hid (HBAD.out (by rw [HEN.out]; rw [if_neg (by omega), decide_eq_false (show ¬ (x.kind = 0 ∨ x.kind = 2) by omega)]; simp))
                        go_wp2
                        go_ret
                        exact ⟨by rw [HF2.out]; rfl, HBZ.out⟩
                      · have t4' : decide (2 < x.kind) = false := by simpa using t4
                        by_cases t5 : 8000 < x.data.size
                        · have t5' : (8000 : Int) < (x.data.size : Int) := by omega
                          have HF2 : Hid (R = 1) := Lib.hid (HBAD.out (by rw [HEN.out]; rw [decide_eq_false (show ¬ x.data.size ≤ 8000 by omega)]; simp))
                          go_wp2
                          go_ret
                          exact ⟨by rw [HF2.out]; rfl, HBZ.out⟩
                        · have t5' : decide ((8000 : Int) < (x.data.size : Int)) = false := decide_eq_false (by omega)
                          have t5'' : decide (8000 < x.data.size) = false := decide_eq_false (by omega)
                          have hi : idx x.term = true := decide_eq_true (by have := HH0.out; omega)
                          rw [hi, decide_eq_true (show x.data.size ≤ 8000 by omega), Bool.true_and, Bool.true_and] at HEN
                          rw [decide_eq_true (show lk ≤ x.term by omega), Bool.true_and] at HE HBAD
                          have HT0 : Hid (0 ≤ x.term) := Lib.hid (by have := HH0.out; omega)
                          have HK : Hid (x.kind ≠ 1 → enV x = true) := Lib.hid (fun h => by rw [HEN.out, if_neg h]; exact decide_eq_true (by omega))
                          clear hi t1 t2 t3 t4 t5
                          go_wp2_with fail
                          refine (HV.out _).mono ?_
                          rintro e w2 ⟨v, rfl, _, hb2⟩
                          have HBY := Lib.hid (HBX.out.trans (hb2.mono HBX.out.size))
                          obtain ⟨k0, k1, k2⟩ := c3 (HCX.out.below hb2)
                          clear hb2
                          by_cases hk1 : x.kind = 1
                          · have r1 : (x.kind == 1) = true := by simpa using hk1
                            rw [if_pos hk1] at HEN
                            cases ok with
                            | true =>
                              rw [HEN.out, Bool.true_and] at HE
                              clear hk1
                              go_wp2
                              go_roundw
                              case rel => exact ⟨k + 1, by omega, by go_num, by rw [HN.out], by rw [HN.out]; exact HT0.out, by rw [HN.out]; exact HE.out, HBY.out⟩
                              case measure => simp [intOf]; omega
                            | false =>
                              have HF2 : Hid (R = 1) := Lib.hid (HBAD.out HEN.out)
                              clear hk1
                              go_wp2
                              go_ret
                              exact ⟨by rw [HF2.out]; rfl, HB.out.trans (HBY.out.mono HB.out.size)⟩
                          · have r1 : (x.kind == 1) = false := by simpa using hk1
                            rw [HK.out hk1, Bool.true_and] at HE
                            clear hk1
                            go_wp2
                            go_roundw
                            case rel => exact ⟨k + 1, by omega, by go_num, by rw [HN.out], by rw [HN.out]; exact HT0.out, by rw [HN.out]; exact HE.out, HBY.out⟩
                            case measure => simp [intOf]; omega
              · have q3 : decide ((k : Int) < (m : Int)) = false := decide_eq_false (by omega)
                have q4 : decide (k < m) = false := decide_eq_false (by omega)
                have HF2 : Hid (R = 0) := Lib.hid (by
                  rw [HF.out, hE, List.drop_eq_nil_of_le (by have := HM.out; omega)]; rfl)
                clear hE hlk hbr
                go_wp2
                go_ret
                exact ⟨by rw [HF2.out]; rfl, HBW.out⟩
end
end Go.Proofs.Ytopnmiakljpgbaa
