/-
  What the document's Lose leaves and answers.
-/
import Derived.Test.YtocmgdhhlofajaaRClose
import Derived.Test.YtocmgdhhlofajaaLose
namespace Go.Proofs.Ytocmgdhhlofajaa
open Go.RowKit
/-- A network whose connections are being gone through. -/
def midS (n : Int) (s : St) (j : Nat) : St := ⟨(clo n s (s.lks.take j)).its, (s.lks.take j).filter (fun l => (otherL l n).isNone) ++ s.lks.drop j, (clo n s (s.lks.take j)).puts, s.opens⟩
theorem mid_zero (n : Int) (s : St) : midS n s 0 = s := rfl
theorem mid_end (n : Int) (s : St) {j : Nat} (h : s.lks.length ≤ j) : midS n s j = cutS n s := by
  unfold midS cutS
  rw [List.take_of_length_le h, List.drop_of_length_le h, List.append_nil]
theorem mid_at (n : Int) (s : St) {j : Nat} {l : Lk} (h : s.lks[j]? = some l) : (midS n s j).lks[((s.lks.take j).filter (fun l => (otherL l n).isNone)).length]? = some l := by
  show (_ ++ s.lks.drop j)[_]? = _
  rw [List.getElem?_append_right (Nat.le_refl _), Nat.sub_self, List.getElem?_drop]
  exact h
theorem mid_len (n : Int) (s : St) (j : Nat) : (midS n s j).lks.length = ((s.lks.take j).filter (fun l => (otherL l n).isNone)).length + (s.lks.length - j) := by
  show (_ ++ s.lks.drop j).length = _
  rw [List.length_append, List.length_drop]
theorem drop_cons {s : St} {j : Nat} {l : Lk} (h : s.lks[j]? = some l) : s.lks.drop j = l :: s.lks.drop (j + 1) := by
  obtain ⟨h1, h2⟩ := List.getElem?_eq_some_iff.1 h
  rw [← h2, ← List.drop_eq_getElem_cons h1]
theorem keep_next (n : Int) {s : St} {j : Nat} {l : Lk} (h : s.lks[j]? = some l) : (s.lks.take (j + 1)).filter (fun l => (otherL l n).isNone) = (s.lks.take j).filter (fun l => (otherL l n).isNone) ++ if (otherL l n).isNone then [l] else [] := by
  rw [List.take_add_one, h, List.filter_append]
  cases hf : (otherL l n).isNone <;> simp [hf]
theorem mid_keep (n : Int) {s : St} {j : Nat} {l : Lk} (h : s.lks[j]? = some l) (ho : otherL l n = none) : midS n s (j + 1) = midS n s j ∧ ((s.lks.take (j + 1)).filter (fun l => (otherL l n).isNone)).length = ((s.lks.take j).filter (fun l => (otherL l n).isNone)).length + 1 := by
  have hk := keep_next n h
  rw [ho] at hk
  refine ⟨?_, by rw [hk]; simp⟩
  unfold midS
  rw [clo_next n s h, hk, drop_cons h]
  simp [tellS, ho]
theorem mid_cut (n : Int) {s : St} {j : Nat} {l : Lk} {t : Int} (h : s.lks[j]? = some l) (ho : otherL l n = some t) :
    midS n s (j + 1) = add ⟨(midS n s j).its, (midS n s j).lks.take ((s.lks.take j).filter (fun l => (otherL l n).isNone)).length ++ (midS n s j).lks.drop (((s.lks.take j).filter (fun l => (otherL l n).isNone)).length + 1), (midS n s j).puts, (midS n s j).opens⟩ (closedI n t l.num) ∧
    ((s.lks.take (j + 1)).filter (fun l => (otherL l n).isNone)).length = ((s.lks.take j).filter (fun l => (otherL l n).isNone)).length := by
  have hk := keep_next n h
  rw [ho] at hk
  refine ⟨?_, by rw [hk]; simp⟩
  have e : (midS n s j).lks = (s.lks.take j).filter (fun l => (otherL l n).isNone) ++ l :: s.lks.drop (j + 1) := by
    show _ ++ s.lks.drop j = _
    rw [drop_cons h]
  rw [e, List.take_left, ← List.drop_drop, List.drop_left]
  have hcl := clo_its n (s.lks.take j) s
  unfold midS
  rw [clo_next n s h, hk]
  unfold tellS
  rw [ho]
  simp [add, hcl.1, hcl.2.1]
theorem lose_is' {s : St} {c : Int} {X : List It} (h : X = s.its) : cutS c ⟨X.filter fun z => !touch c z, s.lks, s.puts, s.opens⟩ = loseS s c := by rw [h]; rfl
set_option maxRecDepth 100000 in
set_option maxHeartbeats 32000000 in
theorem rlose_any (c : Int) (S : Nat → Prop) (b : Nat) (s : St) (w : World) (h : Rn S b s w) (hB : s.its.length ≤ 400000) (hP : s.puts ≤ 400000) (hL : s.lks.length ≤ 400000) :
    Calls Try.prog 30 #[ptr b, .int .i64 c] w fun e w' => e = .returned (.int .i64 (loseN s c : Int)) ∧ Rl S b (loseS s c) w w' := by
  have H0 := Lib.hid h
  have HBI := Lib.hid hB
  have HPI := Lib.hid hP
  have HLI := Lib.hid hL
  have hIL := items_law h
  obtain ⟨a, cap, c0, f0, hcells⟩ := items_at h
  have hbl := h.lt
  have hlN : (loseN s c : Int) = ((s.its.length - (s.its.filter (fun z => !touch c z)).length : Nat) : Int) := rfl
  rw [hlN]
  have hmle := List.length_filter_le (fun z => !touch c z) s.its
  obtain ⟨X, hX⟩ : ∃ X, X = s.its := ⟨_, rfl⟩
  rw [← hX] at c0 hcells HBI hmle ⊢
  have HXX := Lib.hid hX
  obtain ⟨n, hn⟩ : ∃ n, n = X.length := ⟨_, rfl⟩
  rw [← hn] at c0 hcells hmle ⊢
  have HN := Lib.hid hn
  have hnb : n ≤ 400000 := by rw [hn]; exact HBI.out
  have HCE := Lib.hid hcells
  have HIL := Lib.hid hIL
  have HC0 := Lib.hid c0
  have HF0 := Lib.hid f0
  obtain ⟨M, hM⟩ : ∃ M, M = (X.filter (fun z => !touch c z)).length := ⟨_, rfl⟩
  rw [← hM] at hmle ⊢
  have HMM := Lib.hid hM
  have hcast : ((n - M : Nat) : Int) = (n : Int) - (M : Int) := by omega
  rw [hcast]
  obtain ⟨i0, hi, hz0, hz1, hz2⟩ := info_parts info52
  clear h hB hP hL hX hn c0 f0 hcells hIL hlN hM hcast
  go_enter Try.func30, Try.ntmps30
  go_wp2
  go_loopw [5, 6] (fun v i wr => ∃ k : Nat, k ≤ n ∧ i = .int .i64 (k : Int) ∧ wr.ownsRow w.heap.size 52 6 v ((X.take k).filter (fun z => !touch c z)).length (cs ic ((X.take k).filter (fun z => !touch c z))) ∧ Below w.heap.size w wr) (fun _ i _ => n - (intOf i).toNat)
  case atStart => exact ⟨0, by omega, rfl, World.ownsRow_nil _ _ _ _, Below.refl _ _⟩
  case round =>
    obtain ⟨k, hk, rfl, hown, hbw⟩ := hrel
    have HOW := Lib.hid hown
    have HBW := Lib.hid hbw
    have hsz := hbw.size
    have c0 := (hbw.cell (p := ⟨b, 0, none⟩) hbl).trans HC0.out
    have f0 : wr.frozen? ⟨b, 0, none⟩ = false := (World.frozen?_of_block (hbw.block b hbl)).trans HF0.out
    have hcl := List.length_filter_le (fun z : It => !touch c z) (X.take k)
    rw [List.length_take] at hcl
    obtain ⟨m, hm⟩ : ∃ m, m = ((X.take k).filter (fun z : It => !touch c z)).length := ⟨_, rfl⟩
    rw [← hm] at HOW hcl
    have HM := Lib.hid hm
    have hmb : m ≤ 900000 := by omega
    clear hown hbw hm hcl
    by_cases hlt : k < n
    · have q1 : (k : Int) < (n : Int) := by omega
      obtain ⟨g, e, hg, hcell⟩ := HCE.out (by omega)
      subst e
      obtain ⟨x, hx⟩ : ∃ x, X[k]? = some x := ⟨_, List.getElem?_eq_getElem (by rw [← HN.out]; exact hlt)⟩
      have hcr : ∀ j u, (ic x)[j]? = some u → wr.cell? ⟨g, k * 6 + j, none⟩ = some u := fun j u hu => (HBW.out.cell (p := ⟨g, k * 6 + j, none⟩) hg).trans (hcell k x hx j u hu)
      have d0 : wr.cell? ⟨g, k * 6, none⟩ = some (.int .i64 x.num) := hcr 0 _ rfl
      have d1 : wr.cell? ⟨g, k * 6 + 1, none⟩ = some (.int .i64 x.kind) := hcr 1 _ rfl
      have d2 : wr.cell? ⟨g, k * 6 + 2, none⟩ = some (.int .i64 x.frm) := hcr 2 _ rfl
      have d3 : wr.cell? ⟨g, k * 6 + 3, none⟩ = some (.int .i64 x.dst) := hcr 3 _ rfl
      have d4 : wr.cell? ⟨g, k * 6 + 4, none⟩ = some (.int .i64 x.conn) := hcr 4 _ rfl
      have d5 : wr.cell? ⟨g, k * 6 + 5, none⟩ = some (.string x.body) := hcr 5 _ rfl
      have CT := Lib.hid (filter_take (f := fun z : It => !touch c z) hx)
      clear hcell hcr hx f0
      by_cases h1 : x.frm = c
      · have hq0 : (X.take (k + 1)).filter (fun z : It => !touch c z) = (X.take k).filter (fun z : It => !touch c z) := by rw [CT.out]; simp [touch, h1]
        have HQ0 := Lib.hid hq0
        have qx : (x.frm != c) = false := by simpa using h1
        clear hq0 h1
        go_wp2
        go_roundw
        case rel => exact ⟨k + 1, by omega, by go_num, by rw [HQ0.out, ← HM.out]; exact HOW.out, HBW.out⟩
        case measure => simp [intOf]; omega
      · have qx : (x.frm != c) = true := by simpa using h1
        by_cases h2 : x.dst = c
        · have hq0 : (X.take (k + 1)).filter (fun z : It => !touch c z) = (X.take k).filter (fun z : It => !touch c z) := by rw [CT.out]; simp [touch, h2]
          have HQ0 := Lib.hid hq0
          have qy : (x.dst != c) = false := by simpa using h2
          clear hq0 h2
          go_wp2
          go_roundw
          case rel => exact ⟨k + 1, by omega, by go_num, by rw [HQ0.out, ← HM.out]; exact HOW.out, HBW.out⟩
          case measure => simp [intOf]; omega
        · have hq0 : (X.take (k + 1)).filter (fun z : It => !touch c z) = (X.take k).filter (fun z : It => !touch c z) ++ [x] := by rw [CT.out]; simp [touch, h1, h2]
          have HQ0 := Lib.hid hq0
          have qy : (x.dst != c) = true := by simpa using h2
          clear hq0
          go_wp2_with (at_builtin; refine wpList_append_own _ rfl (.tmp 42) (.tmp 50) 27 rfl w.heap.size 52 i0 _ 6 56 Try.underlying27 hi hz0 hz1 hz2 rfl (by decide) _ m _ rfl (HOW.out.alloc _) ⟨wr.heap.size, 0, none⟩ 1 1 (ic x) rfl rfl (fun j u hj => World.news_of_block (cs := (ic x).toArray) (t := 52) (fr := (0, 0)) (heap_alloc_new wr _) j u (by simpa using hj)) (by simp [Value.oneCell']) (by unfold maxLen; omega) (by omega) (by simp; omega) ?_)
          intro v4 w4 hown4 hg4 _
          have HB4 := Lib.hid (app_below HBW.out hg4 HOW.out)
          have HO4 := Lib.hid (one_more HM.out hown4)
          clear hown4 hg4 d0 d1 d2 d3 d4 d5 c0
          go_wp2
          go_roundw
          case rel => exact ⟨k + 1, by omega, by go_num, by rw [HQ0.out]; exact HO4.out, HB4.out⟩
          case measure => simp [intOf]; omega
    · have q1 : decide ((k : Int) < (n : Int)) = false := by simp; omega
      obtain rfl : k = n := by omega
      have e1 : X.take k = X := by rw [HN.out, List.take_length]
      rw [e1] at HOW HM
      obtain rfl : m = M := by rw [HM.out, HMM.out]
      obtain ⟨av, cv, rfl⟩ := row_slice HOW.out
      have hz := HIL.out _ _ _ HBW.out (by rw [← HM.out]; exact HOW.out)
      have HZ := Lib.hid hz
      go_upto_region 9 with fail
      obtain ⟨w6, hw6⟩ : ∃ w6, w6 = wr.setCell ⟨b, 0, none⟩ (.slice av m cv) := ⟨_, rfl⟩
      rw [← hw6] at HZ ⊢
      obtain ⟨s1, hs1⟩ : ∃ s1 : St, s1 = ⟨X.filter fun z => !touch c z, s.lks, s.puts, s.opens⟩ := ⟨_, rfl⟩
      rw [← hs1] at HZ
      have hl1 : s1.lks = s.lks := by rw [hs1]
      have HS1 := Lib.hid hs1
      obtain ⟨N, hNN⟩ : ∃ N, N = s1.lks.length := ⟨_, rfl⟩
      have hNb : N ≤ 400000 := by rw [hNN, hl1]; exact HLI.out
      have hi1 : s1.its.length ≤ 400000 := by rw [hs1]; show (X.filter fun z => !touch c z).length ≤ _; rw [← HM.out]; omega
      have hp1 : s1.puts ≤ 400000 := by rw [hs1]; exact HPI.out
      have HN1 := Lib.hid hNN
      clear hw6 c0 f0 hz hs1 hl1 hNN HOW HBW
      go_wp2
      go_loopg [8] N (fun gk i wr => ∃ j : Nat, gk = N - j ∧ j ≤ N ∧ i = .int .i64 (((s1.lks.take j).filter (fun l => (otherL l c).isNone)).length : Int) ∧ Rl S b (midS c s1 j) w wr)
      case atStart => exact ⟨0, rfl, by omega, rfl, by rw [mid_zero]; exact HZ.out⟩
      case round =>
        obtain ⟨j, hgk, hj, rfl, hl⟩ := hrel
        obtain ⟨wo, hwo⟩ : ∃ wo, wo = wr := ⟨_, rfl⟩
        rw [← hwo] at hl ⊢
        have HGK := Lib.hid hgk
        have HL := Lib.hid hl
        have HNW := Lib.hid hl.1.now
        obtain ⟨al, capl, c1, hcl⟩ := links_at hl.1
        rw [mid_len, ← HN1.out] at c1 hcl
        obtain ⟨q, hq⟩ : ∃ q, q = ((s1.lks.take j).filter (fun l => (otherL l c).isNone)).length := ⟨_, rfl⟩
        rw [← hq] at c1 hcl ⊢
        have HQ := Lib.hid hq
        have hqj : q ≤ j := by rw [hq]; exact Nat.le_trans (List.length_filter_le _ _) (by rw [List.length_take]; omega)
        have hbl2 := hl.1.lt
        have hclo := clo_its c (s1.lks.take j) s1
        have htl : (s1.lks.take j).length ≤ 400000 := by rw [List.length_take]; omega
        have HI := Lib.hid (show (midS c s1 j).its.length ≤ 900000 ∧ (midS c s1 j).puts ≤ 900000 ∧ (midS c s1 j).lks.length ≤ 900000 from ⟨by show (clo c s1 (s1.lks.take j)).its.length ≤ _; omega, by show (clo c s1 (s1.lks.take j)).puts ≤ _; omega, by rw [mid_len, ← HN1.out, ← hq]; omega⟩)
        clear hgk hl hwo hq hclo htl HZ
        by_cases hlt : j < N
        · have q1 : (q : Int) < ((q + (N - j) : Nat) : Int) := by omega
          obtain ⟨gl, e, hgl, hcell⟩ := hcl (by omega)
          subst e
          obtain ⟨l, hlj⟩ : ∃ l, s1.lks[j]? = some l := ⟨_, List.getElem?_eq_getElem (by rw [← HN1.out]; exact hlt)⟩
          have hat := mid_at c s1 hlj
          rw [← HQ.out] at hat
          have d0 : wo.cell? ⟨gl, q * 3, none⟩ = some (.int .i64 l.num) := hcell q l hat 0 _ rfl
          have d1 : wo.cell? ⟨gl, q * 3 + 1, none⟩ = some (.int .i64 l.a) := hcell q l hat 1 _ rfl
          have d2 : wo.cell? ⟨gl, q * 3 + 2, none⟩ = some (.int .i64 l.b) := hcell q l hat 2 _ rfl
          have HLJ := Lib.hid hlj
          have HAT := Lib.hid hat
          have hqN : q < q + (N - j) := by omega
          obtain ⟨NN, hNN⟩ : ∃ NN, NN = q + (N - j) := ⟨_, rfl⟩
          rw [← hNN] at c1 q1 hqN
          clear hcell hcl hlj hat hNN
          go_upto_region 12 with fail
          obtain ⟨w1, hw1⟩ : ∃ w1, w1 = wo.alloc (.cells (lc l).toArray 69) := ⟨_, rfl⟩
          have hce := ce_new wo (lc l).toArray 69
          have hal : Below wo.heap.size wo (wo.alloc (.cells (lc l).toArray 69)) := (Below.refl _ wo).alloc (Nat.le_refl _) _
          rw [← hw1] at hce hal
          rw [show wo.alloc (.cells #[.int .i64 l.num, .int .i64 l.a, .int .i64 l.b] 69) = w1 from hw1.symm]
          obtain ⟨E, hE⟩ : ∃ E, E = wo.heap.size := ⟨_, rfl⟩
          have HNW1 := Lib.hid (HNW.out.below hal)
          have HAL := Lib.hid hal
          rw [← hE] at hce ⊢
          have HE1 := Lib.hid hce
          have HEE := Lib.hid hE
          obtain ⟨d0, d1, d2⟩ := c3 hce
          have HW1 := Lib.hid hw1
          clear hce hal hE hw1
          by_cases h1 : l.a = c
          · have ho : otherL l c = some l.b := by simp [otherL, h1]
            have HO := Lib.hid ho
            have r1 : (l.a != c) = false := by simpa using h1
            have r2 : (l.a == c) = true := by simpa using h1
            clear ho h1
            have hmc := mid_cut c HLJ.out HO.out
            rw [← HQ.out] at hmc
            have HMC := Lib.hid hmc
            have HD := Lib.hid (rdrop_any q l _ b _ w1 HNW1.out HAT.out HI.out.2.2)
            clear hmc
            go_wp2_with fail
            refine HD.out.mono ?_
            rintro e w2 ⟨rfl, hl2⟩
            have HL2 := Lib.hid hl2
            have he2 := HE1.out.tr hl2.2 (fun h => by have := h.2; have := HEE.out; omega)
            have HE2 := Lib.hid he2
            have hE2n : ¬ andNew (fun k => andNew S w.heap.size k ∧ k < wo.heap.size) w1.heap.size E := fun h => by
              have := HEE.out
              have := HE1.out.lt
              rcases h with h | h
              · have := h.2; omega
              · omega
            obtain ⟨e0, e1, e2⟩ := c3 he2
            have HA := Lib.hid (radd_any (closedI c l.b l.num) _ b _ w2 hl2.1 (by have := HI.out.1; simp only at this ⊢; omega) (by have := HI.out.2.1; simp only at this ⊢; omega))
            clear hl2 he2 hE2n c1
            go_wp2_with fail
            refine HA.out.mono ?_
            rintro e w3 ⟨⟨v3, rfl⟩, hl3⟩
            have HX := Lib.hid ((HL.out.post HAL.out).trans ((HL2.out.trans hl3).mono fun k hk => hk.1))
            clear hl3 e0 e1 e2
            go_wp2
            go_roundg (N - (j + 1))
            case rel => exact ⟨j + 1, rfl, by omega, by rw [HMC.out.2], by rw [HMC.out.1]; exact HX.out⟩
            case measure => rw [HGK.out]; omega
          · have r1 : (l.a != c) = true := by simpa using h1
            have r2 : (l.a == c) = false := by simpa using h1
            by_cases h2 : l.b = c
            · have ho : otherL l c = some l.a := by simp [otherL, h1, h2]
              have HO := Lib.hid ho
              have r3 : (l.b != c) = false := by simpa using h2
              clear ho h2
              have hmc := mid_cut c HLJ.out HO.out
              rw [← HQ.out] at hmc
              have HMC := Lib.hid hmc
              have HD := Lib.hid (rdrop_any q l _ b _ w1 HNW1.out HAT.out HI.out.2.2)
              clear hmc
              go_wp2_with fail
              refine HD.out.mono ?_
              rintro e w2 ⟨rfl, hl2⟩
              have HL2 := Lib.hid hl2
              have he2 := HE1.out.tr hl2.2 (fun h => by have := h.2; have := HEE.out; omega)
              have HE2 := Lib.hid he2
              have hE2n : ¬ andNew (fun k => andNew S w.heap.size k ∧ k < wo.heap.size) w1.heap.size E := fun h => by
                have := HEE.out
                have := HE1.out.lt
                rcases h with h | h
                · have := h.2; omega
                · omega
              obtain ⟨e0, e1, e2⟩ := c3 he2
              have HA := Lib.hid (radd_any (closedI c l.a l.num) _ b _ w2 hl2.1 (by have := HI.out.1; simp only at this ⊢; omega) (by have := HI.out.2.1; simp only at this ⊢; omega))
              clear hl2 he2 hE2n c1
              go_wp2_with fail
              refine HA.out.mono ?_
              rintro e w3 ⟨⟨v3, rfl⟩, hl3⟩
              have HX := Lib.hid ((HL.out.post HAL.out).trans ((HL2.out.trans hl3).mono fun k hk => hk.1))
              clear hl3 e0 e1 e2
              go_wp2
              go_roundg (N - (j + 1))
              case rel => exact ⟨j + 1, rfl, by omega, by rw [HMC.out.2], by rw [HMC.out.1]; exact HX.out⟩
              case measure => rw [HGK.out]; omega
            · have ho : otherL l c = none := by simp [otherL, h1, h2]
              have hmk := mid_keep c HLJ.out ho
              rw [← HQ.out] at hmk
              have HMK := Lib.hid hmk
              have HX := Lib.hid (HL.out.post HAL.out)
              have r3 : (l.b != c) = true := by simpa using h2
              clear ho hmk
              go_wp2
              go_roundg (N - (j + 1))
              case rel => exact ⟨j + 1, rfl, by omega, by rw [HMK.out.2]; go_num, by rw [HMK.out.1]; exact HX.out⟩
              case measure => rw [HGK.out]; omega
        · have q1 : decide ((q : Int) < ((q + (N - j) : Nat) : Int)) = false := by simp; omega
          have hjN : j = N := by omega
          have hNe : q + (N - j) = q := by omega
          rw [hNe] at c1
          have HFIN := Lib.hid (HL.out)
          have q2 : ¬ q < q := by omega
          clear hcl q1 hNe
          go_wp2
          go_ret
          refine ⟨rfl, ?_⟩
          have h := HL.out
          rw [mid_end c s1 (by rw [← HN1.out]; omega), HS1.out, lose_is' HXX.out] at h
          exact h
end Go.Proofs.Ytocmgdhhlofajaa
