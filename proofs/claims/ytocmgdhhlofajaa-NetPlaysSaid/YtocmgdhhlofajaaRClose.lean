/-
  What the document's Close leaves and answers.
-/
import Derived.Test.YtocmgdhhlofajaaRDrop
namespace Go.Proofs.Ytocmgdhhlofajaa
open Go.RowKit
/-- Items are put in the place of those of a network: what is left, in the light of a world with new blocks. -/
theorem items_law {S : Nat → Prop} {b : Nat} {s : St} {w : World} (h : Rn S b s w) : ∀ X v' w5, Below w.heap.size w w5 → w5.ownsRow w.heap.size 52 6 v' X.length (cs ic X) → Rl S b ⟨X, s.lks, s.puts, s.opens⟩ w (w5.setCell ⟨b, 0, none⟩ v') := by
  obtain ⟨vi, vl, hp⟩ := h
  exact fun X v' w5 hb hr => ⟨⟨_, _, hp.cell_i ⟨hb.os, hb.tape, hb.output, hb.size, fun k hk _ => hb.block k hk⟩ (own_mono hr (Nat.zero_le _)) (fun k hk => .inr (World.ownsRow.lt hr k hk).1)⟩, (Tr.of_below hb).setCell (.inl hp.own) _⟩
theorem items_at {S : Nat → Prop} {b : Nat} {s : St} {w : World} (h : Rn S b s w) : ∃ a cap, w.cell? ⟨b, 0, none⟩ = some (.slice a s.its.length cap) ∧ w.frozen? ⟨b, 0, none⟩ = false ∧ (0 < s.its.length → ∃ g, a = some ⟨g, 0, none⟩ ∧ g < w.heap.size ∧ ∀ k x, s.its[k]? = some x → ∀ j u, (ic x)[j]? = some u → w.cell? ⟨g, k * 6 + j, none⟩ = some u) := by
  obtain ⟨vi, vl, hp⟩ := h
  have hcells := fun h => hp.ri.cells ic_len h
  have c0 := hp.c0
  obtain ⟨a, cap, rfl, _, _⟩ := hp.ri.shape
  refine ⟨a, cap, c0, hp.fz 0 (by omega), fun h => ?_⟩
  obtain ⟨g, cap', e, _, hg, hc⟩ := hcells h
  injection e with e1 _ _
  exact ⟨g, e1, hg, hc⟩
theorem links_at {S : Nat → Prop} {b : Nat} {s : St} {w : World} (h : Rn S b s w) : ∃ a cap, w.cell? ⟨b, 1, none⟩ = some (.slice a s.lks.length cap) ∧ (0 < s.lks.length → ∃ g, a = some ⟨g, 0, none⟩ ∧ g < w.heap.size ∧ ∀ k x, s.lks[k]? = some x → ∀ j u, (lc x)[j]? = some u → w.cell? ⟨g, k * 3 + j, none⟩ = some u) := by
  obtain ⟨vi, vl, hp⟩ := h
  have hcells := fun h => hp.rl.cells lc_len h
  have c0 := hp.c1
  obtain ⟨a, cap, rfl, _, _⟩ := hp.rl.shape
  refine ⟨a, cap, c0, fun h => ?_⟩
  obtain ⟨g, cap', e, _, hg, hc⟩ := hcells h
  injection e with e1 _ _
  exact ⟨g, e1, hg, hc⟩
theorem cut_filter {ls : List Lk} {k : Nat} {l : Lk} (hn : ls.Pairwise (fun x y => x.num < y.num)) (hk : ls[k]? = some l) : ls.take k ++ ls.drop (k + 1) = ls.filter (fun x => !(x == l)) := by
  have e : ls = ls.take k ++ l :: ls.drop (k + 1) := by
    obtain ⟨h1, h2⟩ := List.getElem?_eq_some_iff.1 hk
    rw [← h2, ← List.drop_eq_getElem_cons h1, List.take_append_drop]
  have hn2 := hn
  rw [e] at hn2
  obtain ⟨_, h2, h3⟩ := List.pairwise_append.1 hn2
  obtain ⟨h4, _⟩ := List.pairwise_cons.1 h2
  have h5 : (ls.take k).filter (fun x => !(x == l)) = ls.take k := by
    rw [List.filter_eq_self]
    intro x hx
    have := h3 x hx l (by simp)
    have h6 : x ≠ l := fun e => by rw [e] at this; omega
    simp [h6]
  have h7 : (ls.drop (k + 1)).filter (fun x => !(x == l)) = ls.drop (k + 1) := by
    rw [List.filter_eq_self]
    intro x hx
    have := h4 x hx
    have h6 : x ≠ l := fun e => by rw [e] at this; omega
    simp [h6]
  conv => rhs; rw [e]
  rw [List.filter_append, List.filter_cons, h5, h7]
  simp
set_option maxRecDepth 100000 in
set_option maxHeartbeats 16000000 in
theorem rclose_any (c : Int) (S : Nat → Prop) (b : Nat) (s : St) (w : World) (h : Rn S b s w) (hg : Good s) (hB : s.its.length ≤ 900000) (hP : s.puts ≤ 900000) (hL : s.lks.length ≤ 900000) :
    Calls Try.prog 29 #[ptr b, .int .i64 c] w fun e w' => e = .returned (.bool (findL s.lks c).isSome) ∧ Rl S b (closeS s c) w w' := by
  have H0 := Lib.hid h
  have F := Lib.hid (rfind_any c S b s w h (by omega))
  have HG := Lib.hid hg
  have HBI := Lib.hid hB
  have HPI := Lib.hid hP
  have HLI := Lib.hid hL
  clear h hg hB hP hL
  go_enter Try.func29, Try.ntmps29
  go_wp2_with fail
  refine F.out.mono ?_
  rintro e w1 ⟨⟨i, rfl, hat⟩, rfl⟩
  rcases hat with ⟨rfl, ho⟩ | ⟨kk, l, rfl, hkk, ho⟩
  · have HO := Lib.hid ho
    clear ho
    go_wp2
    go_ret
    exact ⟨by rw [HO.out]; rfl, by unfold closeS; rw [HO.out]; exact Lft.refl H0.out⟩
  · have HO := Lib.hid ho
    have hnum := (findL_mem ho).2
    have hD := rdrop_any kk l S b s w H0.out hkk HLI.out
    rw [cut_filter HG.out.lnum hkk] at hD
    have HD := Lib.hid hD
    have q0 : decide ((kk : Int) < 0) = false := by simp
    have hq0 : ¬ (kk : Int) < 0 := by omega
    clear ho hD hkk
    subst hnum
    go_wp2_with fail
    refine HD.out.mono ?_
    rintro e w2 ⟨rfl, hl2⟩
    have HL2 := Lib.hid hl2
    clear hl2
    go_upto_region 5 with fail
    obtain ⟨w3, hw3⟩ : ∃ w3, w3 = w2.alloc (.cells (lc l).toArray 69) := ⟨_, rfl⟩
    have hce3 := ce_new w2 (lc l).toArray 69
    have hb3 : Below w2.heap.size w2 (w2.alloc (.cells (lc l).toArray 69)) := (Below.refl _ _).alloc (Nat.le_refl _) _
    have hfar : ∀ k, (fun k => andNew S w.heap.size k ∧ k < w2.heap.size) k → k ≠ w2.heap.size := fun k hk => by have := hk.2; omega
    have hr3 := (HL2.out.1.now).below hb3
    rw [← hw3] at hce3 hb3 hr3
    rw [show w2.alloc (.cells #[.int .i64 l.num, .int .i64 l.a, .int .i64 l.b] 69) = w3 from hw3.symm]
    have hIL := items_law hr3
    obtain ⟨a, cap, c0, f0, hcells⟩ := items_at hr3
    have hbl := hr3.lt
    have HR3 := Lib.hid hr3
    obtain ⟨C, hC⟩ : ∃ C, C = w2.heap.size := ⟨_, rfl⟩
    have HB3 := Lib.hid hb3
    have HFAR := Lib.hid hfar
    have hs3 : w3.heap.size = w2.heap.size + 1 := by rw [hw3]; simp
    have hce4 := hce3
    rw [← hC] at hce3 ⊢
    have HC3 := Lib.hid hce3
    have HCC := Lib.hid hC
    simp only at hIL hcells c0
    obtain ⟨X, hX⟩ : ∃ X, X = s.its := ⟨_, rfl⟩
    rw [← hX] at c0 hcells HBI
    have HXX := Lib.hid hX
    have HS3 := Lib.hid hs3
    clear hX hs3
    obtain ⟨n, hn⟩ : ∃ n, n = X.length := ⟨_, rfl⟩
    rw [← hn] at c0 hcells
    have HN := Lib.hid hn
    have hnb : n ≤ 900000 := by rw [hn]; exact HBI.out
    have HCE := Lib.hid hcells
    have HIL := Lib.hid hIL
    have HC0 := Lib.hid c0
    have HF0 := Lib.hid f0
    have hbC : b ≠ C := by
      rintro rfl
      have h1 := hce3
      obtain ⟨vi, vl, hp⟩ := hr3
      have h2 := hp.blk
      rw [show w3.heap[b]? = _ from h1] at h2
      simp at h2
    obtain ⟨i0, hi, hz0, hz1, hz2⟩ := info_parts info52
    clear hw3 hce3 hce4 hb3 hfar hr3 hIL hcells hn c0 f0 hC
    go_wp2
    go_loopw [7, 8] (fun v i wr => ∃ k : Nat, k ≤ n ∧ i = .int .i64 (k : Int) ∧ wr.ownsRow w3.heap.size 52 6 v ((X.take k).filter (fun z => !(z.conn == l.num))).length (cs ic ((X.take k).filter (fun z => !(z.conn == l.num)))) ∧ Below w3.heap.size w3 wr) (fun _ i _ => n - (intOf i).toNat)
    case atStart => exact ⟨0, by omega, rfl, World.ownsRow_nil _ _ _ _, Below.refl _ _⟩
    case round =>
      obtain ⟨k, hk, rfl, hown, hbw⟩ := hrel
      have HOW := Lib.hid hown
      have HBW := Lib.hid hbw
      have hsz := hbw.size
      have c0 := (hbw.cell (p := ⟨b, 0, none⟩) hbl).trans HC0.out
      have f0 : wr.frozen? ⟨b, 0, none⟩ = false := (World.frozen?_of_block (hbw.block b hbl)).trans HF0.out
      have hcl := List.length_filter_le (fun z : It => !(z.conn == l.num)) (X.take k)
      rw [List.length_take] at hcl
      obtain ⟨m, hm⟩ : ∃ m, m = ((X.take k).filter (fun z : It => !(z.conn == l.num))).length := ⟨_, rfl⟩
      rw [← hm] at HOW hcl
      have HM := Lib.hid hm
      have hmb : m ≤ 900000 := by omega
      clear hown hbw hm hcl
      by_cases hlt : k < n
      · have q1 : (k : Int) < (n : Int) := by omega
        obtain ⟨g, e, hg, hcell⟩ := HCE.out (by omega)
        subst e
        obtain ⟨x, hx⟩ : ∃ x, X[k]? = some x := ⟨_, List.getElem?_eq_getElem (by rw [← HN.out]; exact hlt)⟩
        have hcr : ∀ j u, (ic x)[j]? = some u → wr.cell? ⟨g, k * 6 + j, none⟩ = some u := fun j u hu => (HBW.out.cell (p := ⟨g, k * 6 + j, none⟩) hg).trans (hcell k x hx j u hu)
        have d0 : wr.cell? ⟨g, k * 6, none⟩ = some (.int .i64 x.num) := hcr 0 _ rfl
        have d1 : wr.cell? ⟨g, k * 6 + 1, none⟩ = some (.int .i64 x.kind) := hcr 1 _ rfl
        have d2 : wr.cell? ⟨g, k * 6 + 2, none⟩ = some (.int .i64 x.frm) := hcr 2 _ rfl
        have d3 : wr.cell? ⟨g, k * 6 + 3, none⟩ = some (.int .i64 x.dst) := hcr 3 _ rfl
        have d4 : wr.cell? ⟨g, k * 6 + 4, none⟩ = some (.int .i64 x.conn) := hcr 4 _ rfl
        have d5 : wr.cell? ⟨g, k * 6 + 5, none⟩ = some (.string x.body) := hcr 5 _ rfl
        have CT := Lib.hid (filter_take (f := fun z : It => !(z.conn == l.num)) hx)
        clear hcell hcr hx f0
        by_cases hxd : x.conn = l.num
        · have hq0 : (X.take (k + 1)).filter (fun z : It => !(z.conn == l.num)) = (X.take k).filter (fun z : It => !(z.conn == l.num)) := by rw [CT.out]; simp [hxd]
          have HQ0 := Lib.hid hq0
          have qx : (x.conn != l.num) = false := by simpa using hxd
          clear hq0 hxd
          go_wp2
          go_roundw
          case rel => exact ⟨k + 1, by omega, by go_num, by rw [HQ0.out, ← HM.out]; exact HOW.out, HBW.out⟩
          case measure => simp [intOf]; omega
        · have hq0 : (X.take (k + 1)).filter (fun z : It => !(z.conn == l.num)) = (X.take k).filter (fun z : It => !(z.conn == l.num)) ++ [x] := by rw [CT.out]; simp [hxd]
          have HQ0 := Lib.hid hq0
          have qx : (x.conn != l.num) = true := by simpa using hxd
          clear hq0
          go_wp2_with (at_builtin; refine wpList_append_own _ rfl (.tmp 36) (.tmp 44) 27 rfl w3.heap.size 52 i0 _ 6 56 Try.underlying27 hi hz0 hz1 hz2 rfl (by decide) _ m _ rfl (HOW.out.alloc _) ⟨wr.heap.size, 0, none⟩ 1 1 (ic x) rfl rfl (fun j u hj => World.news_of_block (cs := (ic x).toArray) (t := 52) (fr := (0, 0)) (heap_alloc_new wr _) j u (by simpa using hj)) (by simp [Value.oneCell']) (by unfold maxLen; omega) (by omega) (by simp; omega) ?_)
          intro v4 w4 hown4 hg4 _
          have HB4 := Lib.hid (app_below HBW.out hg4 HOW.out)
          have HO4 := Lib.hid (one_more HM.out hown4)
          clear hown4 hg4 d0 d1 d2 d3 d4 d5 c0
          go_wp2
          go_roundw
          case rel => exact ⟨k + 1, by omega, by go_num, by rw [HQ0.out]; exact HO4.out, HB4.out⟩
          case measure => simp [intOf]; omega
      · have q1 : decide ((k : Int) < (n : Int)) = false := by simp; omega
        obtain rfl : k = n := by omega
        have e1 : X.take k = X := by rw [HN.out, List.take_length]
        rw [e1] at HOW HM
        obtain ⟨av, cv, rfl⟩ := row_slice HOW.out
        have HZ := Lib.hid (HIL.out _ _ _ HBW.out (by rw [← HM.out]; exact HOW.out))
        have HCw := Lib.hid ((HC3.out.below HBW.out (by have := HC3.out.lt; omega)).tr (S := (· = b)) ((Tr.refl (· = b) wr).setCell (i := 0) (.inl rfl) (.slice av m cv)) (fun e => hbC e.symm))
        go_upto_region 12 with fail
        obtain ⟨w6, hw6⟩ : ∃ w6, w6 = wr.setCell ⟨b, 0, none⟩ (.slice av m cv) := ⟨_, rfl⟩
        rw [← hw6] at HZ HCw ⊢
        obtain ⟨r0, r1, r2⟩ := c3 HCw.out
        have hCn : ∀ i, andNew (fun k => andNew S w.heap.size k ∧ k < w2.heap.size) w3.heap.size i → i ≠ C := fun i hi e => by
          have := HCC.out
          have := HS3.out
          rcases hi with hi | hi
          · have := hi.2; omega
          · omega
        have HCN := Lib.hid hCn
        have A1 := Lib.hid (radd_any (closedI l.b l.a l.num) _ b _ w6 HZ.out.1 (by have := HM.out; simp only at this ⊢; omega) (by have := HPI.out; simp only at this ⊢; omega))
        clear hw6 c0 f0 hCn
        go_wp2_with fail
        refine A1.out.mono ?_
        rintro e w7 ⟨⟨v7, rfl⟩, hl7⟩
        have HX7 := Lib.hid (HZ.out.trans hl7)
        have HC7 := Lib.hid (HCw.out.tr hl7.2 (fun h => HCN.out _ h rfl))
        clear hl7 r0 r1 r2
        obtain ⟨r0, r1, r2⟩ := c3 HC7.out
        have A2 := Lib.hid (radd_any (closedI l.a l.b l.num) _ b _ w7 HX7.out.1 (by have := HM.out; show (_ ++ [_] : List It).length ≤ _; rw [List.length_append]; simp only [List.length_singleton]; omega) (by have := HPI.out; show s.puts + 1 ≤ _; omega))
        go_wp2_with fail
        refine A2.out.mono ?_
        rintro e w8 ⟨⟨v8, rfl⟩, hl8⟩
        have HX8 := Lib.hid (HX7.out.trans hl8)
        clear hl8 r0 r1 r2
        go_wp2
        go_ret
        refine ⟨by rw [HO.out]; rfl, ?_⟩
        have hfin := (HL2.out.post HB3.out).trans (HX8.out.mono fun k hk => hk.1)
        unfold closeS
        rw [HO.out]
        rw [HXX.out] at hfin
        exact hfin
end Go.Proofs.Ytocmgdhhlofajaa
