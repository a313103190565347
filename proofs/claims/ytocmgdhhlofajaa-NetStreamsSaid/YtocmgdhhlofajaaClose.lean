/-
  What the Close of the program leaves and answers.
-/
import Derived.Test.YtocmgdhhlofajaaFns
namespace Go.Proofs.Ytocmgdhhlofajaa
open Go.RowKit
theorem Lft.mono {T ti tl : TypeId} {S S' : Nat → Prop} {b : Nat} {s : St} {w w' : World} (h : Lft T ti tl S b s w w') (hS : ∀ k, S k → S' k) : Lft T ti tl S' b s w w' :=
  ⟨h.1.mono fun k hk => by
    rcases hk with hk | hk
    · exact .inl (hS k hk)
    · exact .inr hk, h.2.mono hS⟩
/-- The connections are thinned out: what the walk wants, and what is left. -/
theorem links_law {T ti tl : TypeId} {S : Nat → Prop} {b : Nat} {s : St} {vi vl v' : Value} {X : List Lk} {w w1 : World} (h : PV T ti tl S b s vi vl w) (hr : Rw lc tl 3 w1 v' X) (ht : Tr (fun k => vl.ownBlock = some k) w w1) (ho : v'.ownBlock = vl.ownBlock) :
    w1.cell? ⟨b, 1, none⟩ = some vl ∧ w1.frozen? ⟨b, 1, none⟩ = false ∧ Lft T ti tl S b ⟨s.its, X, s.puts, s.opens⟩ w (w1.setCell ⟨b, 1, none⟩ v') := by
  have hci := h.cell_l ht.as_grown hr (fun k hk => .inl (h.sl k (by rw [← ho]; exact hk)))
  have hbk : w1.heap[b]? = w.heap[b]? := ht.block b h.lt (fun e => h.rl.not_cells h.blk h.ne.2.1 e)
  exact ⟨(World.cell?_of_block hbk).trans h.c1, (World.frozen?_of_block hbk).trans (h.fz 1 (by omega)), ⟨_, _, hci⟩, (ht.mono fun k hk => h.sl k hk).setCell (.inl h.own) _⟩
theorem tell_b {l : Lk} (h : l.a ≠ l.b) (s : St) : tellS s l l.b = add s (closedI l.b l.a l.num) := by simp [tellS, otherL, h]
theorem tell_a {l : Lk} (s : St) : tellS s l l.a = add s (closedI l.a l.b l.num) := by simp [tellS, otherL]
set_option maxRecDepth 100000 in
set_option maxHeartbeats 8000000 in
theorem close_any (c : Int) (S : Nat → Prop) (b : Nat) (s : St) (w : World) (h : Pn S b s w) (hg : Good s) (hB : s.its.length ≤ 900000) (hP : s.puts ≤ 900000) (hL : s.lks.length ≤ 900000) :
    Calls Try.prog 23 #[ptr b, .int .i64 c] w fun e w' => e = .returned (.bool (findL s.lks c).isSome) ∧ Pl S b (closeS s c) w w' := by
  have H0 := Lib.hid h.now
  have hb1 : Below w.heap.size w (w.alloc (.cells #[.int .i64 c] 3)) := (Below.refl _ w).alloc (Nat.le_refl _) _
  have hce1 := ce_new w #[.int .i64 c] 3
  obtain ⟨w1, hw1⟩ : ∃ w1, w1 = w.alloc (.cells #[.int .i64 c] 3) := ⟨_, rfl⟩
  rw [← hw1] at hb1 hce1
  have HB1 := Lib.hid hb1
  have HC1 := Lib.hid hce1
  have F := Lib.hid (find_any c S b s w1 (h.below hb1) (by omega))
  have c0 : w1.cell? ⟨w.heap.size, 0, none⟩ = some (.int .i64 c) := by rw [hce1.cell]; rfl
  have HBI := Lib.hid hB
  have HPI := Lib.hid hP
  have HLI := Lib.hid hL
  have HG := Lib.hid hg
  unfold closeS
  have hfm : ∀ l, findL s.lks c = some l → l.a ≠ l.b := fun l hl => (hg.ends l (findL_mem hl).1).1
  generalize findL s.lks c = o at *
  have HO := Lib.hid hfm
  clear hb1 hce1 h hg hB hP hL hfm
  cases o with
  | none =>
    go_enter Try.func23, Try.ntmps23
    go_upto_region 1 with fail
    rw [← hw1]
    obtain ⟨C, hC⟩ : ∃ C, C = w.heap.size := ⟨_, rfl⟩
    rw [← hC] at c0 ⊢
    clear hC hw1
    go_wp2_with fail
    refine F.out.mono ?_
    rintro e w2 ⟨rfl, hb2⟩
    have HB2 := Lib.hid (HB1.out.trans (hb2.mono HB1.out.size))
    clear hb2 c0
    go_wp2
    go_ret
    exact ⟨rfl, (Lft.refl ((H0.out.mono fun k hk => hk.1))).post (HB2.out.alloc HB2.out.size _)⟩
  | some l =>
    have hab := HO.out l rfl
    have TB := Lib.hid (tell_b hab)
    have hab := Lib.hid hab
    go_enter Try.func23, Try.ntmps23
    go_upto_region 1 with fail
    rw [← hw1]
    obtain ⟨C, hC⟩ : ∃ C, C = w.heap.size := ⟨_, rfl⟩
    rw [← hC] at c0 HC1 ⊢
    have HCC := Lib.hid hC
    clear hC hw1
    go_wp2_with fail
    refine F.out.mono ?_
    rintro e w2 ⟨rfl, hb2⟩
    have HB2 := Lib.hid (HB1.out.trans (hb2.mono HB1.out.size))
    have HC2 := Lib.hid (HC1.out.below hb2 HC1.out.lt)
    clear hb2 c0
    go_upto_region 2 with fail
    obtain ⟨w3, hw3⟩ : ∃ w3, w3 = w2.alloc (.cells #[.int .i64 l.num, .int .i64 l.a, .int .i64 l.b] 64) := ⟨_, rfl⟩
    have hce3 := ce_new w2 #[.int .i64 l.num, .int .i64 l.a, .int .i64 l.b] 64
    have hb3 := HB2.out.alloc HB2.out.size (.cells #[.int .i64 l.num, .int .i64 l.a, .int .i64 l.b] 64)
    have hc3 := HC2.out.alloc (.cells #[.int .i64 l.num, .int .i64 l.a, .int .i64 l.b] 64)
    rw [← hw3] at hce3 hb3 hc3 ⊢
    have hszD := HB2.out.size
    obtain ⟨D, hD⟩ : ∃ D, D = w2.heap.size := ⟨_, rfl⟩
    rw [← hD] at hce3 hszD ⊢
    have HD3 := Lib.hid hce3
    have HB3 := Lib.hid hb3
    have HC3 := Lib.hid hc3
    clear hw3 hD hce3 hb3 hc3 HC2
    have R := remove_any 48 ent48 #[ptr C] (fun x => x.conn == c) (fun k => S k ∧ k < w.heap.size) b s w3 (H0.out.below HB3.out) (by have := HBI.out; omega) (fun x w4 ht => conn_any x c C w4 (by
      have := HC3.out.tr ht (fun h => by have := HCC.out; omega)
      rw [this.cell]; rfl))
    have HR := Lib.hid R
    clear R
    go_wp2_with fail
    refine HR.out.mono ?_
    rintro e w4 ⟨rfl, hl4⟩
    have HL4 := Lib.hid hl4
    have HD4 := Lib.hid (HD3.out.tr hl4.2 (fun h => by omega))
    obtain ⟨vi, vl, hp4⟩ := hl4.1
    have c1 := hp4.c1
    have HP4 := Lib.hid hp4
    clear hl4 hp4 HR F
    go_wp2_with fail
    refine (quiet_l 49 ent49 #[ptr D] (fun k => k == l) s.lks vl w4 HP4.out.rl (by have := HLI.out; omega) (fun x w5 ht => same_l x l D w5 (HD4.out.tr ht (fun h => by
      have hd := HD3.out.lt
      rcases HP4.out.sl _ h with ⟨_, h2⟩ | h2
      · omega
      · omega)))).mono ?_
    rintro e w5 ⟨v', rfl, hr5, ht5, ho5⟩
    have A := Lib.hid (links_law HP4.out hr5 ht5 ho5)
    have d1 := A.out.1
    have f1 := A.out.2.1
    have hr6 := hr5
    obtain ⟨a6, cap6, rfl, _, _⟩ := hr6.shape
    have HX := Lib.hid (HL4.out.trans A.out.2.2)
    have HD6 := Lib.hid (HD3.out.tr HX.out.2 (fun h => by have := h.2; omega))
    clear hr5 ht5 ho5 hr6 c1
    go_upto_region 6 with fail
    obtain ⟨w6, hw6⟩ : ∃ w6, w6 = w5.setCell ⟨b, 1, none⟩ (.slice a6 (s.lks.filter fun x => !x == l).length cap6) := ⟨_, rfl⟩
    rw [← hw6] at HX HD6 ⊢
    obtain ⟨e0, e1, e2⟩ := c3 HD6.out
    clear hw6 d1 f1 A
    have hi6 : (s.its.filter fun x => !x.conn == c).length ≤ 900000 := Nat.le_trans (List.length_filter_le _ _) HBI.out
    have HI6 := Lib.hid hi6
    clear hi6
    have C1 := closed_any l l.b _ b _ w6 HX.out.1 (by have := HI6.out; show (s.its.filter fun x => !x.conn == c).length ≤ _; omega) (by have := HPI.out; show s.puts ≤ _; omega)
    rw [TB.out] at C1
    have HC1' := Lib.hid C1
    clear C1
    go_wp2_with fail
    refine HC1'.out.mono ?_
    rintro e w7 ⟨rfl, hl7⟩
    have HX7 := Lib.hid (HX.out.trans hl7)
    have HD7 := Lib.hid (HD3.out.tr HX7.out.2 (fun h => by have := h.2; omega))
    clear hl7 e0 e1 e2
    obtain ⟨e0, e1, e2⟩ := c3 HD7.out
    have C2 := closed_any l l.a _ b _ w7 HX7.out.1 (by have := HI6.out; show (_ ++ [_] : List It).length ≤ _; rw [List.length_append]; show (s.its.filter fun x => !x.conn == c).length + 1 ≤ _; omega) (by have := HPI.out; show s.puts + 1 ≤ _; omega)
    rw [tell_a] at C2
    have HC2' := Lib.hid C2
    clear C2
    go_wp2_with fail
    refine HC2'.out.mono ?_
    rintro e w8 ⟨rfl, hl8⟩
    have HX8 := Lib.hid (HX7.out.trans hl8)
    clear hl8 e0 e1 e2
    go_wp2
    go_ret
    exact ⟨rfl, (HX8.out.mono fun k hk => hk.1).pre HB3.out⟩
end Go.Proofs.Ytocmgdhhlofajaa
