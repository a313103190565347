/-
  What the Lose of the program leaves and answers.
-/
import Derived.Test.YtocmgdhhlofajaaQuiet
import Derived.Deep.RegionWith
namespace Go.Proofs.Ytocmgdhhlofajaa
open Go.RowKit
theorem clo_next (n : Int) (s : St) {ls : List Lk} {k : Nat} {l : Lk} (h : ls[k]? = some l) : clo n s (ls.take (k + 1)) = tellS (clo n s (ls.take k)) l n := by
  rw [List.take_add_one, h]
  exact clo_snoc n s _ l
/-- What the connections' thinning out makes of a network. -/
def cutS (n : Int) (s : St) : St := ⟨(clo n s s.lks).its, s.lks.filter (fun l => (otherL l n).isNone), (clo n s s.lks).puts, s.opens⟩
theorem tells_any (n : Int) (Cn Cd : Nat) (S : Nat → Prop) (b : Nat) (s : St) (vi vl : Value) (w : World) (hp : PV 61 74 64 S b s vi vl w) (h1 : w.cell? ⟨Cn, 0, none⟩ = some (ptr b)) (h2 : w.cell? ⟨Cd, 0, none⟩ = some (.int .i64 n)) (hn1 : ¬ S Cn) (hn2 : ¬ S Cd)
    (hB : s.its.length ≤ 400000) (hP : s.puts ≤ 400000) (hL : s.lks.length ≤ 400000) :
    Calls Try.prog 45 #[vl, .func (.func 46) #[] #[ptr Cn, ptr Cd]] w fun e w' => ∃ ad m c, e = .returned (.slice ad m c) ∧ w'.cell? ⟨b, 1, none⟩ = some vl ∧ w'.frozen? ⟨b, 1, none⟩ = false ∧ w'.cell? ⟨Cn, 0, none⟩ = some (ptr b) ∧ Pl S b (cutS n s) w (w'.setCell ⟨b, 1, none⟩ (.slice ad m c)) := by
  rcases hp.rl.2 with ⟨rfl, h0⟩ | ⟨g, cap, cur, rfl, _, hg, _⟩
  · have e0 : s.lks = [] := List.length_eq_zero_iff.1 h0
    have es : cutS n s = ⟨s.its, [], s.puts, s.opens⟩ := by unfold cutS; rw [e0]; rfl
    refine (nil_l _ w).mono ?_
    rintro e w' ⟨rfl, rfl⟩
    obtain ⟨a1, a2, a3⟩ := links_law (X := []) hp (Rw.nil _) (Tr.refl _ _) rfl
    rw [es]
    exact ⟨_, _, _, rfl, a1, a2, h1, a3⟩
  · have hgl : g < w.heap.size := (Array.getElem?_eq_some_iff.1 hg).1
    have hgS : S g := hp.sl g rfl
    have hbg : b ≠ g := by
      rintro rfl
      have h3 := hp.blk
      rw [hg] at h3
      simp at h3
    have hlt1 : Cn < w.heap.size := w.block_lt_of_cell? _ h1
    have hlt2 : Cd < w.heap.size := w.block_lt_of_cell? _ h2
    have hK0 : Qn (fun i => andNew (fun i => S i ∧ i ≠ g) w.heap.size i ∧ i < w.heap.size) b (clo n s (s.lks.take 0)) (.slice (some ⟨g, 0, none⟩) s.lks.length cap) w := by
      refine Qn.mono (S := fun i => (S i ∧ i ≠ g) ∧ i < w.heap.size) ?_ (fun k hk => ⟨.inl hk.1, hk.2⟩)
      exact ⟨vi, hp.blk, hp.ri, fun k hk => ⟨⟨hp.si k hk, fun e => hp.ri.apart hp.rl (by decide) k hk (by rw [e]; rfl)⟩, hp.ri.lt k hk⟩, ⟨⟨hp.own, hbg⟩, hp.lt⟩⟩
    have H := with_l 46 ent46 #[ptr Cn, ptr Cd] s.lks (fun _ x => (otherL x n).isSome)
      (fun k w' => Qn (fun i => andNew (fun i => S i ∧ i ≠ g) w.heap.size i ∧ i < w'.heap.size) b (clo n s (s.lks.take k)) (.slice (some ⟨g, 0, none⟩) s.lks.length cap) w' ∧ Tr S w w') g cap w hp.rl (by omega)
      (fun k x w1 hx hk => by
        have hs1 := hk.2.size
        have hbd := clo_its n (s.lks.take k) s
        have hlk : (s.lks.take k).length ≤ s.lks.length := by rw [List.length_take]; omega
        have hal : Below w1.heap.size w1 (w1.alloc (.cells (lc x).toArray 64)) := (Below.refl _ w1).alloc (Nat.le_refl _) _
        have hsa : (w1.alloc (.cells (lc x).toArray 64)).heap.size = w1.heap.size + 1 := by simp
        refine (tell_any x n Cn Cd _ b _ _ _ (hk.1.below hal) (by omega) (by omega)
          ((hal.cell (p := ⟨Cn, 0, none⟩) (by show Cn < _; omega)).trans ((hk.2.cell (p := ⟨Cn, 0, none⟩) hlt1 hn1).trans h1))
          ((hal.cell (p := ⟨Cd, 0, none⟩) (by show Cd < _; omega)).trans ((hk.2.cell (p := ⟨Cd, 0, none⟩) hlt2 hn2).trans h2))).mono ?_
        rintro e w3 ⟨rfl, hq, ht⟩
        have hs3 := ht.size
        refine ⟨rfl, ⟨?_, ?_⟩, ?_, ?_, ?_⟩
        · rw [clo_next n s hx]
          refine hq.now.mono fun i hi => ⟨?_, hi.2⟩
          rcases hi.1 with hi' | hi'
          · exact hi'.1
          · exact .inr (by omega)
        · refine (hk.2.alloc _).trans ht fun i hi => ?_
          rcases hi.1 with hi' | hi'
          · exact .inl hi'.1
          · exact .inr hi'
        · exact (ce_new w1 (lc x).toArray 64).tr ht (fun hi => by have := hi.2; omega)
        · refine (ht.block g (by omega) (fun hi => ?_)).trans (hal.block g (by omega))
          rcases hi.1 with hi' | hi'
          · exact hi'.2 rfl
          · omega
        · omega)
      (fun k w1 w2 hk ht => by
        have hs := ht.size
        have hs1 := hk.2.size
        refine ⟨(hk.1.tr ht fun i _ hi e => ?_).mono fun i hi => ⟨hi.1, by omega⟩, hk.2.trans ht fun i hi => .inl (by rw [hi]; exact hgS)⟩
        rcases hi.1 with hi' | hi'
        · exact hi'.2 e
        · omega)
      ⟨hK0, Tr.refl _ _⟩
    refine H.mono ?_
    rintro e w' ⟨rfl, ⟨hq, ht⟩, hr⟩
    have e1 : cho (fun (_ : List Lk) (x : Lk) => !(otherL x n).isSome) [] s.lks = s.lks.filter (fun l => (otherL l n).isNone) := by
      rw [cho_filter]
      congr 1
      funext l
      cases otherL l n <;> rfl
    rw [e1] at hr ⊢
    rw [List.take_length] at hq
    obtain ⟨vi', hq⟩ := hq
    have hs := ht.size
    have hcl := clo_its n s.lks s
    refine ⟨_, _, _, rfl, by simp [World.cell?, hq.blk], by simp [World.frozen?, hq.blk], (ht.cell (p := ⟨Cn, 0, none⟩) hlt1 hn1).trans h1, ⟨vi', .slice (some ⟨g, 0, none⟩) (s.lks.filter (fun l => (otherL l n).isNone)).length cap, ?_⟩, ht.setCell (.inl hp.own) _⟩
    have htb : Tr (· = b) w' (w'.setCell ⟨b, 1, none⟩ (.slice (some ⟨g, 0, none⟩) (s.lks.filter (fun l => (otherL l n).isNone)).length cap)) := (Tr.refl (· = b) w').setCell (.inl rfl) _
    refine ⟨?_, hq.ri.tr htb (fun k e hkb => hq.ri.not_cells hq.blk (by decide) (by rw [e, hkb])), hr.tr htb (fun k e hkb => hr.not_cells hq.blk (by decide) (by rw [e, hkb])), ?_, ?_, .inl hp.own, hp.ne⟩
    · have := heap_setCell_same w' b 1 _ _ (.slice (some ⟨g, 0, none⟩) (s.lks.filter (fun l => (otherL l n).isNone)).length cap) hq.blk
      rw [hcl.2.1] at this
      exact this
    · intro k hk
      rcases (hq.si k hk).1 with h' | h'
      · exact .inl h'.1
      · exact .inr h'
    · intro k hk
      exact .inl (hp.sl k hk)
theorem lose_is (s : St) (n : Int) : cutS n ⟨s.its.filter fun x => !touch n x, s.lks, s.puts, s.opens⟩ = loseS s n := rfl
set_option maxRecDepth 100000 in
set_option maxHeartbeats 8000000 in
theorem lose_any (n : Int) (S : Nat → Prop) (b : Nat) (s : St) (w : World) (h : Pn S b s w) (hB : s.its.length ≤ 400000) (hP : s.puts ≤ 400000) (hL : s.lks.length ≤ 400000) :
    Calls Try.prog 21 #[ptr b, .int .i64 n] w fun e w' => e = .returned (.int .i64 (loseN s n : Int)) ∧ Pl S b (loseS s n) w w' := by
  have H0 := Lib.hid h.now
  have hb0 : Below w.heap.size w (w.alloc (.cells #[ptr b] 24)) := (Below.refl _ w).alloc (Nat.le_refl _) _
  have hb1 := hb0.alloc hb0.size (.cells #[.int .i64 n] 3)
  have hce0 := (ce_new w #[ptr b] 24).alloc (.cells #[.int .i64 n] 3)
  have hce1 := ce_new (w.alloc (.cells #[ptr b] 24)) #[.int .i64 n] 3
  rw [World.size_alloc] at hce1
  obtain ⟨w1, hw1⟩ : ∃ w1, w1 = (w.alloc (.cells #[ptr b] 24)).alloc (.cells #[.int .i64 n] 3) := ⟨_, rfl⟩
  rw [← hw1] at hb1 hce0 hce1
  have hc0 : w1.cell? ⟨w.heap.size, 0, none⟩ = some (ptr b) := by rw [hce0.cell]; rfl
  have hc1 : w1.cell? ⟨w.heap.size + 1, 0, none⟩ = some (.int .i64 n) := by rw [hce1.cell]; rfl
  have HB1 := Lib.hid hb1
  have HE0 := Lib.hid hce0
  have HE1 := Lib.hid hce1
  have R := remove_any 44 ent44 #[ptr (w.heap.size + 1)] (touch n) (fun k => S k ∧ k < w.heap.size) b s w1 (h.now.below hb1) (by omega) (fun x w4 ht => touch_any x n _ w4 ((ht.cell (p := ⟨w.heap.size + 1, 0, none⟩) hce1.lt (fun h => by have : w.heap.size + 1 < w.heap.size := h.2; omega)).trans hc1))
  have HR := Lib.hid R
  have HBI := Lib.hid hB
  have HPI := Lib.hid hP
  have HLI := Lib.hid hL
  clear hb0 hb1 hce0 hce1 R h hB hP hL
  go_enter Try.func21, Try.ntmps21
  go_upto_region 1 with fail
  rw [← hw1]
  obtain ⟨Cn, hCn⟩ : ∃ Cn, Cn = w.heap.size := ⟨_, rfl⟩
  obtain ⟨Cd, hCd⟩ : ∃ Cd, Cd = w.heap.size + 1 := ⟨_, rfl⟩
  rw [← hCd] at HE1 hc1 HR ⊢
  rw [← hCn] at HE0 hc0 ⊢
  have HCN := Lib.hid hCn
  have HCD := Lib.hid hCd
  clear hw1 hCn hCd
  go_wp2_with fail
  refine HR.out.mono ?_
  rintro e w2 ⟨rfl, hl2⟩
  have HL2 := Lib.hid hl2
  obtain ⟨vi, vl, hp⟩ := hl2.1
  have hpd : PV 61 74 64 _ b _ vi vl w2.drew := hp.below ((Below.refl _ w2).drew)
  have hsz2 := hl2.2.size
  have hn0 : ¬ andNew (fun k => S k ∧ k < w.heap.size) w1.heap.size Cn := fun h => by
    have h2 := HE0.out.lt
    have := HCN.out
    rcases h with h | h
    · have := h.2; omega
    · omega
  have hn1 : ¬ andNew (fun k => S k ∧ k < w.heap.size) w1.heap.size Cd := fun h => by
    have h2 := HE1.out.lt
    have := HCD.out
    rcases h with h | h
    · have := h.2; omega
    · omega
  have d0 : w2.cell? ⟨Cn, 0, none⟩ = some (ptr b) := (hl2.2.cell (p := ⟨Cn, 0, none⟩) HE0.out.lt (fun h => hn0 (.inl h))).trans hc0
  have d1 : w2.cell? ⟨Cd, 0, none⟩ = some (.int .i64 n) := (hl2.2.cell (p := ⟨Cd, 0, none⟩) HE1.out.lt (fun h => hn1 (.inl h))).trans hc1
  have hle : (s.its.filter fun x => !touch n x).length ≤ 400000 := Nat.le_trans (List.length_filter_le _ _) HBI.out
  have T := tells_any n Cn Cd _ b _ vi vl w2.drew hpd (show w2.drew.cell? _ = _ from d0) (show w2.drew.cell? _ = _ from d1) hn0 hn1 hle HPI.out HLI.out
  rw [lose_is] at T
  have HT := Lib.hid T
  have e1 : w2.drew.cell? ⟨b, 1, none⟩ = some vl := hpd.c1
  have d0' : w2.drew.cell? ⟨Cn, 0, none⟩ = some (ptr b) := d0
  have hnum : ((s.its.length - (s.its.filter fun x => !touch n x).length : Nat) : Int) = (loseN s n : Int) := rfl
  rw [hnum]
  have HX := Lib.hid (show ∀ w', Pl (andNew (fun k => S k ∧ k < w.heap.size) w1.heap.size) b (loseS s n) w2.drew w' → Pl S b (loseS s n) w w' from fun w' h => ((HL2.out.trans (h.pre ((Below.refl _ w2).drew))).mono fun k hk => hk.1).pre HB1.out)
  generalize hln : (loseN s n : Int) = ln at *
  have HLN := Lib.hid hln
  clear hln hl2 hp hpd T HR hnum hn0 hn1 hle hc0 hc1 hsz2
  go_wp2
  go_region_with ((refine HT.out.mono ?_; rintro e w3 ⟨a3, m3, c3, rfl, b1, f1, d3, hl3⟩; have HL3 := Lib.hid hl3; clear hl3))
  all_goals
    go_wp2
    go_ret
    exact ⟨by rw [HLN.out]; rfl, HX.out _ HL3.out⟩
end Go.Proofs.Ytocmgdhhlofajaa
