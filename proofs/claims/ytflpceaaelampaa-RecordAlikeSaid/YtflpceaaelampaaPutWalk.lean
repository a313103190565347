/-
  What Put leaves, for every record and packer: the walk. No other older memory is changed.
-/
import Derived.Test.YtflpceaaelampaaPutRec
namespace Go.Proofs.Ytflpceaaelampaa
open Go.RowKit
theorem pts_len (t : Nat) (d : Bs) (h : vld t d = true) : (pts t d).length ≤ 3 := by rw [← (spl_pts h).1]; exact (spl_len t d).1
theorem putD_step {B : Bs} {L : Kn} {ps : List Part} {k : Nat} {p : Part} (h : ps[k]? = some p) : putD B L (ps.drop k) = (if p.1 then putD (pkB true B L p.2) (pkL true B L p.2) (ps.drop (k + 1)) else putD (B ++ p.2) L (ps.drop (k + 1))) := by
  obtain ⟨hk, e⟩ := List.getElem?_eq_some_iff.1 h
  rw [List.drop_eq_getElem_cons hk, e]
  obtain ⟨b, x⟩ := p
  cases b <;> rfl
/-- What the loop over the parts knows: T: the parts' row; b0: the record's block. -/
structure PtI (S keep : Nat → Prop) (w0 : World) (b b0 g : Nat) (r : Rc) (ps : List Part) (B : Bs) (L : Kn) (w : World) : Prop where
  pk : PS S keep w0 b B L w
  kr : keep b0
  kg : keep g ∨ ps = []
  rc : Ce w b0 25 r.cells
  cs : ∀ j u, (pc ps)[j]? = some u → w.cell? ⟨g, j, none⟩ = some u
  lt : ps = [] ∨ g < w.heap.size
theorem PtI.step {S keep : Nat → Prop} {w0 w : World} {b b0 g : Nat} {r : Rc} {ps : List Part} {B : Bs} {L : Kn} (h : PtI S keep w0 b b0 g r ps B L w) :
    ∃ S', PK S' b B L w ∧ ∀ w' B' L', Lft S' b B' L' w w' → ∃ keep', PtI S keep' w0 b b0 g r ps B' L' w' ∧ w.heap.size ≤ w'.heap.size := by
  obtain ⟨S', h1, h2⟩ := h.pk.step
  refine ⟨S', h1, fun w' B' L' hl => ⟨fun k => keep k ∧ k < w.heap.size, ?_, (h2 w' B' L' hl).2.2⟩⟩
  obtain ⟨k1, k2, k3⟩ := h2 w' B' L' hl
  have hb0 : w'.heap[b0]? = w.heap[b0]? := k2 b0 h.kr h.rc.lt
  refine ⟨k1, ⟨h.kr, h.rc.lt⟩, ?_, hb0.trans h.rc, fun j u hj => ?_, ?_⟩
  · rcases h.kg with hk | hk
    · rcases h.lt with e | hlt
      · exact .inr e
      · exact .inl ⟨hk, hlt⟩
    · exact .inr hk
  · rcases h.kg with hk | hk
    · rcases h.lt with e | hlt
      · rw [e] at hj; simp [pc] at hj
      · have hg : w'.heap[g]? = w.heap[g]? := k2 g hk hlt
        exact (World.cell?_of_block (a := ⟨g, j, none⟩) hg).trans (h.cs j u hj)
    · rw [hk] at hj; simp [pc] at hj
  · rcases h.lt with e | hlt
    · exact .inl e
    · exact .inr (Nat.lt_of_lt_of_le hlt k3)
theorem PtI.under {S keep : Nat → Prop} {w0 w w' : World} {b b0 g : Nat} {r : Rc} {ps : List Part} {B : Bs} {L : Kn} (h : PtI S keep w0 b b0 g r ps B L w) (hb : Below w.heap.size w w') :
    PtI S (fun k => keep k ∨ w.heap.size ≤ k ∧ k < w'.heap.size) w0 b b0 g r ps B L w' := by
  refine ⟨h.pk.under hb, .inl h.kr, ?_, h.rc.below hb, fun j u hj => ?_, ?_⟩
  · rcases h.kg with hk | hk
    · exact .inl (.inl hk)
    · exact .inr hk
  · rcases h.lt with e | hlt
    · rw [e] at hj; simp [pc] at hj
    · exact (hb.cell (p := ⟨g, j, none⟩) hlt).trans (h.cs j u hj)
  · rcases h.lt with e | hlt
    · exact .inl e
    · exact .inr (Nat.lt_of_lt_of_le hlt hb.size)
theorem PtI.start {S : Nat → Prop} {w : World} {b : Nat} {r : Rc} {B : Bs} {L : Kn} (h : PK S b B L w) :
    ∃ keep, PtI S keep w b w.heap.size 0 r [] B L (w.alloc (.cells r.cells 25)) :=
  ⟨_, (PS.start h).under (one_box w (.cells r.cells 25)), .inr ⟨Nat.le_refl _, by simp⟩, .inr rfl, Ce.new w 25 r.cells, fun j u hj => by simp [pc] at hj, .inl rfl⟩
/-- Where the parts have come. -/
theorem PtI.row {S keep : Nat → Prop} {w0 w w' : World} {b b0 : Nat} {r : Rc} {ps : List Part} {B : Bs} {L : Kn} {v : Value} (h : PtI S keep w0 b b0 0 r [] B L w) (hb : Below w.heap.size w w') (hp : Pts w' w.heap.size v ps) :
    ∃ keep' g, PtI S keep' w0 b b0 g r ps B L w' ∧ ∃ a cap, v = .slice a ps.length cap ∧ (0 < ps.length → a = some ⟨g, 0, none⟩) := by
  have h1 := h.under hb
  obtain ⟨a, cap, rfl⟩ := row_slice hp
  by_cases hn : 0 < ps.length
  · obtain ⟨g, rfl, hg, hc⟩ := row_at hp hn
    have hlt := World.ownsRow.lt hp g rfl
    exact ⟨_, g, ⟨h1.pk, h1.kr, .inl (.inr ⟨hlt.1, hg⟩), h1.rc, hc, .inr hg⟩, _, cap, rfl, fun _ => rfl⟩
  · have e : ps = [] := List.length_eq_zero_iff.1 (by omega)
    subst e
    exact ⟨_, 0, h1, a, cap, rfl, fun h => absurd h hn⟩
theorem joinP_drop {ps : List Part} {k : Nat} {p : Part} (h : ps[k]? = some p) : joinP (ps.drop k) = p.2 ++ joinP (ps.drop (k + 1)) := by
  obtain ⟨hk, e⟩ := List.getElem?_eq_some_iff.1 h
  rw [List.drop_eq_getElem_cons hk, e]
  simp [joinP]
set_option maxRecDepth 100000 in
set_option maxHeartbeats 12800000 in
theorem put_yes (r : Rc) (hr : r.Ok) (g0 : rck r = 0) (S : Nat → Prop) (b : Nat) (B : Bs) (L : Kn) (w : World) (h : PK S b B L w) (hf : Fit B L) (hB : B.length ≤ 800000) :
    Calls Try.prog 24 #[ptr b, r.v] w fun e w' => e = .returned (.int .i64 0) ∧ Lft S b (rpB B L r) (rpL B L r) w w' := by
  have HC := Lib.hid (fun w => by have := rcheckrec_any r hr w; rw [g0] at this; exact this)
  obtain ⟨z1, z2, z3⟩ := rck_zero g0
  have HB : Hid (rpB B L r = ptB (rpD B L r).1 ((rpH B L r).length : Int) (((rpD B L r).1.length - ((rpH B L r).length + 2)) % 65536)) := Lib.hid (by unfold rpB; rw [if_pos g0])
  have HL : Hid (rpL B L r = (rpD B L r).2) := Lib.hid (by unfold rpL; rw [if_pos g0])
  have hlen := rpH_len hf g0
  have hfD : Fit (rpD B L r).1 (rpD B L r).2 ∧ (rpH B L r ++ word 0).length ≤ (rpD B L r).1.length ∧ (rpD B L r).1.length ≤ (rpH B L r ++ word 0).length + (joinP (pts r.t r.d.data.toList)).length := putD_fit (pts r.t r.d.data.toList) _ _ (hlen.2.2.app (word 0))
  have hjl : (joinP (pts r.t r.d.data.toList)).length ≤ 2000 := by rw [pts_join z3, ← size_list]; exact z2
  have hpl := pts_len _ _ z3
  have HS := Lib.hid (fun w => by have := split_any r.t hr.t r.d hr.d w; rw [(spl_pts z3).1, (spl_pts z3).2] at this; exact this)
  have hnl := (chk_zero.1 z1).2
  have hn1 := pk_le (pts := true) (n := r.n.data.toList) hf.l
  have HF := Lib.hid hf
  obtain ⟨keep0, hI⟩ := PtI.start (r := r) h
  have HI := Lib.hid hI
  clear hI
  have hDe : Hid (rpD B L r = putD (rpH B L r ++ word 0) (rpK B L r) (pts r.t r.d.data.toList)) := Lib.hid rfl
  have hHe : Hid (rpH B L r = pkB true B L r.n.data.toList ++ word r.t ++ word r.c ++ long r.l) := Lib.hid rfl
  have hKe : Hid (rpK B L r = pkL true B L r.n.data.toList) := Lib.hid rfl
  generalize rpD B L r = FD at HB HL hfD hDe
  generalize rpH B L r = FH at HB hlen hfD hDe hHe
  generalize rpK B L r = FK at hlen hfD hDe hKe
  generalize hps : pts r.t r.d.data.toList = ps at hfD hjl hpl HS hDe
  have HPS := Lib.hid hps
  have HFD := Lib.hid hfD
  obtain ⟨hl1, hl2, hl3⟩ := hlen
  have HFIT := Lib.hid hl3
  have hfl : (FD.1).length ≤ 810000 := by
    have h1 := hfD.2.2
    rw [List.length_append] at h1
    have h5 : (word 0).length = 2 := rfl
    omega
  have hfl2 : FH.length + 2 ≤ FD.1.length := by
    have h1 := hfD.2.1
    rw [List.length_append] at h1
    have h5 : (word 0).length = 2 := rfl
    omega
  have hfl3 : FD.1.length ≤ FH.length + 2002 := by
    have h1 := hfD.2.2
    rw [List.length_append] at h1
    have h5 : (word 0).length = 2 := rfl
    omega
  clear hps hl3 hfD
  obtain ⟨n, t, c, l, d⟩ := r
  obtain ⟨hn, hd, ht, hc, hl⟩ := hr
  simp only at hn hd ht hc hl z1 z2 z3 hjl HS hnl hn1 hHe hKe HPS
  have hli : 0 ≤ (l : Int) ∧ (l : Int) < 4294967296 := by omega
  clear z1 z2 z3
  go_enter Try.func24, Try.ntmps24
  go_wp2_with fail
  refine (HC.out _).mono ?_
  rintro e w1 ⟨rfl, hb1⟩
  have I1 := HI.out.under hb1
  have x0 := I1.rc.cell 0
  have x1 := I1.rc.cell 1
  have x2 := I1.rc.cell 2
  have x3 := I1.rc.cell 3
  simp at x0 x1 x2 x3
  obtain ⟨S1, hp1, hs1⟩ := I1.step
  have HS1 := Lib.hid hs1
  clear hb1 I1 hs1
  go_wp2_with fail
  refine (pname_any n hn true S1 b B L w1 hp1 (by omega) HF.out.l HF.out.k).mono ?_
  rintro e w2 ⟨rfl, hl2'⟩
  obtain ⟨keep2, I2, hsz2⟩ := HS1.out _ _ _ hl2'
  clear hl2' HS1 hp1 x0 x1 x2 x3
  have x1 := I2.rc.cell 1
  simp at x1
  obtain ⟨S2, hp2, hs2⟩ := I2.step
  have HS2 := Lib.hid hs2
  clear I2 hs2
  go_wp2_with fail
  refine (pword_any t ht S2 b _ _ w2 hp2 (by omega)).mono ?_
  rintro e w3 ⟨⟨v, rfl⟩, hl3⟩
  obtain ⟨keep3, I3, hsz3⟩ := HS2.out _ _ _ hl3
  clear hl3 HS2 hp2 x1
  have x2 := I3.rc.cell 2
  simp at x2
  obtain ⟨S3, hp3, hs3⟩ := I3.step
  have HS3 := Lib.hid hs3
  clear I3 hs3
  go_wp2_with fail
  refine (pword_any c hc S3 b _ _ w3 hp3 (by rw [List.length_append]; show _ + 2 + 2 ≤ _; omega)).mono ?_
  rintro e w4 ⟨⟨v, rfl⟩, hl4⟩
  obtain ⟨keep4, I4, hsz4⟩ := HS3.out _ _ _ hl4
  clear hl4 HS3 hp3 x2
  have x3 := I4.rc.cell 3
  simp at x3
  obtain ⟨S4, hp4, hs4⟩ := I4.step
  have HS4 := Lib.hid hs4
  clear I4 hs4
  go_wp2_with fail
  refine (plong_any (l : Int) hli.1 hli.2 S4 b _ _ w4 hp4 (by rw [List.length_append, List.length_append]; show _ + 2 + 2 + 4 ≤ _; omega)).mono ?_
  rintro e w5 ⟨⟨v, rfl⟩, hl5⟩
  obtain ⟨keep5, I5, hsz5⟩ := HS4.out _ _ _ hl5
  rw [Int.toNat_natCast] at I5
  rw [← hHe.out, ← hKe.out] at I5
  clear hl5 HS4 hp4 x3
  obtain ⟨S5, hp5, hs5⟩ := I5.step
  have HS5 := Lib.hid hs5
  clear I5 hs5
  go_wp2_with fail
  refine (plen_any S5 b _ _ w5 hp5).mono ?_
  rintro e w' ⟨rfl, rfl⟩
  go_wp2_with fail
  refine (pword_any 0 (by omega) S5 b _ _ w5 hp5 (by omega)).mono ?_
  rintro e w6 ⟨⟨v, rfl⟩, hl6⟩
  obtain ⟨keep6, I6, hsz6⟩ := HS5.out _ _ _ hl6
  clear hl6 HS5 hp5
  obtain ⟨S6, hp6, hs6⟩ := I6.step
  go_wp2_with fail
  refine (plen_any S6 b _ _ w6 hp6).mono ?_
  rintro e w' ⟨rfl, rfl⟩
  have x1 := I6.rc.cell 1
  have x4 := I6.rc.cell 4
  simp at x1 x4
  have HI6 := Lib.hid I6
  have hw6 : ((FH ++ word 0).length : Int) = (FH.length : Int) + 2 := by rw [List.length_append]; rfl
  rw [hw6]
  clear hs6 hp6 I6
  go_wp2_with fail
  refine (HS.out _).mono ?_
  rintro e w7 ⟨v, rfl, hp7, hb7⟩
  obtain ⟨keep7, g, I7, a, cap, rfl, hga⟩ := HI6.out.row hb7 hp7
  have HI7 := Lib.hid I7
  have HGA := Lib.hid hga
  obtain ⟨m, hm⟩ : ∃ m, m = ps.length := ⟨_, rfl⟩
  rw [← hm] at hpl HGA
  rw [← hm]
  have HM := Lib.hid hm
  have hmi : (m : Int) ≤ 3 := by omega
  clear hp7 hb7 I7 HI6 x1 x4 hga hm
  go_wp2
  go_loopw [51] (fun i wr => ∃ (k : Nat) (keep : Nat → Prop) (B' : Bs) (L' : Kn), k ≤ m ∧ i = .int .i64 k ∧ PtI S keep w b w.heap.size g ⟨n, t, c, l, d⟩ ps B' L' wr ∧ putD B' L' (ps.drop k) = FD ∧ Fit B' L' ∧ B'.length + (joinP (ps.drop k)).length ≤ 820000) (fun i _ => m - (intOf i).toNat)
  case atStart => exact ⟨0, keep7, FH ++ word 0, FK, by omega, rfl, HI7.out, by rw [List.drop_zero, hDe.out], HFIT.out.app _, by rw [List.drop_zero, List.length_append]; show _ + 2 + _ ≤ _; omega⟩
  case round =>
    clear HI7
    obtain ⟨k, keep, B', L', hk, rfl, hI, hD, hF, hBl⟩ := hrel
    by_cases hlt : k < m
    · have q1 : (k : Int) < (m : Int) := by omega
      obtain ⟨p, hp⟩ : ∃ p, ps[k]? = some p := ⟨_, List.getElem?_eq_getElem (by rw [← HM.out]; exact hlt)⟩
      have hga : a = some ⟨g, 0, none⟩ := HGA.out (by omega)
      subst hga
      obtain ⟨y1, y2⟩ := pc_get ps k p hp
      have d0 := hI.cs _ _ y1
      have d1 := hI.cs _ _ y2
      rw [putD_step hp] at hD
      have hj := joinP_drop hp
      rw [hj, List.length_append] at hBl
      obtain ⟨kd, x⟩ := p
      simp only at hD hBl d0 d1
      have I8 := hI.under (one_box wr (.cells #[.bool kd, str x] 64))
      obtain ⟨S8, hp8, hs8⟩ := I8.step
      have HS8 := Lib.hid hs8
      have HD := Lib.hid hD
      have HFF := Lib.hid hF
      have hl8 := pk_le (pts := true) (n := x) hF.l
      have hxs : (⟨x.toArray⟩ : ByteArray).size = x.length := rfl
      clear y1 y2 hI I8 hs8 hD hF hp hj
      cases kd with
      | true =>
        go_wp2_with fail
        refine (pname_any ⟨x.toArray⟩ (by rw [hxs]; omega) true S8 b B' L' _ hp8 (by omega) HFF.out.l HFF.out.k).mono ?_
        rintro e w9 ⟨rfl, hl9⟩
        obtain ⟨keep9, I9, hsz9⟩ := HS8.out _ _ _ hl9
        have HI9 := Lib.hid I9
        clear hl9 I9
        go_wp2
        go_roundw
        case rel => exact ⟨k + 1, keep9, _, _, by omega, by go_num, HI9.out, by simpa using HD.out, HFF.out.name true x, by omega⟩
        case measure => simp [intOf]; omega
      | false =>
        go_wp2_with fail
        refine (praw_any ⟨x.toArray⟩ S8 b B' L' _ hp8 (by rw [hxs]; omega)).mono ?_
        rintro e w9 ⟨⟨v, rfl⟩, hl9⟩
        obtain ⟨keep9, I9, hsz9⟩ := HS8.out _ _ _ hl9
        have HI9 := Lib.hid I9
        clear hl9 I9
        go_wp2
        go_roundw
        case rel => exact ⟨k + 1, keep9, _, _, by omega, by go_num, HI9.out, by simpa using HD.out, HFF.out.app x, by rw [List.length_append]; omega⟩
        case measure => simp [intOf]; omega
    · have q1 : decide ((k : Int) < (m : Int)) = false := by simp; omega
      have e : ps.drop k = [] := List.drop_eq_nil_of_le (by rw [← HM.out]; omega)
      rw [e] at hD
      simp only [putD] at hD
      subst hD
      simp only at HB HL hfl hfl2 hfl3
      obtain ⟨S8, hp8, hs8⟩ := hI.pk.step
      have HS8 := Lib.hid hs8
      clear hI hs8 e
      obtain ⟨fl, hfl'⟩ : ∃ fl : Nat, fl = FH.length := ⟨_, rfl⟩
      obtain ⟨bl, hbl'⟩ : ∃ bl : Nat, bl = B'.length := ⟨_, rfl⟩
      have CL := plen_any S8 b _ _ wr hp8
      rw [← hfl'] at hfl2 hfl3 HB
      rw [← hbl'] at hfl hfl2 hfl3 HB CL
      have CP := ppatch_any (fl : Int) ((bl - (fl + 2)) % 65536) (by omega) (by omega) S8 b B' L' wr hp8 (by omega)
      have hpe : ptE B' (fl : Int) = 0 := by unfold ptE; exact if_pos (by unfold PtOk; omega)
      rw [hpe] at CP
      have hx : (((bl - (fl + 2)) % 65536 : Nat) : Int) = (bl : Int) - ((fl : Int) + 2) := by omega
      rw [hx] at CP
      have HCL := Lib.hid CL
      have HCP := Lib.hid CP
      have hb1 : 0 ≤ (bl : Int) - ((fl : Int) + 2) := by omega
      have hb2 : (bl : Int) - ((fl : Int) + 2) < 65536 := by omega
      have hb3 : (bl : Int) ≤ 900000 := by omega
      have hb4 : 0 ≤ (fl : Int) := by omega
      subst hfl'
      clear CL CP hbl' hx hpe hBl hfl hfl2 hfl3 hl1 hl2
      go_wp2_with fail
      refine HCL.out.mono ?_
      rintro e w' ⟨rfl, rfl⟩
      go_wp2_with fail
      refine HCP.out.mono ?_
      rintro e w' ⟨rfl, hl9⟩
      go_wp2
      go_ret
      exact ⟨rfl, by rw [HB.out, HL.out]; exact (HS8.out _ _ _ hl9).1.left⟩
theorem rck_bd (r : Rc) : rck r = 0 ∨ rck r = 10 ∨ rck r = 11 := by
  have : chk r.n.data.toList = 0 ∨ chk r.n.data.toList = 10 ∨ chk r.n.data.toList = 11 := by unfold chk; split <;> (try split) <;> simp
  unfold rck; split
  · split
    · simp
    · split <;> simp
  · exact this
set_option maxRecDepth 100000 in
set_option maxHeartbeats 3200000 in
theorem put_no (r : Rc) (hr : r.Ok) (g0 : rck r ≠ 0) (b : Nat) (w : World) :
    Calls Try.prog 24 #[ptr b, r.v] w fun e w' => e = .returned (.int .i64 (rck r)) ∧ Below w.heap.size w w' := by
  have C := fun w => rcheckrec_any r hr w
  have hb := one_box w (.cells r.cells 25)
  generalize rck r = x at g0 C ⊢
  obtain ⟨n, t, c, l, d⟩ := r
  have HC := Lib.hid C
  have HB := Lib.hid hb
  have q : (x == 0) = false := by simpa using g0
  have q' : (x != 0) = true := by simpa using g0
  clear C hb g0
  go_enter Try.func24, Try.ntmps24
  go_wp2_with fail
  refine (HC.out _).mono ?_
  rintro e w1 ⟨rfl, hb1⟩
  go_wp2
  go_ret
  exact ⟨rfl, HB.out.trans (hb1.mono HB.out.size)⟩
/-- WHAT Put LEAVES, for every record and packer. -/
theorem putrec_any (r : Rc) (hr : r.Ok) (S : Nat → Prop) (b : Nat) (B : Bs) (L : Kn) (w : World) (h : PK S b B L w) (hf : Fit B L) (hB : B.length ≤ 800000) :
    Calls Try.prog 24 #[ptr b, r.v] w fun e w' => e = .returned (.int .i64 (rck r)) ∧ Lft S b (rpB B L r) (rpL B L r) w w' := by
  by_cases g : rck r = 0
  · rw [g]; exact put_yes r hr g S b B L w h hf hB
  · have e1 : rpB B L r = B := by unfold rpB; rw [if_neg g]
    have e2 : rpL B L r = L := by unfold rpL; rw [if_neg g]
    rw [e1, e2]
    exact (put_no r hr g b w).mono fun e w' ⟨h1, h2⟩ => ⟨h1, (Lft.refl h).post h2⟩
set_option maxRecDepth 100000 in
set_option maxHeartbeats 1600000 in
theorem put_none (r : Rc) (w : World) : Calls Try.prog 24 #[.pointer none, r.v] w fun e w' => e = .returned (.int .i64 1) ∧ Below w.heap.size w w' := by
  have hb := one_box w (.cells r.cells 25)
  obtain ⟨n, t, c, l, d⟩ := r
  have HB := Lib.hid hb
  clear hb
  go_enter Try.func24, Try.ntmps24
  go_wp2
  go_ret
  exact ⟨rfl, HB.out⟩
end Go.Proofs.Ytflpceaaelampaa
