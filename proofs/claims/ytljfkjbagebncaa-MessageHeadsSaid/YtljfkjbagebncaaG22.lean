/-
  PutWalk: What Put leaves, for every record and packer: the walk. No other older memory is changed.
  Recs: A list of records that comes in as an argument; a packer beside a list of records of the call's own.
  Ms: Questions, messages, and lists of questions and records in memory.
  MsOf: What a message's three lists are; a message with other ones. No older memory is changed.
  Nums: Whether a header has room for a message's numbers. No older memory is changed.
-/
import Derived.Test.YtljfkjbagebncaaG17
import Derived.Test.YtljfkjbagebncaaG14
import Derived.Test.YtljfkjbagebncaaG18

/- PutWalk -/
namespace Go.Proofs.Ytljfkjbagebncaa
open Go.RowKit
theorem pts_len (t : Nat) (d : Bs) (h : vld t d = true) : (pts t d).length ≤ 3 := by rw [← (spl_pts h).1]; exact (spl_len t d).1
theorem putD_step {B : Bs} {L : Kn} {ps : List Part} {k : Nat} {p : Part} (h : ps[k]? = some p) : putD B L (ps.drop k) = (if p.1 then putD (pkB true B L p.2) (pkL true B L p.2) (ps.drop (k + 1)) else putD (B ++ p.2) L (ps.drop (k + 1))) := by
  obtain ⟨hk, e⟩ := List.getElem?_eq_some_iff.1 h
  rw [List.drop_eq_getElem_cons hk, e]
  obtain ⟨b, x⟩ := p
  cases b <;> rfl
/-- What the loop over the parts knows: T: the parts' row; b0: the record's block. -/
structure PtI (S keep : Nat → Prop) (w0 : World) (b b0 g : Nat) (r : Rc) (ps : List Part) (B : Bs) (L : Kn) (w : World) : Prop where
  pk : PS S keep w0 b B L w
  kr : keep b0
  kg : keep g ∨ ps = []
  rc : Ce w b0 61 r.cells
  cs : ∀ j u, (pc ps)[j]? = some u → w.cell? ⟨g, j, none⟩ = some u
  lt : ps = [] ∨ g < w.heap.size
theorem PtI.step {S keep : Nat → Prop} {w0 w : World} {b b0 g : Nat} {r : Rc} {ps : List Part} {B : Bs} {L : Kn} (h : PtI S keep w0 b b0 g r ps B L w) :
    ∃ S', PK S' b B L w ∧ ∀ w' B' L', Lft S' b B' L' w w' → ∃ keep', PtI S keep' w0 b b0 g r ps B' L' w' ∧ w.heap.size ≤ w'.heap.size := by
  obtain ⟨S', h1, h2⟩ := h.pk.step
  refine ⟨S', h1, fun w' B' L' hl => ⟨fun k => keep k ∧ k < w.heap.size, ?_, (h2 w' B' L' hl).2.2⟩⟩
  obtain ⟨k1, k2, k3⟩ := h2 w' B' L' hl
  have hb0 : w'.heap[b0]? = w.heap[b0]? := k2 b0 h.kr h.rc.lt
  refine ⟨k1, ⟨h.kr, h.rc.lt⟩, ?_, hb0.trans h.rc, fun j u hj => ?_, ?_⟩
  · rcases h.kg with hk | hk
    · rcases h.lt with e | hlt
      · exact .inr e
      · exact .inl ⟨hk, hlt⟩
    · exact .inr hk
  · rcases h.kg with hk | hk
    · rcases h.lt with e | hlt
      · rw [e] at hj; simp [pc] at hj
      · have hg : w'.heap[g]? = w.heap[g]? := k2 g hk hlt
        exact (World.cell?_of_block (a := ⟨g, j, none⟩) hg).trans (h.cs j u hj)
    · rw [hk] at hj; simp [pc] at hj
  · rcases h.lt with e | hlt
    · exact .inl e
    · exact .inr (Nat.lt_of_lt_of_le hlt k3)
theorem PtI.under {S keep : Nat → Prop} {w0 w w' : World} {b b0 g : Nat} {r : Rc} {ps : List Part} {B : Bs} {L : Kn} (h : PtI S keep w0 b b0 g r ps B L w) (hb : Below w.heap.size w w') :
    PtI S (fun k => keep k ∨ w.heap.size ≤ k ∧ k < w'.heap.size) w0 b b0 g r ps B L w' := by
  refine ⟨h.pk.under hb, .inl h.kr, ?_, h.rc.below hb, fun j u hj => ?_, ?_⟩
  · rcases h.kg with hk | hk
    · exact .inl (.inl hk)
    · exact .inr hk
  · rcases h.lt with e | hlt
    · rw [e] at hj; simp [pc] at hj
    · exact (hb.cell (p := ⟨g, j, none⟩) hlt).trans (h.cs j u hj)
  · rcases h.lt with e | hlt
    · exact .inl e
    · exact .inr (Nat.lt_of_lt_of_le hlt hb.size)
theorem PtI.start {S : Nat → Prop} {w : World} {b : Nat} {r : Rc} {B : Bs} {L : Kn} (h : PK S b B L w) :
    ∃ keep, PtI S keep w b w.heap.size 0 r [] B L (w.alloc (.cells r.cells 61)) :=
  ⟨_, (PS.start h).under (one_box w (.cells r.cells 61)), .inr ⟨Nat.le_refl _, by simp⟩, .inr rfl, Ce.new w 61 r.cells, fun j u hj => by simp [pc] at hj, .inl rfl⟩
/-- Where the parts have come. -/
theorem PtI.row {S keep : Nat → Prop} {w0 w w' : World} {b b0 : Nat} {r : Rc} {ps : List Part} {B : Bs} {L : Kn} {v : Value} (h : PtI S keep w0 b b0 0 r [] B L w) (hb : Below w.heap.size w w') (hp : Pts w' w.heap.size v ps) :
    ∃ keep' g, PtI S keep' w0 b b0 g r ps B L w' ∧ ∃ a cap, v = .slice a ps.length cap ∧ (0 < ps.length → a = some ⟨g, 0, none⟩) := by
  have h1 := h.under hb
  obtain ⟨a, cap, rfl⟩ := row_slice hp
  by_cases hn : 0 < ps.length
  · obtain ⟨g, rfl, hg, hc⟩ := row_at hp hn
    have hlt := World.ownsRow.lt hp g rfl
    exact ⟨_, g, ⟨h1.pk, h1.kr, .inl (.inr ⟨hlt.1, hg⟩), h1.rc, hc, .inr hg⟩, _, cap, rfl, fun _ => rfl⟩
  · have e : ps = [] := List.length_eq_zero_iff.1 (by omega)
    subst e
    exact ⟨_, 0, h1, a, cap, rfl, fun h => absurd h hn⟩
theorem joinP_drop {ps : List Part} {k : Nat} {p : Part} (h : ps[k]? = some p) : joinP (ps.drop k) = p.2 ++ joinP (ps.drop (k + 1)) := by
  obtain ⟨hk, e⟩ := List.getElem?_eq_some_iff.1 h
  rw [List.drop_eq_getElem_cons hk, e]
  simp [joinP]
set_option maxRecDepth 100000 in
set_option maxHeartbeats 12800000 in
theorem put_yes (r : Rc) (hr : r.Ok) (g0 : rck r = 0) (S : Nat → Prop) (b : Nat) (B : Bs) (L : Kn) (w : World) (h : PK S b B L w) (hf : Fit B L) (hB : B.length ≤ 800000) :
    Calls Try.prog 64 #[ptr b, r.v] w fun e w' => e = .returned (.int .i64 0) ∧ Lft S b (rpB B L r) (rpL B L r) w w' := by
  have HC := Lib.hid (fun w => by have := rcheckrec_any r hr w; rw [g0] at this; exact this)
  obtain ⟨z1, z2, z3⟩ := rck_zero g0
  have HB : Hid (rpB B L r = ptB (rpD B L r).1 ((rpH B L r).length : Int) (((rpD B L r).1.length - ((rpH B L r).length + 2)) % 65536)) := Lib.hid (by unfold rpB; rw [if_pos g0])
  have HL : Hid (rpL B L r = (rpD B L r).2) := Lib.hid (by unfold rpL; rw [if_pos g0])
  have hlen := rpH_len hf g0
  have hfD : Fit (rpD B L r).1 (rpD B L r).2 ∧ (rpH B L r ++ word 0).length ≤ (rpD B L r).1.length ∧ (rpD B L r).1.length ≤ (rpH B L r ++ word 0).length + (joinP (pts r.t r.d.data.toList)).length := putD_fit (pts r.t r.d.data.toList) _ _ (hlen.2.2.app (word 0))
  have hjl : (joinP (pts r.t r.d.data.toList)).length ≤ 2000 := by rw [pts_join z3, ← size_list]; exact z2
  have hpl := pts_len _ _ z3
  have HS := Lib.hid (fun w => by have := split_any r.t hr.t r.d hr.d w; rw [(spl_pts z3).1, (spl_pts z3).2] at this; exact this)
  have hnl := (chk_zero.1 z1).2
  have hn1 := pk_le (pts := true) (n := r.n.data.toList) hf.l
  have HF := Lib.hid hf
  obtain ⟨keep0, hI⟩ := PtI.start (r := r) h
  have HI := Lib.hid hI
  clear hI
  have hDe : Hid (rpD B L r = putD (rpH B L r ++ word 0) (rpK B L r) (pts r.t r.d.data.toList)) := Lib.hid rfl
  have hHe : Hid (rpH B L r = pkB true B L r.n.data.toList ++ word r.t ++ word r.c ++ long r.l) := Lib.hid rfl
  have hKe : Hid (rpK B L r = pkL true B L r.n.data.toList) := Lib.hid rfl
  generalize rpD B L r = FD at HB HL hfD hDe
  generalize rpH B L r = FH at HB hlen hfD hDe hHe
  generalize rpK B L r = FK at hlen hfD hDe hKe
  generalize hps : pts r.t r.d.data.toList = ps at hfD hjl hpl HS hDe
  have HPS := Lib.hid hps
  have HFD := Lib.hid hfD
  obtain ⟨hl1, hl2, hl3⟩ := hlen
  have HFIT := Lib.hid hl3
  have hfl : (FD.1).length ≤ 810000 := by
    have h1 := hfD.2.2
    rw [List.length_append] at h1
    have h5 : (word 0).length = 2 := rfl
    omega
  have hfl2 : FH.length + 2 ≤ FD.1.length := by
    have h1 := hfD.2.1
    rw [List.length_append] at h1
    have h5 : (word 0).length = 2 := rfl
    omega
  have hfl3 : FD.1.length ≤ FH.length + 2002 := by
    have h1 := hfD.2.2
    rw [List.length_append] at h1
    have h5 : (word 0).length = 2 := rfl
    omega
  clear hps hl3 hfD
  obtain ⟨n, t, c, l, d⟩ := r
  obtain ⟨hn, hd, ht, hc, hl⟩ := hr
  simp only at hn hd ht hc hl z1 z2 z3 hjl HS hnl hn1 hHe hKe HPS
  have hli : 0 ≤ (l : Int) ∧ (l : Int) < 4294967296 := by omega
  clear z1 z2 z3
  go_enter Try.func64, Try.ntmps64
  go_wp2_with fail
  refine (HC.out _).mono ?_
  rintro e w1 ⟨rfl, hb1⟩
  have I1 := HI.out.under hb1
  have x0 := I1.rc.cell 0
  have x1 := I1.rc.cell 1
  have x2 := I1.rc.cell 2
  have x3 := I1.rc.cell 3
  simp at x0 x1 x2 x3
  obtain ⟨S1, hp1, hs1⟩ := I1.step
  have HS1 := Lib.hid hs1
  clear hb1 I1 hs1
  go_wp2_with fail
  refine (pname_any n hn true S1 b B L w1 hp1 (by omega) HF.out.l HF.out.k).mono ?_
  rintro e w2 ⟨rfl, hl2'⟩
  obtain ⟨keep2, I2, hsz2⟩ := HS1.out _ _ _ hl2'
  clear hl2' HS1 hp1 x0 x1 x2 x3
  have x1 := I2.rc.cell 1
  simp at x1
  obtain ⟨S2, hp2, hs2⟩ := I2.step
  have HS2 := Lib.hid hs2
  clear I2 hs2
  go_wp2_with fail
  refine (pword_any t ht S2 b _ _ w2 hp2 (by omega)).mono ?_
  rintro e w3 ⟨⟨v, rfl⟩, hl3⟩
  obtain ⟨keep3, I3, hsz3⟩ := HS2.out _ _ _ hl3
  clear hl3 HS2 hp2 x1
  have x2 := I3.rc.cell 2
  simp at x2
  obtain ⟨S3, hp3, hs3⟩ := I3.step
  have HS3 := Lib.hid hs3
  clear I3 hs3
  go_wp2_with fail
  refine (pword_any c hc S3 b _ _ w3 hp3 (by rw [List.length_append]; show _ + 2 + 2 ≤ _; omega)).mono ?_
  rintro e w4 ⟨⟨v, rfl⟩, hl4⟩
  obtain ⟨keep4, I4, hsz4⟩ := HS3.out _ _ _ hl4
  clear hl4 HS3 hp3 x2
  have x3 := I4.rc.cell 3
  simp at x3
  obtain ⟨S4, hp4, hs4⟩ := I4.step
  have HS4 := Lib.hid hs4
  clear I4 hs4
  go_wp2_with fail
  refine (plong_any (l : Int) hli.1 hli.2 S4 b _ _ w4 hp4 (by rw [List.length_append, List.length_append]; show _ + 2 + 2 + 4 ≤ _; omega)).mono ?_
  rintro e w5 ⟨⟨v, rfl⟩, hl5⟩
  obtain ⟨keep5, I5, hsz5⟩ := HS4.out _ _ _ hl5
  rw [Int.toNat_natCast] at I5
  rw [← hHe.out, ← hKe.out] at I5
  clear hl5 HS4 hp4 x3
  obtain ⟨S5, hp5, hs5⟩ := I5.step
  have HS5 := Lib.hid hs5
  clear I5 hs5
  go_wp2_with fail
  refine (plen_any S5 b _ _ w5 hp5).mono ?_
  rintro e w' ⟨rfl, rfl⟩
  go_wp2_with fail
  refine (pword_any 0 (by omega) S5 b _ _ w5 hp5 (by omega)).mono ?_
  rintro e w6 ⟨⟨v, rfl⟩, hl6⟩
  obtain ⟨keep6, I6, hsz6⟩ := HS5.out _ _ _ hl6
  clear hl6 HS5 hp5
  obtain ⟨S6, hp6, hs6⟩ := I6.step
  go_wp2_with fail
  refine (plen_any S6 b _ _ w6 hp6).mono ?_
  rintro e w' ⟨rfl, rfl⟩
  have x1 := I6.rc.cell 1
  have x4 := I6.rc.cell 4
  simp at x1 x4
  have HI6 := Lib.hid I6
  have hw6 : ((FH ++ word 0).length : Int) = (FH.length : Int) + 2 := by rw [List.length_append]; rfl
  rw [hw6]
  clear hs6 hp6 I6
  go_wp2_with fail
  refine (HS.out _).mono ?_
  rintro e w7 ⟨v, rfl, hp7, hb7⟩
  obtain ⟨keep7, g, I7, a, cap, rfl, hga⟩ := HI6.out.row hb7 hp7
  have HI7 := Lib.hid I7
  have HGA := Lib.hid hga
  obtain ⟨m, hm⟩ : ∃ m, m = ps.length := ⟨_, rfl⟩
  rw [← hm] at hpl HGA
  rw [← hm]
  have HM := Lib.hid hm
  have hmi : (m : Int) ≤ 3 := by omega
  clear hp7 hb7 I7 HI6 x1 x4 hga hm
  go_wp2
  go_loopw [51] (fun i wr => ∃ (k : Nat) (keep : Nat → Prop) (B' : Bs) (L' : Kn), k ≤ m ∧ i = .int .i64 k ∧ PtI S keep w b w.heap.size g ⟨n, t, c, l, d⟩ ps B' L' wr ∧ putD B' L' (ps.drop k) = FD ∧ Fit B' L' ∧ B'.length + (joinP (ps.drop k)).length ≤ 820000) (fun i _ => m - (intOf i).toNat)
  case atStart => exact ⟨0, keep7, FH ++ word 0, FK, by omega, rfl, HI7.out, by rw [List.drop_zero, hDe.out], HFIT.out.app _, by rw [List.drop_zero, List.length_append]; show _ + 2 + _ ≤ _; omega⟩
  case round =>
    clear HI7
    obtain ⟨k, keep, B', L', hk, rfl, hI, hD, hF, hBl⟩ := hrel
    by_cases hlt : k < m
    · have q1 : (k : Int) < (m : Int) := by omega
      obtain ⟨p, hp⟩ : ∃ p, ps[k]? = some p := ⟨_, List.getElem?_eq_getElem (by rw [← HM.out]; exact hlt)⟩
      have hga : a = some ⟨g, 0, none⟩ := HGA.out (by omega)
      subst hga
      obtain ⟨y1, y2⟩ := pc_get ps k p hp
      have d0 := hI.cs _ _ y1
      have d1 := hI.cs _ _ y2
      rw [putD_step hp] at hD
      have hj := joinP_drop hp
      rw [hj, List.length_append] at hBl
      obtain ⟨kd, x⟩ := p
      simp only at hD hBl d0 d1
      have I8 := hI.under (one_box wr (.cells #[.bool kd, str x] 138))
      obtain ⟨S8, hp8, hs8⟩ := I8.step
      have HS8 := Lib.hid hs8
      have HD := Lib.hid hD
      have HFF := Lib.hid hF
      have hl8 := pk_le (pts := true) (n := x) hF.l
      have hxs : (⟨x.toArray⟩ : ByteArray).size = x.length := rfl
      clear y1 y2 hI I8 hs8 hD hF hp hj
      cases kd with
      | true =>
        go_wp2_with fail
        refine (pname_any ⟨x.toArray⟩ (by rw [hxs]; omega) true S8 b B' L' _ hp8 (by omega) HFF.out.l HFF.out.k).mono ?_
        rintro e w9 ⟨rfl, hl9⟩
        obtain ⟨keep9, I9, hsz9⟩ := HS8.out _ _ _ hl9
        have HI9 := Lib.hid I9
        clear hl9 I9
        go_wp2
        go_roundw
        case rel => exact ⟨k + 1, keep9, _, _, by omega, by go_num, HI9.out, by simpa using HD.out, HFF.out.name true x, by omega⟩
        case measure => simp [intOf]; omega
      | false =>
        go_wp2_with fail
        refine (praw_any ⟨x.toArray⟩ S8 b B' L' _ hp8 (by rw [hxs]; omega)).mono ?_
        rintro e w9 ⟨⟨v, rfl⟩, hl9⟩
        obtain ⟨keep9, I9, hsz9⟩ := HS8.out _ _ _ hl9
        have HI9 := Lib.hid I9
        clear hl9 I9
        go_wp2
        go_roundw
        case rel => exact ⟨k + 1, keep9, _, _, by omega, by go_num, HI9.out, by simpa using HD.out, HFF.out.app x, by rw [List.length_append]; omega⟩
        case measure => simp [intOf]; omega
    · have q1 : decide ((k : Int) < (m : Int)) = false := by simp; omega
      have e : ps.drop k = [] := List.drop_eq_nil_of_le (by rw [← HM.out]; omega)
      rw [e] at hD
      simp only [putD] at hD
      subst hD
      simp only at HB HL hfl hfl2 hfl3
      obtain ⟨S8, hp8, hs8⟩ := hI.pk.step
      have HS8 := Lib.hid hs8
      clear hI hs8 e
      obtain ⟨fl, hfl'⟩ : ∃ fl : Nat, fl = FH.length := ⟨_, rfl⟩
      obtain ⟨bl, hbl'⟩ : ∃ bl : Nat, bl = B'.length := ⟨_, rfl⟩
      have CL := plen_any S8 b _ _ wr hp8
      rw [← hfl'] at hfl2 hfl3 HB
      rw [← hbl'] at hfl hfl2 hfl3 HB CL
      have CP := ppatch_any (fl : Int) ((bl - (fl + 2)) % 65536) (by omega) (by omega) S8 b B' L' wr hp8 (by omega)
      have hpe : ptE B' (fl : Int) = 0 := by unfold ptE; exact if_pos (by unfold PtOk; omega)
      rw [hpe] at CP
      have hx : (((bl - (fl + 2)) % 65536 : Nat) : Int) = (bl : Int) - ((fl : Int) + 2) := by omega
      rw [hx] at CP
      have HCL := Lib.hid CL
      have HCP := Lib.hid CP
      have hb1 : 0 ≤ (bl : Int) - ((fl : Int) + 2) := by omega
      have hb2 : (bl : Int) - ((fl : Int) + 2) < 65536 := by omega
      have hb3 : (bl : Int) ≤ 900000 := by omega
      have hb4 : 0 ≤ (fl : Int) := by omega
      subst hfl'
      clear CL CP hbl' hx hpe hBl hfl hfl2 hfl3 hl1 hl2
      go_wp2_with fail
      refine HCL.out.mono ?_
      rintro e w' ⟨rfl, rfl⟩
      go_wp2_with fail
      refine HCP.out.mono ?_
      rintro e w' ⟨rfl, hl9⟩
      go_wp2
      go_ret
      exact ⟨rfl, by rw [HB.out, HL.out]; exact (HS8.out _ _ _ hl9).1.left⟩
theorem rck_bd (r : Rc) : rck r = 0 ∨ rck r = 10 ∨ rck r = 11 := by
  have : chk r.n.data.toList = 0 ∨ chk r.n.data.toList = 10 ∨ chk r.n.data.toList = 11 := by unfold chk; split <;> (try split) <;> simp
  unfold rck; split
  · split
    · simp
    · split <;> simp
  · exact this
set_option maxRecDepth 100000 in
set_option maxHeartbeats 3200000 in
theorem put_no (r : Rc) (hr : r.Ok) (g0 : rck r ≠ 0) (b : Nat) (w : World) :
    Calls Try.prog 64 #[ptr b, r.v] w fun e w' => e = .returned (.int .i64 (rck r)) ∧ Below w.heap.size w w' := by
  have C := fun w => rcheckrec_any r hr w
  have hb := one_box w (.cells r.cells 61)
  generalize rck r = x at g0 C ⊢
  obtain ⟨n, t, c, l, d⟩ := r
  have HC := Lib.hid C
  have HB := Lib.hid hb
  have q : (x == 0) = false := by simpa using g0
  have q' : (x != 0) = true := by simpa using g0
  clear C hb g0
  go_enter Try.func64, Try.ntmps64
  go_wp2_with fail
  refine (HC.out _).mono ?_
  rintro e w1 ⟨rfl, hb1⟩
  go_wp2
  go_ret
  exact ⟨rfl, HB.out.trans (hb1.mono HB.out.size)⟩
/-- WHAT Put LEAVES, for every record and packer. -/
theorem putrec_any (r : Rc) (hr : r.Ok) (S : Nat → Prop) (b : Nat) (B : Bs) (L : Kn) (w : World) (h : PK S b B L w) (hf : Fit B L) (hB : B.length ≤ 800000) :
    Calls Try.prog 64 #[ptr b, r.v] w fun e w' => e = .returned (.int .i64 (rck r)) ∧ Lft S b (rpB B L r) (rpL B L r) w w' := by
  by_cases g : rck r = 0
  · rw [g]; exact put_yes r hr g S b B L w h hf hB
  · have e1 : rpB B L r = B := by unfold rpB; rw [if_neg g]
    have e2 : rpL B L r = L := by unfold rpL; rw [if_neg g]
    rw [e1, e2]
    exact (put_no r hr g b w).mono fun e w' ⟨h1, h2⟩ => ⟨h1, (Lft.refl h).post h2⟩
set_option maxRecDepth 100000 in
set_option maxHeartbeats 1600000 in
theorem put_none (r : Rc) (w : World) : Calls Try.prog 64 #[.pointer none, r.v] w fun e w' => e = .returned (.int .i64 1) ∧ Below w.heap.size w w' := by
  have hb := one_box w (.cells r.cells 61)
  obtain ⟨n, t, c, l, d⟩ := r
  have HB := Lib.hid hb
  clear hb
  go_enter Try.func64, Try.ntmps64
  go_wp2
  go_ret
  exact ⟨rfl, HB.out⟩
end Go.Proofs.Ytljfkjbagebncaa

/- Recs -/
namespace Go.Proofs.Ytljfkjbagebncaa
open Go.ChangeShapes Go.WideShapes Go.ChangeAt Go.RowKit Go.Deep
theorem add_lit (b off j : Nat) : (⟨b, off, none⟩ : Addr).add j = ⟨b, off + j, none⟩ := by unfold Addr.add; split <;> simp_all
/-- A record's five cells. -/
def RcAt (W : World) (b k : Nat) (r : Rc) : Prop := W.cell? ⟨b, k, none⟩ = some (.string r.n) ∧ W.cell? ⟨b, k + 1, none⟩ = some (.int .u16 (r.t : Int)) ∧ W.cell? ⟨b, k + 2, none⟩ = some (.int .u16 (r.c : Int)) ∧ W.cell? ⟨b, k + 3, none⟩ = some (.int .u32 (r.l : Int)) ∧ W.cell? ⟨b, k + 4, none⟩ = some (.string r.d)
/-- Records that came in. -/
def Camr (W : World) (a : Option Addr) (len : Nat) : Prop := len = 0 ∨ ∃ b off, ∃ rs : Nat → Rc, a = some ⟨b, off, none⟩ ∧ b < W.heap.size ∧ (∀ k, (rs k).Num) ∧ ∀ k, k < len → RcAt W b (off + k * 5) (rs k)
set_option maxRecDepth 100000 in
theorem rcs_of {H : Type} {enc : TypeId × Value → H} {W : World} {a0 : Option Addr} {len cap fuel : Nat} {x : DataW H × List MemPlace}
    (hf : DataW.trod enc Try.prog W 0 (fun _ => true) true fuel 24 [.slice a0 len cap] = some x) :
    Camr W a0 len ∧ ∀ p ∈ x.2, p.block < W.heap.size := by
  rcases open_slice Try.underlying24 hf with ⟨hcs, hx⟩ | ⟨a, len', cap', m, n, D, Pl, hcs, _, hl, _, hm, hx, hi⟩
  · simp at hcs
    obtain ⟨rfl, rfl, rfl⟩ := hcs
    subst hx
    exact ⟨.inl rfl, fun p hp => by cases hp⟩
  · simp at hcs
    obtain ⟨rfl, rfl, rfl⟩ := hcs
    simp only [if_true] at hm
    rw [cellsOf25] at hi hx
    have H1 : ∀ i, i < m → ∃ r : Rc, r.Num ∧ Pl i = [] ∧ W.cell? ((a.add (i * 5)).add 0) = some (.string r.n) ∧ W.cell? ((a.add (i * 5)).add 1) = some (.int .u16 (r.t : Int)) ∧ W.cell? ((a.add (i * 5)).add 2) = some (.int .u16 (r.c : Int)) ∧ W.cell? ((a.add (i * 5)).add 3) = some (.int .u32 (r.l : Int)) ∧ W.cell? ((a.add (i * 5)).add 4) = some (.string r.d) := by
      intro i him
      obtain ⟨cs', hc, ht⟩ := hi i him
      obtain ⟨_, hcl, hat⟩ := World.cells?_some hc
      obtain ⟨r, hr, he, hp⟩ := rc_cells hcl ht
      subst he
      exact ⟨r, hr, hp, by simpa using hat 0 (by decide), by simpa using hat 1 (by decide), by simpa using hat 2 (by decide), by simpa using hat 3 (by decide), by simpa using hat 4 (by decide)⟩
    have hblk : 0 < m → a.block < W.heap.size ∧ a.spot = none := by
      intro h0
      obtain ⟨o, _, _, c0, _⟩ := H1 0 h0
      have e : (a.add (0 * 5)).add 0 = a := by simp [Addr.add]
      rw [e] at c0
      exact ⟨W.block_lt_of_cell? _ c0, World.cell?_spot c0⟩
    refine ⟨?_, fun p hp => ?_⟩
    · by_cases h0 : len = 0
      · exact .inl h0
      · obtain ⟨hb, hs⟩ := hblk (by omega)
        obtain ⟨b, off, spot⟩ := a
        obtain rfl : spot = none := hs
        have H2 : ∀ k, ∃ r : Rc, r.Num ∧ (k < m → RcAt W b (off + k * 5) r) := by
          intro k
          by_cases hk : k < m
          · obtain ⟨r, hr, _, c0, c1, c2, c3, c4⟩ := H1 k hk
            simp only [add_lit, Nat.add_zero] at c0 c1 c2 c3 c4
            exact ⟨r, hr, fun _ => ⟨c0, c1, c2, c3, c4⟩⟩
          · exact ⟨⟨ByteArray.empty, 0, 0, 0, ByteArray.empty⟩, ⟨by show 0 < _; omega, by show 0 < _; omega, by show 0 < _; omega⟩, fun h => absurd h hk⟩
        obtain ⟨rs, hrs⟩ := Classical.axiomOfChoice H2
        exact .inr ⟨b, off, rs, rfl, hb, fun k => (hrs k).1, fun k hk => (hrs k).2 (by omega)⟩
    · rw [hx] at hp
      rcases List.mem_append.1 hp with hp | hp
      · obtain ⟨i, hi2, rfl⟩ := MemPlace.mem_row.1 hp
        have := (hblk (by omega)).1
        exact this
      · obtain ⟨i, hi2, hpi⟩ := List.mem_flatMap.1 hp
        obtain ⟨_, _, hz, _⟩ := H1 i (List.mem_range.1 hi2)
        rw [hz] at hpi
        cases hpi
/-- Records as cells. -/
abbrev rcc (rs : List Rc) : List Value := rs.flatMap fun r => r.cells.toList
theorem rcc_get (rs : List Rc) (j : Nat) (r : Rc) (h : rs[j]? = some r) : (rcc rs)[j * 5]? = some (.string r.n) ∧ (rcc rs)[j * 5 + 1]? = some (.int .u16 (r.t : Int)) ∧ (rcc rs)[j * 5 + 2]? = some (.int .u16 (r.c : Int)) ∧ (rcc rs)[j * 5 + 3]? = some (.int .u32 (r.l : Int)) ∧ (rcc rs)[j * 5 + 4]? = some (.string r.d) := by
  induction rs generalizing j with
  | nil => simp at h
  | cons q L ih =>
    have e : rcc (q :: L) = .string q.n :: .int .u16 (q.t : Int) :: .int .u16 (q.c : Int) :: .int .u32 (q.l : Int) :: .string q.d :: rcc L := rfl
    rw [e]
    cases j with
    | zero => simp at h; subst h; exact ⟨rfl, rfl, rfl, rfl, rfl⟩
    | succ j =>
      have := ih j (by simpa using h)
      rw [show (j + 1) * 5 = j * 5 + 1 + 1 + 1 + 1 + 1 by omega]
      simpa [Nat.add_assoc] using this
theorem rcc_snoc (rs : List Rc) (r : Rc) : rcc (rs ++ [r]) = rcc rs ++ r.cells.toList := by simp [rcc]
theorem info25 : (Try.prog.info? 61).map (fun i => (i.zero, i.size, i.bytes)) = some (some (.agg #[.string ⟨#[]⟩, .int .u16 0, .int .u16 0, .int .u32 0, .string ⟨#[]⟩]), 5, 40) := by kernel_rfl
/-- A packer, records of the call's own, and blocks that hold what they held. -/
def BR (w0 : World) (b : Nat) (K : List (Nat × Obj)) (B : Bs) (L : Kn) (v : Value) (rs : List Rc) (w : World) : Prop :=
  ∃ keep, PS (w0.heap.size ≤ ·) keep w0 b B L w ∧ (w.ownsRow w0.heap.size 61 5 v rs.length (rcc rs) ∧ ∀ k, v.ownBlock = some k → keep k) ∧ ∀ p ∈ K, keep p.1 ∧ w.heap[p.1]? = some p.2
theorem BR.step {w0 w : World} {b : Nat} {K : List (Nat × Obj)} {B : Bs} {L : Kn} {v : Value} {rs : List Rc} (h : BR w0 b K B L v rs w) :
    ∃ S', PK S' b B L w ∧ ∀ w' B' L', Lft S' b B' L' w w' → BR w0 b K B' L' v rs w' ∧ w.heap.size ≤ w'.heap.size := by
  obtain ⟨keep, h1, ⟨hr, hrk⟩, h2⟩ := h
  obtain ⟨S', k1, k2⟩ := h1.step
  refine ⟨S', k1, fun w' B' L' hl => ?_⟩
  obtain ⟨j1, j2, j3⟩ := k2 w' B' L' hl
  refine ⟨⟨_, j1, ⟨?_, fun k hk => ⟨hrk k hk, row_lt hr k hk⟩⟩, fun p hp => ?_⟩, j3⟩
  · obtain ⟨q1, q2⟩ := hr
    refine ⟨q1, ?_⟩
    rcases q2 with q2 | ⟨g, cap, cur, rfl, hb, hg, r⟩
    · exact .inl q2
    · exact .inr ⟨g, cap, cur, rfl, hb, (j2 g (hrk g rfl) (Array.getElem?_eq_some_iff.1 hg).1).trans hg, r⟩
  · obtain ⟨m1, m2⟩ := h2 p hp
    have hlt : p.1 < w.heap.size := (Array.getElem?_eq_some_iff.1 m2).1
    exact ⟨⟨m1, hlt⟩, (j2 _ m1 hlt).trans m2⟩
theorem BR.under {w0 w w' : World} {b : Nat} {K : List (Nat × Obj)} {B : Bs} {L : Kn} {v : Value} {rs : List Rc} (h : BR w0 b K B L v rs w) (hb : Below w.heap.size w w') : BR w0 b K B L v rs w' := by
  obtain ⟨keep, h1, ⟨hr, hrk⟩, h2⟩ := h
  refine ⟨_, h1.under hb, ⟨row_tr hr (Tr.of_below (S := fun _ => False) hb) (fun _ _ h => h), fun k hk => .inl (hrk k hk)⟩, fun p hp => ?_⟩
  obtain ⟨m1, m2⟩ := h2 p hp
  exact ⟨.inl m1, (hb.block _ (Array.getElem?_eq_some_iff.1 m2).1).trans m2⟩
theorem BR.alloc {w0 w : World} {b : Nat} {K : List (Nat × Obj)} {B : Bs} {L : Kn} {v : Value} {rs : List Rc} (h : BR w0 b K B L v rs w) (o : Obj) : BR w0 b ((w.heap.size, o) :: K) B L v rs (w.alloc o) := by
  obtain ⟨keep, h1, ⟨hr, hrk⟩, h2⟩ := h
  have hb := one_box w o
  refine ⟨_, h1.under hb, ⟨row_tr hr (Tr.of_below (S := fun _ => False) hb) (fun _ _ h => h), fun k hk => .inl (hrk k hk)⟩, fun p hp => ?_⟩
  rcases List.mem_cons.1 hp with rfl | hp
  · exact ⟨.inr ⟨Nat.le_refl _, by simp⟩, World.alloc_heap_new w o⟩
  · obtain ⟨m1, m2⟩ := h2 p hp
    exact ⟨.inl m1, (hb.block _ (Array.getElem?_eq_some_iff.1 m2).1).trans m2⟩
theorem BR.forget {w0 w : World} {b : Nat} {K : List (Nat × Obj)} {B : Bs} {L : Kn} {v : Value} {rs : List Rc} (h : BR w0 b K B L v rs w) : BR w0 b [] B L v rs w :=
  let ⟨keep, h1, h2, _⟩ := h
  ⟨keep, h1, h2, fun p hp => by cases hp⟩
theorem BR.ce {w0 w : World} {b g : Nat} {T : TypeId} {cs : Array Value} {K : List (Nat × Obj)} {B : Bs} {L : Kn} {v : Value} {rs : List Rc} (h : BR w0 b K B L v rs w) (hm : (g, Obj.cells cs T (0, 0)) ∈ K) : Ce w g T cs := by
  obtain ⟨keep, h1, _, h2⟩ := h
  exact (h2 _ hm).2
theorem BR.row {w0 w : World} {b : Nat} {K : List (Nat × Obj)} {B : Bs} {L : Kn} {v : Value} {rs : List Rc} (h : BR w0 b K B L v rs w) : w.ownsRow w0.heap.size 61 5 v rs.length (rcc rs) := let ⟨_, _, h2, _⟩ := h; h2.1
theorem BR.below {w0 w : World} {b : Nat} {K : List (Nat × Obj)} {B : Bs} {L : Kn} {v : Value} {rs : List Rc} (h : BR w0 b K B L v rs w) : Below w0.heap.size w0 w := by
  obtain ⟨keep, ⟨S', h1, h2, h3⟩, _⟩ := h
  exact h3.below (Nat.le_refl _) fun k hk => hk
theorem BR.start {w w1 : World} {b : Nat} (h : PK (w.heap.size ≤ ·) b [] [] w1) (hb : Below w.heap.size w w1) : BR w b [] [] [] (.slice none 0 0) [] w1 :=
  ⟨fun k => k < w.heap.size, ⟨_, h.lt, fun k hk => ⟨hk.2, .inl hk.1, fun h => by have := hk.1; omega⟩, Tr.of_below hb⟩, ⟨World.ownsRow_nil _ _ _ _, fun k hk => by simp [Value.ownBlock] at hk⟩, fun p hp => by cases hp⟩
/-- Behind the append of a record to the call's own ones. -/
theorem BR.app {w0 w1 w2 : World} {b : Nat} {K : List (Nat × Obj)} {B : Bs} {L : Kn} {v v' : Value} {rs : List Rc} {r : Rc} {o : Obj} (h : BR w0 b K B L v rs w1)
    (hown : w2.ownsRow w0.heap.size 61 5 v' (rs.length + 1) (rcc rs ++ r.cells.toList)) (hg : (w1.alloc o).grownBy w2 v.ownBlock) (hat : v'.ownBlock = v.ownBlock ∨ v'.ownBlock = some (w1.alloc o).heap.size) :
    BR w0 b [] B L v' (rs ++ [r]) w2 := by
  obtain ⟨keep, ⟨S', h1, h2, h3⟩, ⟨hr, hrk⟩, _⟩ := h
  have hal := one_box w1 o
  have hrl := World.ownsRow.lt hr
  have t1 : Tr (fun k => v.ownBlock = some k) w1 w2 := (Tr.of_below hal).grown hg (fun k hk => .inl hk)
  have hsz : w1.heap.size + 1 ≤ w2.heap.size := by have := hg.size; simpa using this
  refine ⟨fun k => keep k ∨ w1.heap.size ≤ k ∧ k < w2.heap.size, ⟨S', h1.tr t1 (fun k _ hs hk => (h2 k hs).2.2 (hrk k hk)), fun k hk => ?_, ?_⟩, ⟨?_, fun k hk => ?_⟩, fun p hp => by cases hp⟩
  · obtain ⟨k1, k2, k3⟩ := h2 k hk
    exact ⟨by omega, k2, fun h => by rcases h with h | h; exact k3 h; omega⟩
  · exact h3.trans t1 (fun k hk => .inr (hrl k hk).1)
  · rw [rcc_snoc, List.length_append]; exact hown
  · rcases hat with e | e
    · exact .inl (hrk k (by rw [← e]; exact hk))
    · rw [e] at hk
      injection hk with hk
      have hl := row_lt hown k (by rw [e, hk])
      rw [World.size_alloc] at hk
      exact .inr ⟨by omega, hl⟩
end Go.Proofs.Ytljfkjbagebncaa

/- Ms -/
namespace Go.Proofs.Ytljfkjbagebncaa
open Go.RowKit
/-- A question. -/
structure Qn where
  n : ByteArray
  t : Nat
  c : Nat
abbrev Qn.cells (q : Qn) : Array Value := #[.string q.n, .int .u16 (q.t : Int), .int .u16 (q.c : Int)]
abbrev Qn.v (q : Qn) : Value := .agg q.cells
structure Qn.Num (q : Qn) : Prop where
  t : q.t < 65536
  c : q.c < 65536
/-- A question's three cells. -/
def QnAt (W : World) (b k : Nat) (q : Qn) : Prop := W.cell? ⟨b, k, none⟩ = some (.string q.n) ∧ W.cell? ⟨b, k + 1, none⟩ = some (.int .u16 (q.t : Int)) ∧ W.cell? ⟨b, k + 2, none⟩ = some (.int .u16 (q.c : Int))
/-- A slice. -/
structure Sl where
  a : Option Addr
  n : Nat
  c : Nat
abbrev Sl.v (s : Sl) : Value := .slice s.a s.n s.c
/-- A slice that reads as these questions. -/
def RdQ (w : World) (s : Sl) (qs : List Qn) : Prop := s.n = qs.length ∧ (qs = [] ∨ ∃ b off, s.a = some ⟨b, off, none⟩ ∧ b < w.heap.size ∧ ∀ j q, qs[j]? = some q → QnAt w b (off + j * 3) q)
/-- A slice that reads as these records. -/
def RdR (w : World) (s : Sl) (rs : List Rc) : Prop := s.n = rs.length ∧ (rs = [] ∨ ∃ b off, s.a = some ⟨b, off, none⟩ ∧ b < w.heap.size ∧ ∀ j r, rs[j]? = some r → RcAt w b (off + j * 5) r)
theorem RdQ.below {w w' : World} {s : Sl} {qs : List Qn} (h : RdQ w s qs) (hb : Below w.heap.size w w') : RdQ w' s qs := by
  refine ⟨h.1, ?_⟩
  rcases h.2 with h | ⟨b, off, e, hlt, hc⟩
  · exact .inl h
  · exact .inr ⟨b, off, e, Nat.lt_of_lt_of_le hlt hb.size, fun j q hj => by
      obtain ⟨c0, c1, c2⟩ := hc j q hj
      exact ⟨(hb.cell (p := ⟨b, off + j * 3, none⟩) hlt).trans c0, (hb.cell (p := ⟨b, off + j * 3 + 1, none⟩) hlt).trans c1, (hb.cell (p := ⟨b, off + j * 3 + 2, none⟩) hlt).trans c2⟩⟩
theorem RdR.below {w w' : World} {s : Sl} {rs : List Rc} (h : RdR w s rs) (hb : Below w.heap.size w w') : RdR w' s rs := by
  refine ⟨h.1, ?_⟩
  rcases h.2 with h | ⟨b, off, e, hlt, hc⟩
  · exact .inl h
  · exact .inr ⟨b, off, e, Nat.lt_of_lt_of_le hlt hb.size, fun j r hj => by
      obtain ⟨c0, c1, c2, c3, c4⟩ := hc j r hj
      exact ⟨(hb.cell (p := ⟨b, off + j * 5, none⟩) hlt).trans c0, (hb.cell (p := ⟨b, off + j * 5 + 1, none⟩) hlt).trans c1, (hb.cell (p := ⟨b, off + j * 5 + 2, none⟩) hlt).trans c2, (hb.cell (p := ⟨b, off + j * 5 + 3, none⟩) hlt).trans c3, (hb.cell (p := ⟨b, off + j * 5 + 4, none⟩) hlt).trans c4⟩⟩
theorem rdq_nil (w : World) : RdQ w ⟨none, 0, 0⟩ [] := ⟨rfl, .inl rfl⟩
theorem rdr_nil (w : World) : RdR w ⟨none, 0, 0⟩ [] := ⟨rfl, .inl rfl⟩
/-- The k-th question. -/
theorem RdQ.get {w : World} {s : Sl} {qs : List Qn} (h : RdQ w s qs) {k : Nat} {q : Qn} (hk : qs[k]? = some q) :
    ∃ b off, s.a = some ⟨b, off, none⟩ ∧ b < w.heap.size ∧ QnAt w b (off + k * 3) q := by
  rcases h.2 with h | ⟨b, off, e, hlt, hc⟩
  · subst h; simp at hk
  · exact ⟨b, off, e, hlt, hc k q hk⟩
theorem RdR.get {w : World} {s : Sl} {rs : List Rc} (h : RdR w s rs) {k : Nat} {r : Rc} (hk : rs[k]? = some r) :
    ∃ b off, s.a = some ⟨b, off, none⟩ ∧ b < w.heap.size ∧ RcAt w b (off + k * 5) r := by
  rcases h.2 with h | ⟨b, off, e, hlt, hc⟩
  · subst h; simp at hk
  · exact ⟨b, off, e, hlt, hc k r hk⟩
/-- A message. -/
structure Ms where
  id : Nat
  r : Bool
  a : Bool
  t : Bool
  d : Bool
  v : Bool
  op : Int
  cd : Int
  qs : List Qn
  an : List Rc
  au : List Rc
  ex : List Rc
abbrev mc (id : Nat) (r a t d v : Bool) (op cd : Int) (q x y z : Sl) : Array Value :=
  #[.int .u16 (id : Int), .bool r, .bool a, .bool t, .bool d, .bool v, .int .i64 op, .int .i64 cd, q.v, x.v, y.v, z.v]
abbrev Ms.cells (m : Ms) (q x y z : Sl) : Array Value := mc m.id m.r m.a m.t m.d m.v m.op m.cd q x y z
/-- The lists that a message's slices read as. -/
structure Lay (w : World) (m : Ms) (q x y z : Sl) : Prop where
  q : RdQ w q m.qs
  x : RdR w x m.an
  y : RdR w y m.au
  z : RdR w z m.ex
theorem Lay.below {w w' : World} {m : Ms} {q x y z : Sl} (h : Lay w m q x y z) (hb : Below w.heap.size w w') : Lay w' m q x y z :=
  ⟨h.q.below hb, h.x.below hb, h.y.below hb, h.z.below hb⟩
section
variable {fn : Func} {w : World} {tmps : Array Value} {n m : Nat}
theorem c12 {T : TypeId} {v0 v1 v2 v3 v4 v5 v6 v7 v8 v9 v10 v11 : Value} (h : Ce w n T #[v0, v1, v2, v3, v4, v5, v6, v7, v8, v9, v10, v11]) :
    w.cell? ⟨n, 0, none⟩ = some v0 ∧ w.cell? ⟨n, 1, none⟩ = some v1 ∧ w.cell? ⟨n, 2, none⟩ = some v2 ∧ w.cell? ⟨n, 3, none⟩ = some v3 ∧ w.cell? ⟨n, 4, none⟩ = some v4 ∧ w.cell? ⟨n, 5, none⟩ = some v5 ∧
    w.cell? ⟨n, 6, none⟩ = some v6 ∧ w.cell? ⟨n, 7, none⟩ = some v7 ∧ w.cell? ⟨n, 8, none⟩ = some v8 ∧ w.cell? ⟨n, 9, none⟩ = some v9 ∧ w.cell? ⟨n, 10, none⟩ = some v10 ∧ w.cell? ⟨n, 11, none⟩ = some v11 := by
  refine ⟨?_, ?_, ?_, ?_, ?_, ?_, ?_, ?_, ?_, ?_, ?_, ?_⟩ <;> (rw [h.cell]; rfl)
theorem f12 {T : TypeId} {cs : Array Value} (h : Ce w n T cs) :
    w.frozen? ⟨n, 0, none⟩ = false ∧ w.frozen? ⟨n, 1, none⟩ = false ∧ w.frozen? ⟨n, 2, none⟩ = false ∧ w.frozen? ⟨n, 3, none⟩ = false ∧ w.frozen? ⟨n, 4, none⟩ = false ∧ w.frozen? ⟨n, 5, none⟩ = false ∧
    w.frozen? ⟨n, 6, none⟩ = false ∧ w.frozen? ⟨n, 7, none⟩ = false ∧ w.frozen? ⟨n, 8, none⟩ = false ∧ w.frozen? ⟨n, 9, none⟩ = false ∧ w.frozen? ⟨n, 10, none⟩ = false ∧ w.frozen? ⟨n, 11, none⟩ = false :=
  ⟨h.frozen 0, h.frozen 1, h.frozen 2, h.frozen 3, h.frozen 4, h.frozen 5, h.frozen 6, h.frozen 7, h.frozen 8, h.frozen 9, h.frozen 10, h.frozen 11⟩
theorem res3 {t : Tmp} (h : fn.results = #[.cell t 56]) (e1 : tmps.getD t undef = ptr n) {v0 v1 v2 : Value} (h1 : Ce w n 56 #[v0, v1, v2]) :
    (results fn tmps).run Try.prog w = .ok (.agg #[v0, v1, v2]) w := by
  obtain ⟨a0, a1, a2⟩ := c3 h1
  rw [Array.getD_eq_getD_getElem?] at e1
  simp [results, h, e1, go_sem, a0, a1, a2]
theorem res3q {t u v : Tmp} (h : fn.results = #[.cell t 44, .tmp u, .tmp v]) (e1 : tmps.getD t undef = ptr n) {v0 v1 v2 : Value} (h1 : Ce w n 44 #[v0, v1, v2]) :
    (results fn tmps).run Try.prog w = .ok (.tuple #[.agg #[v0, v1, v2], tmps.getD u undef, tmps.getD v undef]) w := by
  obtain ⟨a0, a1, a2⟩ := c3 h1
  rw [Array.getD_eq_getD_getElem?] at e1
  simp [results, h, e1, go_sem, a0, a1, a2]
theorem res12 {t : Tmp} (h : fn.results = #[.cell t 26]) (e1 : tmps.getD t undef = ptr n) {v0 v1 v2 v3 v4 v5 v6 v7 v8 v9 v10 v11 : Value} (h1 : Ce w n 26 #[v0, v1, v2, v3, v4, v5, v6, v7, v8, v9, v10, v11]) :
    (results fn tmps).run Try.prog w = .ok (.agg #[v0, v1, v2, v3, v4, v5, v6, v7, v8, v9, v10, v11]) w := by
  obtain ⟨a0, a1, a2, a3, a4, a5, a6, a7, a8, a9, a10, a11⟩ := c12 h1
  rw [Array.getD_eq_getD_getElem?] at e1
  simp [results, h, e1, go_sem, a0, a1, a2, a3, a4, a5, a6, a7, a8, a9, a10, a11]
theorem res12t {t u : Tmp} (h : fn.results = #[.cell t 26, .tmp u]) (e1 : tmps.getD t undef = ptr n) {v0 v1 v2 v3 v4 v5 v6 v7 v8 v9 v10 v11 : Value} (h1 : Ce w n 26 #[v0, v1, v2, v3, v4, v5, v6, v7, v8, v9, v10, v11]) :
    (results fn tmps).run Try.prog w = .ok (.tuple #[.agg #[v0, v1, v2, v3, v4, v5, v6, v7, v8, v9, v10, v11], tmps.getD u undef]) w := by
  obtain ⟨a0, a1, a2, a3, a4, a5, a6, a7, a8, a9, a10, a11⟩ := c12 h1
  rw [Array.getD_eq_getD_getElem?] at e1
  simp [results, h, e1, go_sem, a0, a1, a2, a3, a4, a5, a6, a7, a8, a9, a10, a11]
end
end Go.Proofs.Ytljfkjbagebncaa

/- MsOf -/
namespace Go.Proofs.Ytljfkjbagebncaa
open Go.RowKit
set_option maxRecDepth 100000 in
set_option maxHeartbeats 3200000 in
/-- The three lists of a message. -/
theorem of_any (id : Nat) (r a t d v : Bool) (op cd : Int) (q x y z : Sl) (w : World) :
    Calls Try.prog 45 #[.agg (mc id r a t d v op cd q x y z)] w fun e w' => e = .returned (.agg #[x.v, y.v, z.v]) ∧ Below w.heap.size w w' := by
  obtain ⟨qa, qn, qc⟩ := q
  obtain ⟨xa, xn, xc⟩ := x
  obtain ⟨ya, yn, yc⟩ := y
  obtain ⟨za, zn, zc⟩ := z
  have HT := Lib.hid (fun ds => two_boxes w 26 56 (mc id r a t d v op cd ⟨qa, qn, qc⟩ ⟨xa, xn, xc⟩ ⟨ya, yn, yc⟩ ⟨za, zn, zc⟩) ds)
  go_enter Try.func45, Try.ntmps45
  go_wp2
  refine bodyPost_ret (res3 rfl rfl (HT.out #[.slice xa xn xc, .slice ya yn yc, .slice za zn zc]).2.1) rfl ?_
  exact ⟨rfl, (HT.out _).2.2⟩
theorem info26 : (Try.prog.info? 26).map (·.size) = some 12 := by kernel_rfl
theorem info56 : (Try.prog.info? 56).map (·.size) = some 3 := by kernel_rfl
theorem Ce.row {w : World} {g : Nat} {T : TypeId} {cs : Array Value} (h : Ce w g T cs) (ds : Array Value) : Ce (w.setRow g ds) g T ds := setRow_heap w g cs ds T (0, 0) h
theorem Ce.rowOther {w : World} {g k : Nat} {T : TypeId} {cs : Array Value} (h : Ce w g T cs) (hk : g ≠ k) (ds : Array Value) : Ce (w.setRow k ds) g T cs := (setRow_other w k g ds hk).trans h
theorem below_row {n : Nat} {w w' : World} (h : Below n w w') {g : Nat} (hg : n ≤ g) (ds : Array Value) : Below n w (w'.setRow g ds) :=
  ⟨h.os, h.tape, h.output, by simpa using h.size, fun k hk => (setRow_other w' g k ds (by omega)).trans (h.block k hk)⟩
theorem mc_one (id : Nat) (r a t d v : Bool) (op cd : Int) (q x y z : Sl) : (mc id r a t d v op cd q x y z).all (·.oneCell') = true := by simp [Value.oneCell']
theorem ld12 {ops : Array Oper} {rest : List Oper} {o : Oper} {a : Act} {w : World} {Q : Exit → Act → World → Prop} (x : Operand) {g : Nat} {cs : Array Value} (hg : Ce w g 26 cs) (hs : cs.size = 12) (hgd : o.guard = none) (ho : o.op = .load 26 x)
    (hx : a.eval x = ptr g) (h : wpList Try.prog ops Q rest (a.put o.dst (.agg cs)) w) : wpList Try.prog ops Q (o :: rest) a w :=
  wpList_load_row hgd 26 x ho g hx 26 cs (0, 0) _ hg Try.underlying26 rfl (by rw [hs]; exact info26) h
theorem ld56 {ops : Array Oper} {rest : List Oper} {o : Oper} {a : Act} {w : World} {Q : Exit → Act → World → Prop} (x : Operand) {g : Nat} {cs : Array Value} (hg : Ce w g 56 cs) (hs : cs.size = 3) (hgd : o.guard = none) (ho : o.op = .load 56 x)
    (hx : a.eval x = ptr g) (h : wpList Try.prog ops Q rest (a.put o.dst (.agg cs)) w) : wpList Try.prog ops Q (o :: rest) a w :=
  wpList_load_row hgd 56 x ho g hx 56 cs (0, 0) _ hg Try.underlying56 rfl (by rw [hs]; exact info56) h
theorem st12 {ops : Array Oper} {rest : List Oper} {o : Oper} {a : Act} {w : World} {Q : Exit → Act → World → Prop} (x y : Operand) {g : Nat} {old : Array Value} (hg : Ce w g 26 old) (hs : old.size = 12)
    {id : Nat} {r b t d v : Bool} {op cd : Int} {q k l m : Sl} (hgd : o.guard = none) (ho : o.op = .store 26 x y)
    (hx : a.eval x = ptr g) (hy : a.eval y = .agg (mc id r b t d v op cd q k l m)) (h : wpList Try.prog ops Q rest (a.put o.dst undef) (w.setRow g (mc id r b t d v op cd q k l m))) : wpList Try.prog ops Q (o :: rest) a w :=
  wpList_store_row hgd 26 x y ho g _ hx hy 26 old hg info26 hs (mc_one ..) h
theorem three_boxes (w : World) (T U V : TypeId) (cs ds es : Array Value) :
    let w' := ((w.alloc (.cells cs T)).alloc (.cells ds U)).alloc (.cells es V)
    Ce w' w.heap.size T cs ∧ Ce w' (w.heap.size + 1) U ds ∧ Ce w' (w.heap.size + 1 + 1) V es ∧ Below w.heap.size w w' := by
  obtain ⟨h1, h2, h3⟩ := two_boxes w T U cs ds
  have hb := one_box ((w.alloc (.cells cs T)).alloc (.cells ds U)) (.cells es V)
  refine ⟨h1.below hb, h2.below hb, ?_, h3.trans (hb.mono h3.size)⟩
  have := Ce.new ((w.alloc (.cells cs T)).alloc (.cells ds U)) V es
  simpa using this
set_option maxRecDepth 100000 in
set_option maxHeartbeats 3200000 in
/-- A message with other lists. -/
theorem with_any (id : Nat) (r a t d v : Bool) (op cd : Int) (q x y z x' y' z' : Sl) (w : World) :
    Calls Try.prog 36 #[.agg (mc id r a t d v op cd q x y z), .agg #[x'.v, y'.v, z'.v]] w fun e w' => e = .returned (.agg (mc id r a t d v op cd q x' y' z')) ∧ Below w.heap.size w w' := by
  obtain ⟨qa, qn, qc⟩ := q
  obtain ⟨xa, xn, xc⟩ := x
  obtain ⟨ya, yn, yc⟩ := y
  obtain ⟨za, zn, zc⟩ := z
  obtain ⟨xa', xn', xc'⟩ := x'
  obtain ⟨ya', yn', yc'⟩ := y'
  obtain ⟨za', zn', zc'⟩ := z'
  go_enter Try.func36, Try.ntmps36
  go_wp2_with fail
  have K := three_boxes w 26 56 26 (mc id r a t d v op cd ⟨qa, qn, qc⟩ ⟨xa, xn, xc⟩ ⟨ya, yn, yc⟩ ⟨za, zn, zc⟩) #[.slice xa' xn' xc', .slice ya' yn' yc', .slice za' zn' zc'] (mc 0 false false false false false 0 0 ⟨none, 0, 0⟩ ⟨none, 0, 0⟩ ⟨none, 0, 0⟩ ⟨none, 0, 0⟩)
  simp only at K
  generalize hW : World.alloc _ _ = W at K ⊢
  obtain ⟨k0, k1, k2, kb⟩ := K
  have hn : w.heap.size < W.heap.size := k0.lt
  clear hW
  obtain ⟨x0, x1, x2, x3, x4, x5, x6, x7, x8, x9, x10, x11⟩ := c12 k0
  obtain ⟨y0, y1, y2⟩ := c3 k1
  obtain ⟨f0, f1, f2, f3, f4, f5, f6, f7, f8, f9, f10, f11⟩ := f12 k0
  have HK0 := Lib.hid k0
  have HK2 := Lib.hid k2
  have HB := Lib.hid kb
  clear k0 k1 k2 kb
  go_region
  have KS : Ce (((W.setCell ⟨w.heap.size, 9, none⟩ (.slice xa' xn' xc')).setCell ⟨w.heap.size, 10, none⟩ (.slice ya' yn' yc')).setCell ⟨w.heap.size, 11, none⟩ (.slice za' zn' zc')).drew w.heap.size 26 (mc id r a t d v op cd ⟨qa, qn, qc⟩ ⟨xa', xn', xc'⟩ ⟨ya', yn', yc'⟩ ⟨za', zn', zc'⟩) :=
    ((HK0.out.set (i := 9) (.slice xa' xn' xc')).set (i := 10) (.slice ya' yn' yc')).set (i := 11) (.slice za' zn' zc')
  have KZ := ((HK2.out.other (i := 9) (by omega : w.heap.size + 1 + 1 ≠ w.heap.size) (.slice xa' xn' xc')).other (i := 10) (by omega : w.heap.size + 1 + 1 ≠ w.heap.size) (.slice ya' yn' yc')).other (i := 11) (by omega : w.heap.size + 1 + 1 ≠ w.heap.size) (.slice za' zn' zc')
  have KB : Below w.heap.size w (((W.setCell ⟨w.heap.size, 9, none⟩ (.slice xa' xn' xc')).setCell ⟨w.heap.size, 10, none⟩ (.slice ya' yn' yc')).setCell ⟨w.heap.size, 11, none⟩ (.slice za' zn' zc')).drew :=
    (((HB.out.setCell (p := ⟨w.heap.size, 9, none⟩) (Nat.le_refl _) _).setCell (p := ⟨w.heap.size, 10, none⟩) (Nat.le_refl _) _).setCell (p := ⟨w.heap.size, 11, none⟩) (Nat.le_refl _) _).drew
  have KZ2 : Ce (((W.setCell ⟨w.heap.size, 9, none⟩ (.slice xa' xn' xc')).setCell ⟨w.heap.size, 10, none⟩ (.slice ya' yn' yc')).setCell ⟨w.heap.size, 11, none⟩ (.slice za' zn' zc')).drew (w.heap.size + 1 + 1) 26 _ := KZ
  clear KZ x0 x1 x2 x3 x4 x5 x6 x7 x8 x9 x10 x11 y0 y1 y2 f0 f1 f2 f3 f4 f5 f6 f7 f8 f9 f10 f11
  generalize World.drew _ = W2 at KS KB KZ2 ⊢
  have HS := Lib.hid KS
  have HZ := Lib.hid KZ2
  have HB2 := Lib.hid KB
  clear KS KB KZ2 HK0 HK2 HB
  go_wp2_with (first | (refine ld12 (.tmp 2) HS.out rfl rfl rfl rfl ?_) | (refine st12 (.tmp 4) (.tmp 14) HZ.out rfl rfl rfl rfl rfl ?_))
  refine bodyPost_ret (res12 rfl rfl (HZ.out.row (mc id r a t d v op cd ⟨qa, qn, qc⟩ ⟨xa', xn', xc'⟩ ⟨ya', yn', yc'⟩ ⟨za', zn', zc'⟩))) rfl ?_
  exact ⟨rfl, below_row HB2.out (by omega) _⟩
/-- One of three lists. -/
def sel {T : Type} (x y z : T) (k : Nat) : T := if k = 0 then x else if k = 1 then y else z
theorem idx3 (x y z : Sl) (k : Nat) (hk : k < 3) (w : World) : (Instr.index 56 (.agg #[x.v, y.v, z.v]) (.int .i64 (k : Int))).run Try.prog w = .ok (sel x y z k).v w := by
  obtain rfl | rfl | rfl : k = 0 ∨ k = 1 ∨ k = 2 := by omega
  · kernel_rfl
  · kernel_rfl
  · kernel_rfl
end Go.Proofs.Ytljfkjbagebncaa

/- Nums -/
namespace Go.Proofs.Ytljfkjbagebncaa
open Go.RowKit
def nfit (op cd : Int) (nq nx ny nz : Nat) : Bool := decide (0 ≤ op ∧ op ≤ 15 ∧ 0 ≤ cd ∧ cd ≤ 15 ∧ nq ≤ 65535 ∧ nx ≤ 65535 ∧ ny ≤ 65535 ∧ nz ≤ 65535)
theorem nfit_no {op cd : Int} {nq nx ny nz : Nat} (h : ¬ (0 ≤ op ∧ op ≤ 15 ∧ 0 ≤ cd ∧ cd ≤ 15 ∧ nq ≤ 65535 ∧ nx ≤ 65535 ∧ ny ≤ 65535 ∧ nz ≤ 65535)) : Ending.returned (.bool false) = .returned (.bool (nfit op cd nq nx ny nz)) := by
  unfold nfit; rw [decide_eq_false h]
theorem four_bits (x : Int) : (x < 0) ∨ (decide (x < 0) = false ∧ (15 : Int) < x) ∨ (decide (x < 0) = false ∧ decide ((15 : Int) < x) = false ∧ 0 ≤ x ∧ x ≤ 15) := by
  by_cases h1 : x < 0
  · exact .inl h1
  · by_cases h2 : (15 : Int) < x
    · exact .inr (.inl ⟨by simp; omega, h2⟩)
    · exact .inr (.inr ⟨by simp; omega, by simp; omega, by omega, by omega⟩)
theorem many (n : Nat) : ((65535 : Int) < (n : Int) ∧ ¬ n ≤ 65535) ∨ (decide ((65535 : Int) < (n : Int)) = false ∧ n ≤ 65535) := by
  by_cases h : (65535 : Int) < (n : Int)
  · exact .inl ⟨h, by omega⟩
  · exact .inr ⟨by simp; omega, by omega⟩
set_option maxRecDepth 100000 in
set_option maxHeartbeats 6400000 in
theorem fits_any (id : Nat) (r a t d v : Bool) (op cd : Int) (q x y z : Sl) (w : World) :
    Calls Try.prog 50 #[.agg (mc id r a t d v op cd q x y z)] w fun e w' => e = .returned (.bool (nfit op cd q.n x.n y.n z.n)) ∧ Below w.heap.size w w' := by
  have HT := Lib.hid (two_boxes w 26 3 (mc id r a t d v op cd q x y z) #[.int .i64 op, .int .i64 cd])
  go_enter Try.func50, Try.ntmps50
  go_wp2
  obtain ⟨K0, K1, KB⟩ := HT.out
  clear HT
  generalize World.alloc _ _ = W at K0 K1 KB ⊢
  obtain ⟨x0, x1, x2, x3, x4, x5, x6, x7, x8, x9, x10, x11⟩ := c12 K0
  have y0 := K1.cell 0
  have y1 := K1.cell 1
  simp at y0 y1
  have HK0 := Lib.hid K0
  have HKB := Lib.hid KB
  clear K0 K1 KB
  go_loopw [13] (fun i wr => ∃ k : Nat, k ≤ 2 ∧ i = .int .i64 k ∧ wr = W ∧ (1 ≤ k → 0 ≤ op ∧ op ≤ 15) ∧ (2 ≤ k → 0 ≤ cd ∧ cd ≤ 15)) (fun i _ => 2 - (intOf i).toNat)
  case atStart => exact ⟨0, by omega, rfl, rfl, by omega, by omega⟩
  case round =>
    obtain ⟨k, hk, rfl, rfl, g1, g2⟩ := hrel
    by_cases hlt : k < 2
    · obtain rfl | rfl : k = 0 ∨ k = 1 := by omega
      · rcases four_bits op with h | ⟨h, h'⟩ | ⟨h, h', h3, h4⟩
        · go_wp2
          go_ret
          exact ⟨nfit_no (by omega), HKB.out⟩
        · go_wp2
          go_ret
          exact ⟨nfit_no (by omega), HKB.out⟩
        · go_wp2
          go_roundw
          case rel => exact ⟨1, by omega, by first | trivial | rfl, by first | trivial | rfl, fun _ => ⟨h3, h4⟩, by omega⟩
          case measure => simp [intOf]
      · obtain ⟨p1, p2⟩ := g1 (by omega)
        rcases four_bits cd with h | ⟨h, h'⟩ | ⟨h, h', h3, h4⟩
        · go_wp2
          go_ret
          exact ⟨nfit_no (by omega), HKB.out⟩
        · go_wp2
          go_ret
          exact ⟨nfit_no (by omega), HKB.out⟩
        · go_wp2
          go_roundw
          case rel => exact ⟨2, by omega, by first | trivial | rfl, by first | trivial | rfl, fun _ => ⟨p1, p2⟩, fun _ => ⟨h3, h4⟩⟩
          case measure => simp [intOf]
    · obtain rfl : k = 2 := by omega
      have hop := g1 (by omega)
      have hcd := g2 (by omega)
      have HOP := Lib.hid hop
      have HCD := Lib.hid hcd
      clear g1 g2 hop hcd y0 y1 hk hlt
      go_wp2_with (first | (go_at_call 45; refine (of_any id r a t d v op cd q x y z _).mono ?_; rintro e w1 ⟨rfl, hb1⟩))
      have HB1 := Lib.hid (HKB.out.trans (hb1.mono HKB.out.size))
      have x8' := (hb1.cell (p := ⟨w.heap.size, 8, none⟩) HK0.out.lt).trans x8
      clear hb1 x0 x1 x2 x3 x4 x5 x6 x7 x8 x9 x10 x11 HKB
      go_loopw [26] (fun i wr => ∃ k : Nat, k ≤ 3 ∧ i = .int .i64 k ∧ wr = w1 ∧ ∀ j, j < k → (sel x y z j).n ≤ 65535) (fun i _ => 3 - (intOf i).toNat)
      case atStart => exact ⟨0, by omega, rfl, rfl, by omega⟩
      case round =>
        obtain ⟨k, hk, rfl, rfl, hall⟩ := hrel
        by_cases hlt : k < 3
        · have q1 : (k : Int) < 3 := by omega
          have hix := fun w => idx3 x y z k hlt w
          have hsel : sel x y z k = sel x y z k := rfl
          obtain ⟨s, hs⟩ : ∃ s, s = sel x y z k := ⟨_, rfl⟩
          rw [← hs] at hix
          rcases many s.n with ⟨h, h'⟩ | ⟨h, h'⟩
          · have HS := Lib.hid hs
            have HN : Hid (¬ (0 ≤ op ∧ op ≤ 15 ∧ 0 ≤ cd ∧ cd ≤ 15 ∧ q.n ≤ 65535 ∧ x.n ≤ 65535 ∧ y.n ≤ 65535 ∧ z.n ≤ 65535)) := Lib.hid fun hh => by
              rw [hs] at h'
              unfold sel at h'
              split at h'
              · omega
              · split at h' <;> omega
            clear hs hall hsel h'
            go_wp2
            go_ret
            exact ⟨nfit_no HN.out, HB1.out⟩
          · have HS := Lib.hid hs
            have HH : Hid (∀ j, j < k + 1 → (sel x y z j).n ≤ 65535) := Lib.hid fun j hj => by
              by_cases e : j = k
              · rw [e, ← hs]; exact h'
              · exact hall j (by omega)
            clear hs hall hsel h'
            go_wp2
            go_roundw
            case rel => exact ⟨k + 1, by omega, by go_num, by first | trivial | rfl, HH.out⟩
            case measure => simp [intOf]; omega
        · obtain rfl : k = 3 := by omega
          have hx := hall 0 (by omega)
          have hy := hall 1 (by omega)
          have hz := hall 2 (by omega)
          have HX := Lib.hid hx
          have HY := Lib.hid hy
          have HZ := Lib.hid hz
          clear hall hx hy hz hk hlt
          go_wp2
          go_ret
          refine ⟨?_, HB1.out⟩
          have h1 : x.n ≤ 65535 := HX.out
          have h2 : y.n ≤ 65535 := HY.out
          have h3 : z.n ≤ 65535 := HZ.out
          have h4 := HOP.out
          have h5 := HCD.out
          show Ending.returned (.bool (decide ((q.n : Int) ≤ 65535))) = _
          have hE : decide ((q.n : Int) ≤ 65535) = nfit op cd q.n x.n y.n z.n := by
            unfold nfit
            rw [Bool.eq_iff_iff]
            simp
            omega
          rw [hE]
end Go.Proofs.Ytljfkjbagebncaa
