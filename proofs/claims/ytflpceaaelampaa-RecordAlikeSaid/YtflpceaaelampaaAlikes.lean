/-
  Two records held against each other, by the program and by the document: what they have in common, what Alike answers, and the walk of the law RecordAlike. No older memory is changed.
-/
import Derived.Test.YtflpceaaelampaaLow
import Derived.Test.YtflpceaaelampaaPutWalk
import Derived.Test.YtflpceaaelampaaGetWalk
import Derived.Test.YtflpceaaelampaaRes
import Derived.Test.YtflpceaaelampaaLawChecks
import Derived.Deep.RegionHeld3
import Derived.Laws.StructEq
import Derived.Deep.RegionWith
import Derived.Test.YtflpceaaelampaaRSame
import Derived.Test.YtflpceaaelampaaRefCheck
import Derived.Test.YtflpceaaelampaaRecMore
import Derived.Deep.Cut
namespace Go.Proofs.Ytflpceaaelampaa
open Go.RowKit
theorem joinP_mem' : ∀ (ps : List Part) (p : Part), p ∈ ps → p.2.length ≤ (joinP ps).length := by
  intro ps
  induction ps with
  | nil => intro p h; cases h
  | cons q ps ih =>
    intro p h
    have e : joinP (q :: ps) = q.2 ++ joinP ps := rfl
    rw [e, List.length_append]
    rcases List.mem_cons.1 h with rfl | h
    · omega
    · have := ih p h; omega
def low1 (p : Part) : Part := (p.1, if p.1 then low p.2 else p.2)
def lowP (ps : List Part) : List Part := ps.map low1
def lowPk (ps : List Part) (k : Nat) : List Part := lowP (ps.take k) ++ ps.drop k
theorem lowPk_zero (ps : List Part) : lowPk ps 0 = ps := rfl
theorem lowPk_all (ps : List Part) (k : Nat) (h : ps.length ≤ k) : lowPk ps k = lowP ps := by
  unfold lowPk; rw [List.take_of_length_le h, List.drop_of_length_le h, List.append_nil]
theorem lowPk_length (ps : List Part) (k : Nat) : (lowPk ps k).length = ps.length := by
  simp [lowPk, lowP]; omega
theorem lowPk_get {ps : List Part} {k : Nat} {p : Part} (h : ps[k]? = some p) : (lowPk ps k)[k]? = some p := by
  obtain ⟨hk, e⟩ := List.getElem?_eq_some_iff.1 h
  have h1 : (lowP (ps.take k)).length = k := by simp [lowP]; omega
  unfold lowPk
  rw [List.getElem?_append_right (by omega), h1]
  simp [h]
theorem lowPk_succ {ps : List Part} {k : Nat} {p : Part} (h : ps[k]? = some p) : (lowPk ps k).set k (low1 p) = lowPk ps (k + 1) := by
  obtain ⟨hk, e⟩ := List.getElem?_eq_some_iff.1 h
  have h1 : (lowP (ps.take k)).length = k := by simp [lowP]; omega
  unfold lowPk
  rw [List.set_append_right _ _ (by omega), h1, Nat.sub_self, List.drop_eq_getElem_cons hk, List.set_cons_zero, List.take_succ_eq_append_getElem hk]
  simp [lowP, e]
theorem pc_set (ps : List Part) : ∀ (k : Nat) (b : Bool) (x y : Bs), ps[k]? = some (b, x) → pc (ps.set k (b, y)) = (pc ps).set (k * 2 + 1) (str y) := by
  induction ps with
  | nil => intro k b x y h; simp at h
  | cons q L ih =>
    intro k b x y h
    have e : pc (q :: L) = .bool q.1 :: str q.2 :: pc L := rfl
    rw [e]
    cases k with
    | zero => simp at h; subst h; rfl
    | succ k =>
      have := ih k b x y (by simpa using h)
      rw [show (k + 1) * 2 + 1 = (k * 2 + 1) + 1 + 1 by omega, List.set_cons_succ, List.set_cons_succ, List.set_cons_succ, ← this]
      rfl
theorem Pts.set {w : World} {base g n cap k : Nat} {ps : List Part} {b : Bool} {x : Bs} (h : Pts w base (.slice (some ⟨g, 0, none⟩) n cap) ps) (hk : ps[k]? = some (b, x)) (y : Bs) :
    Pts (w.setCell ⟨g, k * 2 + 1, none⟩ (str y)) base (.slice (some ⟨g, 0, none⟩) n cap) (ps.set k (b, y)) ∧ base ≤ g ∧ w.frozen? ⟨g, k * 2 + 1, none⟩ = false := by
  have hkl := (List.getElem?_eq_some_iff.1 hk).1
  obtain ⟨q1, q2⟩ := h
  rcases q2 with ⟨e, _⟩ | ⟨g', cap', cur, e, hb, hg, h1, h2, h3, h4⟩
  · cases e
  · injection e with e1 e2 e3
    injection e1 with e1
    injection e1 with e1
    subst e1
    refine ⟨?_, hb, ?_⟩
    · unfold Pts
      rw [pc_set ps k b x y hk, List.length_set]
      refine ⟨by rw [List.length_set]; exact q1, .inr ⟨g, cap', cur.setIfInBounds (k * 2 + 1) (str y), ?_, hb, heap_setCell_same w g (k * 2 + 1) _ _ (str y) hg, h1, h2, by simpa using h3, ?_⟩⟩
      · rw [e2, e3]
      · rw [Array.toList_setIfInBounds, List.take_set, h4]
    · exact (show Ce w g 64 cur from hg).frozen (k * 2 + 1)
theorem set5_keep {w : World} {n m : Nat} {cs : Array Value} (h : Ce w n 25 cs) (hne : n ≠ m) (v0 v1 v2 v3 v4 : Value) : Ce (set5 w m v0 v1 v2 v3 v4) n 25 cs :=
  ((((h.other hne v0 (i := 0)).other hne v1 (i := 1)).other hne v2 (i := 2)).other hne v3 (i := 3)).other hne v4 (i := 4)
theorem lowP_join (ps : List Part) : (joinP (lowP ps)).length = (joinP ps).length := by
  induction ps with
  | nil => rfl
  | cons p ps ih =>
    have e1 : joinP (lowP (p :: ps)) = (low1 p).2 ++ joinP (lowP ps) := rfl
    have e2 : joinP (p :: ps) = p.2 ++ joinP ps := rfl
    rw [e1, e2, List.length_append, List.length_append, ih]
    unfold low1
    split <;> simp [low_length]
theorem lowP_len {ps : List Part} {m : Nat} (hm : m = ps.length) (h : m ≤ 3) (hj : (joinP ps).length ≤ 2000) : (lowP ps).length ≤ 1000 ∧ (joinP (lowP ps)).length ≤ 1000000000 :=
  ⟨by simp [lowP]; omega, by rw [lowP_join]; omega⟩
set_option maxRecDepth 100000 in
set_option maxHeartbeats 12800000 in
theorem common_any (r : Rc) (hr : r.Ok) (g0 : rck r = 0) (w : World) :
    Calls Try.prog 55 #[r.v] w fun e w' => e = .returned (.agg #[str (low r.n.data.toList), .int .u16 (r.t : Int), .int .u16 (r.c : Int), .int .u32 0, str (joinP (lowP (pts r.t r.d.data.toList)))]) ∧ Below w.heap.size w w' := by
  obtain ⟨z1, z2, z3⟩ := rck_zero g0
  have HS := Lib.hid (fun w => by have := split_any r.t hr.t r.d hr.d w; rw [(spl_pts z3).1, (spl_pts z3).2] at this; exact this)
  have hpl := pts_len _ _ z3
  have hjl : (joinP (pts r.t r.d.data.toList)).length ≤ 2000 := by rw [pts_join z3, ← size_list]; exact z2
  have HJ := Lib.hid hjl
  have hb := (one_box w (.cells r.cells 25)).alloc (one_box w (.cells r.cells 25)).size (.cells #[.string ⟨#[]⟩, .int .u16 0, .int .u16 0, .int .u32 0, .string ⟨#[]⟩] 25)
  have k1 : Ce ((w.alloc (.cells r.cells 25)).alloc (.cells #[.string ⟨#[]⟩, .int .u16 0, .int .u16 0, .int .u32 0, .string ⟨#[]⟩] 25)) w.heap.size 25 r.cells := (Ce.new w 25 r.cells).below (one_box _ _)
  have k2 := Ce.new (w.alloc (.cells r.cells 25)) 25 #[.string ⟨#[]⟩, .int .u16 0, .int .u16 0, .int .u32 0, .string ⟨#[]⟩]
  rw [World.size_alloc] at k2
  have HB := Lib.hid hb
  have K1 := Lib.hid k1
  have K2 := Lib.hid k2
  obtain ⟨x0, x1, x2, x3, x4⟩ := c5 k1
  generalize pts r.t r.d.data.toList = ps at HS hpl HJ ⊢
  obtain ⟨n, t, c, l, d⟩ := r
  obtain ⟨hn, hd, ht, hc, hl⟩ := hr
  simp only at HS hn ht hc x0 x1 x2 x3 x4 ⊢
  have HL := Lib.hid (fun w => lower_any n hn w)
  have hti : (t : Int) < 65536 := by omega
  have hci : (c : Int) < 65536 := by omega
  clear z1 z2 z3 hb k1 k2 hjl g0 hn hd ht hc hl
  go_enter Try.func55, Try.ntmps55
  go_wp2_with fail
  have hsz : ((w.alloc (.cells (Rc.cells ⟨n, t, c, l, d⟩) 25)).alloc (.cells #[.string ⟨#[]⟩, .int .u16 0, .int .u16 0, .int .u32 0, .string ⟨#[]⟩] 25)).heap.size = w.heap.size + 2 := by simp
  generalize (w.alloc (.cells (Rc.cells ⟨n, t, c, l, d⟩) 25)).alloc (.cells #[.string ⟨#[]⟩, .int .u16 0, .int .u16 0, .int .u32 0, .string ⟨#[]⟩] 25) = W2 at HB K1 K2 hsz ⊢
  refine (HS.out _).mono ?_
  rintro e w3 ⟨v, rfl, hp3, hb3⟩
  obtain ⟨a, cap, rfl⟩ := row_slice hp3
  obtain ⟨m, hm⟩ : ∃ m, m = ps.length := ⟨_, rfl⟩
  rw [← hm] at hp3 hpl
  rw [← hm]
  have hmi : (m : Int) ≤ 3 := by omega
  have HM := Lib.hid hm
  have HP3 := Lib.hid hp3
  have HB3 := Lib.hid hb3
  have HSZ := Lib.hid hsz
  clear hm hp3 hb3 x0 x1 x2 x3 x4 hsz
  go_wp2
  go_loopw [16, 5] (fun i _ wr => ∃ k : Nat, k ≤ m ∧ i = .int .i64 k ∧ Pts wr W2.heap.size (.slice a m cap) (lowPk ps k) ∧ Below W2.heap.size W2 wr) (fun i _ _ => m - (intOf i).toNat)
  case atStart => exact ⟨0, by omega, rfl, HP3.out, HB3.out⟩
  case round =>
    obtain ⟨k, hk, rfl, hP, hbr⟩ := hrel
    by_cases hlt : k < m
    · have q1 : (k : Int) < (m : Int) := by omega
      obtain ⟨p, hp⟩ : ∃ p, ps[k]? = some p := ⟨_, List.getElem?_eq_getElem (by rw [← HM.out]; exact hlt)⟩
      have hp1 := lowPk_get hp
      have hp2 := lowPk_succ hp
      have hxs : p.2.length ≤ 2000 := Nat.le_trans (joinP_mem' _ _ (List.mem_of_getElem? hp)) HJ.out
      obtain ⟨g, rfl, hg, hc⟩ := row_at hP (by rw [lowPk_length, ← HM.out]; omega)
      obtain ⟨y1, y2⟩ := pc_get _ k p hp1
      have d0 := hc _ _ y1
      have d1 := hc _ _ y2
      obtain ⟨b, x⟩ := p
      simp only at d0 d1 hxs
      have HPX := Lib.hid hP
      have HP1 := Lib.hid hp1
      have HP2 := Lib.hid hp2
      have HBR := Lib.hid hbr
      clear hc y1 y2 hp hp1 hp2 hP hbr
      cases b with
      | true =>
        go_wp2_with fail
        refine (lower_any ⟨x.toArray⟩ (by show x.length ≤ _; omega) wr).mono ?_
        rintro e w4 ⟨rfl, hb4⟩
        have h4 := HPX.out.under hb4
        obtain ⟨h5, hbg, fr⟩ := h4.set HP1.out (low x)
        obtain ⟨_, e1, _, hc⟩ := row_at h4 (by rw [lowPk_length, ← HM.out]; omega)
        injection e1 with e1
        injection e1 with e1
        subst e1
        have d2 := hc _ _ (pc_get _ k _ HP1.out).2
        simp only at d2
        have h6 := HBR.out.trans (hb4.mono HBR.out.size)
        have H5 := Lib.hid h5
        have H6 := Lib.hid (h6.setCell (p := ⟨g, k * 2 + 1, none⟩) hbg (str (low x)))
        clear h4 h5 h6 hb4 hbg hc d0 d1
        go_wp2
        go_roundw
        case rel => exact ⟨k + 1, by omega, by go_num, by rw [← HP2.out]; exact H5.out, H6.out⟩
        case measure => simp [intOf]; omega
      | false =>
        have HP2' : Hid (lowPk ps k = lowPk ps (k + 1)) := Lib.hid (by
          rw [← HP2.out]
          apply List.ext_getElem?
          intro j
          by_cases h : k = j
          · subst h; rw [List.getElem?_set_self (List.getElem?_eq_some_iff.1 HP1.out).1, HP1.out]; rfl
          · rw [List.getElem?_set_ne h])
        go_wp2
        go_roundw
        case rel => exact ⟨k + 1, by omega, by go_num, by rw [← HP2'.out]; exact HPX.out, HBR.out⟩
        case measure => simp [intOf]; omega
    · have q1 : decide ((k : Int) < (m : Int)) = false := by simp; omega
      rw [lowPk_all ps k (by rw [← HM.out]; omega)] at hP
      have hd := (Below.refl wr.heap.size wr).drew
      have A0 : Ce wr.drew w.heap.size 25 #[.string n, .int .u16 (t : Int), .int .u16 (c : Int), .int .u32 (l : Int), .string d] := (K1.out.below hbr).below hd
      have B0 := (K2.out.below hbr).below hd
      have P0 := hP.under hd
      have h0 := hbr.trans (hd.mono hbr.size)
      obtain ⟨x0, x1, x2, x3, x4⟩ := c5 A0
      have HA0 := Lib.hid A0
      have HB0 := Lib.hid B0
      have HP0 := Lib.hid P0
      have H0 := Lib.hid h0
      clear hP hbr hd A0 B0 P0 h0
      go_wp2
      have HNE : Hid (w.heap.size ≠ w.heap.size + 1) := Lib.hid (by omega)
      have HPL := Lib.hid (lowP_len HM.out hpl HJ.out)
      go_region_held3 (fun w' => w'.cell? ⟨w.heap.size, 0, none⟩ = some (.string n) ∧ w'.cell? ⟨w.heap.size, 1, none⟩ = some (.int .u16 (t : Int)) ∧ w'.cell? ⟨w.heap.size, 2, none⟩ = some (.int .u16 (c : Int)) ∧ w'.cell? ⟨w.heap.size, 3, none⟩ = some (.int .u32 (l : Int)) ∧ w'.cell? ⟨w.heap.size, 4, none⟩ = some (.string d))
        (first | with_reducible exact c5 HA0.out | with_reducible exact c5 HA1.out | with_reducible exact c5 HA2.out | exact c5 (set5_keep HA2.out HNE.out _ _ _ _ _))
        (first
          | (go_at_call 75; refine (HL.out _).mono ?_; rintro e v5 ⟨rfl, hv⟩; (first | (have HA2 := Lib.hid (HA1.out.below hv); have B2 := HB1.out.below hv; obtain ⟨y0, y1, y2, y3, y4⟩ := c5 B2; obtain ⟨f0, f1, f2, f3, f4⟩ := f5 B2; have HB2 := Lib.hid B2; have H2 := Lib.hid (H1.out.trans (hv.mono H1.out.size)); clear hv B2) | (have HA1 := Lib.hid (HA0.out.below hv); have HB1 := Lib.hid (HB0.out.below hv); have HP1 := Lib.hid (HP0.out.under hv); have H1 := Lib.hid (H0.out.trans (hv.mono H0.out.size)); clear hv)))
          | (go_at_call 43; (first | (refine (join_any _ _ _ _ HP1.out HPL.out.1 HPL.out.2).mono ?_; rintro e v6 ⟨rfl, hv⟩; have HA2 := Lib.hid (HA1.out.below hv); have B2 := HB1.out.below hv; obtain ⟨y0, y1, y2, y3, y4⟩ := c5 B2; obtain ⟨f0, f1, f2, f3, f4⟩ := f5 B2; have HB2 := Lib.hid B2; have H2 := Lib.hid (H1.out.trans (hv.mono H1.out.size)); clear hv B2) | (refine (join_any _ _ _ _ HP0.out HPL.out.1 HPL.out.2).mono ?_; rintro e v6 ⟨rfl, hv⟩; have HA1 := Lib.hid (HA0.out.below hv); have HB1 := Lib.hid (HB0.out.below hv); have H1 := Lib.hid (H0.out.trans (hv.mono H0.out.size)); clear hv))))
      all_goals
        have HZ := Lib.hid (set5_ce HB2.out (str (low n.data.toList)) (.int .u16 (t : Int)) (.int .u16 (c : Int)) (.int .u32 0) (str (joinP (lowP ps))))
        have HE := Lib.hid (set5_below (HB.out.trans (H2.out.mono HB.out.size)) (Nat.le_succ w.heap.size) (str (low n.data.toList)) (.int .u16 (t : Int)) (.int .u16 (c : Int)) (.int .u32 0) (str (joinP (lowP ps))))
        clear y0 y1 y2 y3 y4 f0 f1 f2 f3 f4
        go_wp2
        refine bodyPost_ret (res5 rfl rfl HZ.out) rfl ?_
        exact ⟨rfl, HE.out⟩
def cmn (r : Rc) : Bs × Nat × Nat × Bs := (low r.n.data.toList, r.t, r.c, joinP (lowP (pts r.t r.d.data.toList)))
def alk (a b : Rc) : Bool := decide (rck a = 0 ∧ rck b = 0 ∧ cmn a = cmn b)
set_option maxRecDepth 100000 in
set_option maxHeartbeats 12800000 in
theorem alike_c1 (n n' d d' : ByteArray) (t c l t' c' l' : Nat) (la lb ja jb : Bs) (w : World) (q1 : ¬ la = lb)
    (HC1 : Hid (∀ w, Calls Try.prog 16 #[(⟨n, t, c, l, d⟩ : Rc).v] w fun e w' => e = .returned (.int .i64 0) ∧ Below w.heap.size w w'))
    (HC2 : Hid (∀ w, Calls Try.prog 16 #[(⟨n', t', c', l', d'⟩ : Rc).v] w fun e w' => e = .returned (.int .i64 0) ∧ Below w.heap.size w w'))
    (D1 : Hid (∀ w, Calls Try.prog 55 #[(⟨n, t, c, l, d⟩ : Rc).v] w fun e w' => e = .returned (.agg #[str la, .int .u16 (t : Int), .int .u16 (c : Int), .int .u32 0, str ja]) ∧ Below w.heap.size w w'))
    (D2 : Hid (∀ w, Calls Try.prog 55 #[(⟨n', t', c', l', d'⟩ : Rc).v] w fun e w' => e = .returned (.agg #[str lb, .int .u16 (t' : Int), .int .u16 (c' : Int), .int .u32 0, str jb]) ∧ Below w.heap.size w w'))
    (HB : Hid (Below w.heap.size w ((w.alloc (.cells (Rc.cells ⟨n, t, c, l, d⟩) 25)).alloc (.cells (Rc.cells ⟨n', t', c', l', d'⟩) 25))))
    (K1 : Hid (Ce ((w.alloc (.cells (Rc.cells ⟨n, t, c, l, d⟩) 25)).alloc (.cells (Rc.cells ⟨n', t', c', l', d'⟩) 25)) w.heap.size 25 (Rc.cells ⟨n, t, c, l, d⟩)))
    (K2 : Hid (Ce ((w.alloc (.cells (Rc.cells ⟨n, t, c, l, d⟩) 25)).alloc (.cells (Rc.cells ⟨n', t', c', l', d'⟩) 25)) (w.heap.size + 1) 25 (Rc.cells ⟨n', t', c', l', d'⟩))) :
    Calls Try.prog 28 #[(⟨n, t, c, l, d⟩ : Rc).v, (⟨n', t', c', l', d'⟩ : Rc).v] w fun e w' => e = .returned (.bool false) ∧ Below w.heap.size w w' := by
    go_enter Try.func28, Try.ntmps28
    go_wp2
    generalize ((w.alloc (.cells (Rc.cells ⟨n, t, c, l, d⟩) 25)).alloc (.cells (Rc.cells ⟨n', t', c', l', d'⟩) 25)) = W2 at HB K1 K2 ⊢
    have hd := (Below.refl W2.heap.size W2).drew
    have A0 : Ce W2.drew w.heap.size 25 #[.string n, .int .u16 (t : Int), .int .u16 (c : Int), .int .u32 (l : Int), .string d] := K1.out.below hd
    have B0 : Ce W2.drew (w.heap.size + 1) 25 #[.string n', .int .u16 (t' : Int), .int .u16 (c' : Int), .int .u32 (l' : Int), .string d'] := K2.out.below hd
    have HA0 := Lib.hid A0
    have HB0 := Lib.hid B0
    have H0 := Lib.hid (HB.out.trans (hd.mono HB.out.size))
    clear A0 B0 hd
    go_region_held3 (fun w' => (w'.cell? ⟨w.heap.size, 0, none⟩ = some (.string n) ∧ w'.cell? ⟨w.heap.size, 1, none⟩ = some (.int .u16 (t : Int)) ∧ w'.cell? ⟨w.heap.size, 2, none⟩ = some (.int .u16 (c : Int)) ∧ w'.cell? ⟨w.heap.size, 3, none⟩ = some (.int .u32 (l : Int)) ∧ w'.cell? ⟨w.heap.size, 4, none⟩ = some (.string d)) ∧
        (w'.cell? ⟨w.heap.size + 1, 0, none⟩ = some (.string n') ∧ w'.cell? ⟨w.heap.size + 1, 1, none⟩ = some (.int .u16 (t' : Int)) ∧ w'.cell? ⟨w.heap.size + 1, 2, none⟩ = some (.int .u16 (c' : Int)) ∧ w'.cell? ⟨w.heap.size + 1, 3, none⟩ = some (.int .u32 (l' : Int)) ∧ w'.cell? ⟨w.heap.size + 1, 4, none⟩ = some (.string d')))
      (first | with_reducible exact ⟨c5 HA0.out, c5 HB0.out⟩ | with_reducible exact ⟨c5 HA1.out, c5 HB1.out⟩ | with_reducible exact ⟨c5 HA2.out, c5 HB2.out⟩ | with_reducible exact ⟨c5 HA3.out, c5 HB3.out⟩ | with_reducible exact ⟨c5 HA4.out, c5 HB4.out⟩)
      (first
        | (go_at_call_of 16 (Value.string n); refine (HC1.out _).mono ?_; rintro e v1 ⟨rfl, hv⟩; have HA1 := Lib.hid (HA0.out.below hv); have HB1 := Lib.hid (HB0.out.below hv); have H1 := Lib.hid (H0.out.trans (hv.mono H0.out.size)); clear hv)
        | (go_at_call_of 16 (Value.string n'); refine (HC2.out _).mono ?_; rintro e v2 ⟨rfl, hv⟩; have HA2 := Lib.hid (HA1.out.below hv); have HB2 := Lib.hid (HB1.out.below hv); have H2 := Lib.hid (H1.out.trans (hv.mono H1.out.size)); clear hv)
        | (go_at_call_of 55 (Value.string n); refine (D1.out _).mono ?_; rintro e v3 ⟨rfl, hv⟩; (first | (have HA4 := Lib.hid (HA3.out.below hv); have HB4 := Lib.hid (HB3.out.below hv); have H4 := Lib.hid (H3.out.trans (hv.mono H3.out.size)); clear hv) | (have HA3 := Lib.hid (HA2.out.below hv); have HB3 := Lib.hid (HB2.out.below hv); have H3 := Lib.hid (H2.out.trans (hv.mono H2.out.size)); clear hv)))
        | (go_at_call_of 55 (Value.string n'); refine (D2.out _).mono ?_; rintro e v3 ⟨rfl, hv⟩; (first | (have HA4 := Lib.hid (HA3.out.below hv); have HB4 := Lib.hid (HB3.out.below hv); have H4 := Lib.hid (H3.out.trans (hv.mono H3.out.size)); clear hv) | (have HA3 := Lib.hid (HA2.out.below hv); have HB3 := Lib.hid (HB2.out.below hv); have H3 := Lib.hid (H2.out.trans (hv.mono H2.out.size)); clear hv))))
    all_goals go_wp2
    all_goals go_ret
    all_goals exact ⟨rfl, H4.out⟩
set_option maxRecDepth 100000 in
set_option maxHeartbeats 12800000 in
theorem alike_c2 (n n' d d' : ByteArray) (t c l t' c' l' : Nat) (la ja jb : Bs) (w : World)  (q2 : ¬ (t : Int) = (t' : Int))
    (HC1 : Hid (∀ w, Calls Try.prog 16 #[(⟨n, t, c, l, d⟩ : Rc).v] w fun e w' => e = .returned (.int .i64 0) ∧ Below w.heap.size w w'))
    (HC2 : Hid (∀ w, Calls Try.prog 16 #[(⟨n', t', c', l', d'⟩ : Rc).v] w fun e w' => e = .returned (.int .i64 0) ∧ Below w.heap.size w w'))
    (D1 : Hid (∀ w, Calls Try.prog 55 #[(⟨n, t, c, l, d⟩ : Rc).v] w fun e w' => e = .returned (.agg #[str la, .int .u16 (t : Int), .int .u16 (c : Int), .int .u32 0, str ja]) ∧ Below w.heap.size w w'))
    (D2 : Hid (∀ w, Calls Try.prog 55 #[(⟨n', t', c', l', d'⟩ : Rc).v] w fun e w' => e = .returned (.agg #[str la, .int .u16 (t' : Int), .int .u16 (c' : Int), .int .u32 0, str jb]) ∧ Below w.heap.size w w'))
    (HB : Hid (Below w.heap.size w ((w.alloc (.cells (Rc.cells ⟨n, t, c, l, d⟩) 25)).alloc (.cells (Rc.cells ⟨n', t', c', l', d'⟩) 25))))
    (K1 : Hid (Ce ((w.alloc (.cells (Rc.cells ⟨n, t, c, l, d⟩) 25)).alloc (.cells (Rc.cells ⟨n', t', c', l', d'⟩) 25)) w.heap.size 25 (Rc.cells ⟨n, t, c, l, d⟩)))
    (K2 : Hid (Ce ((w.alloc (.cells (Rc.cells ⟨n, t, c, l, d⟩) 25)).alloc (.cells (Rc.cells ⟨n', t', c', l', d'⟩) 25)) (w.heap.size + 1) 25 (Rc.cells ⟨n', t', c', l', d'⟩))) :
    Calls Try.prog 28 #[(⟨n, t, c, l, d⟩ : Rc).v, (⟨n', t', c', l', d'⟩ : Rc).v] w fun e w' => e = .returned (.bool false) ∧ Below w.heap.size w w' := by
    go_enter Try.func28, Try.ntmps28
    go_wp2
    generalize ((w.alloc (.cells (Rc.cells ⟨n, t, c, l, d⟩) 25)).alloc (.cells (Rc.cells ⟨n', t', c', l', d'⟩) 25)) = W2 at HB K1 K2 ⊢
    have hd := (Below.refl W2.heap.size W2).drew
    have A0 : Ce W2.drew w.heap.size 25 #[.string n, .int .u16 (t : Int), .int .u16 (c : Int), .int .u32 (l : Int), .string d] := K1.out.below hd
    have B0 : Ce W2.drew (w.heap.size + 1) 25 #[.string n', .int .u16 (t' : Int), .int .u16 (c' : Int), .int .u32 (l' : Int), .string d'] := K2.out.below hd
    have HA0 := Lib.hid A0
    have HB0 := Lib.hid B0
    have H0 := Lib.hid (HB.out.trans (hd.mono HB.out.size))
    clear A0 B0 hd
    go_region_held3 (fun w' => (w'.cell? ⟨w.heap.size, 0, none⟩ = some (.string n) ∧ w'.cell? ⟨w.heap.size, 1, none⟩ = some (.int .u16 (t : Int)) ∧ w'.cell? ⟨w.heap.size, 2, none⟩ = some (.int .u16 (c : Int)) ∧ w'.cell? ⟨w.heap.size, 3, none⟩ = some (.int .u32 (l : Int)) ∧ w'.cell? ⟨w.heap.size, 4, none⟩ = some (.string d)) ∧
        (w'.cell? ⟨w.heap.size + 1, 0, none⟩ = some (.string n') ∧ w'.cell? ⟨w.heap.size + 1, 1, none⟩ = some (.int .u16 (t' : Int)) ∧ w'.cell? ⟨w.heap.size + 1, 2, none⟩ = some (.int .u16 (c' : Int)) ∧ w'.cell? ⟨w.heap.size + 1, 3, none⟩ = some (.int .u32 (l' : Int)) ∧ w'.cell? ⟨w.heap.size + 1, 4, none⟩ = some (.string d')))
      (first | with_reducible exact ⟨c5 HA0.out, c5 HB0.out⟩ | with_reducible exact ⟨c5 HA1.out, c5 HB1.out⟩ | with_reducible exact ⟨c5 HA2.out, c5 HB2.out⟩ | with_reducible exact ⟨c5 HA3.out, c5 HB3.out⟩ | with_reducible exact ⟨c5 HA4.out, c5 HB4.out⟩)
      (first
        | (go_at_call_of 16 (Value.string n); refine (HC1.out _).mono ?_; rintro e v1 ⟨rfl, hv⟩; have HA1 := Lib.hid (HA0.out.below hv); have HB1 := Lib.hid (HB0.out.below hv); have H1 := Lib.hid (H0.out.trans (hv.mono H0.out.size)); clear hv)
        | (go_at_call_of 16 (Value.string n'); refine (HC2.out _).mono ?_; rintro e v2 ⟨rfl, hv⟩; have HA2 := Lib.hid (HA1.out.below hv); have HB2 := Lib.hid (HB1.out.below hv); have H2 := Lib.hid (H1.out.trans (hv.mono H1.out.size)); clear hv)
        | (go_at_call_of 55 (Value.string n); refine (D1.out _).mono ?_; rintro e v3 ⟨rfl, hv⟩; (first | (have HA4 := Lib.hid (HA3.out.below hv); have HB4 := Lib.hid (HB3.out.below hv); have H4 := Lib.hid (H3.out.trans (hv.mono H3.out.size)); clear hv) | (have HA3 := Lib.hid (HA2.out.below hv); have HB3 := Lib.hid (HB2.out.below hv); have H3 := Lib.hid (H2.out.trans (hv.mono H2.out.size)); clear hv)))
        | (go_at_call_of 55 (Value.string n'); refine (D2.out _).mono ?_; rintro e v3 ⟨rfl, hv⟩; (first | (have HA4 := Lib.hid (HA3.out.below hv); have HB4 := Lib.hid (HB3.out.below hv); have H4 := Lib.hid (H3.out.trans (hv.mono H3.out.size)); clear hv) | (have HA3 := Lib.hid (HA2.out.below hv); have HB3 := Lib.hid (HB2.out.below hv); have H3 := Lib.hid (H2.out.trans (hv.mono H2.out.size)); clear hv))))
    all_goals go_wp2
    all_goals go_ret
    all_goals exact ⟨rfl, H4.out⟩
set_option maxRecDepth 100000 in
set_option maxHeartbeats 12800000 in
theorem alike_c3 (n n' d d' : ByteArray) (t c l c' l' : Nat) (la ja jb : Bs) (w : World)   (q3 : ¬ (c : Int) = (c' : Int))
    (HC1 : Hid (∀ w, Calls Try.prog 16 #[(⟨n, t, c, l, d⟩ : Rc).v] w fun e w' => e = .returned (.int .i64 0) ∧ Below w.heap.size w w'))
    (HC2 : Hid (∀ w, Calls Try.prog 16 #[(⟨n', t, c', l', d'⟩ : Rc).v] w fun e w' => e = .returned (.int .i64 0) ∧ Below w.heap.size w w'))
    (D1 : Hid (∀ w, Calls Try.prog 55 #[(⟨n, t, c, l, d⟩ : Rc).v] w fun e w' => e = .returned (.agg #[str la, .int .u16 (t : Int), .int .u16 (c : Int), .int .u32 0, str ja]) ∧ Below w.heap.size w w'))
    (D2 : Hid (∀ w, Calls Try.prog 55 #[(⟨n', t, c', l', d'⟩ : Rc).v] w fun e w' => e = .returned (.agg #[str la, .int .u16 (t : Int), .int .u16 (c' : Int), .int .u32 0, str jb]) ∧ Below w.heap.size w w'))
    (HB : Hid (Below w.heap.size w ((w.alloc (.cells (Rc.cells ⟨n, t, c, l, d⟩) 25)).alloc (.cells (Rc.cells ⟨n', t, c', l', d'⟩) 25))))
    (K1 : Hid (Ce ((w.alloc (.cells (Rc.cells ⟨n, t, c, l, d⟩) 25)).alloc (.cells (Rc.cells ⟨n', t, c', l', d'⟩) 25)) w.heap.size 25 (Rc.cells ⟨n, t, c, l, d⟩)))
    (K2 : Hid (Ce ((w.alloc (.cells (Rc.cells ⟨n, t, c, l, d⟩) 25)).alloc (.cells (Rc.cells ⟨n', t, c', l', d'⟩) 25)) (w.heap.size + 1) 25 (Rc.cells ⟨n', t, c', l', d'⟩))) :
    Calls Try.prog 28 #[(⟨n, t, c, l, d⟩ : Rc).v, (⟨n', t, c', l', d'⟩ : Rc).v] w fun e w' => e = .returned (.bool false) ∧ Below w.heap.size w w' := by
    go_enter Try.func28, Try.ntmps28
    go_wp2
    generalize ((w.alloc (.cells (Rc.cells ⟨n, t, c, l, d⟩) 25)).alloc (.cells (Rc.cells ⟨n', t, c', l', d'⟩) 25)) = W2 at HB K1 K2 ⊢
    have hd := (Below.refl W2.heap.size W2).drew
    have A0 : Ce W2.drew w.heap.size 25 #[.string n, .int .u16 (t : Int), .int .u16 (c : Int), .int .u32 (l : Int), .string d] := K1.out.below hd
    have B0 : Ce W2.drew (w.heap.size + 1) 25 #[.string n', .int .u16 (t : Int), .int .u16 (c' : Int), .int .u32 (l' : Int), .string d'] := K2.out.below hd
    have HA0 := Lib.hid A0
    have HB0 := Lib.hid B0
    have H0 := Lib.hid (HB.out.trans (hd.mono HB.out.size))
    clear A0 B0 hd
    go_region_held3 (fun w' => (w'.cell? ⟨w.heap.size, 0, none⟩ = some (.string n) ∧ w'.cell? ⟨w.heap.size, 1, none⟩ = some (.int .u16 (t : Int)) ∧ w'.cell? ⟨w.heap.size, 2, none⟩ = some (.int .u16 (c : Int)) ∧ w'.cell? ⟨w.heap.size, 3, none⟩ = some (.int .u32 (l : Int)) ∧ w'.cell? ⟨w.heap.size, 4, none⟩ = some (.string d)) ∧
        (w'.cell? ⟨w.heap.size + 1, 0, none⟩ = some (.string n') ∧ w'.cell? ⟨w.heap.size + 1, 1, none⟩ = some (.int .u16 (t : Int)) ∧ w'.cell? ⟨w.heap.size + 1, 2, none⟩ = some (.int .u16 (c' : Int)) ∧ w'.cell? ⟨w.heap.size + 1, 3, none⟩ = some (.int .u32 (l' : Int)) ∧ w'.cell? ⟨w.heap.size + 1, 4, none⟩ = some (.string d')))
      (first | with_reducible exact ⟨c5 HA0.out, c5 HB0.out⟩ | with_reducible exact ⟨c5 HA1.out, c5 HB1.out⟩ | with_reducible exact ⟨c5 HA2.out, c5 HB2.out⟩ | with_reducible exact ⟨c5 HA3.out, c5 HB3.out⟩ | with_reducible exact ⟨c5 HA4.out, c5 HB4.out⟩)
      (first
        | (go_at_call_of 16 (Value.string n); refine (HC1.out _).mono ?_; rintro e v1 ⟨rfl, hv⟩; have HA1 := Lib.hid (HA0.out.below hv); have HB1 := Lib.hid (HB0.out.below hv); have H1 := Lib.hid (H0.out.trans (hv.mono H0.out.size)); clear hv)
        | (go_at_call_of 16 (Value.string n'); refine (HC2.out _).mono ?_; rintro e v2 ⟨rfl, hv⟩; have HA2 := Lib.hid (HA1.out.below hv); have HB2 := Lib.hid (HB1.out.below hv); have H2 := Lib.hid (H1.out.trans (hv.mono H1.out.size)); clear hv)
        | (go_at_call_of 55 (Value.string n); refine (D1.out _).mono ?_; rintro e v3 ⟨rfl, hv⟩; (first | (have HA4 := Lib.hid (HA3.out.below hv); have HB4 := Lib.hid (HB3.out.below hv); have H4 := Lib.hid (H3.out.trans (hv.mono H3.out.size)); clear hv) | (have HA3 := Lib.hid (HA2.out.below hv); have HB3 := Lib.hid (HB2.out.below hv); have H3 := Lib.hid (H2.out.trans (hv.mono H2.out.size)); clear hv)))
        | (go_at_call_of 55 (Value.string n'); refine (D2.out _).mono ?_; rintro e v3 ⟨rfl, hv⟩; (first | (have HA4 := Lib.hid (HA3.out.below hv); have HB4 := Lib.hid (HB3.out.below hv); have H4 := Lib.hid (H3.out.trans (hv.mono H3.out.size)); clear hv) | (have HA3 := Lib.hid (HA2.out.below hv); have HB3 := Lib.hid (HB2.out.below hv); have H3 := Lib.hid (H2.out.trans (hv.mono H2.out.size)); clear hv))))
    all_goals go_wp2
    all_goals go_ret
    all_goals exact ⟨rfl, H4.out⟩
set_option maxRecDepth 100000 in
set_option maxHeartbeats 12800000 in
theorem alike_c4 (n n' d d' : ByteArray) (t c l l' : Nat) (la ja jb : Bs) (w : World)    (q4 : ¬ ja = jb)
    (HC1 : Hid (∀ w, Calls Try.prog 16 #[(⟨n, t, c, l, d⟩ : Rc).v] w fun e w' => e = .returned (.int .i64 0) ∧ Below w.heap.size w w'))
    (HC2 : Hid (∀ w, Calls Try.prog 16 #[(⟨n', t, c, l', d'⟩ : Rc).v] w fun e w' => e = .returned (.int .i64 0) ∧ Below w.heap.size w w'))
    (D1 : Hid (∀ w, Calls Try.prog 55 #[(⟨n, t, c, l, d⟩ : Rc).v] w fun e w' => e = .returned (.agg #[str la, .int .u16 (t : Int), .int .u16 (c : Int), .int .u32 0, str ja]) ∧ Below w.heap.size w w'))
    (D2 : Hid (∀ w, Calls Try.prog 55 #[(⟨n', t, c, l', d'⟩ : Rc).v] w fun e w' => e = .returned (.agg #[str la, .int .u16 (t : Int), .int .u16 (c : Int), .int .u32 0, str jb]) ∧ Below w.heap.size w w'))
    (HB : Hid (Below w.heap.size w ((w.alloc (.cells (Rc.cells ⟨n, t, c, l, d⟩) 25)).alloc (.cells (Rc.cells ⟨n', t, c, l', d'⟩) 25))))
    (K1 : Hid (Ce ((w.alloc (.cells (Rc.cells ⟨n, t, c, l, d⟩) 25)).alloc (.cells (Rc.cells ⟨n', t, c, l', d'⟩) 25)) w.heap.size 25 (Rc.cells ⟨n, t, c, l, d⟩)))
    (K2 : Hid (Ce ((w.alloc (.cells (Rc.cells ⟨n, t, c, l, d⟩) 25)).alloc (.cells (Rc.cells ⟨n', t, c, l', d'⟩) 25)) (w.heap.size + 1) 25 (Rc.cells ⟨n', t, c, l', d'⟩))) :
    Calls Try.prog 28 #[(⟨n, t, c, l, d⟩ : Rc).v, (⟨n', t, c, l', d'⟩ : Rc).v] w fun e w' => e = .returned (.bool false) ∧ Below w.heap.size w w' := by
    go_enter Try.func28, Try.ntmps28
    go_wp2
    generalize ((w.alloc (.cells (Rc.cells ⟨n, t, c, l, d⟩) 25)).alloc (.cells (Rc.cells ⟨n', t, c, l', d'⟩) 25)) = W2 at HB K1 K2 ⊢
    have hd := (Below.refl W2.heap.size W2).drew
    have A0 : Ce W2.drew w.heap.size 25 #[.string n, .int .u16 (t : Int), .int .u16 (c : Int), .int .u32 (l : Int), .string d] := K1.out.below hd
    have B0 : Ce W2.drew (w.heap.size + 1) 25 #[.string n', .int .u16 (t : Int), .int .u16 (c : Int), .int .u32 (l' : Int), .string d'] := K2.out.below hd
    have HA0 := Lib.hid A0
    have HB0 := Lib.hid B0
    have H0 := Lib.hid (HB.out.trans (hd.mono HB.out.size))
    clear A0 B0 hd
    go_region_held3 (fun w' => (w'.cell? ⟨w.heap.size, 0, none⟩ = some (.string n) ∧ w'.cell? ⟨w.heap.size, 1, none⟩ = some (.int .u16 (t : Int)) ∧ w'.cell? ⟨w.heap.size, 2, none⟩ = some (.int .u16 (c : Int)) ∧ w'.cell? ⟨w.heap.size, 3, none⟩ = some (.int .u32 (l : Int)) ∧ w'.cell? ⟨w.heap.size, 4, none⟩ = some (.string d)) ∧
        (w'.cell? ⟨w.heap.size + 1, 0, none⟩ = some (.string n') ∧ w'.cell? ⟨w.heap.size + 1, 1, none⟩ = some (.int .u16 (t : Int)) ∧ w'.cell? ⟨w.heap.size + 1, 2, none⟩ = some (.int .u16 (c : Int)) ∧ w'.cell? ⟨w.heap.size + 1, 3, none⟩ = some (.int .u32 (l' : Int)) ∧ w'.cell? ⟨w.heap.size + 1, 4, none⟩ = some (.string d')))
      (first | with_reducible exact ⟨c5 HA0.out, c5 HB0.out⟩ | with_reducible exact ⟨c5 HA1.out, c5 HB1.out⟩ | with_reducible exact ⟨c5 HA2.out, c5 HB2.out⟩ | with_reducible exact ⟨c5 HA3.out, c5 HB3.out⟩ | with_reducible exact ⟨c5 HA4.out, c5 HB4.out⟩)
      (first
        | (go_at_call_of 16 (Value.string n); refine (HC1.out _).mono ?_; rintro e v1 ⟨rfl, hv⟩; have HA1 := Lib.hid (HA0.out.below hv); have HB1 := Lib.hid (HB0.out.below hv); have H1 := Lib.hid (H0.out.trans (hv.mono H0.out.size)); clear hv)
        | (go_at_call_of 16 (Value.string n'); refine (HC2.out _).mono ?_; rintro e v2 ⟨rfl, hv⟩; have HA2 := Lib.hid (HA1.out.below hv); have HB2 := Lib.hid (HB1.out.below hv); have H2 := Lib.hid (H1.out.trans (hv.mono H1.out.size)); clear hv)
        | (go_at_call_of 55 (Value.string n); refine (D1.out _).mono ?_; rintro e v3 ⟨rfl, hv⟩; (first | (have HA4 := Lib.hid (HA3.out.below hv); have HB4 := Lib.hid (HB3.out.below hv); have H4 := Lib.hid (H3.out.trans (hv.mono H3.out.size)); clear hv) | (have HA3 := Lib.hid (HA2.out.below hv); have HB3 := Lib.hid (HB2.out.below hv); have H3 := Lib.hid (H2.out.trans (hv.mono H2.out.size)); clear hv)))
        | (go_at_call_of 55 (Value.string n'); refine (D2.out _).mono ?_; rintro e v3 ⟨rfl, hv⟩; (first | (have HA4 := Lib.hid (HA3.out.below hv); have HB4 := Lib.hid (HB3.out.below hv); have H4 := Lib.hid (H3.out.trans (hv.mono H3.out.size)); clear hv) | (have HA3 := Lib.hid (HA2.out.below hv); have HB3 := Lib.hid (HB2.out.below hv); have H3 := Lib.hid (H2.out.trans (hv.mono H2.out.size)); clear hv))))
    all_goals go_wp2
    all_goals go_ret
    all_goals exact ⟨rfl, H4.out⟩
set_option maxRecDepth 100000 in
set_option maxHeartbeats 12800000 in
theorem alike_c5 (n n' d d' : ByteArray) (t c l l' : Nat) (la ja : Bs) (w : World)    
    (HC1 : Hid (∀ w, Calls Try.prog 16 #[(⟨n, t, c, l, d⟩ : Rc).v] w fun e w' => e = .returned (.int .i64 0) ∧ Below w.heap.size w w'))
    (HC2 : Hid (∀ w, Calls Try.prog 16 #[(⟨n', t, c, l', d'⟩ : Rc).v] w fun e w' => e = .returned (.int .i64 0) ∧ Below w.heap.size w w'))
    (D1 : Hid (∀ w, Calls Try.prog 55 #[(⟨n, t, c, l, d⟩ : Rc).v] w fun e w' => e = .returned (.agg #[str la, .int .u16 (t : Int), .int .u16 (c : Int), .int .u32 0, str ja]) ∧ Below w.heap.size w w'))
    (D2 : Hid (∀ w, Calls Try.prog 55 #[(⟨n', t, c, l', d'⟩ : Rc).v] w fun e w' => e = .returned (.agg #[str la, .int .u16 (t : Int), .int .u16 (c : Int), .int .u32 0, str ja]) ∧ Below w.heap.size w w'))
    (HB : Hid (Below w.heap.size w ((w.alloc (.cells (Rc.cells ⟨n, t, c, l, d⟩) 25)).alloc (.cells (Rc.cells ⟨n', t, c, l', d'⟩) 25))))
    (K1 : Hid (Ce ((w.alloc (.cells (Rc.cells ⟨n, t, c, l, d⟩) 25)).alloc (.cells (Rc.cells ⟨n', t, c, l', d'⟩) 25)) w.heap.size 25 (Rc.cells ⟨n, t, c, l, d⟩)))
    (K2 : Hid (Ce ((w.alloc (.cells (Rc.cells ⟨n, t, c, l, d⟩) 25)).alloc (.cells (Rc.cells ⟨n', t, c, l', d'⟩) 25)) (w.heap.size + 1) 25 (Rc.cells ⟨n', t, c, l', d'⟩))) :
    Calls Try.prog 28 #[(⟨n, t, c, l, d⟩ : Rc).v, (⟨n', t, c, l', d'⟩ : Rc).v] w fun e w' => e = .returned (.bool true) ∧ Below w.heap.size w w' := by
    go_enter Try.func28, Try.ntmps28
    go_wp2
    generalize ((w.alloc (.cells (Rc.cells ⟨n, t, c, l, d⟩) 25)).alloc (.cells (Rc.cells ⟨n', t, c, l', d'⟩) 25)) = W2 at HB K1 K2 ⊢
    have hd := (Below.refl W2.heap.size W2).drew
    have A0 : Ce W2.drew w.heap.size 25 #[.string n, .int .u16 (t : Int), .int .u16 (c : Int), .int .u32 (l : Int), .string d] := K1.out.below hd
    have B0 : Ce W2.drew (w.heap.size + 1) 25 #[.string n', .int .u16 (t : Int), .int .u16 (c : Int), .int .u32 (l' : Int), .string d'] := K2.out.below hd
    have HA0 := Lib.hid A0
    have HB0 := Lib.hid B0
    have H0 := Lib.hid (HB.out.trans (hd.mono HB.out.size))
    clear A0 B0 hd
    go_region_held3 (fun w' => (w'.cell? ⟨w.heap.size, 0, none⟩ = some (.string n) ∧ w'.cell? ⟨w.heap.size, 1, none⟩ = some (.int .u16 (t : Int)) ∧ w'.cell? ⟨w.heap.size, 2, none⟩ = some (.int .u16 (c : Int)) ∧ w'.cell? ⟨w.heap.size, 3, none⟩ = some (.int .u32 (l : Int)) ∧ w'.cell? ⟨w.heap.size, 4, none⟩ = some (.string d)) ∧
        (w'.cell? ⟨w.heap.size + 1, 0, none⟩ = some (.string n') ∧ w'.cell? ⟨w.heap.size + 1, 1, none⟩ = some (.int .u16 (t : Int)) ∧ w'.cell? ⟨w.heap.size + 1, 2, none⟩ = some (.int .u16 (c : Int)) ∧ w'.cell? ⟨w.heap.size + 1, 3, none⟩ = some (.int .u32 (l' : Int)) ∧ w'.cell? ⟨w.heap.size + 1, 4, none⟩ = some (.string d')))
      (first | with_reducible exact ⟨c5 HA0.out, c5 HB0.out⟩ | with_reducible exact ⟨c5 HA1.out, c5 HB1.out⟩ | with_reducible exact ⟨c5 HA2.out, c5 HB2.out⟩ | with_reducible exact ⟨c5 HA3.out, c5 HB3.out⟩ | with_reducible exact ⟨c5 HA4.out, c5 HB4.out⟩)
      (first
        | (go_at_call_of 16 (Value.string n); refine (HC1.out _).mono ?_; rintro e v1 ⟨rfl, hv⟩; have HA1 := Lib.hid (HA0.out.below hv); have HB1 := Lib.hid (HB0.out.below hv); have H1 := Lib.hid (H0.out.trans (hv.mono H0.out.size)); clear hv)
        | (go_at_call_of 16 (Value.string n'); refine (HC2.out _).mono ?_; rintro e v2 ⟨rfl, hv⟩; have HA2 := Lib.hid (HA1.out.below hv); have HB2 := Lib.hid (HB1.out.below hv); have H2 := Lib.hid (H1.out.trans (hv.mono H1.out.size)); clear hv)
        | (go_at_call_of 55 (Value.string n); refine (D1.out _).mono ?_; rintro e v3 ⟨rfl, hv⟩; (first | (have HA4 := Lib.hid (HA3.out.below hv); have HB4 := Lib.hid (HB3.out.below hv); have H4 := Lib.hid (H3.out.trans (hv.mono H3.out.size)); clear hv) | (have HA3 := Lib.hid (HA2.out.below hv); have HB3 := Lib.hid (HB2.out.below hv); have H3 := Lib.hid (H2.out.trans (hv.mono H2.out.size)); clear hv)))
        | (go_at_call_of 55 (Value.string n'); refine (D2.out _).mono ?_; rintro e v3 ⟨rfl, hv⟩; (first | (have HA4 := Lib.hid (HA3.out.below hv); have HB4 := Lib.hid (HB3.out.below hv); have H4 := Lib.hid (H3.out.trans (hv.mono H3.out.size)); clear hv) | (have HA3 := Lib.hid (HA2.out.below hv); have HB3 := Lib.hid (HB2.out.below hv); have H3 := Lib.hid (H2.out.trans (hv.mono H2.out.size)); clear hv))))
    all_goals go_wp2
    all_goals go_ret
    all_goals exact ⟨rfl, H4.out⟩
set_option maxRecDepth 100000 in
set_option maxHeartbeats 12800000 in
theorem alike_d1 (n n' d d' : ByteArray) (t c l t' c' l' : Nat) (k : Int) (w : World) (q1 : (k == 0) = false)
    (HC1 : Hid (∀ w, Calls Try.prog 16 #[(⟨n, t, c, l, d⟩ : Rc).v] w fun e w' => e = .returned (.int .i64 k) ∧ Below w.heap.size w w'))
    (HB : Hid (Below w.heap.size w ((w.alloc (.cells (Rc.cells ⟨n, t, c, l, d⟩) 25)).alloc (.cells (Rc.cells ⟨n', t', c', l', d'⟩) 25))))
    (K1 : Hid (Ce ((w.alloc (.cells (Rc.cells ⟨n, t, c, l, d⟩) 25)).alloc (.cells (Rc.cells ⟨n', t', c', l', d'⟩) 25)) w.heap.size 25 (Rc.cells ⟨n, t, c, l, d⟩)))
    (K2 : Hid (Ce ((w.alloc (.cells (Rc.cells ⟨n, t, c, l, d⟩) 25)).alloc (.cells (Rc.cells ⟨n', t', c', l', d'⟩) 25)) (w.heap.size + 1) 25 (Rc.cells ⟨n', t', c', l', d'⟩))) :
    Calls Try.prog 28 #[(⟨n, t, c, l, d⟩ : Rc).v, (⟨n', t', c', l', d'⟩ : Rc).v] w fun e w' => e = .returned (.bool false) ∧ Below w.heap.size w w' := by
    go_enter Try.func28, Try.ntmps28
    go_wp2
    generalize ((w.alloc (.cells (Rc.cells ⟨n, t, c, l, d⟩) 25)).alloc (.cells (Rc.cells ⟨n', t', c', l', d'⟩) 25)) = W2 at HB K1 K2 ⊢
    have hd := (Below.refl W2.heap.size W2).drew
    have A0 : Ce W2.drew w.heap.size 25 #[.string n, .int .u16 (t : Int), .int .u16 (c : Int), .int .u32 (l : Int), .string d] := K1.out.below hd
    have B0 : Ce W2.drew (w.heap.size + 1) 25 #[.string n', .int .u16 (t' : Int), .int .u16 (c' : Int), .int .u32 (l' : Int), .string d'] := K2.out.below hd
    have HA0 := Lib.hid A0
    have HB0 := Lib.hid B0
    have H0 := Lib.hid (HB.out.trans (hd.mono HB.out.size))
    clear A0 B0 hd
    obtain ⟨x0, x1, x2, x3, x4⟩ := c5 HA0.out
    go_region_with ((go_at_call_of 16 (Value.string n); refine (HC1.out _).mono ?_; rintro e v1 ⟨rfl, hv⟩; have HA1 := Lib.hid (HA0.out.below hv); have HB1 := Lib.hid (HB0.out.below hv); have H1 := Lib.hid (H0.out.trans (hv.mono H0.out.size)); clear hv; obtain ⟨y0, y1, y2, y3, y4⟩ := c5 HB1.out))
    all_goals go_wp2
    all_goals go_ret
    all_goals exact ⟨rfl, H1.out⟩
set_option maxRecDepth 100000 in
set_option maxHeartbeats 12800000 in
theorem alike_d2 (n n' d d' : ByteArray) (t c l t' c' l' : Nat) (k : Int) (w : World) (q1 : (k == 0) = false)
    (HC1 : Hid (∀ w, Calls Try.prog 16 #[(⟨n, t, c, l, d⟩ : Rc).v] w fun e w' => e = .returned (.int .i64 0) ∧ Below w.heap.size w w'))
    (HC2 : Hid (∀ w, Calls Try.prog 16 #[(⟨n', t', c', l', d'⟩ : Rc).v] w fun e w' => e = .returned (.int .i64 k) ∧ Below w.heap.size w w'))
    (HB : Hid (Below w.heap.size w ((w.alloc (.cells (Rc.cells ⟨n, t, c, l, d⟩) 25)).alloc (.cells (Rc.cells ⟨n', t', c', l', d'⟩) 25))))
    (K1 : Hid (Ce ((w.alloc (.cells (Rc.cells ⟨n, t, c, l, d⟩) 25)).alloc (.cells (Rc.cells ⟨n', t', c', l', d'⟩) 25)) w.heap.size 25 (Rc.cells ⟨n, t, c, l, d⟩)))
    (K2 : Hid (Ce ((w.alloc (.cells (Rc.cells ⟨n, t, c, l, d⟩) 25)).alloc (.cells (Rc.cells ⟨n', t', c', l', d'⟩) 25)) (w.heap.size + 1) 25 (Rc.cells ⟨n', t', c', l', d'⟩))) :
    Calls Try.prog 28 #[(⟨n, t, c, l, d⟩ : Rc).v, (⟨n', t', c', l', d'⟩ : Rc).v] w fun e w' => e = .returned (.bool false) ∧ Below w.heap.size w w' := by
    go_enter Try.func28, Try.ntmps28
    go_wp2
    generalize ((w.alloc (.cells (Rc.cells ⟨n, t, c, l, d⟩) 25)).alloc (.cells (Rc.cells ⟨n', t', c', l', d'⟩) 25)) = W2 at HB K1 K2 ⊢
    have hd := (Below.refl W2.heap.size W2).drew
    have A0 : Ce W2.drew w.heap.size 25 #[.string n, .int .u16 (t : Int), .int .u16 (c : Int), .int .u32 (l : Int), .string d] := K1.out.below hd
    have B0 : Ce W2.drew (w.heap.size + 1) 25 #[.string n', .int .u16 (t' : Int), .int .u16 (c' : Int), .int .u32 (l' : Int), .string d'] := K2.out.below hd
    have HA0 := Lib.hid A0
    have HB0 := Lib.hid B0
    have H0 := Lib.hid (HB.out.trans (hd.mono HB.out.size))
    clear A0 B0 hd
    obtain ⟨x0, x1, x2, x3, x4⟩ := c5 HA0.out
    go_region_with (first
      | (go_at_call_of 16 (Value.string n); refine (HC1.out _).mono ?_; rintro e v1 ⟨rfl, hv⟩; have HA1 := Lib.hid (HA0.out.below hv); have HB1 := Lib.hid (HB0.out.below hv); have H1 := Lib.hid (H0.out.trans (hv.mono H0.out.size)); clear hv; obtain ⟨y0, y1, y2, y3, y4⟩ := c5 HB1.out)
      | (go_at_call_of 16 (Value.string n'); refine (HC2.out _).mono ?_; rintro e v2 ⟨rfl, hv⟩; have H2 := Lib.hid (H1.out.trans (hv.mono H1.out.size)); clear hv))
    all_goals go_wp2
    all_goals go_ret
    all_goals exact ⟨rfl, H2.out⟩
theorem ret_bool {a b : Bool} {w0 w' : World} {e : Ending} (h : b = a) : (e = .returned (.bool a) ∧ Below w0.heap.size w0 w') → e = .returned (.bool b) ∧ Below w0.heap.size w0 w' := by rintro ⟨rfl, h2⟩; exact ⟨by rw [h], h2⟩
theorem alike_any (a b : Rc) (ha : a.Ok) (hb : b.Ok) (w : World) :
    Calls Try.prog 28 #[a.v, b.v] w fun e w' => e = .returned (.bool (alk a b)) ∧ Below w.heap.size w w' := by
  have C1 := fun w => rcheckrec_any a ha w
  have C2 := fun w => rcheckrec_any b hb w
  have hbx := Lib.hid ((one_box w (.cells a.cells 25)).alloc (one_box w (.cells a.cells 25)).size (.cells b.cells 25))
  have k1 := Lib.hid (show Ce ((w.alloc (.cells a.cells 25)).alloc (.cells b.cells 25)) w.heap.size 25 a.cells from (Ce.new w 25 a.cells).below (one_box _ _))
  have k2 := Ce.new (w.alloc (.cells a.cells 25)) 25 b.cells
  rw [World.size_alloc] at k2
  have k2 := Lib.hid k2
  by_cases g1 : rck a = 0
  · by_cases g2 : rck b = 0
    · have D1 := Lib.hid (fun w => common_any a ha g1 w)
      have D2 := Lib.hid (fun w => common_any b hb g2 w)
      rw [g1] at C1
      rw [g2] at C2
      have HA : alk a b = decide (cmn a = cmn b) := by unfold alk; simp [g1, g2]
      rw [HA]
      have C1 := Lib.hid C1
      have C2 := Lib.hid C2
      unfold cmn
      generalize low a.n.data.toList = la at D1 ⊢
      generalize low b.n.data.toList = lb at D2 ⊢
      generalize joinP (lowP (pts a.t a.d.data.toList)) = ja at D1 ⊢
      generalize joinP (lowP (pts b.t b.d.data.toList)) = jb at D2 ⊢
      clear HA g1 g2 ha hb
      obtain ⟨n, t, c, l, d⟩ := a
      obtain ⟨n', t', c', l', d'⟩ := b
      simp only at D1 D2 ⊢
      by_cases h1 : la = lb
      · subst h1
        by_cases h2 : t = t'
        · subst h2
          by_cases h3 : c = c'
          · subst h3
            by_cases h4 : ja = jb
            · subst h4
              exact (alike_c5 n n' d d' t c l l' la ja w C1 C2 D1 D2 hbx k1 k2).mono fun e w' h => ret_bool (by simp) h
            · exact (alike_c4 n n' d d' t c l l' la ja jb w h4 C1 C2 D1 D2 hbx k1 k2).mono fun e w' h => ret_bool (by simp [h4]) h
          · exact (alike_c3 n n' d d' t c l c' l' la ja jb w (by omega) C1 C2 D1 D2 hbx k1 k2).mono fun e w' h => ret_bool (by simp [h3]) h
        · exact (alike_c2 n n' d d' t c l t' c' l' la ja jb w (by omega) C1 C2 D1 D2 hbx k1 k2).mono fun e w' h => ret_bool (by simp [h2]) h
      · exact (alike_c1 n n' d d' t c l t' c' l' la lb ja jb w h1 C1 C2 D1 D2 hbx k1 k2).mono fun e w' h => ret_bool (by simp [h1]) h
    · have HA : alk a b = false := by unfold alk; simp [g2]
      rw [g1] at C1
      rw [HA]
      have C1 := Lib.hid C1
      have C2 := Lib.hid C2
      have g3 : (rck b == 0) = false := by simpa using g2
      clear HA ha hb g1 g2
      generalize rck b = k at C2 g3
      obtain ⟨n, t, c, l, d⟩ := a
      obtain ⟨n', t', c', l', d'⟩ := b
      exact alike_d2 n n' d d' t c l t' c' l' k w g3 C1 C2 hbx k1 k2
  · have HA : alk a b = false := by unfold alk; simp [g1]
    rw [HA]
    have C1 := Lib.hid C1
    have g3 : (rck a == 0) = false := by simpa using g1
    clear HA ha hb g1 C2
    generalize rck a = k at C1 g3
    obtain ⟨n, t, c, l, d⟩ := a
    obtain ⟨n', t', c', l', d'⟩ := b
    exact alike_d1 n n' d d' t c l t' c' l' k w g3 C1 hbx k1 k2
theorem chk_low {n : Bs} (h : chk n = 0) : chk (low n) = 0 := by
  obtain ⟨h1, h2⟩ := chk_zero.1 h
  exact chk_zero.2 ⟨by rw [rest_low, h1]; decide, by rw [low_length]; exact h2⟩
theorem sam_low {a b : Bs} (h1 : chk a = 0) (h2 : chk b = 0) : sam a b = decide (low a = low b) := by
  unfold sam
  by_cases h : low a = low b
  · rw [if_pos ⟨by rw [← low_length a, ← low_length b, h], h1, h2⟩]; simp [h]
  · split <;> simp [h]
/-- Bytes ahead, names, bytes behind, the names in lower case. -/
def joinL (x : Bs × List Bs × Bs) : Bs := x.1 ++ ((x.2.1.map low).flatten ++ x.2.2)
theorem names_part : ∀ (l m : List Bs) (r q : Bs), l.length = m.length → (∀ n ∈ l, chk n = 0) → (∀ n ∈ m, chk n = 0) → ((l.map low).flatten ++ r = (m.map low).flatten ++ q ↔ l.map low = m.map low ∧ r = q) := by
  intro l
  induction l with
  | nil =>
    intro m r q hl h1 h2
    cases m with
    | nil => simp
    | cons y m => simp at hl
  | cons x l ih =>
    intro m r q hl h1 h2
    cases m with
    | nil => simp at hl
    | cons y m =>
      have hx := chk_low (h1 x (List.mem_cons_self ..))
      have hy := chk_low (h2 y (List.mem_cons_self ..))
      have hi := ih m r q (by simpa using hl) (fun n hn => h1 n (List.mem_cons_of_mem _ hn)) (fun n hn => h2 n (List.mem_cons_of_mem _ hn))
      simp only [List.map_cons, List.flatten_cons, List.append_assoc, List.cons.injEq]
      constructor
      · intro h
        have e1 := fst1_name ((l.map low).flatten ++ r) hx
        rw [h, fst1_name _ hy] at e1
        simp only [Option.some.injEq, Prod.mk.injEq] at e1
        have := hi.1 e1.2.symm
        exact ⟨⟨e1.1.symm, this.1⟩, this.2⟩
      · rintro ⟨⟨h3, h4⟩, h5⟩
        rw [h3, h4, h5]
theorem joinL_eq {x y : Bs × List Bs × Bs} (h1 : x.1.length = y.1.length) (h2 : x.2.1.length = y.2.1.length) (h3 : ∀ n ∈ x.2.1, chk n = 0) (h4 : ∀ n ∈ y.2.1, chk n = 0) :
    joinL x = joinL y ↔ x.1 = y.1 ∧ x.2.1.map low = y.2.1.map low ∧ x.2.2 = y.2.2 := by
  unfold joinL
  constructor
  · intro h
    obtain ⟨e1, e2⟩ := List.append_inj h h1
    exact ⟨e1, (names_part _ _ _ _ h2 h3 h4).1 e2⟩
  · rintro ⟨e1, e2, e3⟩
    rw [e1, e2, e3]
theorem nmL_chk : ∀ (k : Nat) (d : Bs) (ns : List Bs) (q : Bs), nmL k d = some (ns, q) → ns.length = k ∧ ∀ n ∈ ns, chk n = 0 := by
  intro k
  induction k with
  | zero => intro d ns q h; simp [nmL] at h; obtain ⟨rfl, _⟩ := h; simp
  | succ k ih =>
    intro d ns q h
    simp only [nmL] at h
    cases hf : fst1 d with
    | none => rw [hf] at h; cases h
    | some p =>
      obtain ⟨n, r⟩ := p
      rw [hf] at h
      simp only at h
      cases hr : nmL k r with
      | none => rw [hr] at h; cases h
      | some p2 =>
        obtain ⟨ms, q2⟩ := p2
        rw [hr] at h
        simp only [Option.some.injEq, Prod.mk.injEq] at h
        obtain ⟨rfl, rfl⟩ := h
        have := ih r ms q2 hr
        refine ⟨by simp [this.1], ?_⟩
        intro x hx
        rcases List.mem_cons.1 hx with rfl | hx
        · exact (fst1_some hf).2
        · exact this.2 x hx
theorem nms_facts {t : Nat} {d : Bs} {x : Bs × List Bs × Bs} (h : named t = true) (hx : nms t d = some x) :
    x.1.length = nhA t ∧ x.2.1.length = nhN t ∧ (∀ n ∈ x.2.1, chk n = 0) ∧ x.2.2.length = nhB t := by
  rw [nms_nmL d h] at hx
  by_cases hA : nhA t ≤ d.length
  · rw [if_pos hA] at hx
    cases hr : nmL (nhN t) (d.drop (nhA t)) with
    | none => rw [hr] at hx; cases hx
    | some p =>
      obtain ⟨ns, q⟩ := p
      rw [hr] at hx
      simp only at hx
      have hk := nmL_chk _ _ _ _ hr
      split at hx
      · rename_i hq
        simp only [Option.some.injEq] at hx
        subst hx
        refine ⟨by simp; omega, hk.1, hk.2, hq⟩
      · cases hx
  · rw [if_neg hA] at hx; cases hx
theorem join_named {t : Nat} {d : Bs} {x : Bs × List Bs × Bs} (h : named t = true) (hx : nms t d = some x) : joinP (lowP (pts t d)) = joinL x := by
  obtain ⟨h1, h2, h3, h4⟩ := nms_facts h hx
  have hj : ∀ ns : List Bs, joinP (lowP (ns.map fun n => ((true, n) : Part))) = (ns.map low).flatten := by
    intro ns
    induction ns with
    | nil => rfl
    | cons n ns ih =>
      have e : joinP (lowP (((n :: ns).map fun n => ((true, n) : Part)))) = low n ++ joinP (lowP (ns.map fun n => ((true, n) : Part))) := rfl
      rw [e, ih]; rfl
  have ha : ∀ p q : List Part, joinP (lowP (p ++ q)) = joinP (lowP p) ++ joinP (lowP q) := by intro p q; simp [joinP, lowP]
  unfold pts
  rw [if_pos h, hx]
  simp only
  unfold ptsOf joinL
  unfold named at h
  simp only [decide_eq_true_eq] at h
  by_cases g : t = 15
  · subst g
    have hb : x.2.2 = [] := List.length_eq_zero_iff.1 h4
    rw [if_pos rfl, hb, List.append_nil]
    have e : joinP (lowP ((false, x.1) :: x.2.1.map fun n => ((true, n) : Part))) = x.1 ++ joinP (lowP (x.2.1.map fun n => ((true, n) : Part))) := rfl
    rw [e, hj]
  · have hz : nhA t = 0 := by unfold nhA; rw [if_neg g]
    have hx1 : x.1 = [] := List.length_eq_zero_iff.1 (by rw [h1, hz])
    rw [if_neg g, hx1, List.nil_append]
    by_cases g6 : t = 6
    · rw [if_pos g6, ha, hj]
      have e : joinP (lowP [((false, x.2.2) : Part)]) = x.2.2 ++ [] := rfl
      rw [e, List.append_nil]
    · have hb : x.2.2 = [] := List.length_eq_zero_iff.1 (by rw [h4]; unfold nhB; rw [if_neg g6])
      rw [if_neg g6, hj, hb, List.append_nil]
theorem join_plain {t : Nat} {d : Bs} (h : named t = false) : joinP (lowP (pts t d)) = d := by
  unfold pts
  rw [if_neg (by simp [h])]
  have e : joinP (lowP [((false, d) : Part)]) = d ++ [] := rfl
  rw [e, List.append_nil]
/-- The names of two rows, held against each other. -/
def samK (l m : List Bs) (k : Nat) : Bool := (List.range k).all fun j => sam (l.getD j []) (m.getD j [])
theorem samK_succ (l m : List Bs) (k : Nat) : samK l m (k + 1) = (samK l m k && sam (l.getD k []) (m.getD k [])) := by
  simp [samK, List.range_succ, List.all_append]
theorem samK_map {l m : List Bs} (hl : l.length = m.length) (h1 : ∀ n ∈ l, chk n = 0) (h2 : ∀ n ∈ m, chk n = 0) : samK l m l.length = decide (l.map low = m.map low) := by
  rw [Bool.eq_iff_iff, decide_eq_true_eq]
  unfold samK
  rw [List.all_eq_true]
  constructor
  · intro h
    apply List.ext_getElem
    · simp [hl]
    · intro i g1 g2
      have gi : i < l.length := by simpa using g1
      have gj : i < m.length := by omega
      have := h i (List.mem_range.2 gi)
      rw [List.getD_eq_getElem?_getD, List.getD_eq_getElem?_getD, List.getElem?_eq_getElem gi, List.getElem?_eq_getElem gj, Option.getD_some, Option.getD_some, sam_low (h1 _ (List.getElem_mem gi)) (h2 _ (List.getElem_mem gj))] at this
      simpa using this
  · intro h i hi
    have gi : i < l.length := List.mem_range.1 hi
    have gj : i < m.length := by omega
    rw [List.getD_eq_getElem?_getD, List.getD_eq_getElem?_getD, List.getElem?_eq_getElem gi, List.getElem?_eq_getElem gj, Option.getD_some, Option.getD_some, sam_low (h1 _ (List.getElem_mem gi)) (h2 _ (List.getElem_mem gj))]
    have e : (l.map low)[i]? = (m.map low)[i]? := by rw [h]
    rw [List.getElem?_map, List.getElem?_map, List.getElem?_eq_getElem gi, List.getElem?_eq_getElem gj] at e
    simpa using e
theorem alk_bad {a b : Rc} (h : rck a = 0 → rck b = 0 → sam a.n.data.toList b.n.data.toList = true → a.t = b.t → a.c = b.c → False) : alk a b = false := by
  unfold alk cmn
  rw [decide_eq_false_iff_not]
  rintro ⟨h1, h2, h3⟩
  simp only [Prod.mk.injEq] at h3
  exact h h1 h2 (by rw [sam_low (rck_zero h1).1 (rck_zero h2).1]; simpa using h3.1) h3.2.1 h3.2.2.1
theorem alk_plain {a b : Rc} (h1 : rck a = 0) (h2 : rck b = 0) (h3 : sam a.n.data.toList b.n.data.toList = true) (h4 : a.t = b.t) (h5 : a.c = b.c) (h6 : named a.t = false) : alk a b = decide (a.d.data.toList = b.d.data.toList) := by
  rw [sam_low (rck_zero h1).1 (rck_zero h2).1, decide_eq_true_eq] at h3
  unfold alk cmn
  rw [join_plain h6, join_plain (by rw [← h4]; exact h6)]
  simp [h1, h2, h3, h4, h5]
theorem alk_named {a b : Rc} {x y : Bs × List Bs × Bs} (h1 : rck a = 0) (h2 : rck b = 0) (h3 : sam a.n.data.toList b.n.data.toList = true) (h4 : a.t = b.t) (h5 : a.c = b.c) (h6 : named a.t = true)
    (hx : nms a.t a.d.data.toList = some x) (hy : nms b.t b.d.data.toList = some y) : alk a b = ((decide (x.1 = y.1) && decide (x.2.2 = y.2.2)) && samK x.2.1 y.2.1 x.2.1.length) ∧ x.2.1.length = y.2.1.length := by
  rw [sam_low (rck_zero h1).1 (rck_zero h2).1, decide_eq_true_eq] at h3
  have h6' : named b.t = true := by rw [← h4]; exact h6
  obtain ⟨p1, p2, p3, p4⟩ := nms_facts h6 hx
  obtain ⟨q1, q2, q3, q4⟩ := nms_facts h6' hy
  have e1 : x.1.length = y.1.length := by rw [p1, q1, h4]
  have e2 : x.2.1.length = y.2.1.length := by rw [p2, q2, h4]
  refine ⟨?_, e2⟩
  unfold alk cmn
  rw [join_named h6 hx, join_named h6' hy, samK_map e2 p3 q3]
  have := joinL_eq e1 e2 p3 q3
  rw [Bool.eq_iff_iff]
  simp only [h1, h2, h3, h4, h5, this, decide_eq_true_eq, Bool.and_eq_true, true_and, Prod.mk.injEq]
  exact ⟨fun h => ⟨⟨h.1, h.2.2⟩, h.2.1⟩, fun h => ⟨h.1.1, h.2, h.1.2⟩⟩
theorem nms_some {r : Rc} (h : rck r = 0) (h6 : named r.t = true) : ∃ x, nms r.t r.d.data.toList = some x := by
  have := (rck_zero h).2.2
  unfold vld at this
  rw [if_pos h6] at this
  exact Option.isSome_iff_exists.1 this
/-- The boxes of two records. -/
abbrev two (w : World) (a b : Rc) : World := (w.alloc (.cells a.cells 25)).alloc (.cells b.cells 25)
theorem two_a (w : World) (a b : Rc) : Ce (two w a b) w.heap.size 25 a.cells := (Ce.new w 25 a.cells).below (one_box _ _)
theorem two_b (w : World) (a b : Rc) : Ce (two w a b) (w.heap.size + 1) 25 b.cells := by
  have := Ce.new (w.alloc (.cells a.cells 25)) 25 b.cells
  rw [World.size_alloc] at this
  exact this
theorem two_below (w : World) (a b : Rc) : Below w.heap.size w (two w a b) := (one_box w (.cells a.cells 25)).alloc (one_box w (.cells a.cells 25)).size (.cells b.cells 25)
set_option maxRecDepth 100000 in
set_option maxHeartbeats 6400000 in
theorem ralike_e1 (n n' d d' : ByteArray) (t c l t' c' l' : Nat) (s : Bool) (k : Int) (w : World) (q1 : (k != 0) = true)
    (HS : Hid (∀ w, Calls Try.prog 56 #[.string n, .string n'] w fun e w' => e = .returned (.bool s) ∧ Below w.heap.size w w'))
    (HC1 : Hid (∀ w, Calls Try.prog 17 #[(⟨n, t, c, l, d⟩ : Rc).v] w fun e w' => e = .returned (.int .i64 k) ∧ Below w.heap.size w w')) :
    Calls Try.prog 29 #[(⟨n, t, c, l, d⟩ : Rc).v, (⟨n', t', c', l', d'⟩ : Rc).v] w fun e w' => e = .returned (.bool false) ∧ Below w.heap.size w w' := by
  have K1 := Lib.hid (two_a w ⟨n, t, c, l, d⟩ ⟨n', t', c', l', d'⟩)
  have K2 := Lib.hid (two_b w ⟨n, t, c, l, d⟩ ⟨n', t', c', l', d'⟩)
  have HB := Lib.hid (two_below w ⟨n, t, c, l, d⟩ ⟨n', t', c', l', d'⟩)
  go_enter Try.func29, Try.ntmps29
  go_wp2_with fail
  refine (HS.out _).mono ?_
  rintro e w1 ⟨rfl, h1⟩
  obtain ⟨x0, x1, x2, x3, x4⟩ := c5 (K1.out.below h1)
  obtain ⟨y0, y1, y2, y3, y4⟩ := c5 (K2.out.below h1)
  have H1 := Lib.hid (HB.out.trans (h1.mono HB.out.size))
  clear h1
  go_wp2_with fail
  refine (HC1.out _).mono ?_
  rintro e w2 ⟨rfl, h2⟩
  have H2 := Lib.hid (H1.out.trans (h2.mono H1.out.size))
  clear h2
  go_wp2
  go_ret
  exact ⟨rfl, H2.out⟩
set_option maxRecDepth 100000 in
set_option maxHeartbeats 6400000 in
theorem ralike_e2 (n n' d d' : ByteArray) (t c l t' c' l' : Nat) (s : Bool) (k : Int) (w : World) (q1 : (k != 0) = true)
    (HS : Hid (∀ w, Calls Try.prog 56 #[.string n, .string n'] w fun e w' => e = .returned (.bool s) ∧ Below w.heap.size w w'))
    (HC1 : Hid (∀ w, Calls Try.prog 17 #[(⟨n, t, c, l, d⟩ : Rc).v] w fun e w' => e = .returned (.int .i64 0) ∧ Below w.heap.size w w'))
    (HC2 : Hid (∀ w, Calls Try.prog 17 #[(⟨n', t', c', l', d'⟩ : Rc).v] w fun e w' => e = .returned (.int .i64 k) ∧ Below w.heap.size w w')) :
    Calls Try.prog 29 #[(⟨n, t, c, l, d⟩ : Rc).v, (⟨n', t', c', l', d'⟩ : Rc).v] w fun e w' => e = .returned (.bool false) ∧ Below w.heap.size w w' := by
  have K1 := Lib.hid (two_a w ⟨n, t, c, l, d⟩ ⟨n', t', c', l', d'⟩)
  have K2 := Lib.hid (two_b w ⟨n, t, c, l, d⟩ ⟨n', t', c', l', d'⟩)
  have HB := Lib.hid (two_below w ⟨n, t, c, l, d⟩ ⟨n', t', c', l', d'⟩)
  go_enter Try.func29, Try.ntmps29
  go_wp2_with fail
  refine (HS.out _).mono ?_
  rintro e w1 ⟨rfl, h1⟩
  have A1 := K1.out.below h1
  have B1 := K2.out.below h1
  obtain ⟨x0, x1, x2, x3, x4⟩ := c5 A1
  obtain ⟨y0, y1, y2, y3, y4⟩ := c5 B1
  have H1 := Lib.hid (HB.out.trans (h1.mono HB.out.size))
  have HA1 := Lib.hid A1
  have HB1 := Lib.hid B1
  clear h1 A1 B1
  go_wp2_with fail
  refine (HC1.out _).mono ?_
  rintro e w2 ⟨rfl, h2⟩
  clear x0 x1 x2 x3 x4 y0 y1 y2 y3 y4
  have A1 := HA1.out.below h2
  have B1 := HB1.out.below h2
  obtain ⟨x0, x1, x2, x3, x4⟩ := c5 A1
  obtain ⟨y0, y1, y2, y3, y4⟩ := c5 B1
  have HA2 := Lib.hid A1
  have HB2 := Lib.hid B1
  have H2 := Lib.hid (H1.out.trans (h2.mono H1.out.size))
  clear h2 A1 B1
  go_wp2_with fail
  refine (HC2.out _).mono ?_
  rintro e w3 ⟨rfl, h3⟩
  have H3 := Lib.hid (H2.out.trans (h3.mono H2.out.size))
  clear h3
  go_wp2
  go_ret
  exact ⟨rfl, H3.out⟩
set_option maxRecDepth 100000 in
set_option maxHeartbeats 6400000 in
theorem ralike_e3 (n n' d d' : ByteArray) (t c l t' c' l' : Nat) (s : Bool) (w : World) (hq : s = false ∨ (s = true ∧ ((t : Int) != (t' : Int)) = true) ∨ (s = true ∧ t' = t ∧ ((c : Int) != (c' : Int)) = true))
    (HS : Hid (∀ w, Calls Try.prog 56 #[.string n, .string n'] w fun e w' => e = .returned (.bool s) ∧ Below w.heap.size w w'))
    (HC1 : Hid (∀ w, Calls Try.prog 17 #[(⟨n, t, c, l, d⟩ : Rc).v] w fun e w' => e = .returned (.int .i64 0) ∧ Below w.heap.size w w'))
    (HC2 : Hid (∀ w, Calls Try.prog 17 #[(⟨n', t', c', l', d'⟩ : Rc).v] w fun e w' => e = .returned (.int .i64 0) ∧ Below w.heap.size w w')) :
    Calls Try.prog 29 #[(⟨n, t, c, l, d⟩ : Rc).v, (⟨n', t', c', l', d'⟩ : Rc).v] w fun e w' => e = .returned (.bool false) ∧ Below w.heap.size w w' := by
  have K1 := Lib.hid (two_a w ⟨n, t, c, l, d⟩ ⟨n', t', c', l', d'⟩)
  have K2 := Lib.hid (two_b w ⟨n, t, c, l, d⟩ ⟨n', t', c', l', d'⟩)
  have HB := Lib.hid (two_below w ⟨n, t, c, l, d⟩ ⟨n', t', c', l', d'⟩)
  rcases hq with rfl | ⟨rfl, q2⟩ | ⟨rfl, rfl, q3⟩
  all_goals
    go_enter Try.func29, Try.ntmps29
    go_wp2_with fail
    refine (HS.out _).mono ?_
    rintro e w1 ⟨rfl, h1⟩
    have A1 := K1.out.below h1
    have B1 := K2.out.below h1
    obtain ⟨x0, x1, x2, x3, x4⟩ := c5 A1
    obtain ⟨y0, y1, y2, y3, y4⟩ := c5 B1
    have H1 := Lib.hid (HB.out.trans (h1.mono HB.out.size))
    have HA1 := Lib.hid A1
    have HB1 := Lib.hid B1
    clear h1 A1 B1
    go_wp2_with fail
    refine (HC1.out _).mono ?_
    rintro e w2 ⟨rfl, h2⟩
    clear x0 x1 x2 x3 x4 y0 y1 y2 y3 y4
    have A1 := HA1.out.below h2
    have B1 := HB1.out.below h2
    obtain ⟨x0, x1, x2, x3, x4⟩ := c5 A1
    obtain ⟨y0, y1, y2, y3, y4⟩ := c5 B1
    have HA2 := Lib.hid A1
    have HB2 := Lib.hid B1
    have H2 := Lib.hid (H1.out.trans (h2.mono H1.out.size))
    clear h2 A1 B1
    go_wp2_with fail
    refine (HC2.out _).mono ?_
    rintro e w3 ⟨rfl, h3⟩
    clear x0 x1 x2 x3 x4 y0 y1 y2 y3 y4
    obtain ⟨x0, x1, x2, x3, x4⟩ := c5 (HA2.out.below h3)
    obtain ⟨y0, y1, y2, y3, y4⟩ := c5 (HB2.out.below h3)
    have H3 := Lib.hid (H2.out.trans (h3.mono H2.out.size))
    clear h3
    go_wp2
    go_ret
    exact ⟨rfl, H3.out⟩
set_option maxRecDepth 100000 in
set_option maxHeartbeats 6400000 in
theorem ralike_p (n n' d d' : ByteArray) (t c l l' : Nat) (R : Bool) (w : World) (hR : (R = true ∧ d = d') ∨ (R = false ∧ (d.toList == d'.toList) = false ∧ ¬ d = d'))
    (HS : Hid (∀ w, Calls Try.prog 56 #[.string n, .string n'] w fun e w' => e = .returned (.bool true) ∧ Below w.heap.size w w'))
    (HC1 : Hid (∀ w, Calls Try.prog 17 #[(⟨n, t, c, l, d⟩ : Rc).v] w fun e w' => e = .returned (.int .i64 0) ∧ Below w.heap.size w w'))
    (HC2 : Hid (∀ w, Calls Try.prog 17 #[(⟨n', t, c, l', d'⟩ : Rc).v] w fun e w' => e = .returned (.int .i64 0) ∧ Below w.heap.size w w'))
    (HN1 : Hid (∀ w, Calls Try.prog 33 #[.int .u16 (t : Int), .string d] w (NmPost w none))) :
    Calls Try.prog 29 #[(⟨n, t, c, l, d⟩ : Rc).v, (⟨n', t, c, l', d'⟩ : Rc).v] w fun e w' => e = .returned (.bool R) ∧ Below w.heap.size w w' := by
  have K1 := Lib.hid (two_a w ⟨n, t, c, l, d⟩ ⟨n', t, c, l', d'⟩)
  have K2 := Lib.hid (two_b w ⟨n, t, c, l, d⟩ ⟨n', t, c, l', d'⟩)
  have HB := Lib.hid (two_below w ⟨n, t, c, l, d⟩ ⟨n', t, c, l', d'⟩)
  rcases hR with ⟨rfl, rfl⟩ | ⟨rfl, q1, q2⟩
  all_goals
    go_enter Try.func29, Try.ntmps29
    go_wp2_with fail
    refine (HS.out _).mono ?_
    rintro e w1 ⟨rfl, h1⟩
    have A1 := K1.out.below h1
    have B1 := K2.out.below h1
    obtain ⟨x0, x1, x2, x3, x4⟩ := c5 A1
    obtain ⟨y0, y1, y2, y3, y4⟩ := c5 B1
    have H1 := Lib.hid (HB.out.trans (h1.mono HB.out.size))
    have HA1 := Lib.hid A1
    have HB1 := Lib.hid B1
    clear h1 A1 B1
    go_wp2_with fail
    refine (HC1.out _).mono ?_
    rintro e w2 ⟨rfl, h2⟩
    clear x0 x1 x2 x3 x4 y0 y1 y2 y3 y4
    have A1 := HA1.out.below h2
    have B1 := HB1.out.below h2
    obtain ⟨x0, x1, x2, x3, x4⟩ := c5 A1
    obtain ⟨y0, y1, y2, y3, y4⟩ := c5 B1
    have HA2 := Lib.hid A1
    have HB2 := Lib.hid B1
    have H2 := Lib.hid (H1.out.trans (h2.mono H1.out.size))
    clear h2 A1 B1
    go_wp2_with fail
    refine (HC2.out _).mono ?_
    rintro e w3 ⟨rfl, h3⟩
    clear x0 x1 x2 x3 x4 y0 y1 y2 y3 y4
    have A1 := HA2.out.below h3
    have B1 := HB2.out.below h3
    obtain ⟨x0, x1, x2, x3, x4⟩ := c5 A1
    obtain ⟨y0, y1, y2, y3, y4⟩ := c5 B1
    have HA3 := Lib.hid A1
    have HB3 := Lib.hid B1
    have H3 := Lib.hid (H2.out.trans (h3.mono H2.out.size))
    clear h3 A1 B1
    go_wp2_with fail
    refine (HN1.out _).mono ?_
    rintro e w4 ⟨⟨a, v, b, rfl, _⟩, h4⟩
    clear x0 x1 x2 x3 x4 y0 y1 y2 y3 y4
    obtain ⟨x0, x1, x2, x3, x4⟩ := c5 (HA3.out.below h4)
    obtain ⟨y0, y1, y2, y3, y4⟩ := c5 (HB3.out.below h4)
    have H4 := Lib.hid (H3.out.trans (h4.mono H3.out.size))
    clear h4
    go_wp2
    go_ret
    exact ⟨rfl, H4.out⟩
theorem nmp_some {w w' : World} {x : Bs × List Bs × Bs} {e : Ending} (h : NmPost w (some x) e w') :
    ∃ v, e = .returned (.tuple #[str x.1, v, str x.2.2, .bool true]) ∧ Own9 w' w.heap.size v x.2.1 ∧ Below w.heap.size w w' := by
  obtain ⟨⟨a, v, b, rfl, h⟩, hb⟩ := h
  obtain ⟨rfl, rfl, h3⟩ := h x rfl
  exact ⟨v, rfl, h3, hb⟩
set_option maxRecDepth 100000 in
set_option maxHeartbeats 12800000 in
theorem ralike_n (n n' d d' : ByteArray) (t c l l' : Nat) (X U Y V : Bs) (L M : List Bs) (N : Nat) (E0 : Bool) (w : World)
    (hE : (E0 = true ∧ X = U ∧ Y = V) ∨ (E0 = false ∧ X = U ∧ ¬ Y = V) ∨ (E0 = false ∧ ¬ X = U))
    (hN : N ≤ 2) (HL : Hid (L.length = N)) (HM : Hid (M.length = N)) (HLs : Hid (∀ x ∈ L, x.length ≤ 1000000)) (HMs : Hid (∀ x ∈ M, x.length ≤ 1000000))
    (HS : Hid (∀ w, Calls Try.prog 56 #[.string n, .string n'] w fun e w' => e = .returned (.bool true) ∧ Below w.heap.size w w'))
    (HC1 : Hid (∀ w, Calls Try.prog 17 #[(⟨n, t, c, l, d⟩ : Rc).v] w fun e w' => e = .returned (.int .i64 0) ∧ Below w.heap.size w w'))
    (HC2 : Hid (∀ w, Calls Try.prog 17 #[(⟨n', t, c, l', d'⟩ : Rc).v] w fun e w' => e = .returned (.int .i64 0) ∧ Below w.heap.size w w'))
    (HN1 : Hid (∀ w, Calls Try.prog 33 #[.int .u16 (t : Int), .string d] w (NmPost w (some (X, L, Y)))))
    (HN2 : Hid (∀ w, Calls Try.prog 33 #[.int .u16 (t : Int), .string d'] w (NmPost w (some (U, M, V))))) :
    Calls Try.prog 29 #[(⟨n, t, c, l, d⟩ : Rc).v, (⟨n', t, c, l', d'⟩ : Rc).v] w fun e w' => e = .returned (.bool (E0 && samK L M N)) ∧ Below w.heap.size w w' := by
  have K1 := Lib.hid (two_a w ⟨n, t, c, l, d⟩ ⟨n', t, c, l', d'⟩)
  have K2 := Lib.hid (two_b w ⟨n, t, c, l, d⟩ ⟨n', t, c, l', d'⟩)
  have HB := Lib.hid (two_below w ⟨n, t, c, l, d⟩ ⟨n', t, c, l', d'⟩)
  obtain ⟨G, hG⟩ : ∃ G, G = samK L M := ⟨_, rfl⟩
  have HG := Lib.hid hG
  rw [← hG]
  clear hG
  have HG0 : Hid (G 0 = true) := Lib.hid (by rw [HG.out]; rfl)
  rcases hE with ⟨rfl, rfl, rfl⟩ | ⟨rfl, rfl, q2⟩ | ⟨rfl, q1⟩
  · go_enter Try.func29, Try.ntmps29
    go_wp2_with fail
    refine (HS.out _).mono ?_
    rintro e w1 ⟨rfl, h1⟩
    have A1 := K1.out.below h1
    have B1 := K2.out.below h1
    obtain ⟨x0, x1, x2, x3, x4⟩ := c5 A1
    obtain ⟨y0, y1, y2, y3, y4⟩ := c5 B1
    have H1 := Lib.hid (HB.out.trans (h1.mono HB.out.size))
    have HA1 := Lib.hid A1
    have HB1 := Lib.hid B1
    clear h1 A1 B1
    go_wp2_with fail
    refine (HC1.out _).mono ?_
    rintro e w2 ⟨rfl, h2⟩
    clear x0 x1 x2 x3 x4 y0 y1 y2 y3 y4
    have A1 := HA1.out.below h2
    have B1 := HB1.out.below h2
    obtain ⟨x0, x1, x2, x3, x4⟩ := c5 A1
    obtain ⟨y0, y1, y2, y3, y4⟩ := c5 B1
    have HA2 := Lib.hid A1
    have HB2 := Lib.hid B1
    have H2 := Lib.hid (H1.out.trans (h2.mono H1.out.size))
    clear h2 A1 B1
    go_wp2_with fail
    refine (HC2.out _).mono ?_
    rintro e w3 ⟨rfl, h3⟩
    clear x0 x1 x2 x3 x4 y0 y1 y2 y3 y4
    have A1 := HA2.out.below h3
    have B1 := HB2.out.below h3
    obtain ⟨x0, x1, x2, x3, x4⟩ := c5 A1
    obtain ⟨y0, y1, y2, y3, y4⟩ := c5 B1
    have HA3 := Lib.hid A1
    have HB3 := Lib.hid B1
    have H3 := Lib.hid (H2.out.trans (h3.mono H2.out.size))
    clear h3 A1 B1
    go_wp2_with fail
    refine (HN1.out _).mono ?_
    intro e w4 hh
    obtain ⟨v, rfl, o4, h4⟩ := nmp_some hh
    clear hh
    clear x0 x1 x2 x3 x4 y0 y1 y2 y3 y4
    obtain ⟨x0, x1, x2, x3, x4⟩ := c5 (HA3.out.below h4)
    obtain ⟨y0, y1, y2, y3, y4⟩ := c5 (HB3.out.below h4)
    have H4 := Lib.hid (H3.out.trans (h4.mono H3.out.size))
    have O4 := Lib.hid o4
    clear h4 o4
    go_wp2_with fail
    refine (HN2.out _).mono ?_
    intro e w5 hh
    obtain ⟨u, rfl, o5, h5⟩ := nmp_some hh
    clear hh
    clear x0 x1 x2 x3 x4 y0 y1 y2 y3 y4
    have o4' := O4.out.below h5
    obtain ⟨a1, cap1, rfl⟩ := row_slice o4'
    obtain ⟨a2, cap2, rfl⟩ := row_slice o5
    have P4 := Lib.hid o4'
    have P5 := Lib.hid o5
    have H5 := Lib.hid (H4.out.trans (h5.mono H4.out.size))
    clear o4' o5 h5 O4
    simp only
    rw [HL.out, HM.out]
    rw [HL.out] at P4
    rw [HM.out] at P5
    simp only at P4 P5
    go_wp2
    go_loopw [14, 15] (fun s i wr => ∃ k : Nat, k ≤ N ∧ s = .bool (true && G k) ∧ i = .int .i64 k ∧ Below w5.heap.size w5 wr) (fun _ i _ => N - (intOf i).toNat)
    case atStart => exact ⟨0, by omega, by rw [HG0.out]; rfl, rfl, Below.refl _ _⟩
    case round =>
      obtain ⟨k, hk, rfl, rfl, hbr⟩ := hrel
      by_cases hlt : k < N
      · have q3 : (k : Int) < (N : Int) := by omega
        obtain ⟨x, hx⟩ : ∃ x, L[k]? = some x := ⟨_, List.getElem?_eq_getElem (by rw [HL.out]; exact hlt)⟩
        obtain ⟨y, hy⟩ : ∃ y, M[k]? = some y := ⟨_, List.getElem?_eq_getElem (by rw [HM.out]; exact hlt)⟩
        obtain ⟨g1, rfl, hg1, c1⟩ := own_get P4.out hx
        obtain ⟨g2, rfl, hg2, c2⟩ := own_get P5.out hy
        have d1 : wr.cell? ⟨g1, k, none⟩ = some (.string ⟨x.toArray⟩) := (hbr.cell (p := ⟨g1, k, none⟩) hg1).trans c1
        have d2 : wr.cell? ⟨g2, k, none⟩ = some (.string ⟨y.toArray⟩) := (hbr.cell (p := ⟨g2, k, none⟩) hg2).trans c2
        have HZ : Hid (G (k + 1) = (G k && sam x y)) := Lib.hid (by
          rw [HG.out, samK_succ, List.getD_eq_getElem?_getD, List.getD_eq_getElem?_getD, hx, hy]; rfl)
        have HQ := Lib.hid (fun w => rsame_any ⟨x.toArray⟩ ⟨y.toArray⟩ (HLs.out x (List.mem_of_getElem? hx)) (HMs.out y (List.mem_of_getElem? hy)) w)
        simp only at HQ
        generalize sam x y = z at HZ HQ
        clear hx hy c1 c2
        have HBR := Lib.hid hbr
        clear hbr
        obtain ⟨b, hb⟩ : ∃ b, b = G k := ⟨_, rfl⟩
        rw [← hb] at HZ ⊢
        clear hb
        cases b
        all_goals
          go_wp2
          go_region_held3 (fun w' => w'.cell? ⟨g1, k, none⟩ = some (.string ⟨x.toArray⟩) ∧ w'.cell? ⟨g2, k, none⟩ = some (.string ⟨y.toArray⟩)) (first | go_keep | (go_split_ands; exact ⟨cell_later (by assumption) (by assumption), cell_later (by assumption) (by assumption)⟩))
            (first | (go_at_call 56; refine (HQ.out _).mono ?_; rintro e w6 ⟨rfl, h6⟩))
          have H6 := Lib.hid (HBR.out.trans (((Below.refl _ wr).drew.trans h6).mono HBR.out.size))
          clear h6 d1 d2
          go_wp2
          go_roundw
          case rel => exact ⟨k + 1, by omega, by rw [HZ.out]; simp, by go_num, H6.out⟩
          case measure => simp [intOf]; omega
      · have q3 : decide ((k : Int) < (N : Int)) = false := by simp; omega
        obtain rfl : k = N := by omega
        have HBR := Lib.hid (H5.out.trans (hbr.mono H5.out.size))
        clear hbr
        go_wp2
        go_ret
        exact ⟨rfl, HBR.out⟩
  · have q2b : (Y == V) = false := by simpa using q2
    go_enter Try.func29, Try.ntmps29
    go_wp2_with fail
    refine (HS.out _).mono ?_
    rintro e w1 ⟨rfl, h1⟩
    have A1 := K1.out.below h1
    have B1 := K2.out.below h1
    obtain ⟨x0, x1, x2, x3, x4⟩ := c5 A1
    obtain ⟨y0, y1, y2, y3, y4⟩ := c5 B1
    have H1 := Lib.hid (HB.out.trans (h1.mono HB.out.size))
    have HA1 := Lib.hid A1
    have HB1 := Lib.hid B1
    clear h1 A1 B1
    go_wp2_with fail
    refine (HC1.out _).mono ?_
    rintro e w2 ⟨rfl, h2⟩
    clear x0 x1 x2 x3 x4 y0 y1 y2 y3 y4
    have A1 := HA1.out.below h2
    have B1 := HB1.out.below h2
    obtain ⟨x0, x1, x2, x3, x4⟩ := c5 A1
    obtain ⟨y0, y1, y2, y3, y4⟩ := c5 B1
    have HA2 := Lib.hid A1
    have HB2 := Lib.hid B1
    have H2 := Lib.hid (H1.out.trans (h2.mono H1.out.size))
    clear h2 A1 B1
    go_wp2_with fail
    refine (HC2.out _).mono ?_
    rintro e w3 ⟨rfl, h3⟩
    clear x0 x1 x2 x3 x4 y0 y1 y2 y3 y4
    have A1 := HA2.out.below h3
    have B1 := HB2.out.below h3
    obtain ⟨x0, x1, x2, x3, x4⟩ := c5 A1
    obtain ⟨y0, y1, y2, y3, y4⟩ := c5 B1
    have HA3 := Lib.hid A1
    have HB3 := Lib.hid B1
    have H3 := Lib.hid (H2.out.trans (h3.mono H2.out.size))
    clear h3 A1 B1
    go_wp2_with fail
    refine (HN1.out _).mono ?_
    intro e w4 hh
    obtain ⟨v, rfl, o4, h4⟩ := nmp_some hh
    clear hh
    clear x0 x1 x2 x3 x4 y0 y1 y2 y3 y4
    obtain ⟨x0, x1, x2, x3, x4⟩ := c5 (HA3.out.below h4)
    obtain ⟨y0, y1, y2, y3, y4⟩ := c5 (HB3.out.below h4)
    have H4 := Lib.hid (H3.out.trans (h4.mono H3.out.size))
    have O4 := Lib.hid o4
    clear h4 o4
    go_wp2_with fail
    refine (HN2.out _).mono ?_
    intro e w5 hh
    obtain ⟨u, rfl, o5, h5⟩ := nmp_some hh
    clear hh
    clear x0 x1 x2 x3 x4 y0 y1 y2 y3 y4
    have o4' := O4.out.below h5
    obtain ⟨a1, cap1, rfl⟩ := row_slice o4'
    obtain ⟨a2, cap2, rfl⟩ := row_slice o5
    have P4 := Lib.hid o4'
    have P5 := Lib.hid o5
    have H5 := Lib.hid (H4.out.trans (h5.mono H4.out.size))
    clear o4' o5 h5 O4
    simp only
    rw [HL.out, HM.out]
    rw [HL.out] at P4
    rw [HM.out] at P5
    simp only at P4 P5
    go_wp2
    go_loopw [14, 15] (fun s i wr => ∃ k : Nat, k ≤ N ∧ s = .bool (false && G k) ∧ i = .int .i64 k ∧ Below w5.heap.size w5 wr) (fun _ i _ => N - (intOf i).toNat)
    case atStart => exact ⟨0, by omega, by rw [HG0.out]; rfl, rfl, Below.refl _ _⟩
    case round =>
      obtain ⟨k, hk, rfl, rfl, hbr⟩ := hrel
      by_cases hlt : k < N
      · have q3 : (k : Int) < (N : Int) := by omega
        obtain ⟨x, hx⟩ : ∃ x, L[k]? = some x := ⟨_, List.getElem?_eq_getElem (by rw [HL.out]; exact hlt)⟩
        obtain ⟨y, hy⟩ : ∃ y, M[k]? = some y := ⟨_, List.getElem?_eq_getElem (by rw [HM.out]; exact hlt)⟩
        obtain ⟨g1, rfl, hg1, c1⟩ := own_get P4.out hx
        obtain ⟨g2, rfl, hg2, c2⟩ := own_get P5.out hy
        have d1 : wr.cell? ⟨g1, k, none⟩ = some (.string ⟨x.toArray⟩) := (hbr.cell (p := ⟨g1, k, none⟩) hg1).trans c1
        have d2 : wr.cell? ⟨g2, k, none⟩ = some (.string ⟨y.toArray⟩) := (hbr.cell (p := ⟨g2, k, none⟩) hg2).trans c2
        have HZ : Hid (G (k + 1) = (G k && sam x y)) := Lib.hid (by
          rw [HG.out, samK_succ, List.getD_eq_getElem?_getD, List.getD_eq_getElem?_getD, hx, hy]; rfl)
        have HQ := Lib.hid (fun w => rsame_any ⟨x.toArray⟩ ⟨y.toArray⟩ (HLs.out x (List.mem_of_getElem? hx)) (HMs.out y (List.mem_of_getElem? hy)) w)
        simp only at HQ
        generalize sam x y = z at HZ HQ
        clear hx hy c1 c2
        have HBR := Lib.hid hbr
        clear hbr
        obtain ⟨b, hb⟩ : ∃ b, b = G k := ⟨_, rfl⟩
        rw [← hb] at HZ ⊢
        clear hb
        cases b
        all_goals
          go_wp2
          go_region_held3 (fun w' => w'.cell? ⟨g1, k, none⟩ = some (.string ⟨x.toArray⟩) ∧ w'.cell? ⟨g2, k, none⟩ = some (.string ⟨y.toArray⟩)) (first | go_keep | (go_split_ands; exact ⟨cell_later (by assumption) (by assumption), cell_later (by assumption) (by assumption)⟩))
            (first | (go_at_call 56; refine (HQ.out _).mono ?_; rintro e w6 ⟨rfl, h6⟩))
          have H6 := Lib.hid (HBR.out.trans (((Below.refl _ wr).drew.trans h6).mono HBR.out.size))
          clear h6 d1 d2
          go_wp2
          go_roundw
          case rel => exact ⟨k + 1, by omega, by rw [HZ.out]; simp, by go_num, H6.out⟩
          case measure => simp [intOf]; omega
      · have q3 : decide ((k : Int) < (N : Int)) = false := by simp; omega
        obtain rfl : k = N := by omega
        have HBR := Lib.hid (H5.out.trans (hbr.mono H5.out.size))
        clear hbr
        go_wp2
        go_ret
        exact ⟨rfl, HBR.out⟩
  · go_enter Try.func29, Try.ntmps29
    go_wp2_with fail
    refine (HS.out _).mono ?_
    rintro e w1 ⟨rfl, h1⟩
    have A1 := K1.out.below h1
    have B1 := K2.out.below h1
    obtain ⟨x0, x1, x2, x3, x4⟩ := c5 A1
    obtain ⟨y0, y1, y2, y3, y4⟩ := c5 B1
    have H1 := Lib.hid (HB.out.trans (h1.mono HB.out.size))
    have HA1 := Lib.hid A1
    have HB1 := Lib.hid B1
    clear h1 A1 B1
    go_wp2_with fail
    refine (HC1.out _).mono ?_
    rintro e w2 ⟨rfl, h2⟩
    clear x0 x1 x2 x3 x4 y0 y1 y2 y3 y4
    have A1 := HA1.out.below h2
    have B1 := HB1.out.below h2
    obtain ⟨x0, x1, x2, x3, x4⟩ := c5 A1
    obtain ⟨y0, y1, y2, y3, y4⟩ := c5 B1
    have HA2 := Lib.hid A1
    have HB2 := Lib.hid B1
    have H2 := Lib.hid (H1.out.trans (h2.mono H1.out.size))
    clear h2 A1 B1
    go_wp2_with fail
    refine (HC2.out _).mono ?_
    rintro e w3 ⟨rfl, h3⟩
    clear x0 x1 x2 x3 x4 y0 y1 y2 y3 y4
    have A1 := HA2.out.below h3
    have B1 := HB2.out.below h3
    obtain ⟨x0, x1, x2, x3, x4⟩ := c5 A1
    obtain ⟨y0, y1, y2, y3, y4⟩ := c5 B1
    have HA3 := Lib.hid A1
    have HB3 := Lib.hid B1
    have H3 := Lib.hid (H2.out.trans (h3.mono H2.out.size))
    clear h3 A1 B1
    go_wp2_with fail
    refine (HN1.out _).mono ?_
    intro e w4 hh
    obtain ⟨v, rfl, o4, h4⟩ := nmp_some hh
    clear hh
    clear x0 x1 x2 x3 x4 y0 y1 y2 y3 y4
    obtain ⟨x0, x1, x2, x3, x4⟩ := c5 (HA3.out.below h4)
    obtain ⟨y0, y1, y2, y3, y4⟩ := c5 (HB3.out.below h4)
    have H4 := Lib.hid (H3.out.trans (h4.mono H3.out.size))
    have O4 := Lib.hid o4
    clear h4 o4
    go_wp2_with fail
    refine (HN2.out _).mono ?_
    intro e w5 hh
    obtain ⟨u, rfl, o5, h5⟩ := nmp_some hh
    clear hh
    clear x0 x1 x2 x3 x4 y0 y1 y2 y3 y4
    have o4' := O4.out.below h5
    obtain ⟨a1, cap1, rfl⟩ := row_slice o4'
    obtain ⟨a2, cap2, rfl⟩ := row_slice o5
    have P4 := Lib.hid o4'
    have P5 := Lib.hid o5
    have H5 := Lib.hid (H4.out.trans (h5.mono H4.out.size))
    clear o4' o5 h5 O4
    simp only
    rw [HL.out, HM.out]
    rw [HL.out] at P4
    rw [HM.out] at P5
    simp only at P4 P5
    go_wp2
    go_loopw [14, 15] (fun s i wr => ∃ k : Nat, k ≤ N ∧ s = .bool (false && G k) ∧ i = .int .i64 k ∧ Below w5.heap.size w5 wr) (fun _ i _ => N - (intOf i).toNat)
    case atStart => exact ⟨0, by omega, by rw [HG0.out]; rfl, rfl, Below.refl _ _⟩
    case round =>
      obtain ⟨k, hk, rfl, rfl, hbr⟩ := hrel
      by_cases hlt : k < N
      · have q3 : (k : Int) < (N : Int) := by omega
        obtain ⟨x, hx⟩ : ∃ x, L[k]? = some x := ⟨_, List.getElem?_eq_getElem (by rw [HL.out]; exact hlt)⟩
        obtain ⟨y, hy⟩ : ∃ y, M[k]? = some y := ⟨_, List.getElem?_eq_getElem (by rw [HM.out]; exact hlt)⟩
        obtain ⟨g1, rfl, hg1, c1⟩ := own_get P4.out hx
        obtain ⟨g2, rfl, hg2, c2⟩ := own_get P5.out hy
        have d1 : wr.cell? ⟨g1, k, none⟩ = some (.string ⟨x.toArray⟩) := (hbr.cell (p := ⟨g1, k, none⟩) hg1).trans c1
        have d2 : wr.cell? ⟨g2, k, none⟩ = some (.string ⟨y.toArray⟩) := (hbr.cell (p := ⟨g2, k, none⟩) hg2).trans c2
        have HZ : Hid (G (k + 1) = (G k && sam x y)) := Lib.hid (by
          rw [HG.out, samK_succ, List.getD_eq_getElem?_getD, List.getD_eq_getElem?_getD, hx, hy]; rfl)
        have HQ := Lib.hid (fun w => rsame_any ⟨x.toArray⟩ ⟨y.toArray⟩ (HLs.out x (List.mem_of_getElem? hx)) (HMs.out y (List.mem_of_getElem? hy)) w)
        simp only at HQ
        generalize sam x y = z at HZ HQ
        clear hx hy c1 c2
        have HBR := Lib.hid hbr
        clear hbr
        obtain ⟨b, hb⟩ : ∃ b, b = G k := ⟨_, rfl⟩
        rw [← hb] at HZ ⊢
        clear hb
        cases b
        all_goals
          go_wp2
          go_region_held3 (fun w' => w'.cell? ⟨g1, k, none⟩ = some (.string ⟨x.toArray⟩) ∧ w'.cell? ⟨g2, k, none⟩ = some (.string ⟨y.toArray⟩)) (first | go_keep | (go_split_ands; exact ⟨cell_later (by assumption) (by assumption), cell_later (by assumption) (by assumption)⟩))
            (first | (go_at_call 56; refine (HQ.out _).mono ?_; rintro e w6 ⟨rfl, h6⟩))
          have H6 := Lib.hid (HBR.out.trans (((Below.refl _ wr).drew.trans h6).mono HBR.out.size))
          clear h6 d1 d2
          go_wp2
          go_roundw
          case rel => exact ⟨k + 1, by omega, by rw [HZ.out]; simp, by go_num, H6.out⟩
          case measure => simp [intOf]; omega
      · have q3 : decide ((k : Int) < (N : Int)) = false := by simp; omega
        obtain rfl : k = N := by omega
        have HBR := Lib.hid (H5.out.trans (hbr.mono H5.out.size))
        clear hbr
        go_wp2
        go_ret
        exact ⟨rfl, HBR.out⟩
theorem ralike_any (a b : Rc) (ha : a.Ok) (hb : b.Ok) (han : a.n.size ≤ 1000000) (hbn : b.n.size ≤ 1000000) (w : World) :
    Calls Try.prog 29 #[a.v, b.v] w fun e w' => e = .returned (.bool (alk a b)) ∧ Below w.heap.size w w' := by
  have HS := Lib.hid (fun w => rsame_any a.n b.n han hbn w)
  have C1 := fun w => rrcheck_any a ha han w
  have C2 := fun w => rrcheck_any b hb hbn w
  by_cases g1 : rck a = 0
  · by_cases g2 : rck b = 0
    · rw [g1] at C1
      rw [g2] at C2
      have C1 := Lib.hid C1
      have C2 := Lib.hid C2
      by_cases g3 : sam a.n.data.toList b.n.data.toList = true
      · by_cases g4 : a.t = b.t
        · by_cases g5 : a.c = b.c
          · rw [g3] at HS
            by_cases g6 : named a.t = true
            · obtain ⟨x, hx⟩ := nms_some g1 g6
              obtain ⟨y, hy⟩ := nms_some g2 (by rw [← g4]; exact g6)
              obtain ⟨e1, e2⟩ := alk_named g1 g2 g3 g4 g5 g6 hx hy
              obtain ⟨p1, p2, p3, p4⟩ := nms_facts g6 hx
              obtain ⟨r1, r2, r3, r4⟩ := nms_facts (by rw [← g4]; exact g6) hy
              have s3 := Lib.hid (fun n hn => Nat.le_trans (chk_zero.1 (p3 n hn)).2 (by omega : 255 ≤ 1000000))
              have s4 := Lib.hid (fun n hn => Nat.le_trans (chk_zero.1 (r3 n hn)).2 (by omega : 255 ≤ 1000000))
              have N1 := fun w => rnames_any a.t ha.t a.d (by have := (rck_zero g1).2.1; omega) w
              have N2 := fun w => rnames_any b.t hb.t b.d (by have := (rck_zero g2).2.1; omega) w
              rw [if_pos g6, hx] at N1
              rw [if_pos (by rw [← g4]; exact g6), hy] at N2
              have hn2 : x.2.1.length ≤ 2 := by rw [p2]; unfold nhN; split <;> (try split) <;> omega
              have N1 := Lib.hid N1
              have N2 := Lib.hid N2
              have L2 := Lib.hid e2.symm
              rw [e1]
              obtain ⟨X, L, Y⟩ := x
              obtain ⟨U, M, V⟩ := y
              simp only at *
              clear ha hb han hbn hx hy e1 e2 p1 p2 p3 p4 r1 r2 r3 r4 g1 g2 g3 g6
              obtain ⟨n, t, c, l, d⟩ := a
              obtain ⟨n', t', c', l', d'⟩ := b
              simp only at g4 g5
              subst g4
              subst g5
              refine ralike_n n n' d d' t c l l' X U Y V L M L.length (decide (X = U) && decide (Y = V)) w ?_ hn2 (Lib.hid rfl) L2 s3 s4 HS C1 C2 N1 N2
              by_cases e1 : X = U
              · by_cases e2 : Y = V
                · exact .inl ⟨by simp [e1, e2], e1, e2⟩
                · exact .inr (.inl ⟨by simp [e2], e1, e2⟩)
              · exact .inr (.inr ⟨by simp [e1], e1⟩)
            · have g6' : named a.t = false := by simpa using g6
              have N1 := fun w => rnames_any a.t ha.t a.d (by have := (rck_zero g1).2.1; omega) w
              rw [if_neg g6] at N1
              have N1 := Lib.hid N1
              rw [alk_plain g1 g2 g3 g4 g5 g6']
              clear ha hb han hbn g1 g2 g3 g6 g6'
              obtain ⟨n, t, c, l, d⟩ := a
              obtain ⟨n', t', c', l', d'⟩ := b
              simp only at g4 g5
              subst g4
              subst g5
              refine ralike_p n n' d d' t c l l' _ w ?_ HS C1 C2 N1
              by_cases e : d = d'
              · exact .inl ⟨by simp [e], e⟩
              · have e2 : ¬ d.data.toList = d'.data.toList := fun h => e (ByteArray.ext (Array.toList_inj.1 h))
                refine .inr ⟨by simp only [decide_eq_false_iff_not]; exact e2, ?_, e⟩
                rw [ByteArray.toList_eq, ByteArray.toList_eq]
                simpa using e2
          · rw [alk_bad (fun _ _ _ _ h => g5 h)]
            rw [g3] at HS
            clear ha hb han hbn g1 g2 g3
            obtain ⟨n, t, c, l, d⟩ := a
            obtain ⟨n', t', c', l', d'⟩ := b
            simp only at g4 g5
            exact ralike_e3 n n' d d' t c l t' c' l' true w (.inr (.inr ⟨rfl, g4.symm, by simp; omega⟩)) HS C1 C2
        · rw [alk_bad (fun _ _ _ h _ => g4 h)]
          rw [g3] at HS
          clear ha hb han hbn g1 g2 g3
          obtain ⟨n, t, c, l, d⟩ := a
          obtain ⟨n', t', c', l', d'⟩ := b
          simp only at g4
          exact ralike_e3 n n' d d' t c l t' c' l' true w (.inr (.inl ⟨rfl, by simp; omega⟩)) HS C1 C2
      · rw [alk_bad (fun _ _ h _ _ => g3 h)]
        have g3' : sam a.n.data.toList b.n.data.toList = false := by simpa using g3
        rw [g3'] at HS
        clear ha hb han hbn g1 g2 g3 g3'
        obtain ⟨n, t, c, l, d⟩ := a
        obtain ⟨n', t', c', l', d'⟩ := b
        exact ralike_e3 n n' d d' t c l t' c' l' false w (.inl rfl) HS C1 C2
    · rw [alk_bad (fun _ h _ _ _ => g2 h)]
      rw [g1] at C1
      have C1 := Lib.hid C1
      have C2 := Lib.hid C2
      have q : (rck b != 0) = true := by simpa using g2
      clear ha hb han hbn g1 g2
      generalize rck b = k at C2 q
      generalize sam a.n.data.toList b.n.data.toList = s at HS
      obtain ⟨n, t, c, l, d⟩ := a
      obtain ⟨n', t', c', l', d'⟩ := b
      exact ralike_e2 n n' d d' t c l t' c' l' s k w q HS C1 C2
  · rw [alk_bad (fun h _ _ _ _ => g1 h)]
    have C1 := Lib.hid C1
    have q : (rck a != 0) = true := by simpa using g1
    clear ha hb han hbn g1 C2
    generalize rck a = k at C1 q
    generalize sam a.n.data.toList b.n.data.toList = s at HS
    obtain ⟨n, t, c, l, d⟩ := a
    obtain ⟨n', t', c', l', d'⟩ := b
    exact ralike_e1 n n' d d' t c l t' c' l' s k w q HS C1
theorem alk_sym (a b : Rc) : alk b a = alk a b := by
  unfold alk
  rw [Bool.eq_iff_iff, decide_eq_true_eq, decide_eq_true_eq]
  exact ⟨fun h => ⟨h.2.1, h.1, h.2.2.symm⟩, fun h => ⟨h.2.1, h.1, h.2.2.symm⟩⟩
theorem alk_ttl (a : Rc) (l : Nat) : alk a ⟨a.n, a.t, a.c, l, a.d⟩ = (rck a == 0) := by
  have h1 : rck ⟨a.n, a.t, a.c, l, a.d⟩ = rck a := rfl
  have h2 : cmn ⟨a.n, a.t, a.c, l, a.d⟩ = cmn a := rfl
  unfold alk
  rw [h1, h2, Bool.eq_iff_iff]
  simp
/-- Three records' boxes, and nothing older changed. -/
def Tri (w0 : World) (i j k : Nat) (A B C : Array Value) (w : World) : Prop := (Ce w i 25 A ∧ Ce w j 25 B ∧ Ce w k 25 C) ∧ Below w0.heap.size w0 w
theorem Tri.under {w0 w w' : World} {i j k : Nat} {A B C : Array Value} (h : Tri w0 i j k A B C w) (hb : Below w.heap.size w w') : Tri w0 i j k A B C w' :=
  ⟨⟨h.1.1.below hb, h.1.2.1.below hb, h.1.2.2.below hb⟩, h.2.trans (hb.mono h.2.size)⟩
theorem Tri.c {w0 w : World} {i j k : Nat} {a0 a1 a2 a3 a4 b0 b1 b2 b3 b4 c0 c1 c2 c3 c4 : Value} (h : Tri w0 i j k #[a0, a1, a2, a3, a4] #[b0, b1, b2, b3, b4] #[c0, c1, c2, c3, c4] w) :
    (w.cell? ⟨i, 0, none⟩ = some a0 ∧ w.cell? ⟨i, 1, none⟩ = some a1 ∧ w.cell? ⟨i, 2, none⟩ = some a2 ∧ w.cell? ⟨i, 3, none⟩ = some a3 ∧ w.cell? ⟨i, 4, none⟩ = some a4) ∧
    (w.cell? ⟨j, 0, none⟩ = some b0 ∧ w.cell? ⟨j, 1, none⟩ = some b1 ∧ w.cell? ⟨j, 2, none⟩ = some b2 ∧ w.cell? ⟨j, 3, none⟩ = some b3 ∧ w.cell? ⟨j, 4, none⟩ = some b4) ∧
    (w.cell? ⟨k, 0, none⟩ = some c0 ∧ w.cell? ⟨k, 1, none⟩ = some c1 ∧ w.cell? ⟨k, 2, none⟩ = some c2 ∧ w.cell? ⟨k, 3, none⟩ = some c3 ∧ w.cell? ⟨k, 4, none⟩ = some c4) := ⟨c5 h.1.1, c5 h.1.2.1, c5 h.1.2.2⟩
set_option maxRecDepth 100000 in
set_option maxHeartbeats 12800000 in
theorem lawAlike_any (r : Rc) (hr : r.Num) (s : Rc) (hs : s.Num) (w : World) :
    Calls Try.prog 7 #[r.v, s.v] w fun e w' => e = .returned (.bool true) ∧ Below w.heap.size w w' := by
  obtain ⟨q, k1, k2, k3, k4, k5, hsm1⟩ := small_any r
  obtain ⟨p, m1, m2, m3, m4, m5, hsm2⟩ := small_any s
  have hq := small_ok hr k1 k2 k3 k4 k5
  have hp := small_ok hs m1 m2 m3 m4 m5
  have hz : Rc.Ok ⟨q.n, q.t, q.c, p.l, q.d⟩ := ⟨hq.n, hq.d, hq.t, hq.c, hp.l⟩
  have A1 := fun w => alike_any q p hq hp w
  have A2 := fun w => alike_any p q hp hq w
  have A3 := fun w => alike_any q ⟨q.n, q.t, q.c, p.l, q.d⟩ hq hz w
  have R1 := fun w => ralike_any q p hq hp (by omega) (by omega) w
  have C1 := fun w => rcheckrec_any q hq w
  rw [alk_sym] at A2
  rw [alk_ttl] at A3
  generalize alk q p = R at A1 A2 R1
  generalize rck q = ck at A3 C1
  have HB := Lib.hid (two_below w r s)
  have K1 := Lib.hid (two_a w r s)
  have K2 := Lib.hid (two_b w r s)
  obtain ⟨n, t, c, tt, d⟩ := r
  obtain ⟨n', t', c', tt', d'⟩ := s
  obtain ⟨qn, qt, qc, ql, qd⟩ := q
  obtain ⟨pn, pt, pc, pl, pd⟩ := p
  have HS1 := Lib.hid hsm1
  have HS2 := Lib.hid hsm2
  have HA1 := Lib.hid A1
  have HA2 := Lib.hid A2
  have HA3 := Lib.hid A3
  have HR1 := Lib.hid R1
  have HC1 := Lib.hid C1
  clear hsm1 hsm2 A1 A2 A3 R1 C1 hr hs hq hp hz k1 k2 k3 k4 k5 m1 m2 m3 m4 m5
  have hne : w.heap.size ≠ w.heap.size + 1 := by omega
  have HNE := Lib.hid hne
  clear hne
  go_enter Try.func7, Try.ntmps7
  go_wp2_with fail
  refine (awake_any _).mono ?_
  rintro e w1 ⟨rfl, hb1⟩
  have h1 := HB.out.trans (hb1.mono HB.out.size)
  have G1 := K1.out.below hb1
  have G2 := K2.out.below hb1
  obtain ⟨x0, x1, x2, x3, x4⟩ := c5 G1
  have HG1 := Lib.hid G1
  have HG2 := Lib.hid G2
  have HH1 := Lib.hid h1
  clear hb1 h1 G1 G2
  go_wp2_with fail
  refine (HS1.out _).mono ?_
  rintro e w2 ⟨rfl, hb2⟩
  have B2 := HG1.out.below hb2
  have D2 := HG2.out.below hb2
  have h2 := HH1.out.trans (hb2.mono HH1.out.size)
  clear hb2 x0 x1 x2 x3 x4
  obtain ⟨f0, f1, f2, f3, f4⟩ := f5 B2
  obtain ⟨x0, x1, x2, x3, x4⟩ := c5 B2
  have HB3 := Lib.hid (set5_ce B2 (.string qn) (.int .u16 (qt : Int)) (.int .u16 (qc : Int)) (.int .u32 (ql : Int)) (.string qd))
  have HD3 := Lib.hid (set5_keep D2 HNE.out.symm (.string qn) (.int .u16 (qt : Int)) (.int .u16 (qc : Int)) (.int .u32 (ql : Int)) (.string qd))
  have HH3 := Lib.hid (set5_below h2 (Nat.le_refl _) (.string qn) (.int .u16 (qt : Int)) (.int .u16 (qc : Int)) (.int .u32 (ql : Int)) (.string qd))
  have hD := HD3.out
  obtain ⟨y0, y1, y2, y3, y4⟩ := c5 hD
  clear B2 D2 h2 hD
  go_wp2_with fail
  refine (HS2.out _).mono ?_
  rintro e w3 ⟨rfl, hb3⟩
  have B4 := HB3.out.below hb3
  have D4 := HD3.out.below hb3
  have h4 := HH3.out.trans (hb3.mono HH3.out.size)
  clear hb3 x0 x1 x2 x3 x4 y0 y1 y2 y3 y4 f0 f1 f2 f3 f4
  obtain ⟨f0, f1, f2, f3, f4⟩ := f5 D4
  have D5 := set5_ce D4 (.string pn) (.int .u16 (pt : Int)) (.int .u16 (pc : Int)) (.int .u32 (pl : Int)) (.string pd)
  have B5 := set5_keep B4 HNE.out (.string pn) (.int .u16 (pt : Int)) (.int .u16 (pc : Int)) (.int .u32 (pl : Int)) (.string pd)
  have h5 := set5_below h4 (Nat.le_succ _) (.string pn) (.int .u16 (pt : Int)) (.int .u16 (pc : Int)) (.int .u32 (pl : Int)) (.string pd)
  obtain ⟨x0, x1, x2, x3, x4⟩ := c5 D4
  have HB5 := Lib.hid B5
  have HD5 := Lib.hid D5
  have HH5 := Lib.hid h5
  clear B4 D4 h4 B5 D5 h5
  go_upto_region 4 with fail
  unfold set5 at HB5 HD5 HH5
  generalize World.setCell (World.setCell (World.setCell (World.setCell (World.setCell w3 _ _) _ _) _ _) _ _) _ _ = w4 at HB5 HD5 HH5 ⊢
  clear x0 x1 x2 x3 x4 f0 f1 f2 f3 f4
  obtain ⟨x0, x1, x2, x3, x4⟩ := c5 HB5.out
  have l1 := HB5.out.lt
  have l2 := HD5.out.lt
  go_upto_region 5 with fail
  have B6 := HB5.out.below (one_box w4 (.cells #[.string qn, .int .u16 (qt : Int), .int .u16 (qc : Int), .int .u32 (ql : Int), .string qd] 25))
  have D6 := HD5.out.below (one_box w4 (.cells #[.string qn, .int .u16 (qt : Int), .int .u16 (qc : Int), .int .u32 (ql : Int), .string qd] 25))
  have E6 := Ce.new w4 25 #[.string qn, .int .u16 (qt : Int), .int .u16 (qc : Int), .int .u32 (ql : Int), .string qd]
  have h6 := HH5.out.alloc HH5.out.size (.cells #[.string qn, .int .u16 (qt : Int), .int .u16 (qc : Int), .int .u32 (ql : Int), .string qd] 25)
  clear x0 x1 x2 x3 x4
  generalize World.alloc w4 _ = w5 at B6 D6 E6 h6 ⊢
  obtain ⟨g, hg⟩ : ∃ g, g = w4.heap.size := ⟨_, rfl⟩
  rw [← hg] at l1 l2 E6 ⊢
  have HN1 : Hid (w.heap.size ≠ g) := Lib.hid (by omega)
  have HN2 : Hid (w.heap.size + 1 ≠ g) := Lib.hid (by omega)
  have hg0 : w.heap.size ≤ g := by omega
  obtain ⟨x0, x1, x2, x3, x4⟩ := c5 D6
  obtain ⟨y0, y1, y2, y3, y4⟩ := c5 E6
  obtain ⟨f0, f1, f2, f3, f4⟩ := f5 E6
  have HT : Hid (Tri w w.heap.size (w.heap.size + 1) g #[.string qn, .int .u16 (qt : Int), .int .u16 (qc : Int), .int .u32 (ql : Int), .string qd] #[.string pn, .int .u16 (pt : Int), .int .u16 (pc : Int), .int .u32 (pl : Int), .string pd] #[.string qn, .int .u16 (qt : Int), .int .u16 (qc : Int), .int .u32 (pl : Int), .string qd] (w5.setCell ⟨g, 3, none⟩ (.int .u32 (pl : Int)))) :=
    Lib.hid ⟨⟨B6.other HN1.out _, D6.other HN2.out _, E6.set _⟩, h6.setCell (p := ⟨g, 3, none⟩) hg0 _⟩
  clear B6 D6 E6 h6 hg hg0 l1 l2
  go_wp2
  clear x0 x1 x2 x3 x4 y0 y1 y2 y3 y4 f0 f1 f2 f3 f4
  generalize World.setCell w5 _ _ = w6 at HT ⊢
  have HT0 := Lib.hid (HT.out.under (Below.refl _ w6).drew)
  go_region_held3 (fun w' => (w'.cell? ⟨w.heap.size, 0, none⟩ = some (.string qn) ∧ w'.cell? ⟨w.heap.size, 1, none⟩ = some (.int .u16 (qt : Int)) ∧ w'.cell? ⟨w.heap.size, 2, none⟩ = some (.int .u16 (qc : Int)) ∧ w'.cell? ⟨w.heap.size, 3, none⟩ = some (.int .u32 (ql : Int)) ∧ w'.cell? ⟨w.heap.size, 4, none⟩ = some (.string qd)) ∧ (w'.cell? ⟨(w.heap.size + 1), 0, none⟩ = some (.string pn) ∧ w'.cell? ⟨(w.heap.size + 1), 1, none⟩ = some (.int .u16 (pt : Int)) ∧ w'.cell? ⟨(w.heap.size + 1), 2, none⟩ = some (.int .u16 (pc : Int)) ∧ w'.cell? ⟨(w.heap.size + 1), 3, none⟩ = some (.int .u32 (pl : Int)) ∧ w'.cell? ⟨(w.heap.size + 1), 4, none⟩ = some (.string pd)) ∧ (w'.cell? ⟨g, 0, none⟩ = some (.string qn) ∧ w'.cell? ⟨g, 1, none⟩ = some (.int .u16 (qt : Int)) ∧ w'.cell? ⟨g, 2, none⟩ = some (.int .u16 (qc : Int)) ∧ w'.cell? ⟨g, 3, none⟩ = some (.int .u32 (pl : Int)) ∧ w'.cell? ⟨g, 4, none⟩ = some (.string qd)))
    (first | with_reducible exact HT6.out.c | with_reducible exact HT5.out.c | with_reducible exact HT4.out.c | with_reducible exact HT3.out.c | with_reducible exact HT2.out.c | with_reducible exact HT1.out.c | with_reducible exact HT0.out.c)
    (first
      | (go_at_call_of 28 (#[Value.agg #[Value.string qn, Value.int IntKind.u16 (qt : Int), Value.int IntKind.u16 (qc : Int), Value.int IntKind.u32 (ql : Int), Value.string qd], Value.agg #[Value.string pn, Value.int IntKind.u16 (pt : Int), Value.int IntKind.u16 (pc : Int), Value.int IntKind.u32 (pl : Int), Value.string pd]] : Array Value); refine (HA1.out _).mono ?_; rintro e v ⟨rfl, hv⟩; (first | (have HT6 := Lib.hid (HT5.out.under hv); clear hv) | (have HT5 := Lib.hid (HT4.out.under hv); clear hv) | (have HT4 := Lib.hid (HT3.out.under hv); clear hv) | (have HT3 := Lib.hid (HT2.out.under hv); clear hv) | (have HT2 := Lib.hid (HT1.out.under hv); clear hv) | (have HT1 := Lib.hid (HT0.out.under hv); clear hv)))
      | (go_at_call_of 28 (#[Value.agg #[Value.string pn, Value.int IntKind.u16 (pt : Int), Value.int IntKind.u16 (pc : Int), Value.int IntKind.u32 (pl : Int), Value.string pd], Value.agg #[Value.string qn, Value.int IntKind.u16 (qt : Int), Value.int IntKind.u16 (qc : Int), Value.int IntKind.u32 (ql : Int), Value.string qd]] : Array Value); refine (HA2.out _).mono ?_; rintro e v ⟨rfl, hv⟩; (first | (have HT6 := Lib.hid (HT5.out.under hv); clear hv) | (have HT5 := Lib.hid (HT4.out.under hv); clear hv) | (have HT4 := Lib.hid (HT3.out.under hv); clear hv) | (have HT3 := Lib.hid (HT2.out.under hv); clear hv) | (have HT2 := Lib.hid (HT1.out.under hv); clear hv) | (have HT1 := Lib.hid (HT0.out.under hv); clear hv)))
      | (go_at_call_of 28 (#[Value.agg #[Value.string qn, Value.int IntKind.u16 (qt : Int), Value.int IntKind.u16 (qc : Int), Value.int IntKind.u32 (ql : Int), Value.string qd], Value.agg #[Value.string qn, Value.int IntKind.u16 (qt : Int), Value.int IntKind.u16 (qc : Int), Value.int IntKind.u32 (pl : Int), Value.string qd]] : Array Value); refine (HA3.out _).mono ?_; rintro e v ⟨rfl, hv⟩; (first | (have HT6 := Lib.hid (HT5.out.under hv); clear hv) | (have HT5 := Lib.hid (HT4.out.under hv); clear hv) | (have HT4 := Lib.hid (HT3.out.under hv); clear hv) | (have HT3 := Lib.hid (HT2.out.under hv); clear hv) | (have HT2 := Lib.hid (HT1.out.under hv); clear hv) | (have HT1 := Lib.hid (HT0.out.under hv); clear hv)))
      | (go_at_call 29; refine (HR1.out _).mono ?_; rintro e v ⟨rfl, hv⟩; (first | (have HT6 := Lib.hid (HT5.out.under hv); clear hv) | (have HT5 := Lib.hid (HT4.out.under hv); clear hv) | (have HT4 := Lib.hid (HT3.out.under hv); clear hv) | (have HT3 := Lib.hid (HT2.out.under hv); clear hv) | (have HT2 := Lib.hid (HT1.out.under hv); clear hv) | (have HT1 := Lib.hid (HT0.out.under hv); clear hv)))
      | (go_at_call 16; refine (HC1.out _).mono ?_; rintro e v ⟨rfl, hv⟩; (first | (have HT6 := Lib.hid (HT5.out.under hv); clear hv) | (have HT5 := Lib.hid (HT4.out.under hv); clear hv) | (have HT4 := Lib.hid (HT3.out.under hv); clear hv) | (have HT3 := Lib.hid (HT2.out.under hv); clear hv) | (have HT2 := Lib.hid (HT1.out.under hv); clear hv) | (have HT1 := Lib.hid (HT0.out.under hv); clear hv))))
  all_goals go_wp2
  all_goals go_ret
  all_goals exact ⟨rfl, HT6.out.2⟩
end Go.Proofs.Ytflpceaaelampaa
