/-
  The walk of the law NetDatagrams: for every number and every list of calls it returns true; no older memory is changed.
-/
import Derived.Test.YtocmgdhhlofajaaLawLost
import Derived.Test.YtocmgdhhlofajaaDgMath
namespace Go.Proofs.Ytocmgdhhlofajaa
open Go.RowKit
/-- An array of 41 numbers. -/
def arr (c : Nat → Nat) : Array Value := ((List.range 41).map fun i => Value.int .i64 (c i : Int)).toArray
theorem arr_get (c : Nat → Nat) {i : Nat} (h : i < 41) : (arr c)[i]? = some (.int .i64 (c i : Int)) := by
  unfold arr
  simp [h]
theorem arr_set (c : Nat → Nat) {q : Nat} (v : Nat) : (arr c).setIfInBounds q (.int .i64 (v : Int)) = arr (upd c q v) := by
  unfold arr upd
  apply Array.ext'
  simp only [Array.toList_setIfInBounds]
  apply List.ext_getElem?
  intro i
  rw [List.getElem?_set]
  by_cases h : i < 41
  · by_cases e : q = i
    · subst e
      simp [h]
    · have e' : ¬ i = q := fun x => e x.symm
      simp [h, e, e']
  · by_cases e : q = i
    · subst e
      simp [h]
    · simp [h, e]
theorem arr_zero : arr (fun _ => 0) = #[.int .i64 0, .int .i64 0, .int .i64 0, .int .i64 0, .int .i64 0, .int .i64 0, .int .i64 0, .int .i64 0, .int .i64 0, .int .i64 0, .int .i64 0, .int .i64 0, .int .i64 0, .int .i64 0, .int .i64 0, .int .i64 0, .int .i64 0, .int .i64 0, .int .i64 0, .int .i64 0, .int .i64 0, .int .i64 0, .int .i64 0, .int .i64 0, .int .i64 0, .int .i64 0, .int .i64 0, .int .i64 0, .int .i64 0, .int .i64 0, .int .i64 0, .int .i64 0, .int .i64 0, .int .i64 0, .int .i64 0, .int .i64 0, .int .i64 0, .int .i64 0, .int .i64 0, .int .i64 0, .int .i64 0] := by rfl
theorem byte_back (w : World) (x : UInt8) (z : Int) (hz : z = (x.toNat : Int)) : (convert 56 9 (.slice (some ⟨w.heap.size, 0, none⟩) 1 1)).run Try.prog (w.alloc (.cells #[.int .u8 z] 5)) = .ok (.string ⟨#[x]⟩) (w.alloc (.cells #[.int .u8 z] 5)) :=
  run_convert_bytes_back (P := Try.prog) _ 56 9 5 ⟨w.heap.size, 0, none⟩ 1 [x] Try.underlying56 Try.underlying5 Try.underlying9 (fun j hj => by
    have hj0 : j = 0 := by simp at hj; omega
    subst hj0
    have := cell_one_new w (.int .u8 z) 5 0 (.int .u8 z) rfl
    rw [hz] at this ⊢
    exact this)
/-- The datagrams 1 to j have a 1. -/
def ones (j : Nat) : Nat → Nat := fun i => if 1 ≤ i ∧ i ≤ j then 1 else 0
theorem ones_next (j : Nat) : upd (ones j) (j + 1) 1 = ones (j + 1) := by
  funext i
  unfold upd ones
  by_cases h : i = j + 1
  · subst h; simp
  · by_cases g : 1 ≤ i ∧ i ≤ j
    · simp [h, g]; omega
    · simp [h, g]; omega
theorem ones_zero : ones 0 = fun _ => 0 := by
  funext i
  unfold ones
  rw [if_neg (by omega)]
/-- The network beside both arrays. -/
structure DJ (kk n0 : Nat) (w0 : World) (L C b : Nat) (c : Nat → Nat) (S : Nat → Prop) (s : St) (w : World) : Prop where
  p : NP n0 S w0 b s w
  l : Ce w L 55 (arr (ones (kk + 1)))
  fl : ¬ S L
  m : Ce w C 55 (arr c)
  fm : ¬ S C
  nc : n0 ≤ C
  ne : L ≠ C
theorem DJ.step {kk n0 : Nat} {w0 : World} {L C b : Nat} {c : Nat → Nat} {S : Nat → Prop} {s s1 : St} {w w' : World} (h : DJ kk n0 w0 L C b c S s w) (hl : Pl S b s1 w w') : ∃ S1, DJ kk n0 w0 L C b c S1 s1 w' := by
  obtain ⟨S1, h1, k, _⟩ := h.p.step hl
  exact ⟨S1, h1, (k.ce h.l h.fl).1, (k.ce h.l h.fl).2, (k.ce h.m h.fm).1, (k.ce h.m h.fm).2, h.nc, h.ne⟩
theorem DJ.mv {kk n0 : Nat} {w0 : World} {L C b : Nat} {c : Nat → Nat} {S : Nat → Prop} {s : St} {w w' : World} (h : DJ kk n0 w0 L C b c S s w) (hb : Below w.heap.size w w') : DJ kk n0 w0 L C b c S s w' :=
  ⟨h.p.mv hb, h.l.below hb h.l.lt, h.fl, h.m.below hb h.m.lt, h.fm, h.nc, h.ne⟩
theorem DJ.came {kk n0 : Nat} {w0 : World} {L C b : Nat} {c : Nat → Nat} {S : Nat → Prop} {s : St} {w : World} (h : DJ kk n0 w0 L C b c S s w) (q m : Nat) : DJ kk n0 w0 L C b (upd c q (m + 1)) S s (w.setCell ⟨C, q, none⟩ (.int .i64 ((m : Int) + 1))) := by
  have ht : Tr (· = C) w (w.setCell ⟨C, q, none⟩ (.int .i64 ((m : Int) + 1))) := (Tr.refl (· = C) w).setCell (.inl rfl) _
  refine ⟨h.p.tr ht (fun k hk e => h.fm (e ▸ hk)) (fun k e => e ▸ h.nc), h.l.tr ht h.ne, h.fl, ?_, h.fm, h.nc, h.ne⟩
  have := h.m.set q (.int .i64 ((m + 1 : Nat) : Int))
  rw [arr_set] at this
  exact this
theorem I64.nat {n : Nat} (h : n ≤ 1000000) : I64 (n : Int) := by unfold I64; omega
set_option maxRecDepth 100000 in
set_option maxHeartbeats 32000000 in
theorem lawDgs_all (many : Int) (hm : I64 many) (a : Option Addr) (n cap : Nat) (os : Nat → OpC) (w : World) (hok : ∀ k, (os k).ok) (hc : ∀ k, k < n → ∃ b0 off, a = some ⟨b0, off, none⟩ ∧ b0 < w.heap.size ∧ OpAt w b0 (off + k * 5) (os k)) :
    Calls Try.prog 6 #[.int .i64 many, .slice a n cap] w fun e w' => e = .returned (.bool true) ∧ Below w.heap.size w w' := by
  have HC := Lib.hid hc
  have HOK := Lib.hid hok
  have HM := Lib.hid hm
  clear hc hok hm
  go_enter Try.func6, Try.ntmps6
  go_wp2_with fail
  refine (awake_any w).mono ?_
  rintro e w0 ⟨rfl, hb0⟩
  go_wp2_with fail
  refine (new_any w0).mono ?_
  rintro e w1 ⟨rfl, hp1, hb1⟩
  obtain ⟨S1, hn1, _⟩ := NA.new hp1 hb1 hb0 hb0.size
  obtain ⟨b, hb'⟩ : ∃ b, b = w0.heap.size := ⟨_, rfl⟩
  have H1 : Hid (NP w.heap.size S1 w b St.empty w1) := Lib.hid (by rw [hb']; exact hn1)
  rw [← hb']
  clear hp1 hb1 hn1 hb' hb0
  obtain ⟨kk, hkk⟩ : ∃ kk, kk = pk many 40 := ⟨_, rfl⟩
  have hkb : kk < 40 := by have := pk_lt (p := many) (show 0 < 40 by omega); omega
  have P := num_pick many HM.out 40 (by omega) (by omega) w1
  rw [← hkk] at P
  have HP := Lib.hid P
  clear P hkk
  go_wp2_with fail
  refine HP.out.mono ?_
  rintro e w2 ⟨rfl, rfl⟩
  go_upto_region 7 with fail
  obtain ⟨w2, hw2⟩ : ∃ w2, w2 = w1.alloc (.cells (arr (ones 0)) 55) := ⟨_, rfl⟩
  have hce := ce_new w1 (arr (ones 0)) 55
  have hal : Below w1.heap.size w1 (w1.alloc (.cells (arr (ones 0)) 55)) := (Below.refl _ w1).alloc (Nat.le_refl _) _
  have hfar := H1.out.far (Nat.le_refl _)
  have hn2 := H1.out.mv hal
  rw [← hw2] at hce hn2
  rw [show w1.alloc (.cells #[.int .i64 0, .int .i64 0, .int .i64 0, .int .i64 0, .int .i64 0, .int .i64 0, .int .i64 0, .int .i64 0, .int .i64 0, .int .i64 0, .int .i64 0, .int .i64 0, .int .i64 0, .int .i64 0, .int .i64 0, .int .i64 0, .int .i64 0, .int .i64 0, .int .i64 0, .int .i64 0, .int .i64 0, .int .i64 0, .int .i64 0, .int .i64 0, .int .i64 0, .int .i64 0, .int .i64 0, .int .i64 0, .int .i64 0, .int .i64 0, .int .i64 0, .int .i64 0, .int .i64 0, .int .i64 0, .int .i64 0, .int .i64 0, .int .i64 0, .int .i64 0, .int .i64 0, .int .i64 0, .int .i64 0] 55) = w2 from by rw [hw2, ones_zero, arr_zero]]
  obtain ⟨L, hL⟩ : ∃ L, L = w1.heap.size := ⟨_, rfl⟩
  rw [← hL] at hce hfar ⊢
  have HL := Lib.hid (show Ce w2 L 55 (arr (ones 0)) ∧ ¬ S1 L from ⟨hce, hfar⟩)
  have H2 := Lib.hid hn2
  have hLn : w.heap.size ≤ L := by rw [hL]; exact H1.out.hn
  have HLN := Lib.hid hLn
  clear hLn
  clear hw2 hce hal hfar hn2 hL H1 HP
  go_wp2
  go_loopw [9] (fun i wr => ∃ (j : Nat) (S : Nat → Prop) (s : St), j ≤ kk + 1 ∧ i = .int .i64 ((j : Int) + 1) ∧ D1 j s ∧ NP w.heap.size S w b s wr ∧ Ce wr L 55 (arr (ones j)) ∧ ¬ S L) (fun i _ => 60 - (intOf i).toNat)
  case atStart => exact ⟨0, S1, _, by omega, rfl, d1_zero, H2.out, HL.out.1, HL.out.2⟩
  case round =>
    clear HL H2
    obtain ⟨j, S, s, hj, rfl, hd, hn, hce, hfar⟩ := hrel
    have HD := Lib.hid hd
    have HN := Lib.hid hn
    have HL := Lib.hid (show Ce wr L 55 (arr (ones j)) ∧ ¬ S L from ⟨hce, hfar⟩)
    have hLl := hce.lt
    clear hd hn hce hfar
    by_cases hlt : j < kk + 1
    · have q1 : (j : Int) + 1 ≤ 1 + (kk : Int) := by omega
      have hjb : j < 40 := by omega
      have hcv := byte_back wr (UInt8.ofNat (j + 1)) ((j : Int) + 1) (by simp; omega)
      obtain ⟨yb, hyb⟩ : ∃ yb, yb = bodyQ (j + 1) := ⟨_, rfl⟩
      rw [show (⟨#[UInt8.ofNat (j + 1)]⟩ : ByteArray) = yb from hyb.symm] at hcv
      have hal : Below wr.heap.size wr (wr.alloc (.cells #[.int .u8 ((j : Int) + 1)] 5)) := (Below.refl _ wr).alloc (Nat.le_refl _) _
      have HNX := Lib.hid (HD.out.next hjb)
      rw [← hyb] at HNX
      have hs := send_any ((j + 1 : Nat) : Int) (((j + 1 : Nat) : Int) + 1) yb S b s _ (HN.out.mv hal).p (by have := HD.out.its; omega) (by have := HD.out.puts; omega)
      have ej : ((j + 1 : Nat) : Int) = (j : Int) + 1 := by omega
      rw [ej] at hs HNX
      have HS := Lib.hid hs
      have HN2 := Lib.hid (HN.out.mv hal)
      have HL2 := Lib.hid (HL.out.1.alloc (.cells #[.int .u8 ((j : Int) + 1)] 5))
      have HYB := Lib.hid hyb
      clear hal hs hyb
      go_wp2_with fail
      refine HS.out.mono ?_
      rintro e w3 ⟨rfl, hl⟩
      obtain ⟨S3, hn3, kp, _⟩ := HN2.out.step hl
      obtain ⟨hl3, hf3⟩ := kp.ce HL2.out HL.out.2
      have c0 : w3.cell? ⟨L, j + 1, none⟩ = some (.int .i64 (ones j (j + 1) : Int)) := by rw [hl3.cell]; exact arr_get _ (by omega)
      have f0 := hl3.fz (j + 1)
      have hst := hl3.set (j + 1) (.int .i64 ((1 : Nat) : Int))
      rw [arr_set, ones_next, show ((1 : Nat) : Int) = 1 from rfl] at hst
      have HST := Lib.hid hst
      have HF3 := Lib.hid hf3
      have H3 := Lib.hid (hn3.tr (S2 := (· = L)) (w' := w3.setCell ⟨L, j + 1, none⟩ (.int .i64 1)) ((Tr.refl (· = L) w3).setCell (.inl rfl) _) (fun k hk e => hf3 (by rw [← e]; exact hk)) (fun k e => by rw [e]; exact HLN.out))
      clear hl hn3 kp hl3 hf3 hst ej
      go_wp2
      go_roundw
      case rel => exact ⟨j + 1, S3, _, by omega, by go_num, HNX.out, H3.out, HST.out, HF3.out⟩
      case measure => simp [intOf]; omega
    · have q1 : decide ((j : Int) + 1 ≤ 1 + (kk : Int)) = false := by simp; omega
      have hjk : j = kk + 1 := by omega
      have HD2 : Hid (D2 (kk + 1) 0 0 0 (fun _ => 0) s) := Lib.hid (by rw [← hjk]; exact HD.out.second)
      go_upto_region 16 with fail
      obtain ⟨w2, hw2⟩ : ∃ w2, w2 = wr.alloc (.cells (arr (fun _ => 0)) 55) := ⟨_, rfl⟩
      have hce := ce_new wr (arr (fun _ => 0)) 55
      have hal : Below wr.heap.size wr (wr.alloc (.cells (arr (fun _ => 0)) 55)) := (Below.refl _ wr).alloc (Nat.le_refl _) _
      have hfar := HN.out.far (Nat.le_refl _)
      have hn2 := HN.out.mv hal
      have hl2 := HL.out.1.below hal HL.out.1.lt
      rw [← hw2] at hce hn2 hl2
      rw [show wr.alloc (.cells #[.int .i64 0, .int .i64 0, .int .i64 0, .int .i64 0, .int .i64 0, .int .i64 0, .int .i64 0, .int .i64 0, .int .i64 0, .int .i64 0, .int .i64 0, .int .i64 0, .int .i64 0, .int .i64 0, .int .i64 0, .int .i64 0, .int .i64 0, .int .i64 0, .int .i64 0, .int .i64 0, .int .i64 0, .int .i64 0, .int .i64 0, .int .i64 0, .int .i64 0, .int .i64 0, .int .i64 0, .int .i64 0, .int .i64 0, .int .i64 0, .int .i64 0, .int .i64 0, .int .i64 0, .int .i64 0, .int .i64 0, .int .i64 0, .int .i64 0, .int .i64 0, .int .i64 0, .int .i64 0, .int .i64 0] 55) = w2 from by rw [hw2, arr_zero]]
      obtain ⟨C, hC⟩ : ∃ C, C = wr.heap.size := ⟨_, rfl⟩
      rw [← hC] at hce hfar ⊢
      have HJ : Hid (DJ kk w.heap.size w L C b (fun _ => 0) S s w2) := Lib.hid ⟨hn2, by rw [← hjk]; exact hl2, HL.out.2, hce, hfar, by rw [hC]; exact HN.out.hn, by have := HL.out.1.lt; omega⟩
      clear hw2 hce hal hfar hn2 hl2 hC HN HL HD HLN hlt hj hLl hjk
      go_wp2
      go_loopw [10, 11, 12, 14] (fun v10 v11 v12 i wr => ∃ (k t dr db : Nat) (c : Nat → Nat) (S : Nat → Prop) (s : St), k ≤ n ∧ k ≤ 80 ∧ i = .int .i64 (k : Int) ∧ v10 = .int .i64 (dr : Int) ∧ v11 = .int .i64 (db : Int) ∧ v12 = .int .i64 (t : Int) ∧ t ≤ k ∧ dr ≤ k ∧ db ≤ k ∧ D2 (kk + 1) t dr db c s ∧ DJ kk w.heap.size w L C b c S s wr) (fun _ _ _ i _ => n - (intOf i).toNat)
      case atStart => exact ⟨0, 0, 0, 0, _, S, s, by omega, by omega, rfl, rfl, rfl, rfl, by omega, by omega, by omega, HD2.out, HJ.out⟩
      case round =>
        clear HD2 HJ S s
        obtain ⟨k, t, dr, db, c, S, s, hk, hk2, rfl, rfl, rfl, rfl, ht, hdr, hdb, hd, hj⟩ := hrel
        obtain ⟨wq, hwq⟩ : ∃ wq, wq = wr := ⟨_, rfl⟩
        rw [← hwq] at hj ⊢
        clear hwq
        have HD := Lib.hid hd
        have HJ := Lib.hid hj
        have hbel := hj.p.bel
        have hpu := hd.puts
        have hle := hd.g.lenI
        have hop := hd.opens
        clear hd hj
        by_cases hlt : k < n ∧ k < 80
        · obtain ⟨hlt, hlt2⟩ := hlt
          have q1 : (k : Int) < (n : Int) := by omega
          have q2 : (k : Int) < 80 := by omega
          obtain ⟨b0, off, rfl, hb, c0, c1, c2, c3, c4⟩ := HC.out k hlt
          have c0 := (hbel.cell (p := ⟨b0, off + k * 5, none⟩) hb).trans c0
          have d3 := (hbel.cell (p := ⟨b0, off + k * 5 + 3, none⟩) hb).trans c3
          obtain ⟨a0, a1, a2, a3⟩ := HOK.out k
          generalize (os k).kind = x0 at c0 a0
          generalize (os k).n = x3 at d3 a3
          have DB := double_any x3 a3 S b s wq HJ.out.p.p (by omega) (by omega)
          have DR := drop_any x3 a3 S b s wq HJ.out.p.p (by omega)
          have TK := take_any x3 a3 S b s wq HJ.out.p.p HD.out.g (by omega) (by omega)
          obtain ⟨r, hr⟩ : ∃ r, r = pk x0 3 := ⟨_, rfl⟩
          have hrb : r < 3 := by have := pk_lt (p := x0) (show 0 < 3 by omega); omega
          have P := num_pick x0 a0 3 (by omega) (by omega) wq
          rw [← hr] at P
          have HP := Lib.hid P
          clear a0 a1 a2 a3 hbel c1 c2 c3 c4 P hr hpu hle hop
          have HDB := Lib.hid DB
          have HDR := Lib.hid DR
          have HTK := Lib.hid TK
          clear DB DR TK
          go_wp2_with fail
          refine HP.out.mono ?_
          rintro e w3 ⟨rfl, rfl⟩
          rcases (by omega : r = 0 ∨ r = 1 ∨ r = 2) with rfl | rfl | rfl
          · clear HDR HTK
            obtain ⟨bb, hbb⟩ : ∃ bb, bb = dblB s x3 := ⟨_, rfl⟩
            cases bb with
            | true =>
              have HDD := Lib.hid (HD.out.doubled (by omega) hbb.symm)
              have h := HDB.out
              rw [← hbb] at h
              have HDB2 := Lib.hid h
              clear h hbb HDB
              go_wp2_with fail
              refine HDB2.out.mono ?_
              rintro e w4 ⟨rfl, hl4⟩
              obtain ⟨S4, h4⟩ := HJ.out.step hl4
              have H4 := Lib.hid h4
              clear hl4 h4 HJ HDB2
              go_wp2
              go_roundw
              case rel => exact ⟨k + 1, t, dr, db + 1, c, S4, _, by omega, by omega, by go_num, rfl, by go_num, rfl, by omega, by omega, by omega, HDD.out, H4.out⟩
              case measure => simp [intOf]; omega
            | false =>
              have h := HDB.out
              rw [← hbb, dbl_not hbb.symm] at h
              have HDB2 := Lib.hid h
              clear h hbb HDB
              go_wp2_with fail
              refine HDB2.out.mono ?_
              rintro e w4 ⟨rfl, hl4⟩
              obtain ⟨S4, h4⟩ := HJ.out.step hl4
              have H4 := Lib.hid h4
              clear hl4 h4 HJ HDB2
              go_wp2
              go_roundw
              case rel => exact ⟨k + 1, t, dr, db, c, S4, _, by omega, by omega, by go_num, rfl, rfl, rfl, by omega, by omega, by omega, HD.out, H4.out⟩
              case measure => simp [intOf]; omega
          · clear HDB HTK
            cases ho : pick (dgs s) x3 with
            | some x =>
              have HDD := Lib.hid (HD.out.dropped (dgs_mem (pick_mem ho)).1)
              have h := HDR.out
              rw [ho] at h
              have HDB2 := Lib.hid h
              clear h ho HDR
              go_wp2_with fail
              refine HDB2.out.mono ?_
              rintro e w4 ⟨rfl, hl4⟩
              obtain ⟨S4, h4⟩ := HJ.out.step hl4
              have H4 := Lib.hid h4
              clear hl4 h4 HJ HDB2
              go_wp2
              go_roundw
              case rel => exact ⟨k + 1, t, dr + 1, db, c, S4, _, by omega, by omega, by go_num, by go_num, rfl, rfl, by omega, by omega, by omega, HDD.out, H4.out⟩
              case measure => simp [intOf]; omega
            | none =>
              have h := HDR.out
              rw [ho] at h
              have HDB2 := Lib.hid h
              clear h ho HDR
              go_wp2_with fail
              refine HDB2.out.mono ?_
              rintro e w4 ⟨rfl, hl4⟩
              obtain ⟨S4, h4⟩ := HJ.out.step hl4
              have H4 := Lib.hid h4
              clear hl4 h4 HJ HDB2
              go_wp2
              go_roundw
              case rel => exact ⟨k + 1, t, dr, db, c, S4, _, by omega, by omega, by go_num, rfl, rfl, rfl, by omega, by omega, by omega, HD.out, H4.out⟩
              case measure => simp [intOf]; omega
          · clear HDB HDR
            cases ho : pick (ready s) x3 with
            | none =>
              have h := HTK.out
              rw [ho] at h
              have HT2 := Lib.hid h
              clear h ho HTK
              go_wp2_with fail
              refine HT2.out.mono ?_
              rintro e w4 ⟨rfl, hl4⟩
              obtain ⟨S4, h4⟩ := HJ.out.step hl4
              have H4 := Lib.hid (h4.mv (w' := w4.alloc (.cells (ic zi).toArray 52)) ((Below.refl _ _).alloc (Nat.le_refl _) _))
              clear hl4 h4 HJ HT2
              go_upto_region 21 with fail
              obtain ⟨w5, hw5⟩ : ∃ w5, w5 = w4.alloc (.cells #[.int .i64 0, .int .i64 0, .int .i64 0, .int .i64 0, .int .i64 0, .string ⟨#[]⟩] 52) := ⟨_, rfl⟩
              obtain ⟨X, hX⟩ : ∃ X, X = w4.heap.size := ⟨_, rfl⟩
              rw [← hX, ← hw5]
              have H5 : Hid (DJ kk w.heap.size w L C b c S4 s w5) := Lib.hid (by rw [hw5]; exact H4.out)
              clear hw5 hX H4
              go_quiet (fail)
              go_wp2
              go_roundw
              case rel => exact ⟨k + 1, t, dr, db, c, S4, s, by omega, by omega, by go_num, rfl, rfl, rfl, by omega, by omega, by omega, HD.out, H5.out.mv (below_drewN _ _)⟩
              case measure => simp [intOf]; omega
            | some x =>
              have hm := ready_mem (pick_mem ho)
              obtain ⟨q, hq1, hq2, hkd, hfr, hds, hbo⟩ := HD.out.mine x hm
              have HDD := Lib.hid (HD.out.taken hm hfr)
              have heq := HD.out.each q
              have h := HTK.out
              rw [ho] at h
              obtain ⟨s1, hs1⟩ : ∃ s1, s1 = takeS s (some x) := ⟨_, rfl⟩
              rw [← hs1] at HDD h
              obtain ⟨num, kind, frm, dst, conn, body⟩ := x
              obtain ⟨yb, hyb⟩ : ∃ yb, yb = bodyQ q := ⟨_, rfl⟩
              have hsz : yb.size = 1 := by rw [hyb]; rfl
              have hix : ∀ w, (Instr.index 9 (.string yb) (.int .i64 0)).run Try.prog w = .ok (.int .u8 (q : Int)) w := by
                intro w
                rw [run_index_string w 9 yb .i64 0 Try.underlying9, dif_pos ⟨by omega, by rw [hsz]; decide⟩]
                subst hyb
                have : ((bodyQ q)[(0 : Int).toNat]).toNat = q := by show (UInt8.ofNat q).toNat = q; simp; omega
                rw [this]
              have hkd : kind = 1 := hkd
              have hfr : frm = (q : Int) := hfr
              have hds : dst = (q : Int) + 1 := hds
              have hbo : body = yb := by rw [hyb]; exact hbo
              subst hkd hfr hds hbo
              have HT2 : Hid (Calls Try.prog 25 #[ptr b, .int .i64 x3] wq fun e w' => e = .returned (.tuple #[.agg #[.int .i64 num, .int .i64 1, .int .i64 q, .int .i64 ((q : Int) + 1), .int .i64 conn, .string yb], .bool true]) ∧ Pl S b s1 wq w') := Lib.hid (by rw [hyb]; exact h)
              obtain ⟨m, hm⟩ : ∃ m, m = c q := ⟨_, rfl⟩
              rw [← hm] at HDD heq
              have HM2 := Lib.hid hm
              clear h ho hs1 hm HTK hyb
              go_wp2_with fail
              refine HT2.out.mono ?_
              rintro e w4 ⟨rfl, hl4⟩
              obtain ⟨S4, h4⟩ := HJ.out.step hl4
              have H4 := Lib.hid (h4.mv (w' := w4.alloc (.cells #[.int .i64 num, .int .i64 1, .int .i64 q, .int .i64 ((q : Int) + 1), .int .i64 conn, .string yb] 52)) ((Below.refl _ _).alloc (Nat.le_refl _) _))
              have hce := ce_new w4 #[.int .i64 num, .int .i64 1, .int .i64 q, .int .i64 ((q : Int) + 1), .int .i64 conn, .string yb] 52
              clear hl4 h4 HJ HT2
              go_upto_region 21 with fail
              obtain ⟨w5, hw5⟩ : ∃ w5, w5 = w4.alloc (.cells #[.int .i64 num, .int .i64 1, .int .i64 q, .int .i64 ((q : Int) + 1), .int .i64 conn, .string yb] 52) := ⟨_, rfl⟩
              obtain ⟨X, hX⟩ : ∃ X, X = w4.heap.size := ⟨_, rfl⟩
              rw [← hX, ← hw5] at hce
              rw [← hX, ← hw5]
              have H5 : Hid (DJ kk w.heap.size w L C b c S4 s1 w5) := Lib.hid (by rw [hw5]; exact H4.out)
              clear hw5 hX H4
              obtain ⟨e0, e1, e2, e3, e4, e5⟩ := c6 hce
              have HCE := Lib.hid hce
              clear hce
              have hm41 : m ≤ 81 := by omega
              have hwq : IntKind.i64.wrap (q : Int) = (q : Int) := Go.IntWalk.i64_in _ (by omega)
              have hwq1 : IntKind.i64.wrap ((q : Int) + 1) = (q : Int) + 1 := Go.IntWalk.i64_in _ (by omega)
              have hne1 : ((q : Int) != (q : Int)) = false := by simp
              have hne2 : ((q : Int) + 1 != (q : Int) + 1) = false := by simp
              have hlt1 : decide ((q : Int) < 1) = false := by simp; omega
              have hlt2 : decide (1 + (kk : Int) < (q : Int)) = false := by simp; omega
              have hq41 : q < 41 := by omega
              go_quiet (fail)
              have hb6 := below_drewN w5 nq
              obtain ⟨w6, hw6⟩ : ∃ w6, w6 = w5.drewN nq := ⟨_, rfl⟩
              rw [← hw6] at hb6 ⊢
              have H6 := Lib.hid (H5.out.mv hb6)
              have HCE6 := HCE.out.below hb6 HCE.out.lt
              have g2 : w6.cell? ⟨X, 2, none⟩ = some (.int .i64 q) := by rw [HCE6.cell]; rfl
              have cC : w6.cell? ⟨C, q, none⟩ = some (.int .i64 m) := by rw [H6.out.m.cell, arr_get c (by omega), HM2.out]
              have fC := H6.out.m.fz q
              have H7 := Lib.hid (H6.out.came q m)
              clear e0 e1 e2 e3 e4 e5 hw6 hb6 H5 HCE6 HCE hix hlt1 hlt2 hne1 hne2 hwq hwq1
              go_wp2
              go_roundw
              case rel => exact ⟨k + 1, t + 1, dr, db, upd c q (m + 1), S4, s1, by omega, by omega, by go_num, rfl, rfl, by go_num, by omega, by omega, by omega, HDD.out, H7.out⟩
              case measure => simp [intOf]; omega
        · have hle2 : s.its.length ≤ 121 := by omega
          have hstop : (¬ k < n) ∨ (k < n ∧ ¬ k < 80) := by omega
          clear hlt
          rcases hstop with hs1 | ⟨hs1, hs2⟩
          · have q1 : decide ((k : Int) < (n : Int)) = false := by simp; omega
            clear hpu hle hop hbel
            go_wp2
            go_loopw [12, 17] (fun v12 i wr => ∃ (z t : Nat) (c : Nat → Nat) (S : Nat → Prop) (s : St), i = .int .i64 (z : Int) ∧ v12 = .int .i64 (t : Int) ∧ s.its.length + z ≤ 200 ∧ D2 (kk + 1) t dr db c s ∧ DJ kk w.heap.size w L C b c S s wr) (fun _ i _ => 2000 - (intOf i).toNat)
            case atStart => exact ⟨0, t, c, S, s, rfl, rfl, by omega, HD.out, HJ.out⟩
            case round =>
              clear HD HJ hle2
              obtain ⟨z, t, c, S, s, rfl, rfl, hz, hd, hj⟩ := hrel
              obtain ⟨wo, hwo⟩ : ∃ wo, wo = wr := ⟨_, rfl⟩
              rw [← hwo] at hj ⊢
              clear hwo
              have HD := Lib.hid hd
              have HJ := Lib.hid hj
              have hsum := hd.sum
              have hpu := hd.puts
              have hop := hd.opens
              have q3 : (z : Int) < 2000 := by omega
              have TK := take_any (z : Int) (I64.nat (by omega)) S b s wo hj.p.p hd.g (by omega) (by omega)
              clear hd hj
              have HTK := Lib.hid TK
              clear TK hpu hop
              cases ho : pick (ready s) (z : Int) with
              | some x =>
                have hm := ready_mem (pick_mem ho)
                obtain ⟨q, hq1, hq2, hkd, hfr, hds, hbo⟩ := HD.out.mine x hm
                have HDD := Lib.hid (HD.out.taken hm hfr)
                have hit := take_its HD.out.g hm
                have heq := HD.out.each q
                have h := HTK.out
                rw [ho] at h
                obtain ⟨s1, hs1⟩ : ∃ s1, s1 = takeS s (some x) := ⟨_, rfl⟩
                rw [← hs1] at HDD h hit
                obtain ⟨num, kind, frm, dst, conn, body⟩ := x
                have hfr : frm = (q : Int) := hfr
                subst hfr
                have HT2 : Hid (Calls Try.prog 25 #[ptr b, .int .i64 z] wo fun e w' => e = .returned (.tuple #[.agg #[.int .i64 num, .int .i64 kind, .int .i64 q, .int .i64 dst, .int .i64 conn, .string body], .bool true]) ∧ Pl S b s1 wo w') := Lib.hid h
                obtain ⟨m, hm⟩ : ∃ m, m = c q := ⟨_, rfl⟩
                rw [← hm] at HDD heq
                have HM2 := Lib.hid hm
                clear h ho hs1 hm HTK hkd hds hbo
                go_wp2_with fail
                refine HT2.out.mono ?_
                rintro e w4 ⟨rfl, hl4⟩
                obtain ⟨S4, h4⟩ := HJ.out.step hl4
                have H4 := Lib.hid (h4.mv (w' := w4.alloc (.cells #[.int .i64 num, .int .i64 kind, .int .i64 q, .int .i64 dst, .int .i64 conn, .string body] 52)) ((Below.refl _ _).alloc (Nat.le_refl _) _))
                have hce := ce_new w4 #[.int .i64 num, .int .i64 kind, .int .i64 q, .int .i64 dst, .int .i64 conn, .string body] 52
                clear hl4 h4 HJ HT2
                go_upto_region 36 with fail
                obtain ⟨w5, hw5⟩ : ∃ w5, w5 = w4.alloc (.cells #[.int .i64 num, .int .i64 kind, .int .i64 q, .int .i64 dst, .int .i64 conn, .string body] 52) := ⟨_, rfl⟩
                obtain ⟨X, hX⟩ : ∃ X, X = w4.heap.size := ⟨_, rfl⟩
                rw [← hX, ← hw5] at hce
                rw [← hX, ← hw5]
                have H5 : Hid (DJ kk w.heap.size w L C b c S4 s1 w5) := Lib.hid (by rw [hw5]; exact H4.out)
                clear hw5 hX H4
                have e2 : w5.cell? ⟨X, 2, none⟩ = some (.int .i64 q) := by rw [hce.cell]; rfl
                have hm41 : m ≤ 81 := by omega
                have hq41 : q < 41 := by omega
                have hlt1 : decide ((q : Int) < 1) = false := by simp; omega
                have hlt2 : decide (1 + (kk : Int) < (q : Int)) = false := by simp; omega
                have cC : w5.cell? ⟨C, q, none⟩ = some (.int .i64 m) := by rw [H5.out.m.cell, arr_get c (by omega), HM2.out]
                have fC := H5.out.m.fz q
                have H7 := Lib.hid (H5.out.came q m)
                clear hce
                go_wp2
                go_roundw
                case rel => exact ⟨z + 1, t + 1, upd c q (m + 1), S4, s1, by go_num, by go_num, by omega, HDD.out, H7.out⟩
                case measure => simp [intOf]; omega
              | none =>
                have hi0 := ready_nil_its (pick_none ho)
                have h := HTK.out
                rw [ho] at h
                have HT2 := Lib.hid h
                rw [hi0] at hsum
                have hsum : t + dr = kk + 1 + db := by simpa using hsum
                have hT : ((t : Int) == 1 + (kk : Int) + (db : Int) - (dr : Int)) = true := by simp; omega
                have HT := Lib.hid hT
                have HI0 := Lib.hid hi0
                clear h ho HTK hi0 hT
                go_wp2_with fail
                refine HT2.out.mono ?_
                rintro e w4 ⟨rfl, hl4⟩
                obtain ⟨S4, h4⟩ := HJ.out.step hl4
                have H4 := Lib.hid (h4.mv (w' := w4.alloc (.cells (ic zi).toArray 52)) ((Below.refl _ _).alloc (Nat.le_refl _) _))
                clear hl4 h4 HJ HT2
                go_upto_region 36 with fail
                obtain ⟨w5, hw5⟩ : ∃ w5, w5 = w4.alloc (.cells #[.int .i64 0, .int .i64 0, .int .i64 0, .int .i64 0, .int .i64 0, .string ⟨#[]⟩] 52) := ⟨_, rfl⟩
                obtain ⟨X, hX⟩ : ∃ X, X = w4.heap.size := ⟨_, rfl⟩
                rw [← hX, ← hw5]
                have H5 : Hid (DJ kk w.heap.size w L C b c S4 s w5) := Lib.hid (by rw [hw5]; exact H4.out)
                clear hw5 hX H4
                go_wp2
                go_loopw [20] (fun i wr => ∃ y : Nat, i = .int .i64 ((y : Int) + 1) ∧ y ≤ kk + 1 ∧ DJ kk w.heap.size w L C b c S4 s wr) (fun i _ => 100 - (intOf i).toNat)
                case atStart => exact ⟨0, rfl, by omega, H5.out⟩
                case round =>
                  clear H5
                  obtain ⟨y, rfl, hy, hj⟩ := hrel
                  obtain ⟨wu, hwu⟩ : ∃ wu, wu = wr := ⟨_, rfl⟩
                  rw [← hwu] at hj ⊢
                  clear hwu
                  have HJ := Lib.hid hj
                  clear hj
                  by_cases hlt : y < kk + 1
                  · have q4 : (y : Int) + 1 ≤ 1 + (kk : Int) := by omega
                    have hyb : y < 40 := by omega
                    have heq := HD.out.each (y + 1)
                    obtain ⟨m, hm⟩ : ∃ m, m = c (y + 1) := ⟨_, rfl⟩
                    rw [← hm] at heq
                    have cC : wu.cell? ⟨C, y + 1, none⟩ = some (.int .i64 m) := by rw [HJ.out.m.cell, arr_get c (by omega), hm]
                    have cL : wu.cell? ⟨L, y + 1, none⟩ = some (.int .i64 1) := by rw [HJ.out.l.cell, arr_get _ (by omega)]; unfold ones; rw [if_pos (by omega)]; rfl
                    have hmle : m ≤ 1 + db := by omega
                    have hdm : decide (1 + (db : Int) < (m : Int)) = false := by simp; omega
                    clear heq hm hsum
                    go_upto_region 44 with fail
                    go_quiet (fail)
                    go_wp2
                    go_roundw
                    case rel => exact ⟨y + 1, by go_num, by omega, HJ.out.mv (below_drewN _ _)⟩
                    case measure => simp [intOf]; omega
                  · have q4 : decide ((y : Int) + 1 ≤ 1 + (kk : Int)) = false := by simp; omega
                    have hT := HT.out
                    have W := waits_any S4 b s wu HJ.out.p.p
                    rw [HI0.out] at W
                    have HW := Lib.hid W
                    have HBL := Lib.hid HJ.out.p.bel
                    clear hlt W hsum
                    go_wp2_with fail
                    refine HW.out.mono ?_
                    rintro e w6 ⟨rfl, rfl⟩
                    go_wp2
                    go_ret
                    exact ⟨rfl, HBL.out⟩
          · have q1 : (k : Int) < (n : Int) := by omega
            have q2 : decide ((k : Int) < 80) = false := by simp; omega
            clear hpu hle hop hbel
            go_wp2
            go_loopw [12, 17] (fun v12 i wr => ∃ (z t : Nat) (c : Nat → Nat) (S : Nat → Prop) (s : St), i = .int .i64 (z : Int) ∧ v12 = .int .i64 (t : Int) ∧ s.its.length + z ≤ 200 ∧ D2 (kk + 1) t dr db c s ∧ DJ kk w.heap.size w L C b c S s wr) (fun _ i _ => 2000 - (intOf i).toNat)
            case atStart => exact ⟨0, t, c, S, s, rfl, rfl, by omega, HD.out, HJ.out⟩
            case round =>
              clear HD HJ hle2
              obtain ⟨z, t, c, S, s, rfl, rfl, hz, hd, hj⟩ := hrel
              obtain ⟨wo, hwo⟩ : ∃ wo, wo = wr := ⟨_, rfl⟩
              rw [← hwo] at hj ⊢
              clear hwo
              have HD := Lib.hid hd
              have HJ := Lib.hid hj
              have hsum := hd.sum
              have hpu := hd.puts
              have hop := hd.opens
              have q3 : (z : Int) < 2000 := by omega
              have TK := take_any (z : Int) (I64.nat (by omega)) S b s wo hj.p.p hd.g (by omega) (by omega)
              clear hd hj
              have HTK := Lib.hid TK
              clear TK hpu hop
              cases ho : pick (ready s) (z : Int) with
              | some x =>
                have hm := ready_mem (pick_mem ho)
                obtain ⟨q, hq1, hq2, hkd, hfr, hds, hbo⟩ := HD.out.mine x hm
                have HDD := Lib.hid (HD.out.taken hm hfr)
                have hit := take_its HD.out.g hm
                have heq := HD.out.each q
                have h := HTK.out
                rw [ho] at h
                obtain ⟨s1, hs1⟩ : ∃ s1, s1 = takeS s (some x) := ⟨_, rfl⟩
                rw [← hs1] at HDD h hit
                obtain ⟨num, kind, frm, dst, conn, body⟩ := x
                have hfr : frm = (q : Int) := hfr
                subst hfr
                have HT2 : Hid (Calls Try.prog 25 #[ptr b, .int .i64 z] wo fun e w' => e = .returned (.tuple #[.agg #[.int .i64 num, .int .i64 kind, .int .i64 q, .int .i64 dst, .int .i64 conn, .string body], .bool true]) ∧ Pl S b s1 wo w') := Lib.hid h
                obtain ⟨m, hm⟩ : ∃ m, m = c q := ⟨_, rfl⟩
                rw [← hm] at HDD heq
                have HM2 := Lib.hid hm
                clear h ho hs1 hm HTK hkd hds hbo
                go_wp2_with fail
                refine HT2.out.mono ?_
                rintro e w4 ⟨rfl, hl4⟩
                obtain ⟨S4, h4⟩ := HJ.out.step hl4
                have H4 := Lib.hid (h4.mv (w' := w4.alloc (.cells #[.int .i64 num, .int .i64 kind, .int .i64 q, .int .i64 dst, .int .i64 conn, .string body] 52)) ((Below.refl _ _).alloc (Nat.le_refl _) _))
                have hce := ce_new w4 #[.int .i64 num, .int .i64 kind, .int .i64 q, .int .i64 dst, .int .i64 conn, .string body] 52
                clear hl4 h4 HJ HT2
                go_upto_region 36 with fail
                obtain ⟨w5, hw5⟩ : ∃ w5, w5 = w4.alloc (.cells #[.int .i64 num, .int .i64 kind, .int .i64 q, .int .i64 dst, .int .i64 conn, .string body] 52) := ⟨_, rfl⟩
                obtain ⟨X, hX⟩ : ∃ X, X = w4.heap.size := ⟨_, rfl⟩
                rw [← hX, ← hw5] at hce
                rw [← hX, ← hw5]
                have H5 : Hid (DJ kk w.heap.size w L C b c S4 s1 w5) := Lib.hid (by rw [hw5]; exact H4.out)
                clear hw5 hX H4
                have e2 : w5.cell? ⟨X, 2, none⟩ = some (.int .i64 q) := by rw [hce.cell]; rfl
                have hm41 : m ≤ 81 := by omega
                have hq41 : q < 41 := by omega
                have hlt1 : decide ((q : Int) < 1) = false := by simp; omega
                have hlt2 : decide (1 + (kk : Int) < (q : Int)) = false := by simp; omega
                have cC : w5.cell? ⟨C, q, none⟩ = some (.int .i64 m) := by rw [H5.out.m.cell, arr_get c (by omega), HM2.out]
                have fC := H5.out.m.fz q
                have H7 := Lib.hid (H5.out.came q m)
                clear hce
                go_wp2
                go_roundw
                case rel => exact ⟨z + 1, t + 1, upd c q (m + 1), S4, s1, by go_num, by go_num, by omega, HDD.out, H7.out⟩
                case measure => simp [intOf]; omega
              | none =>
                have hi0 := ready_nil_its (pick_none ho)
                have h := HTK.out
                rw [ho] at h
                have HT2 := Lib.hid h
                rw [hi0] at hsum
                have hsum : t + dr = kk + 1 + db := by simpa using hsum
                have hT : ((t : Int) == 1 + (kk : Int) + (db : Int) - (dr : Int)) = true := by simp; omega
                have HT := Lib.hid hT
                have HI0 := Lib.hid hi0
                clear h ho HTK hi0 hT
                go_wp2_with fail
                refine HT2.out.mono ?_
                rintro e w4 ⟨rfl, hl4⟩
                obtain ⟨S4, h4⟩ := HJ.out.step hl4
                have H4 := Lib.hid (h4.mv (w' := w4.alloc (.cells (ic zi).toArray 52)) ((Below.refl _ _).alloc (Nat.le_refl _) _))
                clear hl4 h4 HJ HT2
                go_upto_region 36 with fail
                obtain ⟨w5, hw5⟩ : ∃ w5, w5 = w4.alloc (.cells #[.int .i64 0, .int .i64 0, .int .i64 0, .int .i64 0, .int .i64 0, .string ⟨#[]⟩] 52) := ⟨_, rfl⟩
                obtain ⟨X, hX⟩ : ∃ X, X = w4.heap.size := ⟨_, rfl⟩
                rw [← hX, ← hw5]
                have H5 : Hid (DJ kk w.heap.size w L C b c S4 s w5) := Lib.hid (by rw [hw5]; exact H4.out)
                clear hw5 hX H4
                go_wp2
                go_loopw [20] (fun i wr => ∃ y : Nat, i = .int .i64 ((y : Int) + 1) ∧ y ≤ kk + 1 ∧ DJ kk w.heap.size w L C b c S4 s wr) (fun i _ => 100 - (intOf i).toNat)
                case atStart => exact ⟨0, rfl, by omega, H5.out⟩
                case round =>
                  clear H5
                  obtain ⟨y, rfl, hy, hj⟩ := hrel
                  obtain ⟨wu, hwu⟩ : ∃ wu, wu = wr := ⟨_, rfl⟩
                  rw [← hwu] at hj ⊢
                  clear hwu
                  have HJ := Lib.hid hj
                  clear hj
                  by_cases hlt : y < kk + 1
                  · have q4 : (y : Int) + 1 ≤ 1 + (kk : Int) := by omega
                    have hyb : y < 40 := by omega
                    have heq := HD.out.each (y + 1)
                    obtain ⟨m, hm⟩ : ∃ m, m = c (y + 1) := ⟨_, rfl⟩
                    rw [← hm] at heq
                    have cC : wu.cell? ⟨C, y + 1, none⟩ = some (.int .i64 m) := by rw [HJ.out.m.cell, arr_get c (by omega), hm]
                    have cL : wu.cell? ⟨L, y + 1, none⟩ = some (.int .i64 1) := by rw [HJ.out.l.cell, arr_get _ (by omega)]; unfold ones; rw [if_pos (by omega)]; rfl
                    have hmle : m ≤ 1 + db := by omega
                    have hdm : decide (1 + (db : Int) < (m : Int)) = false := by simp; omega
                    clear heq hm hsum
                    go_upto_region 44 with fail
                    go_quiet (fail)
                    go_wp2
                    go_roundw
                    case rel => exact ⟨y + 1, by go_num, by omega, HJ.out.mv (below_drewN _ _)⟩
                    case measure => simp [intOf]; omega
                  · have q4 : decide ((y : Int) + 1 ≤ 1 + (kk : Int)) = false := by simp; omega
                    have hT := HT.out
                    have W := waits_any S4 b s wu HJ.out.p.p
                    rw [HI0.out] at W
                    have HW := Lib.hid W
                    have HBL := Lib.hid HJ.out.p.bel
                    clear hlt W hsum
                    go_wp2_with fail
                    refine HW.out.mono ?_
                    rintro e w6 ⟨rfl, rfl⟩
                    go_wp2
                    go_ret
                    exact ⟨rfl, HBL.out⟩
theorem lawDgs_any (many : Int) (a : Option Addr) (n cap : Nat) (hm : I64 many) (w : World) (h : Calld w a n) :
    Calls Try.prog 6 #[.int .i64 many, .slice a n cap] w fun e w' => e = .returned (.bool true) ∧ Below w.heap.size w w' := by
  rcases h with rfl | ⟨b, off, os, rfl, hb, hok, hc⟩
  · exact lawDgs_all many hm a 0 cap (fun _ => ⟨0, 0, 0, 0, ⟨#[]⟩⟩) w (fun _ => by simp [OpC.ok, I64]) (fun k hk => absurd hk (by omega))
  · exact lawDgs_all many hm _ n cap os w hok (fun k hk => ⟨b, off, rfl, hb, hc k hk⟩)
end Go.Proofs.Ytocmgdhhlofajaa
