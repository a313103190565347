/-
  The walk of the law PackPlays: for every list of calls it returns true; no older memory is changed.
-/
import Derived.Test.YthffdgjdioolkaaPr
import Derived.Test.YthffdgjdioolkaaOps
import Derived.Deep.CutBlock
import Derived.Deep.RegionHeld3
import Derived.Test.YthffdgjdioolkaaShort
namespace Go.Proofs.Ythffdgjdioolkaa
open Go.RowKit
theorem prk_read {n bp br : Nat} {S Q : Nat → Prop} {B B' : Bs} {L L' : Kn} {w : World} (h : PR n bp br S Q B L B' L' w) : w.cell? ⟨br, 0, none⟩ = some (str B') := by
  obtain ⟨lv, hr⟩ := h.r
  exact hr.blk.cell0
theorem pk_bounds {pts : Bool} {B : Bs} {L : Kn} {n : Bs} (h : L.length ≤ B.length) : (pkL pts B L n).length ≤ (pkB pts B L n).length ∧ (pkB pts B L n).length ≤ B.length + n.length := by
  by_cases g : chk n = 0
  · obtain ⟨h1, h2, h3⟩ := pk_len (pts := pts) (B := B) (L := L) g
    omega
  · rw [pkB_no g, pkL_no g]; omega
theorem pword_int (z : Int) (h0 : 0 ≤ z) (h1 : z < 65536) (S : Nat → Prop) (b : Nat) (B : Bs) (L : Kn) (w : World) (h : PK S b B L w) (hB : B.length + 2 ≤ 1000000) :
    Calls Try.prog 22 #[ptr b, .int .u16 z] w fun e w' => (∃ v, e = .returned v) ∧ Lft S b (B ++ word z.toNat) L w w' := by
  have C := pword_any z.toNat (by omega) S b B L w h hB
  rw [show ((z.toNat : Nat) : Int) = z by omega] at C
  exact C
theorem pbyte_int (z : Int) (h0 : 0 ≤ z) (h1 : z < 256) (S : Nat → Prop) (b : Nat) (B : Bs) (L : Kn) (w : World) (h : PK S b B L w) (hB : B.length + 1 ≤ 1000000) :
    Calls Try.prog 23 #[ptr b, .int .u8 z] w fun e w' => (∃ v, e = .returned v) ∧ Lft S b (B ++ [UInt8.ofNat z.toNat]) L w w' := by
  have C := pbyte_any (UInt8.ofNat z.toNat) S b B L w h hB
  rw [show ((UInt8.ofNat z.toNat).toNat : Int) = z by simp; omega] at C
  exact C
theorem rnum_int (z : Int) (n : Nat) (h0 : 0 ≤ z) (h1 : z < 4294967296) (hn : n ≤ 4) (S : Nat → Prop) (b : Nat) (B : Bs) (L : Kn) (w : World) (h : RK S b B L w) (hB : B.length ≤ 1000000) :
    Calls Try.prog 24 #[ptr b, .int .i64 z, .int .i64 (n : Int)] w fun e w' => (∃ v, e = .returned v) ∧ RLft S b (B ++ nb z.toNat n) L w w' := by
  have C := rnum_any z.toNat n (by omega) hn S b B L w h hB
  rw [show ((z.toNat : Nat) : Int) = z by omega] at C
  exact C
theorem ppatch_int (a z : Int) (ha : -9223372036854775808 ≤ a ∧ a ≤ 9223372036854775807) (h0 : 0 ≤ z) (h1 : z < 65536) (S : Nat → Prop) (b : Nat) (B : Bs) (L : Kn) (w : World) (h : PK S b B L w) (hB : B.length ≤ 1000000) :
    Calls Try.prog 26 #[ptr b, .int .i64 a, .int .u16 z] w fun e w' => e = .returned (.int .i64 (ptE B a)) ∧ Lft S b (ptB B a z.toNat) L w w' := by
  have C := ppatch_any a z.toNat ha (by omega) S b B L w h hB
  rw [show ((z.toNat : Nat) : Int) = z by omega] at C
  exact C
theorem rpatch_int (a z : Int) (ha : -9223372036854775808 ≤ a ∧ a ≤ 9223372036854775807) (h0 : 0 ≤ z) (h1 : z < 65536) (S : Nat → Prop) (b : Nat) (B : Bs) (L : Kn) (w : World) (h : RK S b B L w) (hB : B.length ≤ 1000000) :
    Calls Try.prog 27 #[ptr b, .int .i64 a, .int .u16 z] w fun e w' => e = .returned (.int .i64 (ptE B a)) ∧ RLft S b (ptB B a z.toNat) L w w' := by
  have C := rpatch_any a z.toNat ha (by omega) S b B L w h hB
  rw [show ((z.toNat : Nat) : Int) = z by omega] at C
  exact C
theorem rv_add {S : Nat → Prop} {b : Nat} {B : Bs} {L : Kn} {lv : Value} {w : World} (h : RV S b B L lv w) (y : ByteArray) : RLft S b (B ++ y.data.toList) L w (w.setCell ⟨b, 0, none⟩ (.string (⟨B.toArray⟩ ++ y))) := by
  have e : (.string (⟨B.toArray⟩ ++ y) : Value) = str (B ++ y.data.toList) := by
    rw [show y = ⟨y.data.toList.toArray⟩ from rfl, cat]
  rw [e]
  exact h.text (Below.refl _ _)
set_option maxRecDepth 100000 in
set_option maxHeartbeats 16000000 in
theorem lawPlays_some (far : Bool) (b off n cap : Nat) (os : Nat → OpC) (w : World) (hb : b < w.heap.size) (hok : ∀ k, (os k).ok) (hc : ∀ k, k < n → OpAt w b (off + k * 5) (os k)) :
    Calls Try.prog 5 #[.bool far, .slice (some ⟨b, off, none⟩) n cap] w fun e w' => e = .returned (.bool true) ∧ Below w.heap.size w w' := by
  have HC := Lib.hid hc
  have HOK := Lib.hid hok
  clear hc hok
  obtain ⟨i0, hi, hz0, hz1, hz2⟩ := info_parts info5
  go_enter Try.func5, Try.ntmps5
  go_wp2_with fail
  refine (awake_any _).mono ?_
  rintro e w1 ⟨rfl, h1⟩
  go_wp2_with fail
  refine (new_any w1).mono ?_
  rintro e w2 ⟨rfl, hp2, hb2⟩
  have hR := rk_new w2
  have hb3 : Below w2.heap.size w2 (w2.alloc (.cells #[.string ⟨#[]⟩, .slice none 0 0] 47)) := (Below.refl _ _).alloc (Nat.le_refl _) _
  have HX := Lib.hid (pr_new (n := w.heap.size) hp2 hb2 hR hb3 h1.size)
  have HB := Lib.hid ((h1.trans (hb2.mono h1.size)).trans (hb3.mono (Nat.le_trans h1.size hb2.size)))
  obtain ⟨bp, hbp⟩ : ∃ bp, bp = w1.heap.size := ⟨_, rfl⟩
  rw [show ptr w1.heap.size = ptr bp by rw [hbp]]
  rw [← hbp] at HX
  clear hR hb3 h1 hp2 hb2 hbp
  go_upto_if 20 with fail
  obtain ⟨br, hbr⟩ : ∃ br, br = w2.heap.size := ⟨_, rfl⟩
  rw [← hbr] at HX ⊢
  have HBR := Lib.hid hbr
  clear hbr
  go_cut [8] from 21 to 29 (fun _ wx => PlI w bp br 0 wx)
  case first =>
    cases far with
    | true =>
      obtain ⟨m, hm⟩ : ∃ m : Nat, m = 16380 := ⟨_, rfl⟩
      have hmb : m ≤ 16380 := by omega
      have HM := Lib.hid hm
      clear hm
      go_wp2_with (at_make; refine wpList_make_full _ rfl _ _ 48 rfl 0 5 i0 (.int .u8 0) 1 Try.underlying48 hi hz0 hz1 .i64 .i64 16380 16380 m rfl rfl (by rw [HM.out]; rfl) (by rw [HM.out]; rfl) (by rw [hz2]; omega) (by unfold maxLen; omega) (Nat.zero_le _) ?_)
      intro w4 hown hg4
      rw [made_zero, ← HBR.out] at hown
      obtain ⟨Z, hZ⟩ : ∃ Z : Bs, Z = List.replicate m 0 := ⟨_, rfl⟩
      have hZl : Z.length = m := by rw [hZ]; simp
      rw [← hZ] at hown
      have hconv := row_back (l := Z) (by rw [hZl]; exact hown)
      obtain ⟨S, Q, hPR⟩ := HX.out
      have hbw : Below (w2.alloc (.cells #[.string ⟨#[]⟩, .slice none 0 0] 47)).heap.size (w2.alloc (.cells #[.string ⟨#[]⟩, .slice none 0 0] 47)) w4 := ⟨hg4.os, hg4.tape, hg4.output, hg4.size, fun k hk => hg4.block k hk (by simp)⟩
      have HP4 := Lib.hid (hPR.below hbw)
      have HB4 := Lib.hid (HB.out.trans (hbw.mono HB.out.size))
      have hsz := HB4.out.size
      have HZL := Lib.hid hZl
      clear hown hg4 hbw hPR HB HX hZ hZl
      rw [← HBR.out]
      go_wp2_with fail
      refine (praw_any ⟨Z.toArray⟩ _ _ _ _ _ HP4.out.p (by rw [size_list]; show 0 + Z.length ≤ _; have := HZL.out; omega)).mono ?_
      rintro e w5 ⟨⟨v5, rfl⟩, hl5⟩
      obtain ⟨⟨S5, hP5, _⟩, hb5, _⟩ := HP4.out.left hsz hl5
      obtain ⟨lv5, hr5⟩ := hP5.r
      have c0 := hr5.blk.cell0
      have f0 := hr5.blk.frozen0
      have HR5 := Lib.hid (hr5.text (B' := Z) (Below.refl _ _))
      have HP5 := Lib.hid hP5
      have HB5 := Lib.hid (HB4.out.trans hb5)
      have hs5 := HB5.out.size
      clear hl5 hP5 hb5 hr5
      go_wp2
      go_meet
      case rel =>
        obtain ⟨⟨Q6, hP6, _⟩, hb6, _⟩ := HP5.out.right hs5 HR5.out
        exact ⟨S5, Q6, Z, [], hP6, okK_nil, by simp, by have := HZL.out; omega, HB5.out.trans hb6⟩
    | false =>
      obtain ⟨S, Q, hPR⟩ := HX.out
      have HP := Lib.hid hPR
      clear hPR HX
      go_wp2
      go_meet
      case rel => exact ⟨S, Q, [], [], HP.out, okK_nil, by simp, by simp, HB.out⟩
  case rest =>
    have HI := Lib.hid hcut
    clear hcut HX HB HBR
    go_wp2
    go_loopg [9] 60 (fun gk i wr => ∃ k : Nat, gk = 60 - k ∧ k ≤ n ∧ k ≤ 60 ∧ i = .int .i64 k ∧ PlI w bp br k wr)
    case atStart => exact ⟨0, rfl, by omega, by omega, rfl, HI.out⟩
    case round =>
      clear HI
      obtain ⟨k, hgk, hk, hk2, rfl, S, Q, B, L, hP, hK, hL, hBk, hB⟩ := hrel
      have HGK := Lib.hid hgk
      clear hgk
      have HB := Lib.hid hB
      have hsz := hB.size
      have HP := Lib.hid hP
      have HK := Lib.hid hK
      by_cases hlt : k < n
      · have q1 : (k : Int) < (n : Int) := by omega
        by_cases hlt2 : k < 60
        · have q2 : (k : Int) < 60 := by omega
          obtain ⟨c0, c1, c2, c3, c4⟩ := HC.out k hlt
          have c0 := (hB.cell (p := ⟨b, off + k * 5, none⟩) hb).trans c0
          have c1 := (hB.cell (p := ⟨b, off + k * 5 + 1, none⟩) hb).trans c1
          have c2 := (hB.cell (p := ⟨b, off + k * 5 + 2, none⟩) hb).trans c2
          have c3 := (hB.cell (p := ⟨b, off + k * 5 + 3, none⟩) hb).trans c3
          have c4 := (hB.cell (p := ⟨b, off + k * 5 + 4, none⟩) hb).trans c4
          obtain ⟨t, ht, hshort⟩ := short_any (os k).text 300
          have SH := Lib.hid hshort
          have HTS : Hid (t.data.toList.length = t.size) := Lib.hid (size_list t).symm
          obtain ⟨⟨a1, a2⟩, ⟨b1, b2⟩, ⟨n1, n2⟩⟩ := HOK.out k
          generalize (os k).kind = x0 at c0 a1 a2
          generalize (os k).place = x1 at c1 b1 b2
          generalize (os k).num = x2 at c2 n1 n2
          generalize (os k).text = x3 at c3 SH
          generalize (os k).points = x4 at c4
          clear hshort hB hP hK
          have hr0 : (x0.tmod 6).natAbs = x0.natAbs % 6 := Int.natAbs_tmod x0 6
          obtain ⟨r, hr⟩ : ∃ r, x0.tmod 6 = r := ⟨_, rfl⟩
          rw [hr] at hr0
          have hr1 : -6 < r := by omega
          have hr2 : r < 6 := by omega
          clear hr0
          go_upto_if 48 with fail
          obtain ⟨wA, hwA⟩ : ∃ wA, wA = wr.alloc (.cells #[.int .i64 x0, .int .i64 x1, .int .u32 x2, .string x3, .bool x4] 51) := ⟨_, rfl⟩
          rw [← hwA]
          have hA : Below wr.heap.size wr wA := by rw [hwA]; exact (Below.refl _ _).alloc (Nat.le_refl _) _
          have hnew := World.news_of_block (cs := #[.int .i64 x0, .int .i64 x1, .int .u32 x2, .string x3, .bool x4]) (t := 51) (fr := (0, 0)) (heap_alloc_new wr _)
          rw [← hwA] at hnew
          have d1 : wA.cell? ⟨wr.heap.size, 1, none⟩ = some (.int .i64 x1) := hnew 1 _ rfl
          have d2 : wA.cell? ⟨wr.heap.size, 2, none⟩ = some (.int .u32 x2) := hnew 2 _ rfl
          have d3 : wA.cell? ⟨wr.heap.size, 3, none⟩ = some (.string x3) := hnew 3 _ rfl
          have d4 : wA.cell? ⟨wr.heap.size, 4, none⟩ = some (.bool x4) := hnew 4 _ rfl
          have HPA := Lib.hid (HP.out.below hA)
          have HBA := Lib.hid (HB.out.trans (hA.mono hsz))
          have hszA : w.heap.size ≤ wA.heap.size := Nat.le_trans hsz hA.size
          have hogS : ¬ S wr.heap.size := fun h => by have := (HP.out.hp _ h).2; omega
          have hogQ : ¬ Q wr.heap.size := fun h => by have := (HP.out.hq _ h).2; omega
          have hogA : wr.heap.size < wA.heap.size := by rw [hwA]; simp
          obtain ⟨og, hog⟩ : ∃ og, og = wr.heap.size := ⟨_, rfl⟩
          rw [← hog] at d1 d2 d3 d4 hogS hogQ hogA ⊢
          have HD1 := Lib.hid d1
          have HD2 := Lib.hid d2
          have HD3 := Lib.hid d3
          have HD4 := Lib.hid d4
          clear hwA hA hnew c0 c1 c2 c3 c4 HP HB hsz hog d1 d2 d3 d4 hr
          go_cut [11] from 30 to 143 (fun kv wx => ∃ kk : Int, kv = .int .i64 kk ∧ 0 ≤ kk ∧ kk < 6 ∧ wA = wx)
          case first =>
            by_cases g : r < 0
            · go_wp2
              go_meet
              case rel => exact ⟨_, rfl, by omega, by omega, rfl⟩
            · have g' : decide (r < 0) = false := by simpa using g
              go_wp2
              go_meet
              case rel => exact ⟨_, rfl, by omega, by omega, rfl⟩
          case rest =>
            obtain ⟨kk, rfl, hk0, hk6, rfl⟩ := hcut
            have d1 := HD1.out
            have d2 := HD2.out
            have d3 := HD3.out
            have d4 := HD4.out
            rcases (by omega : kk = 2 ∨ kk = 3 ∨ kk = 4 ∨ kk = 5 ∨ kk = 0 ∨ kk = 1) with rfl | rfl | rfl | rfl | rfl | rfl
            · go_wp2_with fail
              refine (SH.out _).mono ?_
              rintro e w' ⟨rfl, rfl⟩
              go_wp2_with fail
              refine (praw_any t _ _ _ _ _ HPA.out.p (by omega)).mono ?_
              rintro e z1 ⟨⟨v1, rfl⟩, hl1⟩
              obtain ⟨⟨S1, hP1, hN1⟩, hb1, hc1⟩ := HPA.out.left hszA hl1
              have hS1 := hN1 og hogA hogS
              have ho1 := Nat.lt_of_lt_of_le hogA (Nat.le_trans (Nat.le_refl _) hl1.2.size)
              have hs1 := Nat.le_trans hszA hl1.2.size
              have HP1 := Lib.hid hP1
              have HB1 := Lib.hid (HBA.out.trans hb1)
              clear hP1 hN1 hb1 hc1 hl1 d1 d2 d3 d4
              obtain ⟨lv, hr⟩ := HP1.out.r
              have c0 := hr.blk.cell0
              have f0 := hr.blk.frozen0
              have hadd : ∀ w, (Op.stringOp .add ⟨B.toArray⟩ t).run Try.prog w = .ok (.string (⟨B.toArray⟩ ++ t)) w := fun w => run_string_add_sum w _ _ (by rw [size_list]; show B.length + t.size ≤ _; omega)
              have HR := Lib.hid (rv_add hr t)
              clear hr
              go_wp2
              change Code.wp _ _ _ _ (z1.setCell ⟨br, 0, none⟩ (.string (⟨B.toArray⟩ ++ t)))
              generalize (z1.setCell ⟨br, 0, none⟩ (.string (⟨B.toArray⟩ ++ t))) = z2 at HR ⊢
              obtain ⟨⟨Q2, hP2, _⟩, hb2, _⟩ := HP1.out.right hs1 HR.out
              have HP2 := Lib.hid hP2
              have HB2 := Lib.hid (HB1.out.trans hb2)
              have hs2 := HB2.out.size
              clear hP2 hb2 HR c0 f0 hadd
              obtain ⟨Bz, hBz⟩ : ∃ Bz, Bz = B ++ t.data.toList := ⟨_, rfl⟩
              rw [← hBz] at HP2
              have HBZ := Lib.hid hBz
              clear hBz
              have y0 := prk_read HP2.out
              obtain ⟨tz, htz⟩ : ∃ tz : ByteArray, tz = ⟨Bz.toArray⟩ := ⟨_, rfl⟩
              have hts : tz.size = Bz.length := by rw [size_list, htz]
              rw [show str Bz = .string tz by rw [htz]] at y0
              clear htz
              go_wp2
              go_quiet ((go_at_call 30; exact Calls.quiet_of_same ((plen_any _ _ _ _ _ (HP2.out.p.below (drewN_below _ _))).mono fun _ _ h => ⟨h.1, h.2.symm⟩)))
              go_wp2
              go_roundg (60 - (k + 1))
              case measure => rw [HGK.out]; omega
              case rel => exact ⟨k + 1, rfl, by omega, by omega, by go_num, _, _, Bz, L, HP2.out.below (drewN_below _ _), HK.out, by rw [HBZ.out, List.length_append]; omega, by rw [HBZ.out, List.length_append]; have := HTS.out; omega, HB2.out.trans ((drewN_below _ _).mono hs2)⟩
            · go_wp2_with fail
              refine (SH.out _).mono ?_
              rintro e w' ⟨rfl, rfl⟩
              go_wp2_with fail
              refine (pword_int (x2 % 65536) (by omega) (by omega) _ _ _ _ _ HPA.out.p (by omega)).mono ?_
              rintro e z1 ⟨⟨v1, rfl⟩, hl1⟩
              obtain ⟨⟨S1, hP1, hN1⟩, hb1, hc1⟩ := HPA.out.left hszA hl1
              have e21 := (hc1 og 2 hogA hogS).trans d2
              have hS1 := hN1 og hogA hogS
              have ho1 := Nat.lt_of_lt_of_le hogA (Nat.le_trans (Nat.le_refl _) hl1.2.size)
              have hs1 := Nat.le_trans hszA hl1.2.size
              have HP1 := Lib.hid hP1
              have HB1 := Lib.hid (HBA.out.trans hb1)
              clear hP1 hN1 hb1 hc1 hl1 d1 d2 d3 d4
              go_wp2_with fail
              refine (pbyte_int (x2 % 256) (by omega) (by omega) _ _ _ _ _ HP1.out.p (by rw [List.length_append, word_length]; omega)).mono ?_
              rintro e z2 ⟨⟨v2, rfl⟩, hl2⟩
              obtain ⟨⟨S2, hP2, hN2⟩, hb2, hc2⟩ := HP1.out.left hs1 hl2
              have e22 := (hc2 og 2 ho1 hS1).trans e21
              have hS2 := hN2 og ho1 hS1
              have ho2 := Nat.lt_of_lt_of_le ho1 (Nat.le_trans (Nat.le_refl _) hl2.2.size)
              have hs2 := Nat.le_trans hs1 hl2.2.size
              have HP2 := Lib.hid hP2
              have HB2 := Lib.hid (HB1.out.trans hb2)
              clear hP2 hN2 hb2 hc2 hl2 e21
              go_wp2_with fail
              refine (rnum_int (x2 % 65536) 2 (by omega) (by omega) (by decide) _ _ _ _ _ HP2.out.r (by omega)).mono ?_
              rintro e z3 ⟨⟨v3, rfl⟩, hl3⟩
              rw [nb_two] at hl3
              obtain ⟨⟨Q3, hP3, hN3⟩, hb3, hc3⟩ := HP2.out.right hs2 hl3
              have e23 := (hc3 og 2 ho2 hogQ).trans e22
              have hQ3 := hN3 og ho2 hogQ
              have ho3 := Nat.lt_of_lt_of_le ho2 (Nat.le_trans (Nat.le_refl _) hl3.2.size)
              have hs3 := Nat.le_trans hs2 hl3.2.size
              have HP3 := Lib.hid hP3
              have HB3 := Lib.hid (HB2.out.trans hb3)
              clear hP3 hN3 hb3 hc3 hl3 e22
              go_wp2_with fail
              refine (rnum_int (x2 % 256) 1 (by omega) (by omega) (by decide) _ _ _ _ _ HP3.out.r (by rw [List.length_append, word_length]; omega)).mono ?_
              rintro e z4 ⟨⟨v4, rfl⟩, hl4⟩
              rw [nb_one] at hl4
              obtain ⟨⟨Q4, hP4, hN4⟩, hb4, hc4⟩ := HP3.out.right hs3 hl4
              have hQ4 := hN4 og ho3 hQ3
              have ho4 := Nat.lt_of_lt_of_le ho3 (Nat.le_trans (Nat.le_refl _) hl4.2.size)
              have hs4 := Nat.le_trans hs3 hl4.2.size
              have HP4 := Lib.hid hP4
              have HB4 := Lib.hid (HB3.out.trans hb4)
              clear hP4 hN4 hb4 hc4 hl4 e23
              obtain ⟨Bz, hBz⟩ : ∃ Bz, Bz = B ++ word (x2 % 65536).toNat ++ [UInt8.ofNat (x2 % 256).toNat] := ⟨_, rfl⟩
              rw [← hBz] at HP4
              have HBZ := Lib.hid hBz
              clear hBz
              have y0 := prk_read HP4.out
              obtain ⟨tz, htz⟩ : ∃ tz : ByteArray, tz = ⟨Bz.toArray⟩ := ⟨_, rfl⟩
              have hts : tz.size = Bz.length := by rw [size_list, htz]
              rw [show str Bz = .string tz by rw [htz]] at y0
              clear htz
              go_wp2
              go_quiet ((go_at_call 30; exact Calls.quiet_of_same ((plen_any _ _ _ _ _ (HP4.out.p.below (drewN_below _ _))).mono fun _ _ h => ⟨h.1, h.2.symm⟩)))
              go_wp2
              go_roundg (60 - (k + 1))
              case measure => rw [HGK.out]; omega
              case rel => exact ⟨k + 1, rfl, by omega, by omega, by go_num, _, _, Bz, L, HP4.out.below (drewN_below _ _), HK.out, by rw [HBZ.out, List.length_append, List.length_append]; omega, by rw [HBZ.out, List.length_append, List.length_append, word_length]; simp; omega, HB4.out.trans ((drewN_below _ _).mono hs4)⟩
            · go_wp2_with fail
              refine (SH.out _).mono ?_
              rintro e w' ⟨rfl, rfl⟩
              go_wp2_with fail
              refine (plong_any x2 n1 n2 _ _ _ _ _ HPA.out.p (by omega)).mono ?_
              rintro e z1 ⟨⟨v1, rfl⟩, hl1⟩
              obtain ⟨⟨S1, hP1, hN1⟩, hb1, hc1⟩ := HPA.out.left hszA hl1
              have e21 := (hc1 og 2 hogA hogS).trans d2
              have hS1 := hN1 og hogA hogS
              have ho1 := Nat.lt_of_lt_of_le hogA (Nat.le_trans (Nat.le_refl _) hl1.2.size)
              have hs1 := Nat.le_trans hszA hl1.2.size
              have HP1 := Lib.hid hP1
              have HB1 := Lib.hid (HBA.out.trans hb1)
              clear hP1 hN1 hb1 hc1 hl1 d1 d2 d3 d4
              go_wp2_with fail
              refine (rnum_int x2 4 n1 n2 (by decide) _ _ _ _ _ HP1.out.r (by omega)).mono ?_
              rintro e z2 ⟨⟨v2, rfl⟩, hl2⟩
              rw [nb_four] at hl2
              obtain ⟨⟨Q2, hP2, hN2⟩, hb2, hc2⟩ := HP1.out.right hs1 hl2
              have hQ2 := hN2 og ho1 hogQ
              have ho2 := Nat.lt_of_lt_of_le ho1 (Nat.le_trans (Nat.le_refl _) hl2.2.size)
              have hs2 := Nat.le_trans hs1 hl2.2.size
              have HP2 := Lib.hid hP2
              have HB2 := Lib.hid (HB1.out.trans hb2)
              clear hP2 hN2 hb2 hc2 hl2 e21
              obtain ⟨Bz, hBz⟩ : ∃ Bz, Bz = B ++ long x2.toNat := ⟨_, rfl⟩
              rw [← hBz] at HP2
              have HBZ := Lib.hid hBz
              clear hBz
              have y0 := prk_read HP2.out
              obtain ⟨tz, htz⟩ : ∃ tz : ByteArray, tz = ⟨Bz.toArray⟩ := ⟨_, rfl⟩
              have hts : tz.size = Bz.length := by rw [size_list, htz]
              rw [show str Bz = .string tz by rw [htz]] at y0
              clear htz
              go_wp2
              go_quiet ((go_at_call 30; exact Calls.quiet_of_same ((plen_any _ _ _ _ _ (HP2.out.p.below (drewN_below _ _))).mono fun _ _ h => ⟨h.1, h.2.symm⟩)))
              go_wp2
              go_roundg (60 - (k + 1))
              case measure => rw [HGK.out]; omega
              case rel => exact ⟨k + 1, rfl, by omega, by omega, by go_num, _, _, Bz, L, HP2.out.below (drewN_below _ _), HK.out, by rw [HBZ.out, List.length_append]; omega, by rw [HBZ.out, List.length_append]; simp [long]; omega, HB2.out.trans ((drewN_below _ _).mono hs2)⟩
            · go_wp2_with fail
              refine (SH.out _).mono ?_
              rintro e w' ⟨rfl, rfl⟩
              have d1' : wA.drew.cell? ⟨og, 1, none⟩ = some (.int .i64 x1) := d1
              have d2' : wA.drew.cell? ⟨og, 2, none⟩ = some (.int .u32 x2) := d2
              have HPd := Lib.hid (HPA.out.below ((Below.refl _ _).drew))
              have HBd := Lib.hid (HBA.out.trans (((Below.refl wA.heap.size wA).drew).mono hszA))
              have hszd : w.heap.size ≤ wA.drew.heap.size := hszA
              have hogd : og < wA.drew.heap.size := hogA
              go_wp2
              go_region_held3 (fun w' => w'.cell? ⟨og, 1, none⟩ = some (.int .i64 x1) ∧ w'.cell? ⟨og, 2, none⟩ = some (.int .u32 x2)) (first | exact ⟨g1, g2⟩ | exact ⟨e1, e2⟩ | exact ⟨d1', d2'⟩)
                (first
                | (go_at_call 26; (first | (refine (ppatch_int x1 (x2 % 65536) ⟨b1, b2⟩ (by omega) (by omega) _ _ _ _ _ HP1.out.p (by omega)).mono ?_; rintro e z2 ⟨rfl, hl2⟩; obtain ⟨⟨S2, hP2, hN2⟩, hb2, hcc⟩ := HP1.out.left hs1 hl2; have g1 := (hcc og 1 ho1 hogS).trans e1; have g2 := (hcc og 2 ho1 hogS).trans e2; have hs2 := Nat.le_trans hs1 hl2.2.size; have HP2 := Lib.hid hP2; have HB2 := Lib.hid (HB1.out.trans hb2); clear hP2 hN2 hb2 hcc hl2) | (refine (ppatch_int x1 (x2 % 65536) ⟨b1, b2⟩ (by omega) (by omega) _ _ _ _ _ HPd.out.p (by omega)).mono ?_; rintro e z1 ⟨rfl, hl1⟩; obtain ⟨⟨S1, hP1, hN1⟩, hb1, hcc⟩ := HPd.out.left hszd hl1; have e1 := (hcc og 1 hogd hogS).trans d1'; have e2 := (hcc og 2 hogd hogS).trans d2'; have ho1 := Nat.lt_of_lt_of_le hogd hl1.2.size; have hs1 := Nat.le_trans hszd hl1.2.size; have HP1 := Lib.hid hP1; have HB1 := Lib.hid (HBd.out.trans hb1); clear hP1 hN1 hb1 hcc hl1)))
                | (go_at_call 27; (first | (refine (rpatch_int x1 (x2 % 65536) ⟨b1, b2⟩ (by omega) (by omega) _ _ _ _ _ HP1.out.r (by omega)).mono ?_; rintro e z2 ⟨rfl, hl2⟩; obtain ⟨⟨Q2, hP2, hN2⟩, hb2, hcc⟩ := HP1.out.right hs1 hl2; have g1 := (hcc og 1 ho1 hogQ).trans e1; have g2 := (hcc og 2 ho1 hogQ).trans e2; have hs2 := Nat.le_trans hs1 hl2.2.size; have HP2 := Lib.hid hP2; have HB2 := Lib.hid (HB1.out.trans hb2); clear hP2 hN2 hb2 hcc hl2) | (refine (rpatch_int x1 (x2 % 65536) ⟨b1, b2⟩ (by omega) (by omega) _ _ _ _ _ HPd.out.r (by omega)).mono ?_; rintro e z1 ⟨rfl, hl1⟩; obtain ⟨⟨Q1, hP1, hN1⟩, hb1, hcc⟩ := HPd.out.right hszd hl1; have e1 := (hcc og 1 hogd hogQ).trans d1'; have e2 := (hcc og 2 hogd hogQ).trans d2'; have ho1 := Nat.lt_of_lt_of_le hogd hl1.2.size; have hs1 := Nat.le_trans hszd hl1.2.size; have HP1 := Lib.hid hP1; have HB1 := Lib.hid (HBd.out.trans hb1); clear hP1 hN1 hb1 hcc hl1))))
              all_goals
                obtain ⟨Bz, hBz⟩ : ∃ Bz, Bz = ptB B x1 (x2 % 65536).toNat := ⟨_, rfl⟩
                rw [← hBz] at HP2
                have HBZ := Lib.hid hBz
                clear hBz
                have y0 := prk_read HP2.out
                obtain ⟨tz, htz⟩ : ∃ tz : ByteArray, tz = ⟨Bz.toArray⟩ := ⟨_, rfl⟩
                have hts : tz.size = Bz.length := by rw [size_list, htz]
                rw [show str Bz = .string tz by rw [htz]] at y0
                clear htz
                go_wp2
                go_quiet ((go_at_call 30; exact Calls.quiet_of_same ((plen_any _ _ _ _ _ (HP2.out.p.below (drewN_below _ _))).mono fun _ _ h => ⟨h.1, h.2.symm⟩)))
                go_wp2
                go_roundg (60 - (k + 1))
                case measure => rw [HGK.out]; omega
                case rel => exact ⟨k + 1, rfl, by omega, by omega, by go_num, _, _, Bz, L, HP2.out.below (drewN_below _ _), HK.out, by rw [HBZ.out, ptB_len]; exact hL, by rw [HBZ.out, ptB_len]; omega, HB2.out.trans ((drewN_below _ _).mono hs2)⟩
            · go_wp2_with fail
              refine (SH.out _).mono ?_
              rintro e w' ⟨rfl, rfl⟩
              have d4' : wA.drew.cell? ⟨og, 4, none⟩ = some (.bool x4) := d4
              have HPd := Lib.hid (HPA.out.below ((Below.refl _ _).drew))
              have HBd := Lib.hid (HBA.out.trans (((Below.refl wA.heap.size wA).drew).mono hszA))
              have hszd : w.heap.size ≤ wA.drew.heap.size := hszA
              have hogd : og < wA.drew.heap.size := hogA
              go_wp2
              go_region_held3 (fun w' => w'.cell? ⟨og, 4, none⟩ = some (.bool x4)) (first | exact g4 | exact e4 | exact d4')
                (first
                | (go_at_call 28; (first | (refine (pname_any t (by omega) x4 _ _ _ _ _ HP1.out.p (by omega) hL HK.out).mono ?_; rintro e z2 ⟨rfl, hl2⟩; obtain ⟨⟨S2, hP2, hN2⟩, hb2, hcc⟩ := HP1.out.left hs1 hl2; have g4 := (hcc og 4 ho1 hogS).trans e4; have hs2 := Nat.le_trans hs1 hl2.2.size; have HP2 := Lib.hid hP2; have HB2 := Lib.hid (HB1.out.trans hb2); clear hP2 hN2 hb2 hcc hl2) | (refine (pname_any t (by omega) x4 _ _ _ _ _ HPd.out.p (by omega) hL HK.out).mono ?_; rintro e z1 ⟨rfl, hl1⟩; obtain ⟨⟨S1, hP1, hN1⟩, hb1, hcc⟩ := HPd.out.left hszd hl1; have e4 := (hcc og 4 hogd hogS).trans d4'; have ho1 := Nat.lt_of_lt_of_le hogd hl1.2.size; have hs1 := Nat.le_trans hszd hl1.2.size; have HP1 := Lib.hid hP1; have HB1 := Lib.hid (HBd.out.trans hb1); clear hP1 hN1 hb1 hcc hl1)))
                | (go_at_call 29; (first | (refine (rpname_any t (by omega) x4 _ _ _ _ _ HP1.out.r (fun k hk => (HP1.out.hq k hk).2) (by omega) hL HK.out).mono ?_; rintro e z2 ⟨rfl, hl2⟩; obtain ⟨⟨Q2, hP2, hN2⟩, hb2, hcc⟩ := HP1.out.right hs1 hl2; have g4 := (hcc og 4 ho1 hogQ).trans e4; have hs2 := Nat.le_trans hs1 hl2.2.size; have HP2 := Lib.hid hP2; have HB2 := Lib.hid (HB1.out.trans hb2); clear hP2 hN2 hb2 hcc hl2) | (refine (rpname_any t (by omega) x4 _ _ _ _ _ HPd.out.r (fun k hk => (HPd.out.hq k hk).2) (by omega) hL HK.out).mono ?_; rintro e z1 ⟨rfl, hl1⟩; obtain ⟨⟨Q1, hP1, hN1⟩, hb1, hcc⟩ := HPd.out.right hszd hl1; have e4 := (hcc og 4 hogd hogQ).trans d4'; have ho1 := Nat.lt_of_lt_of_le hogd hl1.2.size; have hs1 := Nat.le_trans hszd hl1.2.size; have HP1 := Lib.hid hP1; have HB1 := Lib.hid (HBd.out.trans hb1); clear hP1 hN1 hb1 hcc hl1))))
              all_goals
                obtain ⟨Bz, hBz⟩ : ∃ Bz, Bz = pkB x4 B L t.data.toList := ⟨_, rfl⟩
                rw [← hBz] at HP2
                have HBZ := Lib.hid hBz
                clear hBz
                have y0 := prk_read HP2.out
                obtain ⟨tz, htz⟩ : ∃ tz : ByteArray, tz = ⟨Bz.toArray⟩ := ⟨_, rfl⟩
                have hts : tz.size = Bz.length := by rw [size_list, htz]
                rw [show str Bz = .string tz by rw [htz]] at y0
                clear htz
                go_wp2
                go_quiet ((go_at_call 30; exact Calls.quiet_of_same ((plen_any _ _ _ _ _ (HP2.out.p.below (drewN_below _ _))).mono fun _ _ h => ⟨h.1, h.2.symm⟩)))
                go_wp2
                go_roundg (60 - (k + 1))
                case measure => rw [HGK.out]; omega
                case rel => exact ⟨k + 1, rfl, by omega, by omega, by go_num, _, _, Bz, pkL x4 B L t.data.toList, HP2.out.below (drewN_below _ _), pk_ok HK.out, by rw [HBZ.out]; exact (pk_bounds hL).1, by rw [HBZ.out]; have := (pk_bounds (pts := x4) (n := t.data.toList) hL).2; have := HTS.out; omega, HB2.out.trans ((drewN_below _ _).mono hs2)⟩
            · go_wp2_with fail
              refine (SH.out _).mono ?_
              rintro e w' ⟨rfl, rfl⟩
              have d4' : wA.drew.cell? ⟨og, 4, none⟩ = some (.bool x4) := d4
              have HPd := Lib.hid (HPA.out.below ((Below.refl _ _).drew))
              have HBd := Lib.hid (HBA.out.trans (((Below.refl wA.heap.size wA).drew).mono hszA))
              have hszd : w.heap.size ≤ wA.drew.heap.size := hszA
              have hogd : og < wA.drew.heap.size := hogA
              go_wp2
              go_region_held3 (fun w' => w'.cell? ⟨og, 4, none⟩ = some (.bool x4)) (first | exact g4 | exact e4 | exact d4')
                (first
                | (go_at_call 28; (first | (refine (pname_any t (by omega) x4 _ _ _ _ _ HP1.out.p (by omega) hL HK.out).mono ?_; rintro e z2 ⟨rfl, hl2⟩; obtain ⟨⟨S2, hP2, hN2⟩, hb2, hcc⟩ := HP1.out.left hs1 hl2; have g4 := (hcc og 4 ho1 hogS).trans e4; have hs2 := Nat.le_trans hs1 hl2.2.size; have HP2 := Lib.hid hP2; have HB2 := Lib.hid (HB1.out.trans hb2); clear hP2 hN2 hb2 hcc hl2) | (refine (pname_any t (by omega) x4 _ _ _ _ _ HPd.out.p (by omega) hL HK.out).mono ?_; rintro e z1 ⟨rfl, hl1⟩; obtain ⟨⟨S1, hP1, hN1⟩, hb1, hcc⟩ := HPd.out.left hszd hl1; have e4 := (hcc og 4 hogd hogS).trans d4'; have ho1 := Nat.lt_of_lt_of_le hogd hl1.2.size; have hs1 := Nat.le_trans hszd hl1.2.size; have HP1 := Lib.hid hP1; have HB1 := Lib.hid (HBd.out.trans hb1); clear hP1 hN1 hb1 hcc hl1)))
                | (go_at_call 29; (first | (refine (rpname_any t (by omega) x4 _ _ _ _ _ HP1.out.r (fun k hk => (HP1.out.hq k hk).2) (by omega) hL HK.out).mono ?_; rintro e z2 ⟨rfl, hl2⟩; obtain ⟨⟨Q2, hP2, hN2⟩, hb2, hcc⟩ := HP1.out.right hs1 hl2; have g4 := (hcc og 4 ho1 hogQ).trans e4; have hs2 := Nat.le_trans hs1 hl2.2.size; have HP2 := Lib.hid hP2; have HB2 := Lib.hid (HB1.out.trans hb2); clear hP2 hN2 hb2 hcc hl2) | (refine (rpname_any t (by omega) x4 _ _ _ _ _ HPd.out.r (fun k hk => (HPd.out.hq k hk).2) (by omega) hL HK.out).mono ?_; rintro e z1 ⟨rfl, hl1⟩; obtain ⟨⟨Q1, hP1, hN1⟩, hb1, hcc⟩ := HPd.out.right hszd hl1; have e4 := (hcc og 4 hogd hogQ).trans d4'; have ho1 := Nat.lt_of_lt_of_le hogd hl1.2.size; have hs1 := Nat.le_trans hszd hl1.2.size; have HP1 := Lib.hid hP1; have HB1 := Lib.hid (HBd.out.trans hb1); clear hP1 hN1 hb1 hcc hl1))))
              all_goals
                obtain ⟨Bz, hBz⟩ : ∃ Bz, Bz = pkB x4 B L t.data.toList := ⟨_, rfl⟩
                rw [← hBz] at HP2
                have HBZ := Lib.hid hBz
                clear hBz
                have y0 := prk_read HP2.out
                obtain ⟨tz, htz⟩ : ∃ tz : ByteArray, tz = ⟨Bz.toArray⟩ := ⟨_, rfl⟩
                have hts : tz.size = Bz.length := by rw [size_list, htz]
                rw [show str Bz = .string tz by rw [htz]] at y0
                clear htz
                go_wp2
                go_quiet ((go_at_call 30; exact Calls.quiet_of_same ((plen_any _ _ _ _ _ (HP2.out.p.below (drewN_below _ _))).mono fun _ _ h => ⟨h.1, h.2.symm⟩)))
                go_wp2
                go_roundg (60 - (k + 1))
                case measure => rw [HGK.out]; omega
                case rel => exact ⟨k + 1, rfl, by omega, by omega, by go_num, _, _, Bz, pkL x4 B L t.data.toList, HP2.out.below (drewN_below _ _), pk_ok HK.out, by rw [HBZ.out]; exact (pk_bounds hL).1, by rw [HBZ.out]; have := (pk_bounds (pts := x4) (n := t.data.toList) hL).2; have := HTS.out; omega, HB2.out.trans ((drewN_below _ _).mono hs2)⟩
        · have q2 : decide ((k : Int) < 60) = false := by simp; omega
          clear hB hP hK
          have hPd := HP.out
          have y0 := prk_read HP.out
          obtain ⟨tz, htz⟩ : ∃ tz : ByteArray, tz = ⟨B.toArray⟩ := ⟨_, rfl⟩
          have hst : str B = .string tz := by rw [htz]
          rw [hst] at y0
          have C := fun j => (pbytes_any _ _ _ _ _ (HP.out.p.below (drewN_below wr j)))
          rw [hst] at C
          have HC2 := Lib.hid C
          clear htz hst hPd C
          go_wp2
          go_quiet ((go_at_call 31; exact Calls.quiet_of_same ((HC2.out _).mono fun _ _ h => ⟨h.1, h.2.symm⟩)))
          go_wp2
          go_ret
          exact ⟨rfl, HB.out.trans ((drewN_below _ _).mono hsz)⟩
      · have q1 : decide ((k : Int) < (n : Int)) = false := by simp; omega
        clear hB hP hK
        have hPd := HP.out
        have y0 := prk_read HP.out
        obtain ⟨tz, htz⟩ : ∃ tz : ByteArray, tz = ⟨B.toArray⟩ := ⟨_, rfl⟩
        have hst : str B = .string tz := by rw [htz]
        rw [hst] at y0
        have C := fun j => (pbytes_any _ _ _ _ _ (HP.out.p.below (drewN_below wr j)))
        rw [hst] at C
        have HC2 := Lib.hid C
        clear htz hst hPd C
        go_wp2
        go_quiet ((go_at_call 31; exact Calls.quiet_of_same ((HC2.out _).mono fun _ _ h => ⟨h.1, h.2.symm⟩)))
        go_wp2
        go_ret
        exact ⟨rfl, HB.out.trans ((drewN_below _ _).mono hsz)⟩
set_option maxRecDepth 100000 in
set_option maxHeartbeats 16000000 in
theorem lawPlays_zero (far : Bool) (a : Option Addr) (cap : Nat) (w : World) :
    Calls Try.prog 5 #[.bool far, .slice a 0 cap] w fun e w' => e = .returned (.bool true) ∧ Below w.heap.size w w' := by
  obtain ⟨i0, hi, hz0, hz1, hz2⟩ := info_parts info5
  go_enter Try.func5, Try.ntmps5
  go_wp2_with fail
  refine (awake_any _).mono ?_
  rintro e w1 ⟨rfl, h1⟩
  go_wp2_with fail
  refine (new_any w1).mono ?_
  rintro e w2 ⟨rfl, hp2, hb2⟩
  have hR := rk_new w2
  have hb3 : Below w2.heap.size w2 (w2.alloc (.cells #[.string ⟨#[]⟩, .slice none 0 0] 47)) := (Below.refl _ _).alloc (Nat.le_refl _) _
  have HX := Lib.hid (pr_new (n := w.heap.size) hp2 hb2 hR hb3 h1.size)
  have HB := Lib.hid ((h1.trans (hb2.mono h1.size)).trans (hb3.mono (Nat.le_trans h1.size hb2.size)))
  obtain ⟨bp, hbp⟩ : ∃ bp, bp = w1.heap.size := ⟨_, rfl⟩
  rw [show ptr w1.heap.size = ptr bp by rw [hbp]]
  rw [← hbp] at HX
  clear hR hb3 h1 hp2 hb2 hbp
  go_upto_if 20 with fail
  obtain ⟨br, hbr⟩ : ∃ br, br = w2.heap.size := ⟨_, rfl⟩
  rw [← hbr] at HX ⊢
  have HBR := Lib.hid hbr
  clear hbr
  go_cut [8] from 21 to 29 (fun _ wx => PlI w bp br 0 wx)
  case first =>
    cases far with
    | true =>
      obtain ⟨m, hm⟩ : ∃ m : Nat, m = 16380 := ⟨_, rfl⟩
      have hmb : m ≤ 16380 := by omega
      have HM := Lib.hid hm
      clear hm
      go_wp2_with (at_make; refine wpList_make_full _ rfl _ _ 48 rfl 0 5 i0 (.int .u8 0) 1 Try.underlying48 hi hz0 hz1 .i64 .i64 16380 16380 m rfl rfl (by rw [HM.out]; rfl) (by rw [HM.out]; rfl) (by rw [hz2]; omega) (by unfold maxLen; omega) (Nat.zero_le _) ?_)
      intro w4 hown hg4
      rw [made_zero, ← HBR.out] at hown
      obtain ⟨Z, hZ⟩ : ∃ Z : Bs, Z = List.replicate m 0 := ⟨_, rfl⟩
      have hZl : Z.length = m := by rw [hZ]; simp
      rw [← hZ] at hown
      have hconv := row_back (l := Z) (by rw [hZl]; exact hown)
      obtain ⟨S, Q, hPR⟩ := HX.out
      have hbw : Below (w2.alloc (.cells #[.string ⟨#[]⟩, .slice none 0 0] 47)).heap.size (w2.alloc (.cells #[.string ⟨#[]⟩, .slice none 0 0] 47)) w4 := ⟨hg4.os, hg4.tape, hg4.output, hg4.size, fun k hk => hg4.block k hk (by simp)⟩
      have HP4 := Lib.hid (hPR.below hbw)
      have HB4 := Lib.hid (HB.out.trans (hbw.mono HB.out.size))
      have hsz := HB4.out.size
      have HZL := Lib.hid hZl
      clear hown hg4 hbw hPR HB HX hZ hZl
      rw [← HBR.out]
      go_wp2_with fail
      refine (praw_any ⟨Z.toArray⟩ _ _ _ _ _ HP4.out.p (by rw [size_list]; show 0 + Z.length ≤ _; have := HZL.out; omega)).mono ?_
      rintro e w5 ⟨⟨v5, rfl⟩, hl5⟩
      obtain ⟨⟨S5, hP5, _⟩, hb5, _⟩ := HP4.out.left hsz hl5
      obtain ⟨lv5, hr5⟩ := hP5.r
      have c0 := hr5.blk.cell0
      have f0 := hr5.blk.frozen0
      have HR5 := Lib.hid (hr5.text (B' := Z) (Below.refl _ _))
      have HP5 := Lib.hid hP5
      have HB5 := Lib.hid (HB4.out.trans hb5)
      have hs5 := HB5.out.size
      clear hl5 hP5 hb5 hr5
      go_wp2
      go_meet
      case rel =>
        obtain ⟨⟨Q6, hP6, _⟩, hb6, _⟩ := HP5.out.right hs5 HR5.out
        exact ⟨S5, Q6, Z, [], hP6, okK_nil, by simp, by have := HZL.out; omega, HB5.out.trans hb6⟩
    | false =>
      obtain ⟨S, Q, hPR⟩ := HX.out
      have HP := Lib.hid hPR
      clear hPR HX
      go_wp2
      go_meet
      case rel => exact ⟨S, Q, [], [], HP.out, okK_nil, by simp, by simp, HB.out⟩
  case rest =>
    have HI := Lib.hid hcut
    clear hcut HX HB HBR
    go_wp2
    go_loopg [9] 0 (fun _ i wr => i = .int .i64 0 ∧ PlI w bp br 0 wr)
    case atStart => exact ⟨rfl, HI.out⟩
    case round =>
      clear HI
      obtain ⟨rfl, S, Q, B, L, hP, hK, hL, hBk, hB⟩ := hrel
      have HB := Lib.hid hB
      have hsz := hB.size
      have HP := Lib.hid hP
      clear hB hP hK
      have hPd := HP.out
      have y0 := prk_read HP.out
      obtain ⟨tz, htz⟩ : ∃ tz : ByteArray, tz = ⟨B.toArray⟩ := ⟨_, rfl⟩
      have hst : str B = .string tz := by rw [htz]
      rw [hst] at y0
      have C := fun j => (pbytes_any _ _ _ _ _ (HP.out.p.below (drewN_below wr j)))
      rw [hst] at C
      have HC2 := Lib.hid C
      clear htz hst hPd C
      go_wp2
      go_quiet ((go_at_call 31; exact Calls.quiet_of_same ((HC2.out _).mono fun _ _ h => ⟨h.1, h.2.symm⟩)))
      go_wp2
      go_ret
      exact ⟨rfl, HB.out.trans ((drewN_below _ _).mono hsz)⟩
theorem lawPlays_any (far : Bool) (a : Option Addr) (len cap : Nat) (W : World) (h : Calld W a len) :
    Calls Try.prog 5 #[.bool far, .slice a len cap] W fun e w' => e = .returned (.bool true) ∧ Below W.heap.size W w' := by
  rcases h with rfl | ⟨b, off, os, rfl, hb, hok, hc⟩
  · exact lawPlays_zero far a cap W
  · exact lawPlays_some far b off len cap os W hb hok hc
end Go.Proofs.Ythffdgjdioolkaa
