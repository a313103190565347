/-
  The document's way to write a message of any length. No older memory is changed.
-/
import Derived.Test.YtljfkjbagebncaaRAllKit
import Derived.StillTailTactics
import Derived.Deep.CutRange
namespace Go.Proofs.Ytljfkjbagebncaa
open Go.RowKit
theorem rbit_any (b : Bool) (w : World) : Calls Try.prog 67 #[.bool b] w fun e w' => e = .returned (.int .i64 ((b.toNat : Nat) : Int)) ∧ w' = w := by
  cases b
  all_goals
    go_enter Try.func67, Try.ntmps67
    go_wp2
    go_ret
    exact ⟨rfl, rfl⟩
/-- A number of two bytes. -/
theorem rword_any (v : Nat) (hv : v < 65536) (S : Nat → Prop) (b : Nat) (B : Bs) (L : Kn) (w : World) (h : RK S b B L w) (hB : B.length ≤ 1000000) :
    Calls Try.prog 66 #[ptr b, .int .i64 (v : Int), .int .i64 2] w fun e w' => (∃ v, e = .returned v) ∧ RLft S b (B ++ word v) L w w' := by
  have := rnum_any v 2 (by omega) (by omega) S b B L w h hB
  rw [nb_two] at this
  exact this
/-- The block of a row of one's own, and what reads as its list as long as the block holds what it held. -/
theorem row_keep {w : World} {base : Nat} {v : Value} {rs : List Rc} (h : w.ownsRow base 61 5 v rs.length (rcc rs)) :
    ∃ (sa : Option Addr) (sn sc : Nat) (K : List (Nat × Obj)), v = .slice sa sn sc ∧ sn = rs.length ∧ (∀ p ∈ K, base ≤ p.1 ∧ w.heap[p.1]? = some p.2) ∧ ∀ w2 : World, (∀ p ∈ K, w2.heap[p.1]? = some p.2) → RdR w2 ⟨sa, sn, sc⟩ rs := by
  have h0 := h
  obtain ⟨s, hv, hr⟩ := row_rdr h
  rcases h.2 with ⟨rfl, e0⟩ | ⟨g, cap, cur, rfl, hb, hg, _⟩
  · refine ⟨s.a, s.n, s.c, [], hv, hr.1, by simp, fun w2 _ => ⟨hr.1, .inl (List.length_eq_zero_iff.1 ?_)⟩⟩
    exact e0
  · refine ⟨s.a, s.n, s.c, [(g, .cells cur 61 (0, 0))], hv, hr.1, fun p hp => ?_, fun w2 h2 => ?_⟩
    · simp at hp
      subst hp
      exact ⟨hb, hg⟩
    · have hg2 := h2 _ (List.mem_singleton_self _)
      simp only at hg2
      refine ⟨hr.1, ?_⟩
      rcases hr.2 with e | ⟨b, off, e, hlt, hc⟩
      · exact .inl e
      · have hbg : b = g := by
          obtain ⟨sa, sn, sc⟩ := s
          simp only at e
          subst e
          injection hv with e0
          injection e0 with e0
          injection e0 with e0
          exact e0.symm
        subst hbg
        refine .inr ⟨b, off, e, (Array.getElem?_eq_some_iff.1 hg2).1, fun j r hj => ?_⟩
        obtain ⟨c0, c1, c2, c3, c4⟩ := hc j r hj
        have hh := hg2.trans hg.symm
        exact ⟨(World.cell?_of_block (a := ⟨b, off + j * 5, none⟩) hh).trans c0, (World.cell?_of_block (a := ⟨b, off + j * 5 + 1, none⟩) hh).trans c1, (World.cell?_of_block (a := ⟨b, off + j * 5 + 2, none⟩) hh).trans c2, (World.cell?_of_block (a := ⟨b, off + j * 5 + 3, none⟩) hh).trans c3, (World.cell?_of_block (a := ⟨b, off + j * 5 + 4, none⟩) hh).trans c4⟩
theorem RP.moreL {S : Nat → Prop} {w0 w w' : World} {b : Nat} {K K1 : List (Nat × Obj)} {B : Bs} {L : Kn} (h : RP S w0 b K B L w) (hb : Below w.heap.size w w') (hK : ∀ p ∈ K1, w.heap.size ≤ p.1 ∧ w'.heap[p.1]? = some p.2) : RP S w0 b (K1 ++ K) B L w' := by
  obtain ⟨S', ⟨h1, h2⟩, h3, h4⟩ := h
  refine ⟨S', ⟨h1.below hb, fun k hk => ⟨Nat.lt_of_lt_of_le (h2 k hk).1 hb.size, (h2 k hk).2⟩⟩, h3.then (Tr.of_below hb), fun p hp => ?_⟩
  rcases List.mem_append.1 hp with hp | hp
  · obtain ⟨g1, g2⟩ := hK p hp
    exact ⟨fun hs => by have := (h2 _ hs).1; omega, g2⟩
  · obtain ⟨m1, m2⟩ := h4 p hp
    exact ⟨m1, (hb.block _ (Array.getElem?_eq_some_iff.1 m2).1).trans m2⟩
/-- What the document's way to write a message hands back. -/
def allM (m : Ms) : Bs × Int := if mck m = 0 then ((mF m).1, 0) else ([], mck m)
set_option maxRecDepth 100000 in
set_option maxHeartbeats 25600000 in
theorem rall_any (m : Ms) (hm : m.Ok) (lq : LimQ m.qs) (lx : Lim m.an) (ly : Lim m.au) (lz : Lim m.ex) (q x y z : Sl) (hn : (x.a = none → x.c = 0) ∧ (y.a = none → y.c = 0) ∧ (z.a = none → z.c = 0)) (w : World) (h : Lay w m q x y z) :
    Calls Try.prog 30 #[.agg (m.cells q x y z)] w fun e w' => e = .returned (.tuple #[str (allM m).1, .int .i64 (allM m).2]) ∧ Below w.heap.size w w' := by
  have HNO : Hid (¬ m.nf = true → allM m = ([], 1)) := Lib.hid fun g => by unfold allM mck; rw [if_neg g]; rfl
  have HYES : Hid (m.nf = true → allM m = if fe qck m.qs = 0 then (if fe rck (m.an ++ m.au ++ m.ex) = 0 then (((m.an ++ m.au ++ m.ex).foldl rP (m.qs.foldl qP (hdM m, []))).1, 0) else ([], fe rck (m.an ++ m.au ++ m.ex))) else ([], fe qck m.qs)) := Lib.hid fun g => by
    unfold allM; rw [mck_all g, mF_all]
    by_cases g0 : fe qck m.qs = 0
    · by_cases g1 : fe rck (m.an ++ m.au ++ m.ex) = 0
      · simp only [g0, g1, if_true]
      · simp only [g0, g1, if_true, if_false]
    · simp only [g0, if_false]
  have HNF : Hid (m.nf = true ↔ 0 ≤ m.op ∧ m.op ≤ 15 ∧ 0 ≤ m.cd ∧ m.cd ≤ 15) := Lib.hid (by
    have := lq.n; have := lx.n; have := ly.n; have := lz.n
    unfold Ms.nf nfit
    simp only [decide_eq_true_eq]
    omega)
  generalize hT : allM m = T at HNO HYES ⊢
  have HOK := Lib.hid hm
  have HLQ := Lib.hid lq
  have HLX := Lib.hid lx
  have HLY := Lib.hid ly
  have HLZ := Lib.hid lz
  have HL := Lib.hid h
  have HNIL := Lib.hid hn
  have hfit := hd_fit m
  have hhd : hdM m = word m.id ++ word (flw m.r m.a m.t m.d m.v m.op.toNat m.cd.toNat) ++ word m.qs.length ++ word m.an.length ++ word m.au.length ++ word m.ex.length := rfl
  have hhl := hd_length m
  generalize hdM m = HD at HYES hfit hhd hhl
  have HFIT := Lib.hid hfit
  have HHD := Lib.hid hhd
  have HHL := Lib.hid hhl
  clear hT hfit hhd hhl h hm lq lx ly lz hn
  obtain ⟨id, r, a, t, d, v, op, cd, qs, an, au, ex⟩ := m
  obtain ⟨qa, qn, qc⟩ := q
  obtain ⟨xa, xn, xc⟩ := x
  obtain ⟨ya, yn, yc⟩ := y
  obtain ⟨za, zn, zc⟩ := z
  have hqn : qn = qs.length := HL.out.q.1
  have hxn : xn = an.length := HL.out.x.1
  have hyn : yn = au.length := HL.out.y.1
  have hzn : zn = ex.length := HL.out.z.1
  have HQN := Lib.hid hqn
  have HXN := Lib.hid hxn
  have HYN := Lib.hid hyn
  have HZN := Lib.hid hzn
  have lqn : (qn : Int) ≤ 30 := by have := HLQ.out.n; simp only at this; omega
  have lxn : (xn : Int) ≤ 30 := by have := HLX.out.n; simp only at this; omega
  have lyn : (yn : Int) ≤ 30 := by have := HLY.out.n; simp only at this; omega
  have lzn : (zn : Int) ≤ 30 := by have := HLZ.out.n; simp only at this; omega
  clear hqn hxn hyn hzn
  by_cases gn : ¬ (0 ≤ op ∧ op ≤ 15 ∧ 0 ≤ cd ∧ cd ≤ 15)
  · have HT : Hid (T = ([], 1)) := Lib.hid (HNO.out (fun g => gn (HNF.out.1 g)))
    have hb := one_box w (.cells (mc id r a t d v op cd ⟨qa, qn, qc⟩ ⟨xa, xn, xc⟩ ⟨ya, yn, yc⟩ ⟨za, zn, zc⟩) 26)
    have HB := Lib.hid hb
    clear HNO HYES HNF HFIT HHD HHL HLQ HLX HLY HLZ HL HNIL HQN HXN HYN HZN hb HOK
    by_cases g1 : op < 0
    · clear gn
      go_enter Try.func30, Try.ntmps30
      go_wp2
      go_ret2
      exact ⟨by rw [HT.out]; rfl, HB.out⟩
    · have g1' : decide (op < 0) = false := by simpa using g1
      by_cases g2 : 15 < op
      · clear gn g1
        go_enter Try.func30, Try.ntmps30
        go_wp2
        go_ret2
        exact ⟨by rw [HT.out]; rfl, HB.out⟩
      · have g2' : decide (15 < op) = false := by simpa using g2
        by_cases g3 : cd < 0
        · clear gn g1 g2
          go_enter Try.func30, Try.ntmps30
          go_wp2
          go_ret2
          exact ⟨by rw [HT.out]; rfl, HB.out⟩
        · have g3' : decide (cd < 0) = false := by simpa using g3
          have g4 : 15 < cd := by omega
          clear gn g1 g2 g3
          go_enter Try.func30, Try.ntmps30
          go_wp2
          go_ret2
          exact ⟨by rw [HT.out]; rfl, HB.out⟩
  have gy : 0 ≤ op ∧ op ≤ 15 ∧ 0 ≤ cd ∧ cd ≤ 15 := Classical.not_not.1 gn
  have HT := Lib.hid (HYES.out (HNF.out.2 gy))
  clear HNO HYES HNF gn
  obtain ⟨o0, o1, o2, o3⟩ := gy
  have g1' : decide (op < 0) = false := by simpa using o0
  have g2' : decide (15 < op) = false := by simpa using o1
  have g3' : decide (cd < 0) = false := by simpa using o2
  have g4' : decide (15 < cd) = false := by simpa using o3
  have g5' : decide (65535 < (qn : Int)) = false := by simp; omega
  have g6' : decide (65535 < (xn : Int)) = false := by simp; omega
  have g7' : decide (65535 < (yn : Int)) = false := by simp; omega
  have g8' : decide (65535 < (zn : Int)) = false := by simp; omega
  have hfl := flw_lt r a t d v op.toNat cd.toNat (by omega) (by omega)
  have hsum : ((flw r a t d v op.toNat cd.toNat : Nat) : Int) = (r.toNat : Int) * 32768 + op * 2048 + (a.toNat : Int) * 1024 + (t.toNat : Int) * 512 + (d.toNat : Int) * 256 + (v.toNat : Int) * 128 + cd := by
    unfold flw
    omega
  have HN5' := fun S b B L w h1 h2 => rword_any _ hfl S b B L w h1 h2
  rw [hsum] at HN5'
  simp only at HHD
  generalize flw r a t d v op.toNat cd.toNat = fl at HN5' HHD hfl hsum
  have hB : ∀ b : Bool, 0 ≤ (b.toNat : Int) ∧ (b.toNat : Int) ≤ 1 := fun b => by cases b <;> simp
  have KR' := fun w => rbit_any r w
  have KA' := fun w => rbit_any a w
  have KT' := fun w => rbit_any t w
  have KD' := fun w => rbit_any d w
  have KV' := fun w => rbit_any v w
  obtain ⟨r0, r1⟩ := hB r
  obtain ⟨a0, a1⟩ := hB a
  obtain ⟨t0, t1⟩ := hB t
  obtain ⟨d0, d1⟩ := hB d
  obtain ⟨v0, v1⟩ := hB v
  clear hsum hfl hB
  generalize (r.toNat : Int) = ir at HN5' KR' r0 r1
  generalize (a.toNat : Int) = ia at HN5' KA' a0 a1
  generalize (t.toNat : Int) = it at HN5' KT' t0 t1
  generalize (d.toNat : Int) = idd at HN5' KD' d0 d1
  generalize (v.toNat : Int) = iv at HN5' KV' v0 v1
  have HN5 := Lib.hid HN5'
  have KR := Lib.hid KR'
  have KA := Lib.hid KA'
  have KT := Lib.hid KT'
  have KD := Lib.hid KD'
  have KV := Lib.hid KV'
  clear HN5' KR' KA' KT' KD' KV'
  have hid : (id : Int) < 65536 := by have := HOK.out.id; simp only at this; omega
  have I0 := Lib.hid (RP.new w 26 (mc id r a t d v op cd ⟨qa, qn, qc⟩ ⟨xa, xn, xc⟩ ⟨ya, yn, yc⟩ ⟨za, zn, zc⟩))
  go_enter Try.func30, Try.ntmps30
  go_wp2_with fail
  refine (I0.out.call fun S' h1 h2 => rword_any id HOK.out.id S' _ _ _ _ h1 (by simp)).mono ?_
  rintro e w1 ⟨⟨e1, rfl⟩, i1⟩
  have I1 := Lib.hid i1
  clear i1 I0 g1' g2' g3' g4' g5' g6' g7' g8'
  obtain ⟨x0, x1, x2, x3, x4, x5, x6, x7, x8, x9, x10, x11⟩ := c12 (I1.out.ce (List.mem_cons_self ..))
  go_upto_region 5 with fail
  go_cut [60] from 61 to 92 (fun _ wx => RP (w.heap.size ≤ ·) w (w.heap.size + 1) [(w.heap.size, .cells (mc id r a t d v op cd ⟨qa, qn, qc⟩ ⟨xa, xn, xc⟩ ⟨ya, yn, yc⟩ ⟨za, zn, zc⟩) 26 (0, 0))] ([] ++ word id ++ word fl) [] wx)
  case first =>
    go_still_tail 32, (by kernel_rfl)
    still_call (KR.out _)
    repeat still_step
    still_call (KA.out _)
    repeat still_step
    still_call (KT.out _)
    repeat still_step
    still_call (KD.out _)
    repeat still_step
    still_call (KV.out _)
    repeat still_step
    refine wpStill_nil ?_
    change wpList _ _ _ _ _ w1.drew
    have I2 := Lib.hid (I1.out.under (Below.refl _ w1).drew)
    clear I1 KR KA KT KD KV x0 x1 x2 x3 x4 x5 x6 x7
    generalize w1.drew = w2 at I2 ⊢
    go_wp2_with fail
    refine (I2.out.call fun S' h1 h2 => HN5.out S' _ _ _ _ h1 (by simp [word_length])).mono ?_
    rintro e w3 ⟨⟨e3, rfl⟩, i3⟩
    go_wp2_with fail
    go_meet
    case rel => exact i3
  case rest =>
  have I3 := Lib.hid hcut
  clear hcut I1 KR KA KT KD KV x0 x1 x2 x3 x4 x5 x6 x7 x8 x9 x10 x11 r0 r1 a0 a1 t0 t1 d0 d1 v0 v1
  obtain ⟨x0, x1, x2, x3, x4, x5, x6, x7, x8, x9, x10, x11⟩ := c12 (I3.out.ce (List.mem_cons_self ..))
  go_wp2_with fail
  refine (I3.out.call fun S' h1 h2 => rword_any qn (by omega) S' _ _ _ _ h1 (by simp [word_length])).mono ?_
  rintro e w4 ⟨⟨e4, rfl⟩, i4⟩
  have I4 := Lib.hid i4
  clear i4 I3 x0 x1 x2 x3 x4 x5 x6 x7 x8 x9 x10 x11
  obtain ⟨x0, x1, x2, x3, x4, x5, x6, x7, x8, x9, x10, x11⟩ := c12 (I4.out.ce (List.mem_cons_self ..))
  go_wp2_with fail
  refine (I4.out.call fun S' h1 h2 => rword_any xn (by omega) S' _ _ _ _ h1 (by simp [word_length])).mono ?_
  rintro e w5 ⟨⟨e5, rfl⟩, i5⟩
  have I5 := Lib.hid i5
  clear i5 I4 x0 x1 x2 x3 x4 x5 x6 x7 x8 x9 x10 x11
  obtain ⟨x0, x1, x2, x3, x4, x5, x6, x7, x8, x9, x10, x11⟩ := c12 (I5.out.ce (List.mem_cons_self ..))
  go_wp2_with fail
  refine (I5.out.call fun S' h1 h2 => rword_any yn (by omega) S' _ _ _ _ h1 (by simp [word_length])).mono ?_
  rintro e w6 ⟨⟨e6, rfl⟩, i6⟩
  have I6 := Lib.hid i6
  clear i6 I5 x0 x1 x2 x3 x4 x5 x6 x7 x8 x9 x10 x11
  obtain ⟨x0, x1, x2, x3, x4, x5, x6, x7, x8, x9, x10, x11⟩ := c12 (I6.out.ce (List.mem_cons_self ..))
  go_wp2_with fail
  refine (I6.out.call fun S' h1 h2 => rword_any zn (by omega) S' _ _ _ _ h1 (by simp [word_length])).mono ?_
  rintro e w7 ⟨⟨e7, rfl⟩, i7⟩
  have I7 := Lib.hid i7
  clear i7 I6 x0 x1 x2 x3 x4 x5 x6 x7 x8 x9 x10 x11
  have i8 := I7.out
  have hhd : ([] ++ word id ++ word fl ++ word qn ++ word xn ++ word yn ++ word zn : Bs) = HD := by rw [HHD.out, HQN.out, HXN.out, HYN.out, HZN.out]; rfl
  rw [hhd] at i8
  have I8 := Lib.hid i8
  clear i8 hhd I7
  clear HN5 HHD
  go_wp2_with fail
  go_loopw [5] (fun i wr => ∃ (k : Nat) (s : St), k ≤ qn ∧ i = .int .i64 (k : Int) ∧ QS qs (HD, []) k s ∧ RP (w.heap.size ≤ ·) w (w.heap.size + 1) [(w.heap.size, .cells (mc id r a t d v op cd ⟨qa, qn, qc⟩ ⟨xa, xn, xc⟩ ⟨ya, yn, yc⟩ ⟨za, zn, zc⟩) 26 (0, 0))] s.1 s.2 wr) (fun i _ => qn - (intOf i).toNat)
  case atStart => exact ⟨0, (HD, []), by omega, rfl, QS.zero HFIT.out, I8.out⟩
  case round =>
    clear I8
    obtain ⟨k, s, hk, rfl, hq, hI⟩ := hrel
    have x8 : wr.cell? ⟨w.heap.size, 8, none⟩ = some (.slice qa qn qc) := ((hI.ce (List.mem_cons_self ..)).cell 8).trans rfl
    have hsl : s.1.length ≤ 20000 := by have h1 : s.1.length ≤ HD.length + 304 * k := hq.len; have := HHL.out; have := lqn; omega
    have HI := Lib.hid hI
    have HQ := Lib.hid hq
    have HSL := Lib.hid hsl
    by_cases hlt : k < qn
    · have q1 : (k : Int) < (qn : Int) := by omega
      obtain ⟨⟨n, ty, cl⟩, hg⟩ : ∃ g, qs[k]? = some g := ⟨_, List.getElem?_eq_getElem (by rw [← HQN.out]; exact hlt)⟩
      obtain ⟨bq, off, hsa, _, c0, c1, c2⟩ := (HL.out.q.below hI.below).get hg
      have hgl := HLQ.out.q _ (List.mem_of_getElem? hg)
      simp only at hsa c0 c1 c2
      subst hsa
      have hty : (ty : Int) < 65536 := by have := hgl.1.t; simp only at this; omega
      have hcl : (cl : Int) < 65536 := by have := hgl.1.c; simp only at this; omega
      have hns : n.size ≤ 300 := hgl.2
      have HNS := Lib.hid hns
      have hC := fun S' w1 h1 h2 => rpname_any n (by omega) true S' (w.heap.size + 1) s.1 s.2 w1 h1 h2 (by omega) hq.fit.l hq.fit.k
      have HG := Lib.hid hg
      have HGL := Lib.hid hgl
      clear hI hq hg hgl hsl hns
      by_cases g0 : qck ⟨n, ty, cl⟩ = 0
      · have g0' : chk n.data.toList = 0 := g0
        have HC : Hid (∀ S' w1, RK S' (w.heap.size + 1) s.1 s.2 w1 → (∀ k, S' k → k < w1.heap.size) → Calls Try.prog 68 #[ptr (w.heap.size + 1), .string n, .bool true] w1 fun e w' => e = .returned (.int .i64 0) ∧ RLft S' (w.heap.size + 1) (pkB true s.1 s.2 n.data.toList) (pkL true s.1 s.2 n.data.toList) w1 w') := Lib.hid fun S' w1 h1 h2 => by
          have := rpname_any n (by have := HNS.out; omega) true S' (w.heap.size + 1) s.1 s.2 w1 h1 h2 (by have := HSL.out; omega) HQ.out.fit.l HQ.out.fit.k
          rw [g0'] at this
          exact this
        have HQ2 := Lib.hid (HQ.out.next HG.out g0 HGL.out.2)
        have HLB : Hid ((pkB true s.1 s.2 n.data.toList).length ≤ 21000) := Lib.hid (by have := (pk_le (pts := true) (n := n.data.toList) HQ.out.fit.l).2.1; have := size_list n; have h3 := HNS.out; have := HSL.out; omega)
        clear hC g0 g0'
        go_wp2_with fail
        have J1 := Lib.hid (HI.out.box (.cells #[.string n, .int .u16 (ty : Int), .int .u16 (cl : Int)] 44))
        refine (J1.out.call fun S' h1 h2 => HC.out S' _ h1 h2).mono ?_
        rintro e w2 ⟨rfl, j2⟩
        have y1 := (j2.ce (g := wr.heap.size) (T := 44) (cs := #[.string n, .int .u16 (ty : Int), .int .u16 (cl : Int)]) (by simp)).cell 1
        simp at y1
        have J2 := Lib.hid j2
        clear j2 J1 c0 c1 c2 x8
        go_wp2_with fail
        refine (J2.out.call fun S' h1 h2 => rword_any ty (by omega) S' _ _ _ _ h1 (by have := HLB.out; omega)).mono ?_
        rintro e w3 ⟨⟨e3, rfl⟩, j3⟩
        have y2 := (j3.ce (g := wr.heap.size) (T := 44) (cs := #[.string n, .int .u16 (ty : Int), .int .u16 (cl : Int)]) (by simp)).cell 2
        simp at y2
        have J3 := Lib.hid j3
        clear j3 J2 y1
        go_wp2_with fail
        refine (J3.out.call fun S' h1 h2 => rword_any cl (by omega) S' _ _ _ _ h1 (by have := HLB.out; rw [List.length_append, word_length]; omega)).mono ?_
        rintro e w4 ⟨⟨e4, rfl⟩, j4⟩
        have J4 := Lib.hid (j4.sub (K' := [(w.heap.size, .cells (mc id r a t d v op cd ⟨some ⟨bq, off, none⟩, qn, qc⟩ ⟨xa, xn, xc⟩ ⟨ya, yn, yc⟩ ⟨za, zn, zc⟩) 26 (0, 0))]) (fun p hp => List.mem_cons_of_mem _ hp))
        clear j4 J3 y2
        go_wp2
        go_roundw
        case rel => exact ⟨k + 1, _, by omega, by go_num, HQ2.out, J4.out⟩
        case measure => simp [intOf]; omega
      · have HT2 : Hid (T = ([], qck ⟨n, ty, cl⟩)) := Lib.hid (by
          have := HQ.out.bad HG.out g0
          rw [HT.out, this, if_neg g0])
        have e0 : qck ⟨n, ty, cl⟩ = chk n.data.toList := rfl
        rw [e0] at HT2 g0
        generalize chk n.data.toList = E at HT2 g0 hC
        have g1 : (E == 0) = false := by simpa using g0
        have g2 : (E != 0) = true := by simpa using g0
        clear g0 e0
        have HC : Hid (∀ S' w1, RK S' (w.heap.size + 1) s.1 s.2 w1 → (∀ k, S' k → k < w1.heap.size) → Calls Try.prog 68 #[ptr (w.heap.size + 1), .string n, .bool true] w1 fun e w' => e = .returned (.int .i64 E) ∧ RLft S' (w.heap.size + 1) (pkB true s.1 s.2 n.data.toList) (pkL true s.1 s.2 n.data.toList) w1 w') := Lib.hid hC
        clear hC
        go_wp2_with fail
        have J1 := Lib.hid (HI.out.box (.cells #[.string n, .int .u16 (ty : Int), .int .u16 (cl : Int)] 44))
        refine (J1.out.call fun S' h1 h2 => HC.out S' _ h1 h2).mono ?_
        rintro e w2 ⟨rfl, j2⟩
        have J2 := Lib.hid j2
        clear j2 J1 c0 c1 c2 x8
        go_wp2
        go_ret2
        exact ⟨by rw [HT2.out]; rfl, J2.out.below⟩
    · have hkq : k = qs.length := by rw [← HQN.out]; omega
      have HD2 := Lib.hid (hq.done hkq)
      have HF2 := Lib.hid hq.fit
      have q1 : decide ((k : Int) < (qn : Int)) = false := by simp; omega
      have q1n : decide (k < qn) = false := by simp; omega
      obtain ⟨y0, y1, y2, y3, y4, y5, y6, y7, y8, y9, y10, y11⟩ := c12 (hI.ce (List.mem_cons_self ..))
      have HBW := Lib.hid hI.below
      have HBX := Lib.hid (hI.ce (List.mem_cons_self ..) : Ce wr w.heap.size 26 (mc id r a t d v op cd ⟨qa, qn, qc⟩ ⟨xa, xn, xc⟩ ⟨ya, yn, yc⟩ ⟨za, zn, zc⟩))
      have hX := HL.out.x.below hI.below
      have hY := HL.out.y.below hI.below
      have hZ := HL.out.z.below hI.below
      have HX := Lib.hid hX
      have HY := Lib.hid hY
      have HZ := Lib.hid hZ
      clear hI hq hsl hX hY hZ hlt hk hkq
      have HS1 : Hid (([] : List Rc).length + an.length ≤ 1000000) := Lib.hid (by have h1 : an.length ≤ 30 := HLX.out.n; rw [List.length_nil]; omega)
      go_wp2_with (at_builtin; go_loud (refine wp_append_rcs rfl (.tmp 142) (.tmp 144) rfl wr.heap.size (.slice none 0 0) [] an rfl (World.ownsRow_nil _ _ _ _) ⟨xa, xn, xc⟩ rfl HX.out HNIL.out.1 HS1.out (Nat.le_refl _) ?_))
      intro v1 w1 ho1 hb1
      replace ho1 : OwnR w1 wr.heap.size v1 an := ho1
      obtain ⟨va, vc, rfl⟩ := row_slice ho1
      have HO1 := Lib.hid ho1
      have HS2 : Hid (an.length + au.length ≤ 1000000) := Lib.hid (by have h1 : an.length ≤ 30 := HLX.out.n; have h2 : au.length ≤ 30 := HLY.out.n; omega)
      have HY1 := Lib.hid (HY.out.below hb1)
      have HZ1 := Lib.hid (HZ.out.below hb1)
      have z10 : w1.cell? ⟨w.heap.size, 10, none⟩ = some (.slice ya yn yc) := ((HBX.out.below hb1).cell 10).trans rfl
      have HB1 := Lib.hid hb1
      clear ho1 hb1 y0 y1 y2 y3 y4 y5 y6 y7 y8 y9 y10 y11 x8
      go_wp2_with (at_builtin; go_loud (refine wp_append_rcs rfl (.tmp 146) (.tmp 148) rfl wr.heap.size (.slice va an.length vc) an au rfl HO1.out ⟨ya, yn, yc⟩ rfl HY1.out HNIL.out.2.1 HS2.out HB1.out.size ?_))
      intro v2 w2 ho2 hb2
      replace ho2 : OwnR w2 wr.heap.size v2 (an ++ au) := ho2
      obtain ⟨va2, vc2, rfl⟩ := row_slice ho2
      have HO2 := Lib.hid ho2
      have HB2 := Lib.hid (HB1.out.trans hb2)
      have HS3 : Hid ((an ++ au).length + ex.length ≤ 1000000) := Lib.hid (by have h1 : an.length ≤ 30 := HLX.out.n; have h2 : au.length ≤ 30 := HLY.out.n; have h3 : ex.length ≤ 30 := HLZ.out.n; rw [List.length_append]; omega)
      have HZ2 := Lib.hid (HZ.out.below HB2.out)
      have z11 : w2.cell? ⟨w.heap.size, 11, none⟩ = some (.slice za zn zc) := ((HBX.out.below HB2.out).cell 11).trans rfl
      clear ho2 hb2 z10 HO1 HB1 HY1 HZ1 HS1 HS2
      go_wp2_with (at_builtin; go_loud (refine wp_append_rcs rfl (.tmp 150) (.tmp 152) rfl wr.heap.size (.slice va2 (an ++ au).length vc2) (an ++ au) ex rfl HO2.out ⟨za, zn, zc⟩ rfl HZ2.out HNIL.out.2.2 HS3.out HB2.out.size ?_))
      intro v3 w3 ho3 hb3
      replace ho3 : OwnR w3 wr.heap.size v3 (an ++ au ++ ex) := by first | exact ho3 | (rw [List.append_assoc]; exact ho3)
      have HB3 := Lib.hid (HB2.out.trans hb3)
      obtain ⟨LS, hLS⟩ : ∃ LS, LS = an ++ au ++ ex := ⟨_, rfl⟩
      rw [← hLS] at ho3
      have HLS : Hid (LS = an ++ au ++ ex) := Lib.hid hLS
      obtain ⟨la, ln, lc, K1, rfl, hln, hK1, hRd⟩ := row_keep ho3
      have HLN : Hid (ln = LS.length) := Lib.hid hln
      have HRD := Lib.hid hRd
      have HLB : Hid (LS.length ≤ 90) := Lib.hid (by have h1 : an.length ≤ 30 := HLX.out.n; have h2 : au.length ≤ 30 := HLY.out.n; have h3 : ex.length ≤ 30 := HLZ.out.n; rw [HLS.out, List.length_append, List.length_append]; omega)
      have HLO : Hid (∀ r ∈ LS, r.Ok ∧ r.n.size ≤ 300) := Lib.hid (by
        intro r hr
        rw [HLS.out] at hr
        rcases List.mem_append.1 hr with hr | hr
        · rcases List.mem_append.1 hr with hr | hr
          · exact ⟨HLX.out.ok r hr, (HLX.out.r r hr).2.1⟩
          · exact ⟨HLY.out.ok r hr, (HLY.out.r r hr).2.1⟩
        · exact ⟨HLZ.out.ok r hr, (HLZ.out.r r hr).2.1⟩)
      have HI3 := Lib.hid (HI.out.moreL HB3.out (fun p hp => hK1 p hp))
      have hln90 : (ln : Int) ≤ 90 := by have := HLN.out; have := HLB.out; omega
      have HT3 : Hid (T = if fe rck LS = 0 then ((LS.foldl rP s).1, 0) else ([], fe rck LS)) := Lib.hid (by
        have h1 := HT.out
        have h2 := HD2.out
        have h3 := HLS.out
        rw [h1]
        show (if fe qck qs = 0 then (if fe rck (an ++ au ++ ex) = 0 then (((an ++ au ++ ex).foldl rP (qs.foldl qP (HD, []))).1, (0 : Int)) else ([], fe rck (an ++ au ++ ex))) else ([], fe qck qs)) = _
        rw [if_pos h2.2, ← h3, ← h2.1])
      have HSS : Hid (s.1.length ≤ 20000 ∧ FitS s) := Lib.hid ⟨HSL.out, HF2.out⟩
      clear ho3 hb3 hLS hln hK1 hRd z11 HO2 HB2 HB3 HZ2 HS3 HX HY HZ HBX HI HQ HSL HD2 HF2 HT q1 q1n lqn lxn lyn lzn HNIL HL HLX HLY HLZ HLQ HBW
      go_wp2_with fail
      go_loopw [9] (fun i wr2 => ∃ (k : Nat) (u : St), k ≤ ln ∧ i = .int .i64 (k : Int) ∧ RS LS s k u ∧ RP (w.heap.size ≤ ·) w (w.heap.size + 1) (K1 ++ [(w.heap.size, .cells (mc id r a t d v op cd ⟨qa, qn, qc⟩ ⟨xa, xn, xc⟩ ⟨ya, yn, yc⟩ ⟨za, zn, zc⟩) 26 (0, 0))]) u.1 u.2 wr2) (fun i _ => ln - (intOf i).toNat)
      case atStart => exact ⟨0, s, by omega, rfl, RS.zero HSS.out.2, HI3.out⟩
      case round =>
        clear HI3
        obtain ⟨k, u, hk, rfl, hq, hI⟩ := hrel
        have hul : u.1.length ≤ 300000 := by have h1 : u.1.length ≤ s.1.length + 2300 * k := hq.len; have := HSS.out.1; omega
        by_cases hlt : k < ln
        · have q1 : (k : Int) < (ln : Int) := by omega
          obtain ⟨⟨n, ty, cl, tl, dd⟩, hg⟩ : ∃ g, LS[k]? = some g := ⟨_, List.getElem?_eq_getElem (by rw [← HLN.out]; exact hlt)⟩
          obtain ⟨bq, off, hsa, _, c0, c1, c2, c3, c4⟩ := (HRD.out _ (fun p hp => hI.get (List.mem_append_left _ hp))).get hg
          have hgl := HLO.out _ (List.mem_of_getElem? hg)
          simp only at hsa c0 c1 c2 c3 c4
          subst hsa
          have hns : n.size ≤ 300 := hgl.2
          have hC := fun S' w1 h1 => rputrec_any ⟨n, ty, cl, tl, dd⟩ hgl.1 (by show n.size ≤ _; omega) S' (w.heap.size + 1) u.1 u.2 w1 h1 hq.fit (by omega)
          have HG := Lib.hid hg
          have HI := Lib.hid hI
          have HQ := Lib.hid hq
          clear hI hq hg hgl hul hns
          by_cases g0 : rck ⟨n, ty, cl, tl, dd⟩ = 0
          · have HQ2 := Lib.hid (HQ.out.next HG.out g0)
            rw [g0] at hC
            have HC := Lib.hid hC
            clear hC g0
            go_wp2_with fail
            refine (HI.out.call fun S' h1 _ => HC.out S' _ h1).mono ?_
            rintro e w5 ⟨rfl, j5⟩
            have J5 := Lib.hid j5
            clear j5 c0 c1 c2 c3 c4
            go_wp2
            go_roundw
            case rel => exact ⟨k + 1, _, by omega, by go_num, HQ2.out, J5.out⟩
            case measure => simp [intOf]; omega
          · have HT4 : Hid (T = ([], rck ⟨n, ty, cl, tl, dd⟩)) := Lib.hid (by
              have := HQ.out.bad HG.out g0
              rw [HT3.out, this, if_neg g0])
            generalize rck ⟨n, ty, cl, tl, dd⟩ = E at HT4 g0 hC
            have g1 : (E == 0) = false := by simpa using g0
            have g2 : (E != 0) = true := by simpa using g0
            have HC := Lib.hid hC
            clear g0 hC
            go_wp2_with fail
            refine (HI.out.call fun S' h1 _ => HC.out S' _ h1).mono ?_
            rintro e w5 ⟨rfl, j5⟩
            have J5 := Lib.hid j5
            clear j5 c0 c1 c2 c3 c4
            go_wp2
            go_ret2
            exact ⟨by rw [HT4.out]; rfl, J5.out.below⟩
        · have hkq : k = LS.length := by rw [← HLN.out]; omega
          have q1 : decide ((k : Int) < (ln : Int)) = false := by simp; omega
          have q1n : decide (k < ln) = false := by simp; omega
          have HT4 : Hid (T = (u.1, 0)) := Lib.hid (by
            obtain ⟨h1, h2⟩ := hq.done hkq
            rw [HT3.out, if_pos h2, ← h1])
          obtain ⟨b0, _⟩ := hI.head
          have HI := Lib.hid hI
          clear hI hq hul hlt hk hkq
          go_wp2
          go_ret2
          exact ⟨by rw [HT4.out]; rfl, HI.out.below⟩
end Go.Proofs.Ytljfkjbagebncaa
