/-
  The walk of the law ConfRings: it returns true; no older memory is changed.
-/
import Derived.Test.YtjoplnkagfkffaaRingStep
namespace Go.Proofs.Ytjoplnkagfkffaa
open Go.RowKit
theorem infoB : (Try.prog.info? 4).map (fun i => (i.zero, i.size, i.bytes)) = some (some (.bool false), 1, 1) := by kernel_rfl
def elB : El Bool := ⟨39, 4, 1, fun b => [.bool b], _, 1, Try.underlying39, infoB, rfl, by decide, by decide, by decide, fun _ => rfl, fun x u hu => by rw [List.mem_singleton.1 hu]; rfl⟩
/-- An array of truth values. -/
def OnA (w : World) (B : Nat) (T : TypeId) (on : Nat → Bool) : Prop := ∃ cs, Ce w B T cs ∧ cs.size = 64 ∧ ∀ i, i < 64 → cs[i]? = some (.bool (on i))
theorem OnA.below {w w' : World} {B : Nat} {T : TypeId} {on : Nat → Bool} (h : OnA w B T on) (hb : Below w.heap.size w w') : OnA w' B T on := let ⟨cs, h1, h2⟩ := h; ⟨cs, h1.below hb, h2⟩
theorem OnA.cell {w : World} {B : Nat} {T : TypeId} {on : Nat → Bool} (h : OnA w B T on) {i : Nat} (hi : i < 64) : w.cell? ⟨B, i, none⟩ = some (.bool (on i)) := by
  obtain ⟨cs, h1, _, h3⟩ := h
  rw [h1.cell]; exact h3 i hi
theorem OnA.frozen {w : World} {B : Nat} {T : TypeId} {on : Nat → Bool} (h : OnA w B T on) (i : Nat) : w.frozen? ⟨B, i, none⟩ = false := let ⟨_, h1, _⟩ := h; h1.frozen i
theorem OnA.turn {w : World} {B : Nat} {T : TypeId} {on : Nat → Bool} (h : OnA w B T on) {k : Nat} (hk : k < 64) : OnA (w.setCell ⟨B, k, none⟩ (.bool (!on k))) B T (turn on k) := by
  obtain ⟨cs, h1, h2, h3⟩ := h
  refine ⟨_, h1.set _ (i := k), by rw [Array.size_setIfInBounds, h2], fun i hi => ?_⟩
  unfold Ytjoplnkagfkffaa.turn
  by_cases e : i = k
  · subst e
    rw [if_pos rfl, Array.getElem?_setIfInBounds_self_of_lt (by omega)]
  · rw [if_neg e, Array.getElem?_setIfInBounds_ne (fun h => e h.symm)]
    exact h3 i hi
theorem OnA.other {w : World} {B B' i : Nat} {T : TypeId} {on : Nat → Bool} (h : OnA w B T on) (hne : B ≠ B') (v : Value) : OnA (w.setCell ⟨B', i, none⟩ v) B T on := let ⟨cs, h1, h2⟩ := h; ⟨cs, h1.other hne v, h2⟩
theorem onA_zero {w : World} {B : Nat} {T : TypeId} {cs : Array Value} (h : Ce w B T cs) (hc : cs.toList = List.replicate 64 (.bool false)) : OnA w B T (fun _ => false) := by
  refine ⟨cs, h, by rw [← Array.length_toList, hc, List.length_replicate], fun i hi => ?_⟩
  rw [← Array.getElem?_toList, hc, List.getElem?_replicate, if_pos hi]
set_option maxRecDepth 100000 in
set_option maxHeartbeats 12800000 in
theorem lawRings_any {w : World} {v u : Value} {N : List Int} {V : List Bool} (hN : RdX elI w v N) (hI : ∀ x ∈ N, -9223372036854775808 ≤ x ∧ x ≤ 9223372036854775807) (hV : RdX elB w u V) :
    Calls Try.prog 4 #[v, u] w fun e w' => e = .returned (.bool true) ∧ Below w.heap.size w w' := by
  obtain ⟨va, vc, rfl, _, hcm⟩ := hN.shape
  obtain ⟨ua, uc, rfl, _, hcu⟩ := hV.shape
  have HN := Lib.hid hN
  have HI := Lib.hid hI
  have HV := Lib.hid hV
  obtain ⟨len, hlen⟩ : ∃ l, l = N.length := ⟨_, rfl⟩
  obtain ⟨lev, hlev⟩ : ∃ l, l = V.length := ⟨_, rfl⟩
  have HL := Lib.hid hlen
  have HLV := Lib.hid hlev
  rw [← hlen] at HN ⊢
  rw [← hlev] at HV ⊢
  clear hN hV hlen hlev hcm hcu hI
  go_enter Try.func4, Try.ntmps4
  go_wp2_with fail
  refine (awake_any w).mono ?_
  rintro e wA ⟨rfl, hbA⟩
  have HBA := Lib.hid hbA
  clear hbA
  go_upto_region 5 with fail
  generalize hw : World.alloc (World.alloc wA _) _ = wB
  have HC0 : Hid (Ce wB wA.heap.size 29 #[.slice none 0 0, .slice none 0 0, .slice none 0 0, it 0, .slice none 0 0]) := Lib.hid (by rw [← hw]; exact (two_new wA _ _ _ _).1)
  have HA0 : Hid (OnA wB (wA.heap.size + 1) 40 (fun _ => false)) := Lib.hid (by rw [← hw]; exact onA_zero (two_new wA _ _ _ _).2.1 rfl)
  have HB0 : Hid (Below w.heap.size w wB) := Lib.hid (by rw [← hw]; exact HBA.out.trans ((two_new wA _ _ _ _).2.2.2.mono HBA.out.size))
  have HWN : Hid (w.heap.size ≤ wA.heap.size) := Lib.hid HBA.out.size
  obtain ⟨cb, hcb⟩ : ∃ c, c = wA.heap.size := ⟨_, rfl⟩
  rw [← hcb] at HC0 HA0 HWN ⊢
  clear hcb hw HBA
  go_loopw [8] (fun i wr => ∃ (k : Nat) (C : Cf) (r h a fs : Value) (on : Nat → Bool), k ≤ len ∧ k ≤ 100 ∧ i = it (k : Int) ∧ Ce wr cb 29 #[r, h, a, it C.epoch, fs] ∧ OwnC wr 0 r h a fs C ∧ C.Ok ∧ C.ring = ringOf on ∧ OnA wr (cb + 1) 40 on ∧ Below w.heap.size w wr) (fun i _ => 100 - (intOf i).toNat)
  case atStart =>
    exact ⟨0, Cf.zero, _, _, _, _, fun _ => false, Nat.zero_le _, Nat.zero_le _, rfl, HC0.out, ⟨OwnX.nil _ _, OwnX.nil _ _, OwnX.nil _ _, OwnX.nil _ _⟩, zero_ok, by decide, HA0.out, HB0.out⟩
  case round =>
    obtain ⟨k, C, r, h, a, fs, on, hk, hk60, rfl, hC, hR, hok, hring, hon, hb⟩ := hrel
    have HC := Lib.hid hC
    have HR := Lib.hid hR
    have HOK := Lib.hid hok
    have HRI := Lib.hid hring
    have HON := Lib.hid hon
    have HB := Lib.hid hb
    by_cases hlt : k < len ∧ k < 100
    · obtain ⟨hl1, hl2⟩ := hlt
      have HKK : Hid (k + 1 ≤ len ∧ k + 1 ≤ 100) := Lib.hid (by omega)
      have q1 : (k : Int) < (len : Int) := by omega
      have q1' : decide ((k : Int) < (len : Int)) = true := decide_eq_true q1
      have q2 : (k : Int) < 100 := by omega
      have q3 : k < len := by omega
      obtain ⟨s, hs⟩ : ∃ s, N[k]? = some s := ⟨_, List.getElem?_eq_getElem (by rw [← HL.out]; exact hl1)⟩
      obtain ⟨b, o, rfl, hg, c0⟩ := at1 HN.out rfl hs rfl
      have c0 := (hb.cell (p := ⟨b, o + k, none⟩) hg).trans c0
      have hsI := HI.out s (List.mem_of_getElem? hs)
      clear hC hR hok hring hon hb hs
      -- the node
      go_upto_if 32 with fail
      obtain ⟨m, hm⟩ : ∃ m, m = s.tmod 68 := ⟨_, rfl⟩
      have hm1 : -68 < m ∧ m < 68 := by
        have h1 := Int.tmod_lt_of_pos s (show (0 : Int) < 68 by decide)
        have h2 : (-s).tmod 68 < 68 := Int.tmod_lt_of_pos (-s) (by decide)
        rw [Int.neg_tmod] at h2
        omega
      rw [← hm]
      clear hm hsI c0
      go_cut [9] from 31 to 34 (fun v wx => ∃ q : Nat, q < 68 ∧ v = it (q : Int) ∧ wr = wx)
      case first =>
        by_cases hneg : m < 0
        · obtain ⟨q, hq⟩ : ∃ q : Nat, (q : Int) = -m := ⟨(-m).toNat, by omega⟩
          have s1 : wrap64 (-m) = (q : Int) := by unfold wrap64; omega
          have s2 : IntKind.i64.wrap (-m) = (q : Int) := by unfold IntKind.wrap; simp only [IntKind.bits, IntKind.signed]; simp; omega
          go_wp2
          go_meet
          exact ⟨q, by omega, by first | rfl | (rw [hq]), rfl⟩
        · have q4 : decide (m < 0) = false := decide_eq_false hneg
          obtain ⟨q, hq⟩ : ∃ q : Nat, m = (q : Int) := ⟨m.toNat, by omega⟩
          subst hq
          go_wp2
          go_meet
          exact ⟨q, by omega, rfl, rfl⟩
      case rest =>
        obtain ⟨q, hq, rfl, rfl⟩ := hcut
        have s1 : wrap64 ((q : Int) - 2) = (q : Int) - 2 := by unfold wrap64; omega
        go_upto_region 12 with fail
        go_cut [46] from 37 to 46 (fun v wx => ∃ b : Bool, v = .bool b ∧ wr = wx)
        case first =>
          by_cases hv : k < lev
          · have p1 : (k : Int) < (lev : Int) := by omega
            have p2 : decide ((k : Int) < (lev : Int)) = true := decide_eq_true p1
            obtain ⟨bv, hbv⟩ : ∃ x, V[k]? = some x := ⟨_, List.getElem?_eq_getElem (by rw [← HLV.out]; exact hv)⟩
            obtain ⟨g2, o2, rfl, hg2, d0⟩ := at1 HV.out rfl hbv rfl
            have d0 := (HB.out.cell (p := ⟨g2, o2 + k, none⟩) hg2).trans d0
            clear hbv
            go_wp2
            go_meet
            exact ⟨bv, rfl, rfl⟩
          · have p2 : decide ((k : Int) < (lev : Int)) = false := decide_eq_false (by omega)
            have p3 : decide (k < lev) = false := decide_eq_false hv
            go_wp2
            go_meet
            exact ⟨false, rfl, rfl⟩
        case rest =>
          obtain ⟨b, rfl, rfl⟩ := hcut
          go_upto_if 46 with fail
          go_cut [10] from 10 to 10 (fun v wx => ∃ kd : Int, (kd = 1 ∨ kd = 2) ∧ v = it kd ∧ wr = wx)
          case first =>
            cases b
            · go_wp2
              go_meet
              exact ⟨1, .inl rfl, rfl, rfl⟩
            · go_wp2
              go_meet
              exact ⟨2, .inr rfl, rfl, rfl⟩
          case rest =>
            obtain ⟨kd, hkd, rfl, rfl⟩ := hcut
            obtain ⟨z, hz⟩ : ∃ z, z = (q : Int) - 2 := ⟨_, rfl⟩
            have hz1 : -2 ≤ z ∧ z ≤ 65 := by omega
            rw [← hz]
            clear hz s1 hq
            obtain ⟨e0, e1, e2, e3, e4⟩ := c5 HC.out
            by_cases hin : 0 ≤ z ∧ z ≤ 63
            · obtain ⟨kk, hzk⟩ : ∃ kk : Nat, z = (kk : Int) := ⟨z.toNat, by omega⟩
              have HZK := Lib.hid hzk
              have hkk : kk < 64 := by omega
              have HAP := Lib.hid (apply_ring (kd := kd) HR.out.rd HOK.out HRI.out hkk hkd)
              rw [← hzk] at HAP
              have t1 : decide (z < 0) = false := decide_eq_false (by omega)
              have t2 : decide (63 < z) = false := decide_eq_false (by omega)
              have HKN : Hid (kk < 64) := Lib.hid hkk
              clear hzk hkk hz1
              go_wp2_with fail
              refine HAP.out.mono ?_
              rintro e w5 ⟨r5, h5, a5, f5, D, er, rfl, ho5, hb5, hcase⟩
              obtain ⟨⟨x1, y1, rfl⟩, ⟨x2, y2, rfl⟩, ⟨x3, y3, rfl⟩, ⟨x4, y4, rfl⟩⟩ := ho5.rd.shape
              obtain ⟨l1, hl1⟩ : ∃ l, l = D.ring.length := ⟨_, rfl⟩
              obtain ⟨l2, hl2⟩ : ∃ l, l = D.hints.length := ⟨_, rfl⟩
              obtain ⟨l3, hl3⟩ : ∃ l, l = D.anchors.length := ⟨_, rfl⟩
              obtain ⟨l4, hl4⟩ : ∃ l, l = D.flushes.length := ⟨_, rfl⟩
              have HL1 := Lib.hid hl1
              rw [← hl1, ← hl2, ← hl3, ← hl4] at ho5 ⊢
              obtain ⟨E, hE⟩ : ∃ E, E = D.epoch := ⟨_, rfl⟩
              have HE := Lib.hid hE
              have hbn := one_new w5 (.cells #[.slice x1 l1 y1, .slice x2 l2 y2, .slice x3 l3 y3, it E, .slice x4 l4 y4] 29)
              have HD5 := Lib.hid (Ce.new w5 29 #[.slice x1 l1 y1, .slice x2 l2 y2, .slice x3 l3 y3, it E, .slice x4 l4 y4])
              have HO5 := Lib.hid ((ho5.below hbn).weak (base' := 0) (Nat.zero_le _))
              have hB5 : Below wr.heap.size wr (w5.alloc (.cells #[.slice x1 l1 y1, .slice x2 l2 y2, .slice x3 l3 y3, it E, .slice x4 l4 y4] 29)) := hb5.trans (hbn.mono hb5.size)
              have HB5 := Lib.hid hB5
              have HC5 := Lib.hid (HC.out.below hB5)
              have HA5 := Lib.hid (HON.out.below hB5)
              have HDB : Hid (cb + 1 < w5.heap.size) := Lib.hid (by obtain ⟨cs, h1, _⟩ := HON.out; have := h1.lt; have := hb5.size; omega)
              have HCS := Lib.hid hcase
              rw [← hE]
              clear ho5 hb5 hbn hB5 hl1 hl2 hl3 hl4 hE e0 e1 e2 e3 e4 hcase
              go_upto_region 15 with fail
              generalize w5.alloc _ = w6 at *
              obtain ⟨db, hdb⟩ : ∃ d, d = w5.heap.size := ⟨_, rfl⟩
              rw [← hdb] at HD5 HDB ⊢
              clear hdb
              have HWC : Hid (w.heap.size ≤ cb) := HWN
              go_upto_region 18 with fail
              obtain rfl := HZK.out
              have hkk := HKN.out
              have hk64 : (kk : Int) < 64 := by omega
              obtain ⟨e0, e1, e2, e3, e4⟩ := c5 HC5.out
              obtain ⟨d0, d1, d2, d3, d4⟩ := c5 HD5.out
              have a0 := HA5.out.cell hkk
              have a1 := HA5.out.frozen kk
              obtain ⟨ov, hov⟩ : ∃ b, b = on kk := ⟨_, rfl⟩
              rw [← hov] at a0
              have HOV := Lib.hid hov
              have hcs := HCS.out
              rw [← hov] at hcs
              clear hov q1 q1' q2 q3 hl1 hl2 hk hk60 hin hm1 hg t1 t2
              rcases hcs with ⟨rfl, hx0, hD⟩ | ⟨rfl, hx0, hD⟩
              · have HDR : Hid (D.ring = ringOf (turn on kk)) := Lib.hid (by rw [hD]; rfl)
                have HDO : Hid D.Ok := Lib.hid (by
                  obtain ⟨h1, h2, h3, h4, h5, h6⟩ := HOK.out
                  rw [hD]
                  exact ⟨Nat.le_trans (ringOf_le _) (by decide), h2, h3, h4, h5, h6⟩)
                have HA6 : Hid (OnA (w6.setCell ⟨cb + 1, kk, none⟩ (.bool (!ov))) (cb + 1) 40 (turn on kk)) := Lib.hid (by rw [HOV.out]; exact HA5.out.turn HKN.out)
                have HC6 := Lib.hid (HC5.out.other (B' := cb + 1) (i := kk) (by omega) (.bool (!ov)))
                have HD6 := Lib.hid (HD5.out.other (B' := cb + 1) (i := kk) (by have := HDB.out; omega) (.bool (!ov)))
                have hown : OwnC (w6.setCell ⟨cb + 1, kk, none⟩ (.bool (!ov))) 0 (.slice x1 l1 y1) (.slice x2 l2 y2) (.slice x3 l3 y3) (.slice x4 l4 y4) D := by
                  obtain ⟨cs, h1, _⟩ := HA5.out
                  exact ⟨HO5.out.r.setT h1 (by decide) _, HO5.out.h.setT h1 (by decide) _, HO5.out.a.setT h1 (by decide) _, HO5.out.f.setT h1 (by decide) _⟩
                have HO6 := Lib.hid hown
                have HB6 : Hid (Below w.heap.size w (w6.setCell ⟨cb + 1, kk, none⟩ (.bool (!ov)))) := Lib.hid ((HB.out.trans (HB5.out.mono HB.out.size)).setCell (p := ⟨cb + 1, kk, none⟩) (by have := HWC.out; show w.heap.size ≤ cb + 1; omega) _)
                clear hown hD
                rcases hkd with rfl | rfl <;> (have hx : ov = _ := hx0; clear hx0; simp only [decide_true, decide_false, show ¬ ((1 : Int) = 2) by decide] at hx; subst hx)
                · go_upto_region 22 with fail
                  clear d0 d1 d2 d3 d4 e0 e1 e2 e3 e4 a0 a1
                  simp only [Bool.not_false] at HA6 HC6 HD6 HO6 HB6
                  generalize (World.setCell w6 ⟨cb + 1, kk, none⟩ (.bool (true))) = wS at *
                  have HC7 : Hid (Ce (World.setCell (World.setCell (World.setCell (World.setCell (World.setCell wS ⟨cb, 0, none⟩ (.slice x1 l1 y1)) ⟨cb, 1, none⟩ (.slice x2 l2 y2)) ⟨cb, 2, none⟩ (.slice x3 l3 y3)) ⟨cb, 3, none⟩ (it E)) ⟨cb, 4, none⟩ (.slice x4 l4 y4)) cb 29 #[.slice x1 l1 y1, .slice x2 l2 y2, .slice x3 l3 y3, it E, .slice x4 l4 y4]) := Lib.hid (set5_ce HC6.out (.slice x1 l1 y1) (.slice x2 l2 y2) (.slice x3 l3 y3) (it E) (.slice x4 l4 y4))
                  have HO7 : Hid (OwnC (World.setCell (World.setCell (World.setCell (World.setCell (World.setCell wS ⟨cb, 0, none⟩ (.slice x1 l1 y1)) ⟨cb, 1, none⟩ (.slice x2 l2 y2)) ⟨cb, 2, none⟩ (.slice x3 l3 y3)) ⟨cb, 3, none⟩ (it E)) ⟨cb, 4, none⟩ (.slice x4 l4 y4)) 0 (.slice x1 l1 y1) (.slice x2 l2 y2) (.slice x3 l3 y3) (.slice x4 l4 y4) D) := Lib.hid (HO6.out.set5 HC6.out (.slice x1 l1 y1) (.slice x2 l2 y2) (.slice x3 l3 y3) (it E) (.slice x4 l4 y4))
                  have HB7 : Hid (Below w.heap.size w (World.setCell (World.setCell (World.setCell (World.setCell (World.setCell wS ⟨cb, 0, none⟩ (.slice x1 l1 y1)) ⟨cb, 1, none⟩ (.slice x2 l2 y2)) ⟨cb, 2, none⟩ (.slice x3 l3 y3)) ⟨cb, 3, none⟩ (it E)) ⟨cb, 4, none⟩ (.slice x4 l4 y4))) := Lib.hid (set5_below HB6.out HWC.out (.slice x1 l1 y1) (.slice x2 l2 y2) (.slice x3 l3 y3) (it E) (.slice x4 l4 y4))
                  have HA7 : Hid (OnA (World.setCell (World.setCell (World.setCell (World.setCell (World.setCell wS ⟨cb, 0, none⟩ (.slice x1 l1 y1)) ⟨cb, 1, none⟩ (.slice x2 l2 y2)) ⟨cb, 2, none⟩ (.slice x3 l3 y3)) ⟨cb, 3, none⟩ (it E)) ⟨cb, 4, none⟩ (.slice x4 l4 y4)) (cb + 1) 40 (turn on kk)) := Lib.hid (((((HA6.out.other (by omega) _).other (by omega) _).other (by omega) _).other (by omega) _).other (by omega) _)
                  obtain ⟨e0, e1, e2, e3, e4⟩ := c5 HC6.out
                  obtain ⟨f0, f1, f2, f3, f4⟩ := f5 HC6.out
                  obtain ⟨d0, d1, d2, d3, d4⟩ := c5 HD6.out
                  go_upto_region 23 with fail
                  generalize (World.setCell (World.setCell (World.setCell (World.setCell (World.setCell wS ⟨cb, 0, none⟩ (.slice x1 l1 y1)) ⟨cb, 1, none⟩ (.slice x2 l2 y2)) ⟨cb, 2, none⟩ (.slice x3 l3 y3)) ⟨cb, 3, none⟩ (it E)) ⟨cb, 4, none⟩ (.slice x4 l4 y4)) = w7 at *
                  clear e0 e1 e2 e3 e4 f0 f1 f2 f3 f4 d0 d1 d2 d3 d4
                  go_upto_region 25 with fail
                  go_loopw [13, 14] (fun at' j wz => ∃ n : Nat, n ≤ 64 ∧ at' = it ((cnt (turn on kk) n : Nat) : Int) ∧ j = it (n : Int) ∧ w7 = wz) (fun _ j _ => 64 - (intOf j).toNat)
                  case atStart => exact ⟨0, Nat.zero_le _, rfl, rfl, rfl⟩
                  case round =>
                    obtain ⟨n, hn, rfl, rfl, rfl⟩ := hrel
                    by_cases hn6 : n < 64
                    · have HN6 := Lib.hid hn6
                      have b0 := HA7.out.cell hn6
                      obtain ⟨cn, hcn⟩ : ∃ c, c = cnt (turn on kk) n := ⟨_, rfl⟩
                      have HCN := Lib.hid hcn
                      obtain ⟨bo, hbo⟩ : ∃ c, c = (turn on kk) n := ⟨_, rfl⟩
                      have HBO := Lib.hid hbo
                      have r1 : (n : Int) < 64 := by omega
                      rw [← hbo] at b0
                      rw [← hcn]
                      clear hcn hbo hn
                      cases bo
                      · go_wp2
                        go_roundw
                        case rel => exact ⟨n + 1, HN6.out, by rw [cnt_succ, ← HBO.out, ← HCN.out]; rfl, by go_num, trivial⟩
                        case measure => simp [intOf]; omega
                      · have hat := ringOf_at hn6 HBO.out.symm
                        rw [← HDR.out, ← HCN.out] at hat
                        have hlt1 : cn < l1 := by rw [HL1.out]; exact (List.getElem?_eq_some_iff.1 hat).1
                        obtain ⟨b1, o1, rfl, _, c1⟩ := at1 HO7.out.r.rd rfl hat rfl
                        obtain ⟨e0, _, _, _, _⟩ := c5 HC7.out
                        have p1 : decide ((l1 : Int) ≤ (cn : Int)) = false := decide_eq_false (by omega)
                        have p2 : decide (l1 ≤ cn) = false := decide_eq_false (by omega)
                        have p3 : (cn : Int) < (l1 : Int) := by omega
                        have hle := HDO.out.r
                        have s1 : wrap64 ((cn : Int) + 1) = (cn : Int) + 1 := by have := HL1.out; unfold wrap64; omega
                        clear hat hle hn6
                        go_wp2
                        go_roundw
                        case rel => exact ⟨n + 1, HN6.out, by rw [cnt_succ, ← HBO.out, ← HCN.out]; first | rfl | (simp; done) | (simp; omega), by go_num, trivial⟩
                        case measure => simp [intOf]; omega
                    · have hn64 : n = 64 := by omega
                      subst hn64
                      have hlr : Hid (cnt (turn on kk) 64 = l1) := Lib.hid (by rw [HL1.out, HDR.out, ringOf_len])
                      rw [hlr.out]
                      obtain ⟨e0, _, _, _, _⟩ := c5 HC7.out
                      have hkk1 := HKK.out
                      go_wp2
                      go_roundw
                      case rel => exact ⟨k + 1, D, _, _, _, _, turn on kk, hkk1.1, hkk1.2, by go_num, by rw [← HE.out]; exact HC7.out, HO7.out, HDO.out, HDR.out, HA7.out, HB7.out⟩
                      case measure => simp [intOf]; omega
                · go_upto_region 22 with fail
                  clear d0 d1 d2 d3 d4 e0 e1 e2 e3 e4 a0 a1
                  simp only [Bool.not_true] at HA6 HC6 HD6 HO6 HB6
                  generalize (World.setCell w6 ⟨cb + 1, kk, none⟩ (.bool (false))) = wS at *
                  have HC7 : Hid (Ce (World.setCell (World.setCell (World.setCell (World.setCell (World.setCell wS ⟨cb, 0, none⟩ (.slice x1 l1 y1)) ⟨cb, 1, none⟩ (.slice x2 l2 y2)) ⟨cb, 2, none⟩ (.slice x3 l3 y3)) ⟨cb, 3, none⟩ (it E)) ⟨cb, 4, none⟩ (.slice x4 l4 y4)) cb 29 #[.slice x1 l1 y1, .slice x2 l2 y2, .slice x3 l3 y3, it E, .slice x4 l4 y4]) := Lib.hid (set5_ce HC6.out (.slice x1 l1 y1) (.slice x2 l2 y2) (.slice x3 l3 y3) (it E) (.slice x4 l4 y4))
                  have HO7 : Hid (OwnC (World.setCell (World.setCell (World.setCell (World.setCell (World.setCell wS ⟨cb, 0, none⟩ (.slice x1 l1 y1)) ⟨cb, 1, none⟩ (.slice x2 l2 y2)) ⟨cb, 2, none⟩ (.slice x3 l3 y3)) ⟨cb, 3, none⟩ (it E)) ⟨cb, 4, none⟩ (.slice x4 l4 y4)) 0 (.slice x1 l1 y1) (.slice x2 l2 y2) (.slice x3 l3 y3) (.slice x4 l4 y4) D) := Lib.hid (HO6.out.set5 HC6.out (.slice x1 l1 y1) (.slice x2 l2 y2) (.slice x3 l3 y3) (it E) (.slice x4 l4 y4))
                  have HB7 : Hid (Below w.heap.size w (World.setCell (World.setCell (World.setCell (World.setCell (World.setCell wS ⟨cb, 0, none⟩ (.slice x1 l1 y1)) ⟨cb, 1, none⟩ (.slice x2 l2 y2)) ⟨cb, 2, none⟩ (.slice x3 l3 y3)) ⟨cb, 3, none⟩ (it E)) ⟨cb, 4, none⟩ (.slice x4 l4 y4))) := Lib.hid (set5_below HB6.out HWC.out (.slice x1 l1 y1) (.slice x2 l2 y2) (.slice x3 l3 y3) (it E) (.slice x4 l4 y4))
                  have HA7 : Hid (OnA (World.setCell (World.setCell (World.setCell (World.setCell (World.setCell wS ⟨cb, 0, none⟩ (.slice x1 l1 y1)) ⟨cb, 1, none⟩ (.slice x2 l2 y2)) ⟨cb, 2, none⟩ (.slice x3 l3 y3)) ⟨cb, 3, none⟩ (it E)) ⟨cb, 4, none⟩ (.slice x4 l4 y4)) (cb + 1) 40 (turn on kk)) := Lib.hid (((((HA6.out.other (by omega) _).other (by omega) _).other (by omega) _).other (by omega) _).other (by omega) _)
                  obtain ⟨e0, e1, e2, e3, e4⟩ := c5 HC6.out
                  obtain ⟨f0, f1, f2, f3, f4⟩ := f5 HC6.out
                  obtain ⟨d0, d1, d2, d3, d4⟩ := c5 HD6.out
                  go_upto_region 23 with fail
                  generalize (World.setCell (World.setCell (World.setCell (World.setCell (World.setCell wS ⟨cb, 0, none⟩ (.slice x1 l1 y1)) ⟨cb, 1, none⟩ (.slice x2 l2 y2)) ⟨cb, 2, none⟩ (.slice x3 l3 y3)) ⟨cb, 3, none⟩ (it E)) ⟨cb, 4, none⟩ (.slice x4 l4 y4)) = w7 at *
                  clear e0 e1 e2 e3 e4 f0 f1 f2 f3 f4 d0 d1 d2 d3 d4
                  go_upto_region 25 with fail
                  go_loopw [13, 14] (fun at' j wz => ∃ n : Nat, n ≤ 64 ∧ at' = it ((cnt (turn on kk) n : Nat) : Int) ∧ j = it (n : Int) ∧ w7 = wz) (fun _ j _ => 64 - (intOf j).toNat)
                  case atStart => exact ⟨0, Nat.zero_le _, rfl, rfl, rfl⟩
                  case round =>
                    obtain ⟨n, hn, rfl, rfl, rfl⟩ := hrel
                    by_cases hn6 : n < 64
                    · have HN6 := Lib.hid hn6
                      have b0 := HA7.out.cell hn6
                      obtain ⟨cn, hcn⟩ : ∃ c, c = cnt (turn on kk) n := ⟨_, rfl⟩
                      have HCN := Lib.hid hcn
                      obtain ⟨bo, hbo⟩ : ∃ c, c = (turn on kk) n := ⟨_, rfl⟩
                      have HBO := Lib.hid hbo
                      have r1 : (n : Int) < 64 := by omega
                      rw [← hbo] at b0
                      rw [← hcn]
                      clear hcn hbo hn
                      cases bo
                      · go_wp2
                        go_roundw
                        case rel => exact ⟨n + 1, HN6.out, by rw [cnt_succ, ← HBO.out, ← HCN.out]; rfl, by go_num, trivial⟩
                        case measure => simp [intOf]; omega
                      · have hat := ringOf_at hn6 HBO.out.symm
                        rw [← HDR.out, ← HCN.out] at hat
                        have hlt1 : cn < l1 := by rw [HL1.out]; exact (List.getElem?_eq_some_iff.1 hat).1
                        obtain ⟨b1, o1, rfl, _, c1⟩ := at1 HO7.out.r.rd rfl hat rfl
                        obtain ⟨e0, _, _, _, _⟩ := c5 HC7.out
                        have p1 : decide ((l1 : Int) ≤ (cn : Int)) = false := decide_eq_false (by omega)
                        have p2 : decide (l1 ≤ cn) = false := decide_eq_false (by omega)
                        have p3 : (cn : Int) < (l1 : Int) := by omega
                        have hle := HDO.out.r
                        have s1 : wrap64 ((cn : Int) + 1) = (cn : Int) + 1 := by have := HL1.out; unfold wrap64; omega
                        clear hat hle hn6
                        go_wp2
                        go_roundw
                        case rel => exact ⟨n + 1, HN6.out, by rw [cnt_succ, ← HBO.out, ← HCN.out]; first | rfl | (simp; done) | (simp; omega), by go_num, trivial⟩
                        case measure => simp [intOf]; omega
                    · have hn64 : n = 64 := by omega
                      subst hn64
                      have hlr : Hid (cnt (turn on kk) 64 = l1) := Lib.hid (by rw [HL1.out, HDR.out, ringOf_len])
                      rw [hlr.out]
                      obtain ⟨e0, _, _, _, _⟩ := c5 HC7.out
                      have hkk1 := HKK.out
                      go_wp2
                      go_roundw
                      case rel => exact ⟨k + 1, D, _, _, _, _, turn on kk, hkk1.1, hkk1.2, by go_num, by rw [← HE.out]; exact HC7.out, HO7.out, HDO.out, HDR.out, HA7.out, HB7.out⟩
                      case measure => simp [intOf]; omega
              · have HDR : Hid (D.ring = ringOf on) := Lib.hid (by rw [hD]; exact HRI.out)
                have HDO : Hid D.Ok := Lib.hid (by rw [hD]; exact HOK.out)
                have HA6 := HA5
                have HC6 := HC5
                have HD6 := HD5
                have HO6 := HO5
                have HB6 : Hid (Below w.heap.size w w6) := Lib.hid (HB.out.trans (HB5.out.mono HB.out.size))
                clear hD
                rcases hkd with rfl | rfl <;> (have hx : ov = _ := hx0; clear hx0; simp only [decide_true, decide_false, show ¬ ((1 : Int) = 2) by decide] at hx; subst hx)
                all_goals
                  go_upto_region 22 with fail
                  have HC7 : Hid (Ce (World.setCell (World.setCell (World.setCell (World.setCell (World.setCell w6 ⟨cb, 0, none⟩ (.slice x1 l1 y1)) ⟨cb, 1, none⟩ (.slice x2 l2 y2)) ⟨cb, 2, none⟩ (.slice x3 l3 y3)) ⟨cb, 3, none⟩ (it E)) ⟨cb, 4, none⟩ (.slice x4 l4 y4)) cb 29 #[.slice x1 l1 y1, .slice x2 l2 y2, .slice x3 l3 y3, it E, .slice x4 l4 y4]) := Lib.hid (set5_ce HC6.out (.slice x1 l1 y1) (.slice x2 l2 y2) (.slice x3 l3 y3) (it E) (.slice x4 l4 y4))
                  have HO7 : Hid (OwnC (World.setCell (World.setCell (World.setCell (World.setCell (World.setCell w6 ⟨cb, 0, none⟩ (.slice x1 l1 y1)) ⟨cb, 1, none⟩ (.slice x2 l2 y2)) ⟨cb, 2, none⟩ (.slice x3 l3 y3)) ⟨cb, 3, none⟩ (it E)) ⟨cb, 4, none⟩ (.slice x4 l4 y4)) 0 (.slice x1 l1 y1) (.slice x2 l2 y2) (.slice x3 l3 y3) (.slice x4 l4 y4) D) := Lib.hid (HO6.out.set5 HC6.out (.slice x1 l1 y1) (.slice x2 l2 y2) (.slice x3 l3 y3) (it E) (.slice x4 l4 y4))
                  have HB7 : Hid (Below w.heap.size w (World.setCell (World.setCell (World.setCell (World.setCell (World.setCell w6 ⟨cb, 0, none⟩ (.slice x1 l1 y1)) ⟨cb, 1, none⟩ (.slice x2 l2 y2)) ⟨cb, 2, none⟩ (.slice x3 l3 y3)) ⟨cb, 3, none⟩ (it E)) ⟨cb, 4, none⟩ (.slice x4 l4 y4))) := Lib.hid (set5_below HB6.out HWC.out (.slice x1 l1 y1) (.slice x2 l2 y2) (.slice x3 l3 y3) (it E) (.slice x4 l4 y4))
                  have HA7 : Hid (OnA (World.setCell (World.setCell (World.setCell (World.setCell (World.setCell w6 ⟨cb, 0, none⟩ (.slice x1 l1 y1)) ⟨cb, 1, none⟩ (.slice x2 l2 y2)) ⟨cb, 2, none⟩ (.slice x3 l3 y3)) ⟨cb, 3, none⟩ (it E)) ⟨cb, 4, none⟩ (.slice x4 l4 y4)) (cb + 1) 40 (on)) := Lib.hid (((((HA6.out.other (by omega) _).other (by omega) _).other (by omega) _).other (by omega) _).other (by omega) _)
                  obtain ⟨e0, e1, e2, e3, e4⟩ := c5 HC6.out
                  obtain ⟨f0, f1, f2, f3, f4⟩ := f5 HC6.out
                  obtain ⟨d0, d1, d2, d3, d4⟩ := c5 HD6.out
                  go_upto_region 23 with fail
                  generalize (World.setCell (World.setCell (World.setCell (World.setCell (World.setCell w6 ⟨cb, 0, none⟩ (.slice x1 l1 y1)) ⟨cb, 1, none⟩ (.slice x2 l2 y2)) ⟨cb, 2, none⟩ (.slice x3 l3 y3)) ⟨cb, 3, none⟩ (it E)) ⟨cb, 4, none⟩ (.slice x4 l4 y4)) = w7 at *
                  clear e0 e1 e2 e3 e4 f0 f1 f2 f3 f4 d0 d1 d2 d3 d4
                  go_upto_region 25 with fail
                  go_loopw [13, 14] (fun at' j wz => ∃ n : Nat, n ≤ 64 ∧ at' = it ((cnt (on) n : Nat) : Int) ∧ j = it (n : Int) ∧ w7 = wz) (fun _ j _ => 64 - (intOf j).toNat)
                  case atStart => exact ⟨0, Nat.zero_le _, rfl, rfl, rfl⟩
                  case round =>
                    obtain ⟨n, hn, rfl, rfl, rfl⟩ := hrel
                    by_cases hn6 : n < 64
                    · have HN6 := Lib.hid hn6
                      have b0 := HA7.out.cell hn6
                      obtain ⟨cn, hcn⟩ : ∃ c, c = cnt (on) n := ⟨_, rfl⟩
                      have HCN := Lib.hid hcn
                      obtain ⟨bo, hbo⟩ : ∃ c, c = (on) n := ⟨_, rfl⟩
                      have HBO := Lib.hid hbo
                      have r1 : (n : Int) < 64 := by omega
                      rw [← hbo] at b0
                      rw [← hcn]
                      clear hcn hbo hn
                      cases bo
                      · go_wp2
                        go_roundw
                        case rel => exact ⟨n + 1, HN6.out, by rw [cnt_succ, ← HBO.out, ← HCN.out]; rfl, by go_num, trivial⟩
                        case measure => simp [intOf]; omega
                      · have hat := ringOf_at hn6 HBO.out.symm
                        rw [← HDR.out, ← HCN.out] at hat
                        have hlt1 : cn < l1 := by rw [HL1.out]; exact (List.getElem?_eq_some_iff.1 hat).1
                        obtain ⟨b1, o1, rfl, _, c1⟩ := at1 HO7.out.r.rd rfl hat rfl
                        obtain ⟨e0, _, _, _, _⟩ := c5 HC7.out
                        have p1 : decide ((l1 : Int) ≤ (cn : Int)) = false := decide_eq_false (by omega)
                        have p2 : decide (l1 ≤ cn) = false := decide_eq_false (by omega)
                        have p3 : (cn : Int) < (l1 : Int) := by omega
                        have hle := HDO.out.r
                        have s1 : wrap64 ((cn : Int) + 1) = (cn : Int) + 1 := by have := HL1.out; unfold wrap64; omega
                        clear hat hle hn6
                        go_wp2
                        go_roundw
                        case rel => exact ⟨n + 1, HN6.out, by rw [cnt_succ, ← HBO.out, ← HCN.out]; first | rfl | (simp; done) | (simp; omega), by go_num, trivial⟩
                        case measure => simp [intOf]; omega
                    · have hn64 : n = 64 := by omega
                      subst hn64
                      have hlr : Hid (cnt (on) 64 = l1) := Lib.hid (by rw [HL1.out, HDR.out, ringOf_len])
                      rw [hlr.out]
                      obtain ⟨e0, _, _, _, _⟩ := c5 HC7.out
                      have hkk1 := HKK.out
                      go_wp2
                      go_roundw
                      case rel => exact ⟨k + 1, D, _, _, _, _, on, hkk1.1, hkk1.2, by go_num, by rw [← HE.out]; exact HC7.out, HO7.out, HDO.out, HDR.out, HA7.out, HB7.out⟩
                      case measure => simp [intOf]; omega
            · have hfit : fitB kd z ⟨#[]⟩ ⟨#[]⟩ ⟨#[]⟩ [] = false := by
                rw [fit_join hkd]; unfold nodeB
                by_cases h0 : 0 ≤ z
                · rw [decide_eq_true h0, decide_eq_false (by omega : ¬ z < 64)]; rfl
                · rw [decide_eq_false h0]; rfl
              have HAP := Lib.hid (apply_bad (k := kd) (nd := z) (tx := ⟨#[]⟩) HR.out.rd HOK.out (RdX.nil wr) (by decide) (by decide) (by decide) hfit)
              have hz2 : z < 0 ∨ ¬ z < 0 ∧ 63 < z := by omega
              have HZ2 := Lib.hid hz2
              clear hz1 hin hz2 hfit
              go_wp2_with fail
              refine HAP.out.mono ?_
              rintro e w5 ⟨r5, h5, a5, f5, rfl, ho5, hb5⟩
              obtain ⟨⟨x1, y1, rfl⟩, ⟨x2, y2, rfl⟩, ⟨x3, y3, rfl⟩, ⟨x4, y4, rfl⟩⟩ := ho5.rd.shape
              generalize C.ring.length = l1
              generalize C.hints.length = l2
              generalize C.anchors.length = l3
              generalize C.flushes.length = l4
              have hbn := one_new w5 (.cells #[.slice x1 l1 y1, .slice x2 l2 y2, .slice x3 l3 y3, it C.epoch, .slice x4 l4 y4] 29)
              have HB5 := Lib.hid (hb5.trans (hbn.mono hb5.size))
              have hkk : k + 1 ≤ len ∧ k + 1 ≤ 100 := HKK.out
              clear ho5 hb5 hbn e0 e1 e2 e3 e4
              go_upto_region 15 with fail
              generalize w5.alloc _ = w6 at *
              rcases HZ2.out with h0 | ⟨h0, h1⟩
              · have t1 : decide (z < 0) = true := decide_eq_true h0
                go_wp2
                go_roundw
                case rel => exact ⟨k + 1, C, _, _, _, _, on, hkk.1, hkk.2, by go_num, HC.out.below HB5.out, HR.out.below HB5.out, HOK.out, HRI.out, HON.out.below HB5.out, HB.out.trans (HB5.out.mono HB.out.size)⟩
                case measure => simp [intOf]; omega
              · have t1 : decide (z < 0) = false := decide_eq_false (by omega)
                have t2 : decide (63 < z) = true := decide_eq_true h1
                go_wp2
                go_roundw
                case rel => exact ⟨k + 1, C, _, _, _, _, on, hkk.1, hkk.2, by go_num, HC.out.below HB5.out, HR.out.below HB5.out, HOK.out, HRI.out, HON.out.below HB5.out, HB.out.trans (HB5.out.mono HB.out.size)⟩
                case measure => simp [intOf]; omega
    · have HBF := Lib.hid hb
      clear hC hR hok hring hon hb
      by_cases hl1 : k < len
      · have hk60' : k = 100 := by omega
        subst hk60'
        have q1 : decide (((100 : Nat) : Int) < (len : Int)) = true := decide_eq_true (by omega)
        have q1' : ((100 : Int)) < (len : Int) := by omega
        have q3 : (100 : Nat) < len := hl1
        clear hlt
        go_wp2
        go_ret
        exact ⟨rfl, HBF.out⟩
      · have q1 : decide ((k : Int) < (len : Int)) = false := decide_eq_false (by omega)
        have q1' : decide (k < len) = false := decide_eq_false hl1
        clear hlt
        go_wp2
        go_ret
        exact ⟨rfl, HBF.out⟩
end Go.Proofs.Ytjoplnkagfkffaa
