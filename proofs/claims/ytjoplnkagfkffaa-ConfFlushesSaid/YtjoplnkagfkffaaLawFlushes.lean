/-
  The walk of the law ConfFlushes: it returns true; no older memory is changed.
-/
import Derived.Test.YtjoplnkagfkffaaAwake
namespace Go.Proofs.Ytjoplnkagfkffaa
open Go.RowKit
theorem short_all (s : ByteArray) (n : Nat) (h : s.size ≤ n) (w : World) :
    Calls Try.prog 7 #[.string s, .int .i64 (n : Int)] w fun e w' => e = .returned (.string s) ∧ w = w' := by
  go_enter Try.func7, Try.ntmps7
  go_wp2
  go_ret
  exact ⟨rfl, rfl⟩
theorem short_cut (s : ByteArray) (n : Nat) (h : n < s.size) (w : World) :
    Calls Try.prog 7 #[.string s, .int .i64 (n : Int)] w fun e w' => e = .returned (.string (s.extract 0 n)) ∧ w = w' := by
  have q1 : (n : Int) < (s.size : Int) := by omega
  have q2 : n ≤ s.size := by omega
  go_enter Try.func7, Try.ntmps7
  go_wp2
  go_ret
  exact ⟨rfl, rfl⟩
/-- THE CUT: what stands there behind it is of no more than so many bytes. -/
theorem short_any (s : ByteArray) (n : Nat) :
    ∃ t : ByteArray, t.size ≤ n ∧ ∀ w : World, Calls Try.prog 7 #[.string s, .int .i64 (n : Int)] w fun e w' => e = .returned (.string t) ∧ w = w' := by
  by_cases h : s.size ≤ n
  · exact ⟨s, h, fun w => short_all s n h w⟩
  · exact ⟨s.extract 0 n, by simp; omega, fun w => short_cut s n (by omega) w⟩
/-- What holds of a configuration behind so many flushes. -/
structure FlOk (C : Cf) (k : Nat) : Prop where
  ok : C.Ok
  e0 : 0 ≤ C.epoch
  e1 : C.epoch ≤ k
  past : Past C.epoch C.flushes
  len : C.flushes.length ≤ 32
theorem FlOk.step {C : Cf} {k : Nat} (h : FlOk C k) {z : ByteArray} (hz : z.size ≤ 1000000) : FlOk (flC C z) (k + 1) := by
  obtain ⟨⟨h1, h2, h3, h4, h5, h6⟩, e0, e1, hp, hl⟩ := h
  have h7 := flF_len C.epoch C.flushes z
  refine ⟨⟨h1, h2, h3, by show (flF _ _ _).length ≤ _; omega, h5, fun f hf => ?_⟩, by show 0 ≤ C.epoch + 1; omega, by show C.epoch + 1 ≤ _; omega, past_flF hp z, h7⟩
  have hf : f ∈ flF C.epoch C.flushes z := hf
  have hlow : (lowA z).size = z.size := by show (low (bl z)).toArray.size = _; rw [List.size_toArray, low_length]; rfl
  unfold flF at hf
  split at hf
  · rw [List.mem_singleton.1 hf]; show (1 : Nat) ≤ _; decide
  · rcases List.mem_append.1 hf with hf | hf
    · exact h6 f (List.mem_filter.1 hf).1
    · rw [List.mem_singleton.1 hf]; show (lowA z).size ≤ _; omega
theorem FlOk.mono {C : Cf} {k : Nat} (h : FlOk C k) : FlOk C (k + 1) := ⟨h.ok, h.e0, by have := h.e1; omega, h.past, h.len⟩
/-- How the floor of a name stands behind a flush. -/
theorem fl_cases {C : Cf} {k : Nat} (h : FlOk C k) {z : ByteArray} (hz : chk (bl z) = 0) (n : Bs) :
    (und n (bl z) = true ∧ flr (flC C z).flushes n = C.epoch + 1) ∨ (und n (bl z) = false ∧ flr (flC C z).flushes n = flr C.flushes n) ∨ (und n (bl z) = false ∧ (flC C z).flushes.length = 1 ∧ flr (flC C z).flushes n = C.epoch + 1) := by
  cases hu : und n (bl z) with
  | true => exact .inl ⟨rfl, flF_in h.e0 h.past hu⟩
  | false =>
    rcases flF_out (ep := C.epoch) (L := C.flushes) hz hu with h1 | ⟨h1, h2⟩
    · exact .inr (.inl ⟨rfl, h1⟩)
    · exact .inr (.inr ⟨rfl, h1, h2⟩)
set_option maxRecDepth 100000 in
set_option maxHeartbeats 12800000 in
theorem lawFlushes_any {w : World} {v : Value} {Z : List ByteArray} (hZ : RdX elS w v Z) (n m : ByteArray) :
    Calls Try.prog 3 #[v, .string n, .string m] w fun e w' => e = .returned (.bool true) ∧ Below w.heap.size w w' := by
  obtain ⟨va, vc, rfl, _, hcm⟩ := hZ.shape
  have HZ := Lib.hid hZ
  obtain ⟨nt, hnt, SN⟩ := short_any n 300
  obtain ⟨mt, hmt, SM⟩ := short_any m 300
  have SN := Lib.hid SN
  have SM := Lib.hid SM
  obtain ⟨len, hlen⟩ : ∃ l, l = Z.length := ⟨_, rfl⟩
  have HL := Lib.hid hlen
  rw [← hlen] at HZ ⊢
  have HLM : Hid (len ≤ maxLen) := Lib.hid (by omega)
  clear hZ hlen hcm
  go_enter Try.func3, Try.ntmps3
  go_wp2_with fail
  refine (awake_any w).mono ?_
  rintro e wA ⟨rfl, hbA⟩
  have HBA := Lib.hid hbA
  clear hbA
  go_wp2_with fail
  refine (SN.out _).mono ?_
  rintro e w2 ⟨rfl, rfl⟩
  go_wp2_with fail
  refine (SM.out _).mono ?_
  rintro e w2 ⟨rfl, rfl⟩
  have HC0 := Lib.hid (Ce.new wA 29 #[.slice none 0 0, .slice none 0 0, .slice none 0 0, it 0, .slice none 0 0])
  have HB0 := Lib.hid (HBA.out.trans ((one_new wA (.cells #[.slice none 0 0, .slice none 0 0, .slice none 0 0, it 0, .slice none 0 0] 29)).mono HBA.out.size))
  have HWN : Hid (w.heap.size ≤ wA.heap.size) := Lib.hid HBA.out.size
  go_upto_region 5 with fail
  generalize wA.alloc _ = wB at *
  obtain ⟨cb, hcb⟩ : ∃ c, c = wA.heap.size := ⟨_, rfl⟩
  rw [← hcb] at HC0 HWN ⊢
  clear hcb
  go_upto_region 7 with fail
  go_loopw [9, 10] (fun ep i wr => ∃ (k : Nat) (C : Cf) (r h a fs : Value), k ≤ len ∧ k ≤ 60 ∧ i = it (k : Int) ∧ ep = it C.epoch ∧ Ce wr cb 29 #[r, h, a, it C.epoch, fs] ∧ OwnC wr 0 r h a fs C ∧ FlOk C k ∧ Below w.heap.size w wr) (fun _ i _ => 60 - (intOf i).toNat)
  case atStart =>
    exact ⟨0, Cf.zero, _, _, _, _, Nat.zero_le _, Nat.zero_le _, rfl, rfl, HC0.out, ⟨OwnX.nil _ _, OwnX.nil _ _, OwnX.nil _ _, OwnX.nil _ _⟩, ⟨zero_ok, Int.le_refl _, Int.le_refl _, (fun f hf => by cases hf), by decide⟩, HB0.out⟩
  case round =>
    obtain ⟨k, C, r, h, a, fs, hk, hk60, rfl, rfl, hC, hR, hI, hb⟩ := hrel
    have HC := Lib.hid hC
    have HR := Lib.hid hR
    have HI := Lib.hid hI
    have HB := Lib.hid hb
    by_cases hlt : k < len ∧ k < 60
    · obtain ⟨hl1, hl2⟩ := hlt
      have q1 : (k : Int) < (len : Int) := by omega
      have q1' : decide ((k : Int) < (len : Int)) = true := decide_eq_true q1
      have q2 : (k : Int) < 60 := by omega
      have q3 : k < len := by omega
      have HKK : Hid (k + 1 ≤ len ∧ k + 1 ≤ 60) := Lib.hid (by omega)
      obtain ⟨s, hs⟩ : ∃ s, Z[k]? = some s := ⟨_, List.getElem?_eq_getElem (by rw [← HL.out]; exact hl1)⟩
      obtain ⟨b, o, rfl, hg, c0⟩ := at1 HZ.out rfl hs rfl
      have c0 := (hb.cell (p := ⟨b, o + k, none⟩) hg).trans c0
      obtain ⟨z, hz, SZ⟩ := short_any s 60
      have SZ := Lib.hid SZ
      clear hC hR hI hb hs
      go_wp2_with fail
      refine (SZ.out _).mono ?_
      rintro e w2 ⟨rfl, rfl⟩
      clear c0
      have HF1 := Lib.hid (floor_any (r := r) (h := h) (a := a) (ep := C.epoch) HR.out.f.rd HI.out.ok.f (n := nt) (by omega) HI.out.ok.fz)
      obtain ⟨e0, e1, e2, e3, e4⟩ := c5 HC.out
      go_wp2_with fail
      refine HF1.out.mono ?_
      rintro e w3 ⟨rfl, hb3⟩
      have HB3 := Lib.hid hb3
      clear hb3 e0 e1 e2 e3 e4
      have HF2 := Lib.hid (floor_any (r := r) (h := h) (a := a) (ep := C.epoch) (HR.out.f.rd.below HB3.out) HI.out.ok.f (n := mt) (by omega) HI.out.ok.fz)
      obtain ⟨e0, e1, e2, e3, e4⟩ := c5 (HC.out.below HB3.out)
      go_wp2_with fail
      refine HF2.out.mono ?_
      rintro e w4 ⟨rfl, hb4⟩
      have HB4 := Lib.hid (HB3.out.trans (hb4.mono HB3.out.size))
      clear hb4 e0 e1 e2 e3 e4
      by_cases hzc : chk (bl z) = 0
      · have HZC := Lib.hid hzc
        have HCA := Lib.hid (fl_cases HI.out hzc (bl nt))
        have HCB := Lib.hid (fl_cases HI.out hzc (bl mt))
        have HI5 := Lib.hid (HI.out.step (z := z) (by omega))
        have HAP := Lib.hid (apply_flush (HR.out.rd.below HB4.out) HI.out.ok ⟨HI.out.e0, by have := HI.out.e1; omega⟩ hzc (by omega))
        obtain ⟨e0, e1, e2, e3, e4⟩ := c5 (HC.out.below HB4.out)
        have HE1 : Hid (wrap64 (C.epoch + 1) = C.epoch + 1) := Lib.hid (by have := HI.out.e0; have := HI.out.e1; unfold wrap64; omega)
        go_wp2_with fail
        refine HAP.out.mono ?_
        rintro e w5 ⟨r5, h5, a5, f5, rfl, ho5, hb5⟩
        obtain ⟨D, hD⟩ : ∃ D, D = flC C z := ⟨_, rfl⟩
        have HDE : Hid (D.epoch = C.epoch + 1) := Lib.hid (by rw [hD]; rfl)
        rw [← hD] at ho5 HCA HCB HI5
        obtain ⟨⟨x1, y1, rfl⟩, ⟨x2, y2, rfl⟩, ⟨x3, y3, rfl⟩, ⟨x4, y4, rfl⟩⟩ := ho5.rd.shape
        obtain ⟨l1, hl1⟩ : ∃ l, l = D.ring.length := ⟨_, rfl⟩
        obtain ⟨l2, hl2⟩ : ∃ l, l = D.hints.length := ⟨_, rfl⟩
        obtain ⟨l3, hl3⟩ : ∃ l, l = D.anchors.length := ⟨_, rfl⟩
        obtain ⟨l4, hl4⟩ : ∃ l, l = D.flushes.length := ⟨_, rfl⟩
        have HL4 := Lib.hid hl4
        rw [← hl1, ← hl2, ← hl3, ← hl4] at ho5 ⊢
        rw [← HDE.out]
        obtain ⟨E, hE⟩ : ∃ E, E = D.epoch := ⟨_, rfl⟩
        have HE := Lib.hid hE
        have hbn := one_new w5 (.cells #[.slice x1 l1 y1, .slice x2 l2 y2, .slice x3 l3 y3, it E, .slice x4 l4 y4] 29)
        have HC5 := Lib.hid (Ce.new w5 29 #[.slice x1 l1 y1, .slice x2 l2 y2, .slice x3 l3 y3, it E, .slice x4 l4 y4])
        have HO5 := Lib.hid ((ho5.below hbn).weak (base' := 0) (Nat.zero_le _))
        have HR5 := Lib.hid (ho5.rd.below hbn)
        have HB5 := Lib.hid ((HB4.out.trans (hb5.mono HB4.out.size)).trans (hbn.mono (HB4.out.trans (hb5.mono HB4.out.size)).size))
        have HCB5 := Lib.hid (HC.out.below HB5.out)
        rw [← hE]
        clear ho5 hb5 hbn hl1 hl2 hl3 hl4 hE hD e0 e1 e2 e3 e4 hzc
        go_upto_region 13 with fail
        generalize w5.alloc _ = w6 at *
        obtain ⟨db, hdb⟩ : ∃ d, d = w5.heap.size := ⟨_, rfl⟩
        rw [← hdb] at HC5 ⊢
        clear hdb
        go_wp2_with fail
        refine (rcheck_any z (by omega) w6).mono ?_
        rintro e w7 ⟨rfl, hb7⟩
        rw [show chk z.data.toList = 0 from HZC.out]
        have HB7 := Lib.hid (HB5.out.trans (hb7.mono HB5.out.size))
        have HC7 := Lib.hid (HC5.out.below hb7)
        have HR7 := Lib.hid (HR5.out.below hb7)
        have HO7 := Lib.hid (HO5.out.below hb7)
        have HCB7 := Lib.hid (HCB5.out.below hb7)
        have hE1 : wrap64 (C.epoch + 1) = E := HE1.out.trans (HDE.out.symm.trans HE.out.symm)
        have hlf : Hid (D.flushes.length ≤ 1000) := Lib.hid (by have := HI5.out.len; omega)
        have HD := Lib.hid (fun W (hb : Below w7.heap.size w7 W) => floor_any (r := .slice x1 l1 y1) (h := .slice x2 l2 y2) (a := .slice x3 l3 y3) (ep := E) (HR7.out.f.below hb) hlf.out (n := nt) (by omega) HI5.out.ok.fz)
        have HD2 := Lib.hid (fun W (hb : Below w7.heap.size w7 W) => floor_any (r := .slice x1 l1 y1) (h := .slice x2 l2 y2) (a := .slice x3 l3 y3) (ep := E) (HR7.out.f.below hb) hlf.out (n := mt) (by omega) HI5.out.ok.fz)
        obtain ⟨e0, e1, e2, e3, e4⟩ := c5 HC7.out
        clear hb7
        go_wp2_with fail
        refine (HD.out _ (Below.refl _ _)).mono ?_
        rintro e w8 ⟨rfl, hb8⟩
        have HB8 := Lib.hid hb8
        obtain ⟨e0, e1, e2, e3, e4⟩ := c5 (HC7.out.below hb8)
        clear hb8
        go_wp2_with fail
        refine (HD2.out _ HB8.out).mono ?_
        rintro e w9 ⟨rfl, hb9⟩
        have HB9 := Lib.hid (HB8.out.trans (hb9.mono HB8.out.size))
        clear hb9 e0 e1 e2 e3 e4
        go_wp2_with fail
        refine (runder_any nt z (by omega) (by omega) w9).mono ?_
        rintro e w10 ⟨rfl, hb10⟩
        have HB10 := Lib.hid (HB9.out.trans (hb10.mono HB9.out.size))
        clear hb10
        go_wp2_with fail
        refine (runder_any mt z (by omega) (by omega) w10).mono ?_
        rintro e w11 ⟨rfl, hb11⟩
        have HB11 := Lib.hid (HB10.out.trans (hb11.mono HB10.out.size))
        have HC11 := Lib.hid (HC7.out.below HB11.out)
        obtain ⟨e0, e1, e2, e3, e4⟩ := c5 HC11.out
        clear hb11
        have HPA : Hid (flr C.flushes (bl nt) ≤ C.epoch) := Lib.hid (flr_le HI.out.e0 HI.out.past _)
        have HPB : Hid (flr C.flushes (bl mt) ≤ C.epoch) := Lib.hid (flr_le HI.out.e0 HI.out.past _)
        have HCA' := HCA.out
        have HCB' := HCB.out
        rw [← HL4.out, ← HDE.out, ← HE.out] at HCA' HCB'
        have HEC : Hid (C.epoch < E) := Lib.hid (by have h1 := HE.out; have h2 := HDE.out; omega)
        have HLX : Hid (l4 ≤ 32) := Lib.hid (by have h1 := HL4.out; have h2 := HI5.out.len; omega)
        have t1 : decide ((32 : Int) < (l4 : Int)) = false := decide_eq_false (by have := HLX.out; omega)
        have t2 : decide (32 < l4) = false := decide_eq_false (by have := HLX.out; omega)
        go_upto_region 22 with fail
        generalize flr C.flushes (bl nt) = fa at *
        generalize flr C.flushes (bl mt) = fb at *
        rw [show und nt.data.toList z.data.toList = und (bl nt) (bl z) from rfl, show und mt.data.toList z.data.toList = und (bl mt) (bl z) from rfl]
        generalize und (bl nt) (bl z) = one at *
        generalize und (bl mt) (bl z) = two at *
        generalize flr D.flushes (bl nt) = fp at *
        generalize flr D.flushes (bl mt) = fq at *
        have t3 : (E != fa) = true := by have := HPA.out; have := HEC.out; simp; omega
        have t4 : (E != fb) = true := by have := HPB.out; have := HEC.out; simp; omega
        obtain ⟨b1, hb1⟩ : ∃ b, b = ((l4 : Int) == 1) := ⟨_, rfl⟩
        replace HCA' : (one = true ∧ fp = E) ∨ (one = false ∧ fp = fa) ∨ (one = false ∧ b1 = true ∧ fp = E) := HCA'.imp id (Or.imp id fun h => ⟨h.1, by rw [hb1, h.2.1]; rfl, h.2.2⟩)
        replace HCB' : (two = true ∧ fq = E) ∨ (two = false ∧ fq = fb) ∨ (two = false ∧ b1 = true ∧ fq = E) := HCB'.imp id (Or.imp id fun h => ⟨h.1, by rw [hb1, h.2.1]; rfl, h.2.2⟩)
        rw [← hb1]
        clear hb1
        have hu : ∀ b : Bool, ¬ (some undef = some (Value.bool b)) := fun b h => by cases h
        clear hg hz hl1 hl2 hk hk60 q1 q1' q2 q3 c0 hnt hmt hE1
        go_cut [142] from 77 to 142 (fun v wx => v = .bool false ∧ w11 = wx)
        case first =>
          rcases HCA' with ⟨rfl, rfl⟩ | ⟨rfl, rfl⟩ | ⟨rfl, rfl, rfl⟩ <;> rcases HCB' with ⟨rfl, rfl⟩ | ⟨rfl, rfl⟩ | ⟨rfl, h1, rfl⟩
          all_goals try (first | (subst h1) | (clear h1))
          all_goals
            go_wp2
            go_meet
            exact ⟨rfl, rfl⟩
        case rest =>
          obtain ⟨rfl, rfl⟩ := hcut
          have HCB11 := Lib.hid (HCB7.out.below HB11.out)
          have HO11 := Lib.hid (HO7.out.below HB11.out)
          obtain ⟨g0, g1, g2, g3, g4⟩ := c5 HCB11.out
          obtain ⟨f0, f1, f2, f3, f4⟩ := f5 HCB11.out
          have HBF : Hid (Below w.heap.size w w11) := Lib.hid (HB.out.trans ((HB7.out.trans (HB11.out.mono HB7.out.size)).mono HB.out.size))
          have hkk : k + 1 ≤ len ∧ k + 1 ≤ 60 := HKK.out
          go_wp2
          go_roundw
          case rel =>
            refine ⟨k + 1, D, _, _, _, _, hkk.1, hkk.2, by go_num, by rw [← HE.out], ?_, HO11.out.set5 HCB11.out _ _ _ _ _, HI5.out, set5_below HBF.out HWN.out _ _ _ _ _⟩
            rw [← HE.out]
            exact set5_ce HCB11.out _ _ _ _ _
          case measure => simp [intOf]; omega
      · have HZC := Lib.hid hzc
        have HAP := Lib.hid (apply_flush_no (HR.out.rd.below HB4.out) HI.out.ok hzc (by omega))
        obtain ⟨e0, e1, e2, e3, e4⟩ := c5 (HC.out.below HB4.out)
        go_wp2_with fail
        refine HAP.out.mono ?_
        rintro e w5 ⟨r5, h5, a5, f5, rfl, ho5, hb5⟩
        obtain ⟨⟨x1, y1, rfl⟩, ⟨x2, y2, rfl⟩, ⟨x3, y3, rfl⟩, ⟨x4, y4, rfl⟩⟩ := ho5.rd.shape
        generalize C.ring.length = l1
        generalize C.hints.length = l2
        generalize C.anchors.length = l3
        generalize C.flushes.length = l4
        have hbn := one_new w5 (.cells #[.slice x1 l1 y1, .slice x2 l2 y2, .slice x3 l3 y3, it C.epoch, .slice x4 l4 y4] 29)
        have HB5 := Lib.hid ((HB4.out.trans (hb5.mono HB4.out.size)).trans (hbn.mono (HB4.out.trans (hb5.mono HB4.out.size)).size))
        have hne : (chk z.data.toList == 0) = false := by simpa using hzc
        have hne' : (chk z.data.toList != 0) = true := by simpa using hzc
        have hkk : k + 1 ≤ len ∧ k + 1 ≤ 60 := HKK.out
        clear ho5 hb5 hbn hzc e0 e1 e2 e3 e4
        go_upto_region 13 with fail
        generalize w5.alloc _ = w6 at *
        go_wp2_with fail
        refine (rcheck_any z (by omega) w6).mono ?_
        rintro e w7 ⟨rfl, hb7⟩
        have HB7 := Lib.hid (HB5.out.trans (hb7.mono HB5.out.size))
        clear hb7
        generalize chk z.data.toList = cz at *
        go_wp2
        go_roundw
        case rel => exact ⟨k + 1, C, _, _, _, _, hkk.1, hkk.2, by go_num, rfl, HC.out.below HB7.out, HR.out.below HB7.out, HI.out.mono, HB.out.trans (HB7.out.mono HB.out.size)⟩
        case measure => simp [intOf]; omega
    · have HBF := Lib.hid hb
      clear hC hR hI hb
      by_cases hl1 : k < len
      · have hk60' : k = 60 := by omega
        subst hk60'
        have q1 : decide (((60 : Nat) : Int) < (len : Int)) = true := decide_eq_true (by omega)
        have q1' : ((60 : Int)) < (len : Int) := by omega
        have q3 : (60 : Nat) < len := hl1
        clear hlt
        go_wp2
        go_ret
        exact ⟨rfl, HBF.out⟩
      · have q1 : decide ((k : Int) < (len : Int)) = false := decide_eq_false (by omega)
        have q1' : decide (k < len) = false := decide_eq_false hl1
        clear hlt
        go_wp2
        go_ret
        exact ⟨rfl, HBF.out⟩
end Go.Proofs.Ytjoplnkagfkffaa
