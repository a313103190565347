/-
  An anchor in place of the one of its name.
-/
import Derived.Test.YtjoplnkagfkffaaInsertA
import Derived.Test.YtjoplnkagfkffaaInsA
namespace Go.Proofs.Ytjoplnkagfkffaa
open Go.RowKit
theorem ent53 (args : Array Value) (w : World) : (callFunc 53 args).run Try.prog w = .ok (.enter 53 args) w := enters Try.func53 (by kernel_rfl) (by kernel_rfl) args w
theorem ent49 (args : Array Value) (w : World) : (callFunc 49 args).run Try.prog w = .ok (.enter 49 args) w := enters Try.func49 (by kernel_rfl) (by kernel_rfl) args w
set_option maxRecDepth 100000 in
set_option maxHeartbeats 3200000 in
theorem insertA_any {w : World} {base : Nat} {v : Value} {L : List An} {t : An} (h : OwnX elA w base v L) (hl : L.length ≤ 1000) (hs : Srt L) (hz : ∀ x ∈ L, x.name.size ≤ 1000000) (ht : t.name.size ≤ 1000000) (hbase : base ≤ w.heap.size) :
    Calls Try.prog 52 #[v, t.v, .func (.func 53) #[] #[]] w fun e w' => ∃ v', e = .returned v' ∧ OwnX elA w' base v' (insA L t) ∧ Tr (fun b => v.ownBlock = some b) w w' := by
  obtain ⟨a, cap, rfl, _⟩ := h.shape
  have hb0 := one_new w (.cells #[.string t.name, .string t.text] 43)
  have HT := Lib.hid (Ce.new w 43 #[.string t.name, .string t.text])
  have HB := Lib.hid (binA_any (h.rd.below hb0) hl t 53 (fun x => cmA x t) (posA L t) (posA_le L t) ent53 (fun W x hx _ => cmpA_any (hz x hx) ht W)
    (fun j x hj hlt => posA_lt hj hlt) (fun j x hj hge => posA_ge hs hj hge))
  have HB0 := Lib.hid hb0
  have HO := Lib.hid (h.below hb0)
  have HOW := Lib.hid h
  have HS : Hid (base ≤ w.heap.size) := Lib.hid hbase
  have HL : Hid (posA L t ≤ L.length ∧ L.length ≤ 1000) := Lib.hid ⟨posA_le L t, hl⟩
  have HE : Hid (L.take (posA L t) ++ [t] ++ L.drop (posA L t) = insA L t) := Lib.hid rfl
  generalize insA L t = M at *
  generalize posA L t = p at *
  obtain ⟨n, hn⟩ : ∃ n, n = L.length := ⟨_, rfl⟩
  rw [← hn] at HB HO HOW ⊢
  clear h hl hs hz ht hbase hb0 hn
  go_enter Try.func52, Try.ntmps52
  go_upto_region 1 with fail
  generalize w.alloc _ = wA at *
  obtain ⟨tb, htb⟩ : ∃ tb, tb = w.heap.size := ⟨_, rfl⟩
  rw [← htb] at HT ⊢
  clear htb
  obtain ⟨d0, d1⟩ := c2 HT.out
  go_wp2_with fail
  refine HB.out.mono ?_
  rintro e w2 ⟨b, rfl, hb⟩
  obtain ⟨d0, d1⟩ := c2 (HT.out.below hb)
  have hbn := one_new w2 (.cells #[.string t.name, .string t.text] 43)
  have HB3 : Hid (Below wA.heap.size wA (w2.alloc (.cells #[.string t.name, .string t.text] 43))) := Lib.hid (hb.trans (hbn.mono hb.size))
  have HI := Lib.hid (insA_any (x := t) (V := w2.heap.size) (xs := #[.string t.name, .string t.text]) (HO.out.below HB3.out) (i := p) HL.out.1 HL.out.2 (Ce.new w2 43 #[.string t.name, .string t.text]) rfl
    (fun e => by have := (HO.out.below hb).block _ e; omega) (by have h1 := HB0.out.size; have h2 := HB3.out.size; have h3 := HS.out; omega))
  rw [HE.out] at HI
  clear hb hbn
  go_wp2_with fail
  refine HI.out.mono ?_
  rintro e w4 ⟨v', rfl, ho, ht⟩
  have HO4 := Lib.hid ho
  have HT4 : Hid (Tr (fun b => (Value.slice a n cap).ownBlock = some b) w w4) := Lib.hid ((Tr.of_below (HB0.out.trans (HB3.out.mono HB0.out.size))).then ht)
  clear ho ht
  go_wp2
  go_ret
  exact ⟨_, rfl, HO4.out, HT4.out⟩
set_option maxRecDepth 100000 in
set_option maxHeartbeats 3200000 in
theorem same49_any {w : World} {b : Nat} {t x : An} (hb : Ce w b 43 #[.string t.name, .string t.text]) (hx : x.name.size ≤ 1000000) (ht : t.name.size ≤ 1000000) :
    Calls Try.prog 49 (#[x.v] ++ #[ptr b]) w fun e w' => e = .returned (.bool (sam (bl t.name) (bl x.name))) ∧ Below w.heap.size w w' := by
  have hbA := one_new w (.cells #[.string x.name, .string x.text] 43)
  have HB := Lib.hid hbA
  obtain ⟨c0, c1⟩ := c2 (hb.below hbA)
  have HU := Lib.hid (same_any t.name x.name ht hx (w.alloc (.cells #[.string x.name, .string x.text] 43)))
  clear hbA hb
  show Calls Try.prog 49 #[.agg #[.string x.name, .string x.text], ptr b] w _
  go_enter Try.func49, Try.ntmps49
  go_wp2_with fail
  refine HU.out.mono ?_
  rintro e w2 ⟨rfl, hb2⟩
  have HB2 := Lib.hid (HB.out.trans (hb2.mono HB.out.size))
  clear hb2
  go_wp2
  go_ret
  exact ⟨rfl, HB2.out⟩
/-- The anchors of other names. -/
def keptA (L : List An) (t : An) : List An := L.filter fun x => !sam (bl t.name) (bl x.name)
def setE (L : List An) (t : An) : Int := if em t.text then 0 else if 16 ≤ (keptA L t).length then 15 else 0
/-- The anchors behind an order. -/
def setL (L : List An) (t : An) : List An := if em t.text then keptA L t else if 16 ≤ (keptA L t).length then L else insA (keptA L t) t
def ancC (C : Cf) (L : List An) : Cf := ⟨C.ring, C.hints, L, C.epoch, C.flushes⟩
set_option maxRecDepth 100000 in
set_option maxHeartbeats 6400000 in
theorem setAnchor_any {w : World} {B base : Nat} {r h a fs : Value} {C : Cf} {t : An} (hC : Ce w B 29 #[r, h, a, it C.epoch, fs]) (hO : OwnC w base r h a fs C) (hok : C.Ok) (hs : Srt C.anchors) (htn : t.name.size ≤ 1000000) (hB : base ≤ B) (hbase : base ≤ w.heap.size) :
    Calls Try.prog 33 #[ptr B, t.v] w (Post B base (setE C.anchors t) (ancC C (setL C.anchors t)) w) := by
  obtain ⟨tn, tt⟩ := t
  have hb := one_new w (.cells #[.string tn, .string tt] 43)
  have HAB := Lib.hid (Ce.new w 43 #[.string tn, .string tt])
  have HC := Lib.hid (hC.below hb)
  have HO := Lib.hid (hO.below hb)
  have HNB : Hid (B < w.heap.size) := Lib.hid hC.lt
  have HNA : Hid (∀ k, a.ownBlock = some k → base ≤ k ∧ k < w.heap.size) := Lib.hid (fun k hk => hO.a.block k hk)
  have HT : Hid (Tr (fun b => b = B ∨ a.ownBlock = some b) w (w.alloc (.cells #[.string tn, .string tt] 43))) := Lib.hid (Tr.of_below hb)
  have HTB : Hid (∀ w', Tr (fun b => b = B ∨ a.ownBlock = some b) w w' → Below base w w') := Lib.hid (fun w' ht => ht.below hbase (fun k hk => by rcases hk with rfl | hk; exact hB; exact (hO.a.block k hk).1))
  have HBS : Hid (base ≤ w.heap.size) := Lib.hid hbase
  obtain ⟨xa, xc, rfl, _⟩ := hO.a.shape
  obtain ⟨ab, hab⟩ : ∃ ab, ab = w.heap.size := ⟨_, rfl⟩
  have HABE := Lib.hid hab
  obtain ⟨er, her⟩ : ∃ er, er = setE C.anchors ⟨tn, tt⟩ := ⟨_, rfl⟩
  obtain ⟨M, hM⟩ : ∃ M, M = setL C.anchors ⟨tn, tt⟩ := ⟨_, rfl⟩
  rw [← her, ← hM]
  have HER := Lib.hid her
  have HM := Lib.hid hM
  have HOK := Lib.hid hok
  have HS := Lib.hid hs
  have HTN : Hid (tn.size ≤ 1000000) := Lib.hid htn
  obtain ⟨n, hn⟩ : ∃ n, n = C.anchors.length := ⟨_, rfl⟩
  rw [← hn] at HC HO HNA HT HTB
  clear hb hC hO hok hs htn hB hbase her hM hn
  have hmf : ∀ (fn : Fn) (first cap : Array Value) (w : World), (Instr.makeFunc fn first cap).run Try.prog w = .ok (.func fn first cap) w := fun _ _ _ _ => rfl
  show Calls Try.prog 33 #[ptr B, .agg #[.string tn, .string tt]] w _
  go_enter Try.func33, Try.ntmps33
  go_upto_region 1 with fail
  generalize w.alloc _ = wA at *
  rw [← hab] at HAB HNB HNA ⊢
  clear hab
  have HNE : Hid ((Value.slice xa n xc).ownBlock ≠ some ab) := Lib.hid (fun e => by have := HNA.out _ e; omega)
  have HNC := Lib.hid (HO.out.a.ne HC.out (by decide))
  have HDEL := Lib.hid (show Calls Try.prog 51 #[.slice xa n xc, .func (.func 49) #[] #[ptr ab]] wA (fun e w' => ∃ v', e = .returned v' ∧ OwnX elA w' base v' (keptA C.anchors ⟨tn, tt⟩) ∧ v'.ownBlock = (Value.slice xa n xc).ownBlock ∧ Tr (fun b => (Value.slice xa n xc).ownBlock = some b) wA w') from delA_any HO.out.a (by have := HOK.out.a; omega) 49 #[ptr ab] (fun x => sam (bl tn) (bl x.name)) ent49 (fun W x hx hT => same49_any (t := ⟨tn, tt⟩) (HAB.out.tr hT (by exact HNE.out)) (HOK.out.an x hx) HTN.out))
  obtain ⟨K, hK⟩ : ∃ K, K = keptA C.anchors ⟨tn, tt⟩ := ⟨_, rfl⟩
  have HKD := Lib.hid hK
  rw [← hK] at HDEL
  clear hK
  obtain ⟨c0, c1, cc2, c3, c4⟩ := c5 HC.out
  go_wp2_with fail
  refine HDEL.out.mono ?_
  rintro e w2 ⟨v2, rfl, ho2, hob2, ht2⟩
  have ht2' : Tr (fun b => b = B ∨ (Value.slice xa n xc).ownBlock = some b) wA w2 := ht2.mono fun k hk => .inr hk
  have HC2 := Lib.hid (HC.out.tr ht2 HNC.out)
  have HA2 := Lib.hid (HAB.out.tr ht2 HNE.out)
  have HO2 : Hid (OwnC w2 base r h v2 fs (ancC C K)) := Lib.hid ⟨HO.out.r.keep HO.out.a HC.out ht2' (by decide) (by decide), HO.out.h.keep HO.out.a HC.out ht2' (by decide) (by decide), ho2, HO.out.f.keep HO.out.a HC.out ht2' (by decide) (by decide)⟩
  have HT2 := Lib.hid (HT.out.then ht2')
  have HOB := Lib.hid hob2
  obtain ⟨ya, yc, rfl, _⟩ := ho2.shape
  obtain ⟨m, hm⟩ : ∃ m, m = K.length := ⟨_, rfl⟩
  have HMM := Lib.hid hm
  have HML : Hid (K.length ≤ 1000 ∧ Srt K ∧ ∀ x ∈ K, x.name.size ≤ 1000000) := Lib.hid (by
    rw [HKD.out]
    exact ⟨Nat.le_trans (List.length_filter_le _ _) HOK.out.a, srt_filter HS.out _, fun x hx => HOK.out.an x (List.mem_filter.1 hx).1⟩)
  rw [← hm] at HO2 HOB ⊢
  clear ho2 hob2 ht2 ht2' hm HDEL HNC HC HO HT HAB c0 c1 cc2 c3 c4
  obtain ⟨c0, c1, cc2, c3, c4⟩ := c5 HC2.out
  obtain ⟨f0, f1, f2, f3, f4⟩ := f5 HC2.out
  go_upto_region 3 with fail
  generalize hwC : World.setCell w2 _ _ = wC
  have HC3 : Hid (Ce wC B 29 #[r, h, .slice ya m yc, it C.epoch, fs]) := Lib.hid (by rw [← hwC]; exact HC2.out.set _ (i := 2))
  have HA3 : Hid (Ce wC ab 43 #[.string tn, .string tt]) := Lib.hid (by rw [← hwC]; exact HA2.out.other (by have := HNB.out; omega) _)
  have HO3 : Hid (OwnC wC base r h (.slice ya m yc) fs (ancC C K)) := Lib.hid (by rw [← hwC]; exact ⟨HO2.out.r.setT HC2.out (by decide) _, HO2.out.h.setT HC2.out (by decide) _, HO2.out.a.setT HC2.out (by decide) _, HO2.out.f.setT HC2.out (by decide) _⟩)
  have HT3 : Hid (Tr (fun b => b = B ∨ (Value.slice xa n xc).ownBlock = some b) w wC) := Lib.hid (by rw [← hwC]; exact HT2.out.setCell (.inl (.inl rfl)) _)
  clear hwC HC2 HA2 HO2 HT2 c0 c1 cc2 c3 c4 f0 f1 f2 f3 f4
  obtain ⟨c0, c1, cc2, c3, c4⟩ := c5 HC3.out
  obtain ⟨d0, d1⟩ := c2 HA3.out
  by_cases he : (tt.toList == []) = true
  · have HR : Hid (er = 0 ∧ M = K) := Lib.hid ⟨by rw [HER.out]; unfold setE em; rw [if_pos he], by rw [HM.out, HKD.out]; unfold setL em; rw [if_pos he]⟩
    go_wp2
    go_ret
    exact ⟨by rw [HR.out.1]; rfl, HTB.out _ HT3.out, fun _ => ⟨_, _, _, _, HC3.out, by rw [HR.out.2]; exact HO3.out⟩⟩
  · have he' : (tt.toList == []) = false := by simpa using he
    by_cases h16 : 16 ≤ m
    · have q1 : decide ((16 : Int) ≤ (m : Int)) = true := decide_eq_true (by omega)
      have q2 : decide (16 ≤ m) = true := decide_eq_true h16
      have HR : Hid (er = 15) := Lib.hid (by rw [HER.out]; unfold setE em; rw [if_neg he, if_pos (by rw [← HKD.out, ← HMM.out]; exact h16)])
      clear he
      go_wp2
      go_ret
      exact ⟨by rw [HR.out]; rfl, HTB.out _ HT3.out, fun h => by rw [HR.out] at h; cases h⟩
    · have q1 : decide ((16 : Int) ≤ (m : Int)) = false := decide_eq_false (by omega)
      have q2 : decide (16 ≤ m) = false := decide_eq_false h16
      have HR : Hid (er = 0 ∧ M = insA K ⟨tn, tt⟩) := Lib.hid ⟨by rw [HER.out]; unfold setE em; rw [if_neg he, if_neg (by rw [← HKD.out, ← HMM.out]; exact h16)], by rw [HM.out, HKD.out]; unfold setL em; rw [if_neg he, if_neg (by rw [← HKD.out, ← HMM.out]; exact h16)]⟩
      clear he
      go_upto_region 7 with fail
      have HI := Lib.hid (insertA_any (w := wC.drew) (t := ⟨tn, tt⟩) (show OwnX elA wC.drew base (.slice ya m yc) K from HO3.out.a) HML.out.1 HML.out.2.1 HML.out.2.2 HTN.out (by have h1 := HBS.out; have h2 := HT3.out.size; show base ≤ wC.heap.size; omega))
      have hcd : Ce wC.drew B 29 #[r, h, .slice ya m yc, it C.epoch, fs] := HC3.out
      have had : Ce wC.drew ab 43 #[.string tn, .string tt] := HA3.out
      have hod : OwnX elA wC.drew base (.slice ya m yc) K := HO3.out.a
      have hr : OwnX elI wC.drew base r C.ring := HO3.out.r
      have hh : OwnX elS wC.drew base h C.hints := HO3.out.h
      have hf : OwnX elF wC.drew base fs C.flushes := HO3.out.f
      have hne := hod.ne hcd (by decide)
      have HNA2 : Hid ((Value.slice ya m yc).ownBlock ≠ some ab) := Lib.hid (fun e => HNE.out (by rw [← HOB.out]; exact e))
      have HP : Hid (∀ (w5 : World) (v5 : Value), OwnX elA w5 base v5 (insA K ⟨tn, tt⟩) → Tr (fun b => (Value.slice ya m yc).ownBlock = some b) wC.drew w5 →
          ∃ za zc, v5 = .slice za (insA K ⟨tn, tt⟩).length zc ∧ Ce w5 B 29 #[r, h, .slice ya m yc, it C.epoch, fs] ∧ Ce w5 ab 43 #[.string tn, .string tt] ∧ OwnC w5 base r h v5 fs (ancC C (insA K ⟨tn, tt⟩)) ∧ Tr (fun b => b = B ∨ (Value.slice xa n xc).ownBlock = some b) w w5) := Lib.hid (fun w5 v5 ho ht => by
        obtain ⟨za, zc, rfl, _⟩ := ho.shape
        have ht' : Tr (fun b => b = B ∨ (Value.slice ya m yc).ownBlock = some b) wC.drew w5 := ht.mono fun k hk => .inr hk
        exact ⟨za, zc, rfl, hcd.tr ht hne, had.tr ht HNA2.out, ⟨hr.keep hod hcd ht' (by decide) (by decide), hh.keep hod hcd ht' (by decide) (by decide), ho, hf.keep hod hcd ht' (by decide) (by decide)⟩, HT3.out.drew.then (by rw [HOB.out] at ht'; exact ht')⟩)
      have H0 : Hid (wC.drew.cell? ⟨ab, 0, none⟩ = some (.string tn) ∧ wC.drew.cell? ⟨ab, 1, none⟩ = some (.string tt)) := Lib.hid ⟨d0, d1⟩
      clear hcd had hod hr hh hf hne
      obtain ⟨N, hN⟩ : ∃ N, N = insA K ⟨tn, tt⟩ := ⟨_, rfl⟩
      rw [← hN] at HP HI HR
      clear hN
      obtain ⟨l, hl⟩ : ∃ l, l = N.length := ⟨_, rfl⟩
      rw [← hl] at HP
      clear hl
      refine wp_region_held_drew (S := fun w' => w'.cell? ⟨ab, 0, none⟩ = some (.string tn) ∧ w'.cell? ⟨ab, 1, none⟩ = some (.string tt)) (by kernel_rfl) H0.out (fun hHeld => ?_)
      refine' wpAnyH_take (i := 0) (v := ?v1) rfl (by kernel_rfl) (by kernel_rfl) (by kernel_rfl) (fun _ _ _ h => h) (Or.inl ⟨by rfl, ?y1⟩) (by assumption) ?r1
      case y1 => (intro w hSw; (try dsimp only at hSw); go_simp; try with_reducible rfl)
      try simp only [Act.put, List.getElem_toArray, List.getElem_cons_zero, List.setIfInBounds_toArray, List.set_cons_zero, List.set_cons_succ]
      refine' wpAnyH_take (i := 1) (v := ?v2) rfl (by kernel_rfl) (by kernel_rfl) (by kernel_rfl) (fun _ _ _ h => h) (Or.inl ⟨by rfl, ?y2⟩) (by assumption) ?r2
      case y2 => (intro w hSw; (try dsimp only at hSw); go_simp; try with_reducible rfl)
      try simp only [Act.put, List.getElem_toArray, List.getElem_cons_succ, List.getElem_cons_zero, List.setIfInBounds_toArray, List.set_cons_zero, List.set_cons_succ]
      refine' wpAnyH_take (i := 5) (v := ?v3) rfl (by kernel_rfl) (by kernel_rfl) (by kernel_rfl) (fun _ _ _ h => h) (Or.inl ⟨by rfl, ?y3⟩) (by assumption) ?r3
      case y3 => (intro w hSw; (try dsimp only at hSw); go_simp; try with_reducible rfl)
      try simp only [Act.put, List.getElem_toArray, List.getElem_cons_succ, List.getElem_cons_zero, List.setIfInBounds_toArray, List.set_cons_zero, List.set_cons_succ]
      refine' wpAnyH_take (i := 2) (v := ?v4) rfl (by kernel_rfl) (by kernel_rfl) (by kernel_rfl) (fun _ _ _ h => h) (Or.inl ⟨by rfl, ?y4⟩) (by assumption) ?r4
      case y4 => (intro w hSw; (try dsimp only at hSw); go_simp; try with_reducible rfl)
      try simp only [Act.put, List.getElem_toArray, List.getElem_cons_succ, List.getElem_cons_zero, List.setIfInBounds_toArray, List.set_cons_zero, List.set_cons_succ]
      refine' wpAnyH_take (i := 3) (v := ?v5) rfl (by kernel_rfl) (by kernel_rfl) (by kernel_rfl) (fun _ _ _ h => h) (Or.inl ⟨by rfl, ?y5⟩) (by assumption) ?r5
      case y5 => (intro w hSw; (try dsimp only at hSw); go_simp; try with_reducible rfl)
      try simp only [Act.put, List.getElem_toArray, List.getElem_cons_succ, List.getElem_cons_zero, List.setIfInBounds_toArray, List.set_cons_zero, List.set_cons_succ]
      refine wpAnyH_ready (rs := [4]) (by kernel_rfl) (by simp) ?_
      refine AllReadyH.cons rfl (fun K hK => ?_) AllReadyH.nil
      go_simp
      refine hK.out _ _ (by first | with_reducible exact H0.out | exact H0.out) (fun hHeld => ?_)
      clear hK K
      try simp only [Act.put, List.getElem_toArray, List.getElem_cons_succ, List.getElem_cons_zero, List.setIfInBounds_toArray, List.set_cons_zero, List.set_cons_succ]
      refine wpAnyH_ready (rs := [6]) (by kernel_rfl) (by simp) ?_
      refine AllReadyH.cons rfl (fun K hK => ?_) AllReadyH.nil
      go_simp
      refine HI.out.mono ?_
      rintro e w5 ⟨v5, rfl, ho, ht⟩
      obtain ⟨za, zc, rfl, hc5, ha5, ho5, ht5⟩ := HP.out w5 v5 ho ht
      have HC5 := Lib.hid hc5
      have HA5 := Lib.hid ha5
      have HO5 := Lib.hid ho5
      have HT5 := Lib.hid ht5
      have HK5 : Hid (w5.cell? ⟨ab, 0, none⟩ = some (.string tn) ∧ w5.cell? ⟨ab, 1, none⟩ = some (.string tt)) := Lib.hid (c2 ha5)
      have f2 := hc5.frozen 2
      have g2 := (c5 hc5).2.2.1
      clear ho ht hc5 ha5 ho5 ht5 c0 c1 cc2 c3 c4 d0 d1
      go_wp2_with fail
      refine hK.out _ _ (by first | with_reducible exact HK5.out | exact HK5.out) (fun hHeld => ?_)
      clear hK K
      try simp only [Act.put, List.getElem_toArray, List.getElem_cons_succ, List.getElem_cons_zero, List.setIfInBounds_toArray, List.set_cons_zero, List.set_cons_succ]
      refine' wpAnyH_take (i := 7) (v := ?v6) rfl (by kernel_rfl) (by kernel_rfl) (by kernel_rfl) (fun _ _ _ h => h) (Or.inl ⟨by rfl, ?y6⟩) (by assumption) ?r6
      case y6 => (intro w hSw; (try dsimp only at hSw); go_simp; try with_reducible rfl)
      try simp only [Act.put, List.getElem_toArray, List.getElem_cons_succ, List.getElem_cons_zero, List.setIfInBounds_toArray, List.set_cons_zero, List.set_cons_succ]
      refine' wpAnyH_take (i := 8) (v := ?v7) rfl (by kernel_rfl) (by kernel_rfl) (by kernel_rfl) (fun _ _ _ h => h) (Or.inl ⟨by rfl, ?y7⟩) (by assumption) ?r7
      case y7 => (intro w hSw; (try dsimp only at hSw); go_simp; try with_reducible rfl)
      try simp only [Act.put, List.getElem_toArray, List.getElem_cons_succ, List.getElem_cons_zero, List.setIfInBounds_toArray, List.set_cons_zero, List.set_cons_succ]
      refine wpAnyH_ready (rs := [9]) (by kernel_rfl) (by simp) ?_
      refine AllReadyH.cons rfl (fun K hK => ?_) AllReadyH.nil
      go_simp
      have HA6 : Hid (Ce (w5.setCell ⟨B, 2, none⟩ (.slice za l zc)) ab 43 #[.string tn, .string tt]) := Lib.hid (HA5.out.other (by have := HNB.out; omega) _)
      refine hK.out _ _ (by first | with_reducible exact c2 HA6.out | exact c2 HA6.out) (fun hHeld => ?_)
      clear hK K
      try simp only [Act.put, List.getElem_toArray, List.getElem_cons_succ, List.getElem_cons_zero, List.setIfInBounds_toArray, List.set_cons_zero, List.set_cons_succ]
      refine wpAnyH_done (by kernel_rfl) ?_ _
      go_wp2
      go_ret
      exact ⟨by rw [HR.out.1]; rfl, HTB.out _ (HT5.out.setCell (.inl (.inl rfl)) _), fun _ => ⟨_, _, _, _, HC5.out.set _ (i := 2), by
        rw [HR.out.2]
        exact ⟨HO5.out.r.setT HC5.out (by decide) _, HO5.out.h.setT HC5.out (by decide) _, HO5.out.a.setT HC5.out (by decide) _, HO5.out.f.setT HC5.out (by decide) _⟩⟩⟩
end Go.Proofs.Ytjoplnkagfkffaa
