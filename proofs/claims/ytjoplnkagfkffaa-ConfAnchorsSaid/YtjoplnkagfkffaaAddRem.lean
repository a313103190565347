/-
  A node put on the ring, or taken off.
-/
import Derived.Test.YtjoplnkagfkffaaRings
namespace Go.Proofs.Ytjoplnkagfkffaa
open Go.RowKit
/-- What is of another type stays where one row, and the configuration's block, turn. -/
theorem OwnX.keep {α β : Type} {E : El α} {E' : El β} {w w2 : World} {base B : Nat} {v v' : Value} {L : List α} {L' : List β} {cs : Array Value} (h : OwnX E' w base v' L') (ho : OwnX E w base v L) (hc : Ce w B 29 cs) (ht : Tr (fun b => b = B ∨ v.ownBlock = some b) w w2)
    (h1 : E'.e ≠ E.e) (h2 : E'.e ≠ 29) : OwnX E' w2 base v' L' := by
  refine h.tr ht (fun g cs hg hv => ?_)
  rintro (rfl | hfs)
  · exact Ce.ne (show Ce w g E'.e cs from hg) hc h2 rfl
  · rcases ho.2 with ⟨e, _⟩ | ⟨g', cap', cur, e, _, hg', _⟩
    · rw [e] at hfs; cases hfs
    · rw [e] at hfs
      have e2 : g' = g := by simpa [Value.ownBlock] using hfs
      subst e2
      exact Ce.ne (show Ce w g' E'.e cs from hg) (show Ce w g' E.e cur from hg') h1 rfl
theorem ent46 (args : Array Value) (w : World) : (callFunc 46 args).run Try.prog w = .ok (.enter 46 args) w := enters Try.func46 (by kernel_rfl) (by kernel_rfl) args w
theorem cmpI_neg {a b : Int} (h : a < b) : cmpI a b < 0 := by unfold cmpI; rw [if_pos h]; decide
theorem cmpI_pos {a b : Int} (h : b ≤ a) : 0 ≤ cmpI a b := by unfold cmpI; rw [if_neg (by omega)]; split <;> decide
set_option maxRecDepth 100000 in
set_option maxHeartbeats 3200000 in
theorem insertI_any {w : World} {base : Nat} {v : Value} {A B : List Int} {t : Int} (h : OwnX elI w base v (A ++ B)) (hl : (A ++ B).length ≤ 1000) (h1 : ∀ x ∈ A, x < t) (h2 : ∀ x ∈ B, t ≤ x) (hbase : base ≤ w.heap.size) :
    Calls Try.prog 45 #[v, it t, .func (.func 46) #[] #[]] w fun e w' => ∃ v', e = .returned v' ∧ OwnX elI w' base v' (A ++ [t] ++ B) ∧ Tr (fun b => v.ownBlock = some b) w w' := by
  obtain ⟨a, cap, rfl, _⟩ := h.shape
  have HB := Lib.hid (binI_any h.rd hl t 46 (fun x => cmpI x t) A.length (by simp) ent46 (fun W x _ _ => (cmp_anyI x t W).mono fun e w' ⟨h1, h2⟩ => ⟨h1, h2 ▸ Below.refl _ _⟩)
    (fun j x hj hlt => cmpI_neg (h1 x (by rw [List.getElem?_append_left hlt] at hj; exact List.mem_of_getElem? hj)))
    (fun j x hj hge => cmpI_pos (h2 x (by rw [List.getElem?_append_right hge] at hj; exact List.mem_of_getElem? hj))))
  have HO := Lib.hid h
  have HL0 : Hid (A.length + B.length ≤ 1000) := Lib.hid (by simpa using hl)
  have HS := Lib.hid hbase
  have HTK : Hid ((A ++ B).take A.length = A ∧ (A ++ B).drop A.length = B) := Lib.hid ⟨List.take_left, List.drop_left⟩
  have HAL : Hid (A.length ≤ (A ++ B).length) := Lib.hid (by simp)
  generalize (A ++ B).length = n at *
  obtain ⟨p, hp⟩ : ∃ p, p = A.length := ⟨_, rfl⟩
  have HP := Lib.hid hp
  rw [← hp] at HB
  clear h hl hbase h1 h2 hp
  go_enter Try.func45, Try.ntmps45
  go_wp2_with fail
  refine HB.out.mono ?_
  rintro e w2 ⟨b, rfl, hb⟩
  have hbn := one_new w2 (.cells #[it t] 3)
  have HB3 := Lib.hid (hb.trans (hbn.mono hb.size))
  have HI := Lib.hid (insI_any (x := t) (V := w2.heap.size) (xs := #[it t]) (HO.out.below HB3.out) (i := p) (by rw [HP.out]; simp) (by rw [List.length_append]; exact HL0.out) (Ce.new w2 3 #[it t]) rfl
    (fun e => by have := (HO.out.below hb).block _ e; omega) (Nat.le_trans HS.out HB3.out.size))
  clear hb hbn
  go_wp2_with fail
  refine HI.out.mono ?_
  rintro e w4 ⟨v', rfl, ho, ht⟩
  have HO4 := Lib.hid ho
  have HT4 := Lib.hid ((Tr.of_below HB3.out).then ht)
  clear ho ht
  go_wp2
  go_ret
  exact ⟨_, rfl, by have := HO4.out; rw [HP.out, HTK.out.1, HTK.out.2] at this; exact this, HT4.out⟩
theorem insertI_of {w : World} {base : Nat} {v : Value} {L A B : List Int} {t : Int} (hL : L = A ++ B) (h : OwnX elI w base v L) (hl : L.length ≤ 1000) (h1 : ∀ x ∈ A, x < t) (h2 : ∀ x ∈ B, t ≤ x) (hbase : base ≤ w.heap.size) :
    Calls Try.prog 45 #[v, it t, .func (.func 46) #[] #[]] w fun e w' => ∃ v', e = .returned v' ∧ OwnX elI w' base v' (A ++ [t] ++ B) ∧ Tr (fun b => v.ownBlock = some b) w w' := by
  subst hL
  exact insertI_any h hl h1 h2 hbase
set_option maxRecDepth 100000 in
set_option maxHeartbeats 3200000 in
theorem addNode_new {w : World} {B base : Nat} {r h a fs : Value} {ep : Int} {C : Cf} {L1 L2 : List Int} {t : Int} (hC : Ce w B 29 #[r, h, a, it ep, fs]) (hO : OwnC w base r h a fs C) (hr : C.ring = L1 ++ L2) (hl : C.ring.length ≤ 1000) (h1 : ∀ x ∈ L1, x < t) (h2 : ∀ x ∈ L2, t < x) (hbase : base ≤ w.heap.size) :
    Calls Try.prog 31 #[ptr B, it t] w fun e w' => e = .returned (it 0) ∧ ∃ r', Ce w' B 29 #[r', h, a, it ep, fs] ∧ OwnC w' base r' h a fs ⟨L1 ++ [t] ++ L2, C.hints, C.anchors, C.epoch, C.flushes⟩ ∧ Tr (fun b => b = B ∨ r.ownBlock = some b) w w' := by
  obtain ⟨xa, xc, rfl, _⟩ := hO.r.shape
  have hany : (C.ring.any fun x => decide (t = x)) = false := by
    rw [hr, List.any_eq_false]
    intro x hx
    rcases List.mem_append.1 hx with hx | hx
    · have := h1 x hx; simp; omega
    · have := h2 x hx; simp; omega
  have HH := Lib.hid (has_any hO.r.rd (by omega) t)
  rw [hany] at HH
  have HC := Lib.hid hC
  have HO := Lib.hid hO
  have HI := Lib.hid (fun W (hb : Below w.heap.size w W) => insertI_of (t := t) hr (hO.r.below hb) hl h1 (fun x hx => Int.le_of_lt (h2 x hx)) (Nat.le_trans hbase hb.size))
  obtain ⟨n, hn⟩ : ∃ n, n = C.ring.length := ⟨_, rfl⟩
  rw [← hn] at HH HC HO HI ⊢
  obtain ⟨c0, c1, c2, c3, c4⟩ := c5 hC
  rw [← hn] at c0
  clear hC hO hr hl h1 h2 hbase hany hn
  go_enter Try.func31, Try.ntmps31
  go_wp2_with fail
  refine HH.out.mono ?_
  rintro e w2 ⟨rfl, hb⟩
  have HC2 := Lib.hid (HC.out.below hb)
  have HO2 := Lib.hid (HO.out.below hb)
  have HI2 := Lib.hid (HI.out _ hb)
  have HB := Lib.hid hb
  clear hb c0 c1 c2 c3 c4
  obtain ⟨c0, c1, c2, c3, c4⟩ := c5 HC2.out
  go_wp2_with fail
  refine HI2.out.mono ?_
  rintro e w3 ⟨v', rfl, ho, ht⟩
  obtain ⟨ya, yc, rfl, _⟩ := ho.shape
  obtain ⟨m, hm⟩ : ∃ m, m = (L1 ++ [t] ++ L2).length := ⟨_, rfl⟩
  have hne := HO2.out.r.ne HC2.out (by decide)
  have HC3 := Lib.hid (HC2.out.tr ht hne)
  have ht' : Tr (fun b => b = B ∨ (Value.slice xa n xc).ownBlock = some b) w2 w3 := ht.mono fun k hk => .inr hk
  have HO3 : Hid (OwnC w3 base (.slice ya m yc) h a fs ⟨L1 ++ [t] ++ L2, C.hints, C.anchors, C.epoch, C.flushes⟩) := Lib.hid ⟨by rw [hm]; exact ho, HO2.out.h.keep HO2.out.r HC2.out ht' (by decide) (by decide), HO2.out.a.keep HO2.out.r HC2.out ht' (by decide) (by decide), HO2.out.f.keep HO2.out.r HC2.out ht' (by decide) (by decide)⟩
  have HT3 : Hid (Tr (fun b => b = B ∨ (Value.slice xa n xc).ownBlock = some b) w w3) := Lib.hid ((Tr.of_below HB.out).then ht')
  rw [← hm]
  clear ho ht ht' hne hm c0 c1 c2 c3 c4
  obtain ⟨c0, c1, c2, c3, c4⟩ := c5 HC3.out
  obtain ⟨f0, f1, f2, f3, f4⟩ := f5 HC3.out
  go_wp2
  go_ret
  exact ⟨rfl, _, HC3.out.set _ (i := 0), ⟨HO3.out.r.setT HC3.out (by decide) _, HO3.out.h.setT HC3.out (by decide) _, HO3.out.a.setT HC3.out (by decide) _, HO3.out.f.setT HC3.out (by decide) _⟩, HT3.out.setCell (.inl (.inl rfl)) _⟩
set_option maxRecDepth 100000 in
set_option maxHeartbeats 3200000 in
theorem addNode_old {w : World} {B base : Nat} {r h a fs : Value} {ep : Int} {C : Cf} {t : Int} (hC : Ce w B 29 #[r, h, a, it ep, fs]) (hO : OwnC w base r h a fs C) (hl : C.ring.length ≤ 1000) (hm : t ∈ C.ring) :
    Calls Try.prog 31 #[ptr B, it t] w fun e w' => e = .returned (it 13) ∧ Below w.heap.size w w' := by
  obtain ⟨xa, xc, rfl, _⟩ := hO.r.shape
  have hany : (C.ring.any fun x => decide (t = x)) = true := List.any_eq_true.2 ⟨t, hm, by simp⟩
  have HH := Lib.hid (has_any hO.r.rd (by omega) t)
  rw [hany] at HH
  generalize C.ring.length = n at *
  obtain ⟨c0, c1, c2, c3, c4⟩ := c5 hC
  clear hC hO hl hm hany
  go_enter Try.func31, Try.ntmps31
  go_wp2_with fail
  refine HH.out.mono ?_
  rintro e w2 ⟨rfl, hb⟩
  have HB := Lib.hid hb
  clear hb
  go_wp2
  go_ret
  exact ⟨rfl, HB.out⟩
theorem fiI_at {L1 L2 : List Int} {t : Int} (h : ∀ x ∈ L1, x ≠ t) : fiI (fun x => decide (t = x)) (L1 ++ t :: L2) = (L1.length : Int) := by
  have e : fidx (fun x => decide (t = x)) (L1 ++ t :: L2) = L1.length := by
    induction L1 with
    | nil => show (if decide (t = t) = true then 0 else _) = 0; rw [if_pos (by simp)]
    | cons y r ih =>
      show (if decide (t = y) = true then 0 else fidx _ (r ++ t :: L2) + 1) = r.length + 1
      rw [if_neg (by have := h y (List.mem_cons_self ..); simp; exact fun e => this e.symm), ih (fun x hx => h x (List.mem_cons_of_mem _ hx))]
  unfold fiI
  rw [e, if_pos (by simp)]
theorem fiI_none {L : List Int} {t : Int} (h : t ∉ L) : fiI (fun x => decide (t = x)) L = -1 := by
  unfold fiI
  rw [if_neg]
  intro hlt
  obtain ⟨x, hx⟩ : ∃ x, L[fidx (fun x => decide (t = x)) L]? = some x := ⟨_, List.getElem?_eq_getElem hlt⟩
  cases hp : decide (t = x) with
  | true => exact h (of_decide_eq_true hp ▸ List.mem_of_getElem? hx)
  | false => have := fidx_more (p := fun x => decide (t = x)) hx (Nat.le_refl _) hp; omega
set_option maxRecDepth 100000 in
set_option maxHeartbeats 3200000 in
theorem remNode_none {w : World} {B base : Nat} {r h a fs : Value} {ep : Int} {C : Cf} {t : Int} (hC : Ce w B 29 #[r, h, a, it ep, fs]) (hO : OwnC w base r h a fs C) (hl : C.ring.length ≤ 1000) (hm : t ∉ C.ring) :
    Calls Try.prog 32 #[ptr B, it t] w fun e w' => e = .returned (it 13) ∧ Below w.heap.size w w' := by
  obtain ⟨xa, xc, rfl, _⟩ := hO.r.shape
  have HH := Lib.hid (index_any hO.r.rd (by omega) t)
  rw [fiI_none hm] at HH
  generalize C.ring.length = n at *
  obtain ⟨c0, c1, c2, c3, c4⟩ := c5 hC
  clear hC hO hl hm
  go_enter Try.func32, Try.ntmps32
  go_wp2_with fail
  refine HH.out.mono ?_
  rintro e w2 ⟨rfl, hb⟩
  have HB := Lib.hid hb
  clear hb
  go_wp2
  go_ret
  exact ⟨rfl, HB.out⟩
set_option maxRecDepth 100000 in
set_option maxHeartbeats 3200000 in
theorem remNode_has {w : World} {B base : Nat} {r h a fs : Value} {ep : Int} {C : Cf} {L1 L2 : List Int} {t : Int} (hC : Ce w B 29 #[r, h, a, it ep, fs]) (hO : OwnC w base r h a fs C) (hr : C.ring = L1 ++ t :: L2) (hl : C.ring.length ≤ 1000) (h1 : ∀ x ∈ L1, x ≠ t) :
    Calls Try.prog 32 #[ptr B, it t] w fun e w' => e = .returned (it 0) ∧ ∃ r', Ce w' B 29 #[r', h, a, it ep, fs] ∧ OwnC w' base r' h a fs ⟨L1 ++ L2, C.hints, C.anchors, C.epoch, C.flushes⟩ ∧ Tr (fun b => b = B ∨ r.ownBlock = some b) w w' := by
  obtain ⟨xa, xc, rfl, _⟩ := hO.r.shape
  have HH := Lib.hid (index_any hO.r.rd (by omega) t)
  rw [show fiI (fun x => decide (t = x)) C.ring = (L1.length : Int) by rw [hr]; exact fiI_at h1] at HH
  have HC := Lib.hid hC
  have HO := Lib.hid hO
  have hlt : L1.length < C.ring.length := by rw [hr]; simp
  have HI := Lib.hid (fun W (hb : Below w.heap.size w W) => delI_any (i := L1.length) (hO.r.below hb) hlt hl)
  rw [show C.ring.take L1.length ++ C.ring.drop (L1.length + 1) = L1 ++ L2 by rw [hr, List.take_left, List.drop_append]; simp] at HI
  obtain ⟨n, hn⟩ : ∃ n, n = C.ring.length := ⟨_, rfl⟩
  obtain ⟨p, hp⟩ : ∃ p, p = L1.length := ⟨_, rfl⟩
  have hp1 : p ≤ 1000 := by omega
  have s1 : wrap64 ((p : Int) + 1) = (p : Int) + 1 := by unfold wrap64; omega
  have q1 : decide ((p : Int) < 0) = false := decide_eq_false (by omega)
  rw [← hn] at HH HC HO HI ⊢
  rw [← hp] at HH HI
  obtain ⟨c0, c1, c2, c3, c4⟩ := c5 hC
  rw [← hn] at c0
  clear hC hO hr hl h1 hn hp hlt
  go_enter Try.func32, Try.ntmps32
  go_wp2_with fail
  refine HH.out.mono ?_
  rintro e w2 ⟨rfl, hb⟩
  have HC2 := Lib.hid (HC.out.below hb)
  have HO2 := Lib.hid (HO.out.below hb)
  have HI2 := Lib.hid (HI.out _ hb)
  have HB := Lib.hid hb
  clear hb c0 c1 c2 c3 c4
  obtain ⟨c0, c1, c2, c3, c4⟩ := c5 HC2.out
  go_wp2_with fail
  refine HI2.out.mono ?_
  rintro e w3 ⟨v', rfl, ho, ht⟩
  obtain ⟨ya, yc, rfl, _⟩ := ho.shape
  obtain ⟨m, hm⟩ : ∃ m, m = (L1 ++ L2).length := ⟨_, rfl⟩
  have hne := HO2.out.r.ne HC2.out (by decide)
  have HC3 := Lib.hid (HC2.out.tr ht hne)
  have ht' : Tr (fun b => b = B ∨ (Value.slice xa n xc).ownBlock = some b) w2 w3 := ht.mono fun k hk => .inr hk
  have HO3 : Hid (OwnC w3 base (.slice ya m yc) h a fs ⟨L1 ++ L2, C.hints, C.anchors, C.epoch, C.flushes⟩) := Lib.hid ⟨by rw [hm]; exact ho, HO2.out.h.keep HO2.out.r HC2.out ht' (by decide) (by decide), HO2.out.a.keep HO2.out.r HC2.out ht' (by decide) (by decide), HO2.out.f.keep HO2.out.r HC2.out ht' (by decide) (by decide)⟩
  have HT3 : Hid (Tr (fun b => b = B ∨ (Value.slice xa n xc).ownBlock = some b) w w3) := Lib.hid ((Tr.of_below HB.out).then ht')
  rw [← hm]
  clear ho ht ht' hne hm c0 c1 c2 c3 c4
  obtain ⟨c0, c1, c2, c3, c4⟩ := c5 HC3.out
  obtain ⟨f0, f1, f2, f3, f4⟩ := f5 HC3.out
  go_wp2
  go_ret
  exact ⟨rfl, _, HC3.out.set _ (i := 0), ⟨HO3.out.r.setT HC3.out (by decide) _, HO3.out.h.setT HC3.out (by decide) _, HO3.out.a.setT HC3.out (by decide) _, HO3.out.f.setT HC3.out (by decide) _⟩, HT3.out.setCell (.inl (.inl rfl)) _⟩
end Go.Proofs.Ytjoplnkagfkffaa
