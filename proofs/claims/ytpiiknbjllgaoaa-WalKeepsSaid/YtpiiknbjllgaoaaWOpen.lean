/-
  What Open leaves and answers.
-/
import Derived.Test.YtpiiknbjllgaoaaWTurnO
namespace Go.Proofs.Ytpiiknbjllgaoaa
open Go.RowKit
theorem info44 : (Try.prog.info? 44).map (fun i => (i.zero, i.size, i.bytes)) = some (some .nilFunc, 1, 8) := by kernel_rfl
def Ld.opE (x : Ld) : Int := if x.lo.isSome then opE4 x else x.disE
def Ld.opX (x : Ld) : Ld := if x.lo.isSome then opX4 x else x.dis
theorem four_boxes (w : World) (a c d e : Value) (t1 t2 t3 t4 : Nat) : ∃ w4, w4 = (((w.alloc (.cells #[a] t1)).alloc (.cells #[c] t2)).alloc (.cells #[d] t3)).alloc (.cells #[e] t4) ∧
    Boxed w4 w.heap.size t1 a ∧ Boxed w4 (w.heap.size + 1) t2 c ∧ Boxed w4 (w.heap.size + 1 + 1) t3 d ∧ Boxed w4 (w.heap.size + 1 + 1 + 1) t4 e ∧ w4.heap.size = w.heap.size + 1 + 1 + 1 + 1 ∧ Below w.heap.size w w4 := by
  have s1 : (w.alloc (.cells #[a] t1)).heap.size = w.heap.size + 1 := by simp
  have s2 : ((w.alloc (.cells #[a] t1)).alloc (.cells #[c] t2)).heap.size = w.heap.size + 1 + 1 := by simp
  have s3 : (((w.alloc (.cells #[a] t1)).alloc (.cells #[c] t2)).alloc (.cells #[d] t3)).heap.size = w.heap.size + 1 + 1 + 1 := by simp
  have b1 := Boxed.new w t1 a
  have b2 := Boxed.new (w.alloc (.cells #[a] t1)) t2 c
  have b3 := Boxed.new ((w.alloc (.cells #[a] t1)).alloc (.cells #[c] t2)) t3 d
  have b4 := Boxed.new (((w.alloc (.cells #[a] t1)).alloc (.cells #[c] t2)).alloc (.cells #[d] t3)) t4 e
  rw [s1] at b2; rw [s2] at b3; rw [s3] at b4
  exact ⟨_, rfl, ((b1.alloc _).alloc _).alloc _, (b2.alloc _).alloc _, b3.alloc _, b4, by simp, ((((Below.refl _ _).alloc (Nat.le_refl _) _).alloc (by omega) _).alloc (by omega) _).alloc (by omega) _⟩
section
variable {S : Nat → Prop} {b : Nat} {x : Ld} {w : World}
set_option maxRecDepth 100000 in
set_option maxHeartbeats 3200000 in
theorem open_nil (w : World) : Calls Try.prog 17 #[nop] w fun e w' => e = .returned (.tuple #[nop, .slice none 0 0, .int .i64 1]) ∧ Below w.heap.size w w' := by
  go_enter Try.func17, Try.ntmps17
  go_wp2
  go_ret3
  exact ⟨rfl, (Below.refl _ _).alloc (Nat.le_refl _) _⟩
set_option maxRecDepth 100000 in
set_option maxHeartbeats 3200000 in
theorem open_off (h : PD S b x.dk w) (ho : x.off = true) : Calls Try.prog 17 #[ptr b] w fun e w' => e = .returned (.tuple #[nop, .slice none 0 0, .int .i64 14]) ∧ Below w.heap.size w w' := by
  have hb : Below w.heap.size w (w.alloc (.cells #[ptr b] 34)) := (Below.refl _ _).alloc (Nat.le_refl _) _
  have HO := Lib.hid (on_any (h.below hb))
  have HB := Lib.hid hb
  rw [show x.dk.off = true from ho] at HO
  clear h hb ho
  go_enter Try.func17, Try.ntmps17
  go_wp2_with fail
  refine HO.out.mono ?_
  rintro e w1 ⟨rfl, rfl⟩
  go_wp2
  go_ret3
  exact ⟨rfl, HB.out⟩
/-- What an Open that came through hands back. -/
structure OpenOk (S : Nat → Prop) (b : Nat) (x : Ld) (w w' : World) (p v : Value) (S1 : Nat → Prop) : Prop where
  log : x.opE = 0 → ∃ B, p = ptr B ∧ w.heap.size ≤ B ∧ B < w'.heap.size ∧ ¬ S1 B ∧ WB B (ptr b) x.recs.length x.recs.length x.good w' ∧ RdB w' v x.recs ∧ ∀ j, v.ownBlock = some j → w.heap.size ≤ j ∧ j < w'.heap.size ∧ ¬ S1 j ∧ j ≠ B
  no : x.opE ≠ 0 → p = nop ∧ v = .slice none 0 0
  pd : PD S1 b x.opX.dk w'
  bd : ∀ j, S1 j → (S j ∨ w.heap.size ≤ j) ∧ j < w'.heap.size
  tr : Tr S w w'
set_option maxRecDepth 100000 in
set_option maxHeartbeats 12800000 in
theorem open_log (h : PD S b x.dk w) (hS : ∀ k, S k → k < w.heap.size) (ok : x.Okn 3 0) (ho : x.off = false) :
    Calls Try.prog 17 #[ptr b] w fun e w' => ∃ p v S1, e = .returned (.tuple #[p, v, .int .i64 x.opE]) ∧ OpenOk S b x w w' p v S1 := by
  have hmf : ∀ (fn : Fn) (first cap : Array Value) (w : World), (Instr.makeFunc fn first cap).run Try.prog w = .ok (.func fn first cap) w := fun _ _ _ _ => rfl
  have hb : Below w.heap.size w (w.alloc (.cells #[ptr b] 34)) := (Below.refl _ _).alloc (Nat.le_refl _) _
  have HO := Lib.hid (on_any (h.below hb))
  rw [show x.dk.off = false from ho] at HO
  have HP := Lib.hid h
  have HS := Lib.hid hS
  have OK := Lib.hid ok
  have HOFF := Lib.hid ho
  clear h hb ho hS ok
  go_enter Try.func17, Try.ntmps17
  go_wp2_with fail
  refine HO.out.mono ?_
  rintro e w1 ⟨rfl, rfl⟩
  go_wp2_with fail
  obtain ⟨w4, hw4, kD, kY, kQ, kZ, h4s, hb4⟩ := four_boxes w (ptr b) (.string ⟨#[]⟩) (.slice none 0 0) (.int .i64 0) 34 9 27 3
  rw [← hw4]
  obtain ⟨Z, hZ⟩ : ∃ Z, Z = w.heap.size + 1 + 1 + 1 := ⟨_, rfl⟩
  rw [← hZ] at kZ h4s ⊢
  obtain ⟨Q, hQ⟩ : ∃ Q, Q = w.heap.size + 1 + 1 := ⟨_, rfl⟩
  rw [← hQ] at kQ hZ ⊢
  obtain ⟨Y, hY⟩ : ∃ Y, Y = w.heap.size + 1 := ⟨_, rfl⟩
  rw [← hY] at kY hQ ⊢
  obtain ⟨D, hD⟩ : ∃ D, D = w.heap.size := ⟨_, rfl⟩
  rw [← hD] at kD ⊢
  have HNE : Hid (w.heap.size = D ∧ Y = D + 1 ∧ Q = D + 2 ∧ Z = D + 3 ∧ w4.heap.size = D + 4) := Lib.hid (by omega)
  have KD := Lib.hid kD
  have KY := Lib.hid kY
  have KQ := Lib.hid kQ
  have KZ := Lib.hid kZ
  have HB4 := Lib.hid hb4
  have HNM : Hid (nmOf false = ⟨#[119, 97, 108]⟩) := Lib.hid rfl
  clear hw4 kD kY kQ kZ h4s hb4 hZ hQ hY hD
  refine (dis_wk b w4).mono ?_
  rintro e w5 ⟨rfl, a0, az, hb5⟩
  have HB5 := Lib.hid (HB4.out.trans (hb5.mono HB4.out.size))
  have HB45 := Lib.hid hb5
  have A0 := Lib.hid a0
  have cD : w5.cell? ⟨D, 0, none⟩ = some (ptr b) := (hb5.cell (p := ⟨D, 0, none⟩) KD.out.lt).trans KD.out.cell
  have cD6 : (w5.alloc (.cells #[.func (.func 63) #[] #[ptr w4.heap.size]] 44)).cell? ⟨D, 0, none⟩ = some (ptr b) := (((Below.refl _ w5).alloc (Nat.le_refl _) _).cell (w5.block_lt_of_cell? _ cD)).trans cD
  have HAZ := Lib.hid az
  clear a0 hb5 az
  go_wp2_with fail
  obtain ⟨w6, hw6⟩ : ∃ w6, w6 = w5.alloc (.cells #[.func (.func 63) #[] #[ptr w4.heap.size]] 44) := ⟨_, rfl⟩
  rw [← hw6]
  have g0 : w6.cell? ⟨w5.heap.size, 0, none⟩ = some (Tst.val ⟨63, #[], #[ptr w4.heap.size]⟩) := by rw [hw6]; simp
  have HB56 : Hid (Below w5.heap.size w5 w6) := Lib.hid (by rw [hw6]; exact (Below.refl _ _).alloc (Nat.le_refl _) _)
  have HS6 : Hid (w6.heap.size = w5.heap.size + 1) := Lib.hid (by rw [hw6]; simp)
  have HB6 := Lib.hid (HB5.out.trans (HB56.out.mono HB5.out.size))
  have G0 := Lib.hid g0
  have HG6 : Hid (w6.heap[w5.heap.size]? = some (.cells #[.func (.func 63) #[] #[ptr w4.heap.size]] 44 (0, 0))) := Lib.hid (by rw [hw6]; exact heap_alloc_new w5 _)
  clear hw6 g0 cD cD6
  have HAS := whas_any (HP.out.below HB6.out) false
  rw [HNM.out, show x.get false = x.lo from rfl] at HAS
  cases hlo : x.lo.isSome with
  | false =>
    rw [hlo] at HAS
    have HLO := Lib.hid hlo
    have HEE : Hid (x.opE = x.disE) := Lib.hid (by unfold Ld.opE; rw [hlo]; rfl)
    have HXX : Hid (x.opX = x.dis) := Lib.hid (by unfold Ld.opX; rw [hlo]; rfl)
    have HRR : Hid (x.recs = []) := Lib.hid (by
      have : x.byt false = [] := by
        unfold Ld.byt
        rw [show x.get false = x.lo from rfl]
        cases h : x.lo with
        | none => rfl
        | some p => rw [h] at hlo; cases hlo
      unfold Ld.recs; rw [this]; rfl)
    have HGG : Hid (x.good = 0) := Lib.hid (by unfold Ld.good; rw [HRR.out]; rfl)
    refine HAS.mono ?_
    rintro e w7 ⟨rfl, hb7⟩
    have HB67 := Lib.hid hb7
    have HB7 := Lib.hid (HB6.out.trans (hb7.mono HB6.out.size))
    clear hb7 HAS hlo
    go_wp2_with fail
    have hA7 : w7.cell? ⟨w4.heap.size, 0, none⟩ = some (ptr b) := by
      have h1 := (HB56.out.cell (w5.block_lt_of_cell? _ A0.out)).trans A0.out
      exact (HB67.out.cell (w6.block_lt_of_cell? _ h1)).trans h1
    refine (turn1 ⟨63, #[], #[ptr w4.heap.size]⟩ _ _ w5.heap.size w7 ((HB67.out.cell (w6.block_lt_of_cell? _ G0.out)).trans G0.out) ent63 (dis_any (HP.out.below HB7.out) OK.out.ok hA7)).mono ?_
    rintro e w8 ⟨rfl, hl8⟩
    have HL8 := Lib.hid (hl8.behind HB7.out)
    have HT := Lib.hid hl8.2
    rw [← HEE.out]
    obtain ⟨E, hE⟩ : ∃ E, E = x.opE := ⟨_, rfl⟩
    have HE := Lib.hid hE
    rw [← hE]
    clear hl8 hA7 hE
    by_cases h0 : E = 0
    · subst h0
      have hb47 : Below w4.heap.size w4 w7 := (HB45.out.trans (HB56.out.mono HB45.out.size)).trans (HB67.out.mono (Nat.le_trans HB45.out.size HB56.out.size))
      have hbox : ∀ {B t : Nat} {v : Value}, w.heap.size ≤ B → Boxed w4 B t v → Boxed w8 B t v := fun hB hk => boxed_tr ((hb47.block _ hk.lt).trans hk) HT.out (fun hs => by have := HS.out _ hs; omega)
      obtain ⟨e1, e2, e3, e4, e5⟩ := HNE.out
      have cD := (hbox (by omega) KD.out).cell
      have cQ := (hbox (by omega) KQ.out).cell
      have cZ := (hbox (by omega) KZ.out).cell
      have cQ' : ∀ o : Obj, (w8.alloc o).cell? ⟨Q, 0, none⟩ = some (.slice none 0 0) := fun o => ((hbox (by omega) KQ.out).alloc o).cell
      clear e1 e2 e3 e4 e5 hb47 hbox
      go_wp2_with fail
      go_region
      go_wp2
      go_ret3
      have hb9 : Below w8.heap.size w8 ((w8.alloc (.cells #[ptr b, .int .i64 0, .int .i64 0, .int .i64 0] 52)).drew) := ((Below.refl _ w8).alloc (Nat.le_refl _) _).drew
      have hs8 := HL8.out.2.size
      refine ⟨ptr w8.heap.size, .slice none 0 0, fun j => andNew S w.heap.size j ∧ j < w8.heap.size, by rw [← HE.out]; rfl, fun _ => ⟨w8.heap.size, rfl, hs8, ?_, fun hs => Nat.lt_irrefl _ hs.2, ?_, ?_, fun j hj => by simp [Value.ownBlock] at hj⟩, fun h => absurd HE.out.symm h, ?_, fun j hj => ⟨hj.1, Nat.lt_of_lt_of_le hj.2 hb9.size⟩, HL8.out.2.then (Tr.of_below hb9)⟩
      · show w8.heap.size < (w8.alloc _).heap.size; simp
      · rw [HRR.out, HGG.out]
        exact WB.new w8 (ptr b) 0 0 0
      · rw [HRR.out]
        exact ⟨none, 0, rfl, Nat.le_refl _, Nat.zero_le _, .inl rfl⟩
      · rw [HXX.out]; exact HL8.out.1.now.below hb9
    · have q1 : (E == 0) = false := by simpa using h0
      have q2 : (E != 0) = true := by simpa using h0
      go_wp2
      go_ret3
      refine ⟨nop, .slice none 0 0, fun j => andNew S w.heap.size j ∧ j < w8.heap.size, by rw [← HE.out]; rfl, fun h => absurd (HE.out.trans h) h0, fun _ => ⟨rfl, rfl⟩, by rw [HXX.out]; exact HL8.out.1.now, fun j hj => ⟨hj.1, hj.2⟩, HL8.out.2⟩
  | true =>
    rw [hlo] at HAS
    have HLO := Lib.hid hlo
    have HEE : Hid (x.opE = opE4 x) := Lib.hid (by unfold Ld.opE; rw [hlo]; rfl)
    have HXX : Hid (x.opX = opX4 x) := Lib.hid (by unfold Ld.opX; rw [hlo]; rfl)
    refine HAS.mono ?_
    rintro e w7 ⟨rfl, hb7⟩
    have HB67 := Lib.hid hb7
    have HB7 := Lib.hid (HB6.out.trans (hb7.mono HB6.out.size))
    have hb47 : Below w4.heap.size w4 w7 := (HB45.out.trans (HB56.out.mono HB45.out.size)).trans (hb7.mono (Nat.le_trans HB45.out.size HB56.out.size))
    have cD7 : w7.cell? ⟨D, 0, none⟩ = some (ptr b) := (hb47.cell (p := ⟨D, 0, none⟩) KD.out.lt).trans KD.out.cell
    have HB47 := Lib.hid hb47
    clear hb7 HAS hlo hb47
    go_wp2_with fail
    refine (syn_wk b _ w7).mono ?_
    rintro e w8 ⟨rfl, f0, f1, fz, hb8⟩
    have HB78 := Lib.hid hb8
    have HB8 := Lib.hid (HB7.out.trans (hb8.mono HB7.out.size))
    have F0 := Lib.hid f0
    have F1 := Lib.hid f1
    have HFZ := Lib.hid fz
    clear f0 f1 fz hb8 cD7
    obtain ⟨i0, hi, hz0, hz1, hz2⟩ := info_parts info44
    have HROW : Hid ((w8.alloc (.cells #[.func (.func 34) #[] #[ptr D, ptr Y, ptr Q, ptr Z], .func (.func 36) #[] #[ptr Z, ptr Y, ptr D], .func (.func 65) #[] #[ptr w7.heap.size, ptr (w7.heap.size + 1)]] 44)).ownsRow w5.heap.size 44 1 (.slice (some ⟨w5.heap.size, 0, none⟩) 1 1) 1 [.func (.func 63) #[] #[ptr w4.heap.size]]) := Lib.hid (by
      have hG : w6.heap[w5.heap.size]? = some (.cells #[.func (.func 63) #[] #[ptr w4.heap.size]] 44 (0, 0)) := HG6.out
      have h5 : w5.heap.size < w6.heap.size := by have := HS6.out; omega
      have h7 : w7.heap[w5.heap.size]? = _ := (HB67.out.block _ h5).trans hG
      have h8 := (HB78.out.block _ (Nat.lt_of_lt_of_le h5 HB67.out.size)).trans h7
      refine ⟨rfl, .inr ⟨w5.heap.size, 1, _, rfl, Nat.le_refl _, (Below.heap_alloc _ _ _ (Nat.lt_of_lt_of_le (Nat.lt_of_lt_of_le h5 HB67.out.size) HB78.out.size)).trans h8, by decide, by decide, by simp, by simp⟩⟩)
    have hbase : w5.heap.size ≤ w8.heap.size := by have := HB56.out.size; have := HB67.out.size; have := HB78.out.size; omega
    go_wp2_with (at_builtin; refine wpList_append_own_at _ rfl (.tmp 24) (.tmp 29) 67 rfl w5.heap.size 44 i0 _ 1 8 Try.underlying67 hi hz0 hz1 hz2 rfl (by decide) _ 1 _ rfl HROW.out ⟨w8.heap.size, 0, none⟩ 3 3 [.func (.func 34) #[] #[ptr D, ptr Y, ptr Q, ptr Z], .func (.func 36) #[] #[ptr Z, ptr Y, ptr D], .func (.func 65) #[] #[ptr w7.heap.size, ptr (w7.heap.size + 1)]] rfl rfl (fun j u hj => World.news_of_block (cs := #[.func (.func 34) #[] #[ptr D, ptr Y, ptr Q, ptr Z], .func (.func 36) #[] #[ptr Z, ptr Y, ptr D], .func (.func 65) #[] #[ptr w7.heap.size, ptr (w7.heap.size + 1)]]) (t := 44) (fr := (0, 0)) (heap_alloc_new w8 _) j u hj) (by simp [Value.oneCell']) (by unfold maxLen; omega) (by omega) (by simp; omega) ?_)
    intro v' w10 hown hgrow _ hloc
    obtain ⟨g, cap', rfl⟩ := ownsRow_succ hown
    have hgl := World.ownsRow.lt hown g rfl
    have hcs0 := @World.ownsRow.cells w10 w5.heap.size 44 1 _ 4 _ hown
    have hcs : ∀ (j : Nat) (v : Value), ([.func (.func 63) #[] #[ptr w4.heap.size], .func (.func 34) #[] #[ptr D, ptr Y, ptr Q, ptr Z], .func (.func 36) #[] #[ptr Z, ptr Y, ptr D], .func (.func 65) #[] #[ptr w7.heap.size, ptr (w7.heap.size + 1)]] : List Value)[j]? = some v → w10.cell? ⟨g, j, none⟩ = some v := fun j v hj => by
      have h := hcs0 (g := g) rfl j v hj
      rw [Addr.add_lit, Nat.zero_add] at h
      exact h
    obtain ⟨e1, e2, e3, e4, e5⟩ := HNE.out
    have e6 := HAZ.out
    have e7 := HS6.out
    have e8 := HB67.out.size
    have e9 := HFZ.out
    have hb8a : Below w8.heap.size w8 (w8.alloc (.cells #[.func (.func 34) #[] #[ptr D, ptr Y, ptr Q, ptr Z], .func (.func 36) #[] #[ptr Z, ptr Y, ptr D], .func (.func 65) #[] #[ptr w7.heap.size, ptr (w7.heap.size + 1)]] 44)) := (Below.refl _ _).alloc (Nat.le_refl _) _
    have HB10 : Hid (Below w.heap.size w w10) := Lib.hid ((HB8.out.trans (hb8a.mono HB8.out.size)).grown hgrow (by simp; omega) (fun j hj => by
      have : j = w5.heap.size := by simpa [Value.ownBlock] using hj.symm
      omega))
    have hkeep : ∀ {p : Addr} {u : Value}, w8.cell? p = some u → p.block ≠ w5.heap.size → w10.cell? p = some u := fun {p u} hp hne =>
      World.grownBy.cell hgrow ((hb8a.cell (w8.block_lt_of_cell? _ hp)).trans hp) (fun e => hne (by simpa [Value.ownBlock] using e))
    have hbox : ∀ {B t : Nat} {u : Value}, B < w4.heap.size → Boxed w4 B t u → Boxed w10 B t u := fun {B t u} hB hk => by
      have h7 : Boxed w7 B t u := (HB47.out.block _ hk.lt).trans hk
      have h8 : Boxed w8 B t u := (HB78.out.block _ h7.lt).trans h7
      exact (h8.alloc _).kept hgrow (fun e => by
        have : B = w5.heap.size := by simpa [Value.ownBlock] using e
        omega)
    have h10 : w8.heap.size + 1 ≤ w10.heap.size := by have := hgrow.size; simpa using this
    have kY := hbox (by omega) KY.out
    have kQ := hbox (by omega) KQ.out
    have kZ := hbox (by omega) KZ.out
    have kD := (hbox (by omega) KD.out).cell
    have nS : ∀ {k : Nat}, w.heap.size ≤ k → ¬ S k := fun hk hs => by have := HS.out _ hs; omega
    have hA8 : w8.cell? ⟨w4.heap.size, 0, none⟩ = some (ptr b) := by
      have h1 := (HB56.out.cell (w5.block_lt_of_cell? _ A0.out)).trans A0.out
      have h2 := (HB67.out.cell (w6.block_lt_of_cell? _ h1)).trans h1
      exact (HB78.out.cell (w7.block_lt_of_cell? _ h2)).trans h2
    have hturn := turnO (HP.out.below HB10.out) (fun j hj => Nat.lt_of_lt_of_le (HS.out j hj) HB10.out.size) OK.out HLO.out HOFF.out (D := D) (A := w4.heap.size) (C1 := w7.heap.size) (C2 := w7.heap.size + 1) (g := g) (Y := Y) (Q := Q) (Z := Z) cap'
      ⟨⟨by omega, by omega, by omega, by omega, by omega, by omega, by omega, by omega⟩, ⟨⟨by omega, by omega, by omega⟩, ⟨by omega, by omega, by omega⟩, ⟨by omega, by omega, by omega⟩, ⟨by omega, by omega, by omega⟩, ⟨by omega, by omega, by omega⟩, ⟨by omega, by omega, by omega⟩⟩, ⟨nS (by omega), nS (by omega), nS (by omega), nS (by omega), nS (by omega), nS (by omega), nS (by omega), nS (by omega)⟩⟩
      (hkeep hA8 (by show w4.heap.size ≠ _; omega)) (hkeep F0.out (by show w7.heap.size ≠ _; omega)) (by rw [HNM.out]; exact hkeep F1.out (by show w7.heap.size + 1 ≠ _; omega)) kD kY kQ kZ (hcs 0 _ rfl) (hcs 1 _ rfl) (hcs 2 _ rfl) (hcs 3 _ rfl)
    have HTURN := Lib.hid hturn
    have HY10 : Hid (w.heap.size ≤ Y ∧ w.heap.size ≤ Q ∧ w.heap.size ≤ Z ∧ Boxed w10 D 34 (ptr b) ∧ D ≠ Y ∧ D ≠ Q ∧ D ≠ Z ∧ ¬ S D) := Lib.hid ⟨by omega, by omega, by omega, hbox (by omega) KD.out, by omega, by omega, by omega, nS (by omega)⟩
    clear hown hgrow hloc hgl hcs hcs0 e1 e2 e3 e4 e5 e6 e7 e8 e9 hb8a hkeep hbox h10 kY kQ kZ kD nS hA8 hturn hbase
    go_wp2_with fail
    refine HTURN.out.mono ?_
    rintro e w11 ⟨rfl, S1, hI, hV⟩
    rw [← HEE.out] at hV ⊢
    have HI := Lib.hid hI
    obtain ⟨E, hE⟩ : ∃ E, E = x.opE := ⟨_, rfl⟩
    have HE := Lib.hid hE
    rw [← hE] at hV ⊢
    have HTR : Hid (Tr S w w11) := Lib.hid ((Tr.of_below HB10.out).trans hI.tr (fun i hi => by
      rcases hi with hi | rfl | rfl | rfl
      · exact .inl hi
      · exact .inr HY10.out.1
      · exact .inr HY10.out.2.1
      · exact .inr HY10.out.2.2.1))
    have HBD : Hid (∀ j, S1 j → (S j ∨ w.heap.size ≤ j) ∧ j < w11.heap.size) := Lib.hid (fun j hj => ⟨(hI.bd j hj).1.imp id fun h => Nat.le_trans HB10.out.size h, (hI.bd j hj).2⟩)
    have HPD : Hid (PD S1 b x.opX.dk w11) := Lib.hid (by rw [HXX.out]; exact hI.pd)
    clear hI hE
    by_cases h0 : E = 0
    · subst h0
      obtain ⟨v, k1, k2, k3, k4, k5⟩ := hV rfl
      have HK4 := Lib.hid k4
      have HK5 := Lib.hid k5
      obtain ⟨a, cap, rfl, _⟩ := k4
      rw [ab_length] at k2
      have hcD : w11.cell? ⟨D, 0, none⟩ = some (ptr b) := by
        obtain ⟨_, _, _, hk, a1, a2, a3, a4⟩ := HY10.out
        exact (boxed_tr hk HI.out.tr (fun e => by rcases e with e | e | e | e; exact a4 e; exact a1 e; exact a2 e; exact a3 e)).cell
      have cQ := k2.cell
      have cZ := k3.cell
      have cQ' : ∀ o : Obj, (w11.alloc o).cell? ⟨Q, 0, none⟩ = some (.slice a x.recs.length cap) := fun o => (k2.alloc o).cell
      obtain ⟨n, hn⟩ : ∃ n, n = x.recs.length := ⟨_, rfl⟩
      have HN := Lib.hid hn
      rw [← hn] at cQ cQ'
      obtain ⟨m, hm⟩ : ∃ m, m = x.good := ⟨_, rfl⟩
      have HM := Lib.hid hm
      rw [← hm] at cZ
      clear k1 k2 k3 k5 hV hn hm
      go_wp2_with fail
      go_region
      go_wp2
      go_ret3
      have hb9 : Below w11.heap.size w11 ((w11.alloc (.cells #[ptr b, .int .i64 (n : Int), .int .i64 (n : Int), .int .i64 (m : Int)] 52)).drew) := ((Below.refl _ w11).alloc (Nat.le_refl _) _).drew
      refine ⟨ptr w11.heap.size, .slice a (ab x.recs).length cap, S1, by rw [← HE.out, ab_length, ← HN.out]; rfl, fun _ => ⟨w11.heap.size, rfl, HTR.out.size, ?_, fun hs => Nat.lt_irrefl _ (HBD.out _ hs).2, ?_, HK4.out.below hb9, fun j hj => ?_⟩, fun h => absurd HE.out.symm h, HPD.out.below hb9, fun j hj => ⟨(HBD.out j hj).1, Nat.lt_of_lt_of_le (HBD.out j hj).2 hb9.size⟩, HTR.out.then (Tr.of_below hb9)⟩
      · show w11.heap.size < (w11.alloc _).heap.size; simp
      · rw [← HN.out, ← HM.out]
        exact WB.new w11 (ptr b) n n m
      · obtain ⟨h1, h2, h3⟩ := HK5.out j hj
        exact ⟨Nat.le_trans HB10.out.size h1, Nat.lt_of_lt_of_le h2 hb9.size, h3, Nat.ne_of_lt h2⟩
    · have q1 : (E == 0) = false := by simpa using h0
      have q2 : (E != 0) = true := by simpa using h0
      clear hV
      go_wp2
      go_ret3
      exact ⟨nop, .slice none 0 0, S1, by rw [← HE.out]; rfl, fun h => absurd (HE.out.trans h) h0, fun _ => ⟨rfl, rfl⟩, HPD.out, HBD.out, HTR.out⟩
end
end Go.Proofs.Ytpiiknbjllgaoaa
