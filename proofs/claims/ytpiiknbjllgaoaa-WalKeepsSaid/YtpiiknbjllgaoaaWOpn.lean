/-
  The operations of a log that is opened.
-/
import Derived.Test.YtpiiknbjllgaoaaWRew
namespace Go.Proofs.Ytpiiknbjllgaoaa
open Go.RowKit
theorem RdS.tr {S : Nat → Prop} {w w' : World} {v : Value} {l : List ByteArray} (h : RdS w v l) (ht : Tr S w w') (hS : ∀ j, v.ownBlock = some j → ¬ S j) : RdS w' v l := by
  obtain ⟨a, cap, rfl, h1, h2, h3⟩ := h
  refine ⟨a, cap, rfl, h1, h2, h3.imp id fun ⟨g, k, e, hc⟩ => ⟨g, k, e, fun i s hs => ?_⟩⟩
  subst e
  have := hc i s hs
  exact (ht.cell (p := ⟨g, k + i, none⟩) (w.block_lt_of_cell? _ this) (hS g rfl)).trans this
/-- Where what is open stands: the disk's function boxes, and what was read. -/
structure OpA (w : World) (S : Nat → Prop) (b D Y Q Z A C1 C2 g : Nat) : Prop where
  lt : D < w.heap.size ∧ Y < w.heap.size ∧ Q < w.heap.size ∧ Z < w.heap.size ∧ A < w.heap.size ∧ C1 < w.heap.size ∧ C2 < w.heap.size ∧ g < w.heap.size
  ne : (Y ≠ Q ∧ Y ≠ Z ∧ Q ≠ Z) ∧ (D ≠ Y ∧ D ≠ Q ∧ D ≠ Z) ∧ (A ≠ Y ∧ A ≠ Q ∧ A ≠ Z) ∧ (C1 ≠ Y ∧ C1 ≠ Q ∧ C1 ≠ Z) ∧ (C2 ≠ Y ∧ C2 ≠ Q ∧ C2 ≠ Z) ∧ (g ≠ Y ∧ g ≠ Q ∧ g ≠ Z)
  un : ¬ S D ∧ ¬ S Y ∧ ¬ S Q ∧ ¬ S Z ∧ ¬ S A ∧ ¬ S C1 ∧ ¬ S C2 ∧ ¬ S g
section
variable {S : Nat → Prop} {b : Nat} {x : Ld} {w : World}
set_option maxRecDepth 100000 in
set_option maxHeartbeats 6400000 in
/-- Reading. -/
theorem opn1_any (h : PD S b x.dk w) (ok : x.Ok) (hlo : x.lo.isSome = true) (ho : x.off = false) {D Y Q Z : Nat} (hY : ¬ S Y) (hQ : ¬ S Q) (hZ : ¬ S Z) (hne : Y ≠ Q ∧ Y ≠ Z ∧ Q ≠ Z) (hDn : D ≠ Y ∧ D ≠ Q ∧ D ≠ Z)
    (cD : w.cell? ⟨D, 0, none⟩ = some (ptr b)) {y0 q0 z0 : Value} (cY : Boxed w Y 9 y0) (cQ : Boxed w Q 27 q0) (cZ : Boxed w Z 3 z0) :
    Calls Try.prog 34 #[ptr D, ptr Y, ptr Q, ptr Z] w fun e w' => e = .returned (.int .i64 0) ∧ PD S b x.dk w' ∧ Tr (fun j => j = Y ∨ j = Q ∨ j = Z) w w' ∧
      ∃ v, Boxed w' Y 9 (str (x.byt false)) ∧ Boxed w' Q 27 v ∧ Boxed w' Z 3 (.int .i64 ((rcsB (recs (x.byt false))).length : Int)) ∧ RdB w' v (recs (x.byt false)) ∧ ∀ j, v.ownBlock = some j → w.heap.size ≤ j ∧ j < w'.heap.size := by
  have HRD := Lib.hid (lread_any h false hlo ho)
  have hlen : (x.byt false).length ≤ 900000000 := by have h1 : (x.byt false).length ≤ x.used := by unfold Ld.used; omega
                                                     have := ok.us; omega
  have HRC := Lib.hid (fun w' => records_any ⟨(x.byt false).toArray⟩ (by rw [ba_size]; omega) w')
  obtain ⟨B, hB⟩ : ∃ B, B = x.byt false := ⟨_, rfl⟩
  have HRC' : Hid (∀ w', Calls Try.prog 13 #[str B] w' fun e w2 => ∃ v, e = .returned (.tuple #[v, .int .i64 ((rcsB (recs B)).length : Int)]) ∧ RdB w2 v (recs B) ∧ (∀ j, v.ownBlock = some j → w'.heap.size ≤ j ∧ j < w2.heap.size) ∧ Below w'.heap.size w' w2) := Lib.hid (fun w' => by rw [hB]; exact HRC.out w')
  rw [← hB] at HRD ⊢
  obtain ⟨L, hL⟩ : ∃ L, L = recs B := ⟨_, rfl⟩
  rw [← hL] at HRC' ⊢
  obtain ⟨N, hN⟩ : ∃ N, N = (rcsB L).length := ⟨_, rfl⟩
  rw [← hN] at HRC' ⊢
  have HP := Lib.hid h
  have HY := Lib.hid cY
  have HQ := Lib.hid cQ
  have HZ := Lib.hid cZ
  have HNM : Hid (nmOf false = ⟨#[119, 97, 108]⟩) := Lib.hid rfl
  rw [HNM.out] at HRD
  have HNE := Lib.hid hne
  have HDN := Lib.hid hDn
  have HS := Lib.hid (And.intro hY (And.intro hQ hZ))
  clear h ok hlo ho hY hQ hZ hB hL hN HRC hlen cY cQ cZ hne hDn
  go_enter Try.func34, Try.ntmps34
  go_wp2_with fail
  refine HRD.out.mono ?_
  rintro e w1 ⟨rfl, hb1⟩
  have HB1 := Lib.hid hb1
  have kY : Boxed w1 Y 9 y0 := (hb1.block Y HY.out.lt).trans HY.out
  have kQ : Boxed w1 Q 27 q0 := (hb1.block Q HQ.out.lt).trans HQ.out
  have kZ : Boxed w1 Z 3 z0 := (hb1.block Z HZ.out.lt).trans HZ.out
  have y1 := kY.cell
  have y2 := kY.frozen
  have y3 := (kY.set (str B)).cell
  have KY := Lib.hid (kY.set (str B))
  have KQ : Hid (Boxed (w1.setCell ⟨Y, 0, none⟩ (str B)) Q 27 q0) := Lib.hid (kQ.kept (grownBy_setCell' w1 Y (str B)) (by simp; exact HNE.out.1.symm))
  have KZ : Hid (Boxed (w1.setCell ⟨Y, 0, none⟩ (str B)) Z 3 z0) := Lib.hid (kZ.kept (grownBy_setCell' w1 Y (str B)) (by simp; exact HNE.out.2.1.symm))
  clear hb1 kY kQ kZ
  go_wp2_with fail
  refine (HRC'.out _).mono ?_
  rintro e w2 ⟨v, rfl, hrd, hown, hb2⟩
  have HB2 := Lib.hid hb2
  have k2Y : Boxed w2 Y 9 (str B) := (hb2.block Y KY.out.lt).trans KY.out
  have k2Q : Boxed w2 Q 27 q0 := (hb2.block Q KQ.out.lt).trans KQ.out
  have k2Z : Boxed w2 Z 3 z0 := (hb2.block Z KZ.out.lt).trans KZ.out
  have p1 := k2Q.cell
  have p2 := k2Q.frozen
  obtain ⟨a, cap, rfl, _⟩ : ∃ a cap, v = .slice a (ab L).length cap ∧ True := by obtain ⟨a, cap, e, _⟩ := hrd; exact ⟨a, cap, e, trivial⟩
  have k3Z : Boxed (w2.setCell ⟨Q, 0, none⟩ (.slice a (ab L).length cap)) Z 3 z0 := k2Z.kept (grownBy_setCell' w2 Q _) (by simp; exact HNE.out.2.2.symm)
  have r1 := k3Z.cell
  have r2 := k3Z.frozen
  have FY : Hid (Boxed ((w2.setCell ⟨Q, 0, none⟩ (.slice a (ab L).length cap)).setCell ⟨Z, 0, none⟩ (.int .i64 (N : Int))) Y 9 (str B)) := Lib.hid ((k2Y.kept (grownBy_setCell' w2 Q _) (by simp; exact HNE.out.1)).kept (grownBy_setCell' _ Z _) (by simp; exact HNE.out.2.1))
  have FQ : Hid (Boxed ((w2.setCell ⟨Q, 0, none⟩ (.slice a (ab L).length cap)).setCell ⟨Z, 0, none⟩ (.int .i64 (N : Int))) Q 27 (.slice a (ab L).length cap)) := Lib.hid ((k2Q.set _).kept (grownBy_setCell' _ Z _) (by simp; exact HNE.out.2.2))
  have FZ : Hid (Boxed ((w2.setCell ⟨Q, 0, none⟩ (.slice a (ab L).length cap)).setCell ⟨Z, 0, none⟩ (.int .i64 (N : Int))) Z 3 (.int .i64 (N : Int))) := Lib.hid (k3Z.set _)
  have hw1 : w1.heap.size ≤ w2.heap.size := by have := hb2.size; simpa using this
  have hown' : ∀ j, (Value.slice a (ab L).length cap).ownBlock = some j → w1.heap.size ≤ j ∧ j < w2.heap.size := fun j hj => by simpa using hown j hj
  have hT1 : Tr (fun j => j = Y ∨ j = Q ∨ j = Z) w (w1.setCell ⟨Y, 0, none⟩ (str B)) := (Tr.of_below HB1.out).setCell (.inl (.inl rfl)) _
  have hT2 : Tr (fun j => j = Y ∨ j = Q ∨ j = Z) w w2 := hT1.then (Tr.of_below hb2)
  have HT := Lib.hid ((hT2.setCell (b := Q) (i := 0) (.inl (.inr (.inl rfl))) (.slice a (ab L).length cap)).setCell (b := Z) (i := 0) (.inl (.inr (.inr rfl))) (.int .i64 (N : Int)))
  have HRDF : Hid (RdB ((w2.setCell ⟨Q, 0, none⟩ (.slice a (ab L).length cap)).setCell ⟨Z, 0, none⟩ (.int .i64 (N : Int))) (.slice a (ab L).length cap) L) := Lib.hid (hrd.tr (((Tr.refl (fun j => j = Q ∨ j = Z) w2).setCell (b := Q) (i := 0) (.inl (.inl rfl)) _).setCell (b := Z) (i := 0) (.inl (.inr rfl)) _) (fun j hj e => by
    have h1 := (hown' j hj).1
    have h2 := HQ.out.lt
    have h3 := HZ.out.lt
    have h4 := HB1.out.size
    rcases e with e | e <;> omega))
  have HOW : Hid (∀ j, (Value.slice a (ab L).length cap).ownBlock = some j → w.heap.size ≤ j ∧ j < ((w2.setCell ⟨Q, 0, none⟩ (.slice a (ab L).length cap)).setCell ⟨Z, 0, none⟩ (.int .i64 (N : Int))).heap.size) := Lib.hid (fun j hj => ⟨Nat.le_trans HB1.out.size (hown' j hj).1, by simp only [World.size_setCell]; exact (hown' j hj).2⟩)
  clear hrd hown hb2 k2Y k2Q k2Z k3Z hT1 hT2 hown'
  go_wp2
  go_ret
  exact ⟨rfl, HP.out.tr HT.out (fun k _ hk e => by
    rcases e with rfl | rfl | rfl
    · exact HS.out.1 hk
    · exact HS.out.2.1 hk
    · exact HS.out.2.2 hk), HT.out, _, FY.out, FQ.out, FZ.out, HRDF.out, HOW.out⟩
/-- Cutting. -/
def Ld.cuE (x : Ld) (n : Nat) : Int := if n = (x.byt false).length then 0 else x.E 0
def Ld.cu (x : Ld) (n : Nat) : Ld := if n = (x.byt false).length then x else x.cut false n
set_option maxRecDepth 100000 in
set_option maxHeartbeats 6400000 in
theorem opn2_any (h : PD S b x.dk w) (ok : x.Ok) (hlo : x.lo.isSome = true) (n : Nat) (hn : n ≤ (x.byt false).length) {D Y Z : Nat}
    (cD : w.cell? ⟨D, 0, none⟩ = some (ptr b)) (cY : w.cell? ⟨Y, 0, none⟩ = some (str (x.byt false))) (cZ : w.cell? ⟨Z, 0, none⟩ = some (.int .i64 (n : Int))) :
    Calls Try.prog 36 #[ptr Z, ptr Y, ptr D] w fun e w' => e = .returned (.int .i64 (x.cuE n)) ∧ Lft S b (x.cu n).dk w w' := by
  have HC := Lib.hid (lcut_any h ok false hlo n hn)
  have HP := Lib.hid h
  have hsz : (⟨(x.byt false).toArray⟩ : ByteArray).size = (x.byt false).length := ba_size _
  have hlen : (x.byt false).length ≤ 900000000 := by have h1 : (x.byt false).length ≤ x.used := by unfold Ld.used; omega
                                                     have := ok.us; omega
  have HNM : Hid (nmOf false = ⟨#[119, 97, 108]⟩) := Lib.hid rfl
  rw [HNM.out] at HC
  by_cases he : n = (x.byt false).length
  · have e1 : x.cuE n = 0 := if_pos he
    have e2 : x.cu n = x := if_pos he
    rw [e1, e2]
    obtain ⟨B, hB⟩ : ∃ B, B = x.byt false := ⟨_, rfl⟩
    rw [← hB] at cY hsz hlen he
    subst he
    clear h hB e1 e2 hn HC hlo
    go_enter Try.func36, Try.ntmps36
    go_wp2
    go_ret
    exact ⟨rfl, Lft.of_below HP.out (Below.refl _ _)⟩
  · have e1 : x.cuE n = x.E 0 := if_neg he
    have e2 : x.cu n = x.cut false n := if_neg he
    rw [e1, e2]
    obtain ⟨B, hB⟩ : ∃ B, B = x.byt false := ⟨_, rfl⟩
    rw [← hB] at cY hsz hlen he hn
    have q1 : ((n : Int) == (B.length : Int)) = false := by simp; omega
    have q2 : (n == B.length) = false := by simp; omega
    clear h hB e1 e2 hlo
    go_enter Try.func36, Try.ntmps36
    go_wp2_with fail
    refine HC.out.mono ?_
    rintro e w1 ⟨rfl, hl⟩
    have HL := Lib.hid hl
    clear hl
    go_wp2
    go_ret
    exact ⟨rfl, HL.out⟩
end
end Go.Proofs.Ytpiiknbjllgaoaa
