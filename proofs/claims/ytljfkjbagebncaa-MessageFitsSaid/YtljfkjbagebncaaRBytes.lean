/-
  The document's Bytes, and whether a message is refused for its length alone. No older memory is changed.
-/
import Derived.Test.YtljfkjbagebncaaRAll
import Derived.Test.YtljfkjbagebncaaG30
namespace Go.Proofs.Ytljfkjbagebncaa
open Go.RowKit
/-- What the law's cut of a message is, and how its lists lie. -/
structure CutOk (m : Ms) (x y z : Sl) : Prop where
  ok : m.Ok
  lq : LimQ m.qs
  lx : Lim m.an
  ly : Lim m.au
  lz : Lim m.ex
  n : (x.a = none → x.c = 0) ∧ (y.a = none → y.c = 0) ∧ (z.a = none → z.c = 0)
theorem lim_none : Lim [] := ⟨by simp, by simp⟩
theorem CutOk.all {m : Ms} {q x y z : Sl} (h : CutOk m x y z) (w : World) (hl : Lay w m q x y z) :
    Calls Try.prog 30 #[.agg (m.cells q x y z)] w fun e w' => e = .returned (.tuple #[str (allM m).1, .int .i64 (allM m).2]) ∧ Below w.heap.size w w' :=
  rall_any m h.ok h.lq h.lx h.ly h.lz q x y z h.n w hl
theorem len_str (B : Bs) : (⟨B.toArray⟩ : ByteArray).size = B.length := by rw [size_list]
set_option maxRecDepth 100000 in
set_option maxHeartbeats 6400000 in
theorem rbytes_any (m : Ms) (q x y z : Sl) (h : CutOk m x y z) (w : World) (hl : Lay w m q x y z) :
    Calls Try.prog 12 #[.agg (m.cells q x y z)] w fun e w' => e = .returned (.tuple #[str (mbytes m).1, .int .i64 (mbytes m).2]) ∧ Below w.heap.size w w' := by
  have hb0 := one_box w (.cells (m.cells q x y z) 26)
  have HK0 := Lib.hid (Ce.new w 26 (m.cells q x y z))
  have HC := Lib.hid (h.all _ (hl.below hb0))
  have HB0 := Lib.hid hb0
  clear hb0 h hl
  by_cases g : mck m = 0
  · have ha : allM m = ((mF m).1, 0) := by unfold allM; rw [if_pos g]
    have hm : mbytes m = if 4096 < (((mF m).1.length : Nat) : Int) then ([], 11) else ((mF m).1, 0) := by unfold mbytes; rw [if_pos g]; rfl
    rw [ha] at HC
    generalize (mF m).1 = F at HC hm
    have hls : ((⟨F.toArray⟩ : ByteArray).size : Int) = (F.length : Int) := by rw [len_str]
    by_cases g2 : 4096 < ((F.length : Nat) : Int)
    · have HM : Hid (mbytes m = ([], 11)) := Lib.hid (by rw [hm, if_pos g2])
      have q2 : 4096 < ((⟨F.toArray⟩ : ByteArray).size : Int) := by rw [hls]; exact g2
      have q3 : 4096 < (⟨F.toArray⟩ : ByteArray).size := by omega
      have q4 : 4096 < F.length := by omega
      generalize mbytes m = R at HM ⊢
      clear g ha hm hls
      go_enter Try.func12, Try.ntmps12
      go_wp2_with (first | (refine ld12 (.tmp 1) HK0.out rfl rfl rfl rfl ?_))
      refine HC.out.mono ?_
      rintro e w1 ⟨rfl, hb1⟩
      have HB1 := Lib.hid (HB0.out.trans (hb1.mono HB0.out.size))
      clear hb1
      go_wp2
      go_ret2
      exact ⟨by rw [HM.out]; rfl, HB1.out⟩
    · have HM : Hid (mbytes m = (F, 0)) := Lib.hid (by rw [hm, if_neg g2])
      have q2 : decide (4096 < ((⟨F.toArray⟩ : ByteArray).size : Int)) = false := by rw [hls]; simpa using g2
      have q3 : decide (4096 < (⟨F.toArray⟩ : ByteArray).size) = false := by simp; omega
      have q4 : decide (4096 < F.length) = false := by simp; omega
      have q5 : decide (4096 < ((F.length : Nat) : Int)) = false := by simpa using g2
      generalize mbytes m = R at HM ⊢
      clear g ha hm hls g2
      go_enter Try.func12, Try.ntmps12
      go_wp2_with (first | (refine ld12 (.tmp 1) HK0.out rfl rfl rfl rfl ?_))
      refine HC.out.mono ?_
      rintro e w1 ⟨rfl, hb1⟩
      have HB1 := Lib.hid (HB0.out.trans (hb1.mono HB0.out.size))
      clear hb1
      go_wp2
      go_ret2
      exact ⟨by rw [HM.out]; rfl, HB1.out⟩
  · have ha : allM m = ([], mck m) := by unfold allM; rw [if_neg g]
    have hm : mbytes m = ([], mck m) := by unfold mbytes; rw [if_neg g]
    have HM := Lib.hid hm
    rw [ha] at HC
    generalize mbytes m = R at HM ⊢
    generalize mck m = E at HC g HM
    have g' : (E == 0) = false := by simpa using g
    clear ha hm g
    go_enter Try.func12, Try.ntmps12
    go_wp2_with (first | (refine ld12 (.tmp 1) HK0.out rfl rfl rfl rfl ?_))
    refine HC.out.mono ?_
    rintro e w1 ⟨rfl, hb1⟩
    have HB1 := Lib.hid (HB0.out.trans (hb1.mono HB0.out.size))
    clear hb1
    go_wp2
    go_ret2
    exact ⟨by rw [HM.out]; rfl, HB1.out⟩
set_option maxRecDepth 100000 in
set_option maxHeartbeats 6400000 in
theorem rlong_any (m : Ms) (q x y z : Sl) (h : CutOk m x y z) (w : World) (hl : Lay w m q x y z) :
    Calls Try.prog 46 #[.agg (m.cells q x y z)] w fun e w' => e = .returned (.bool (mck m == 0)) ∧ Below w.heap.size w w' := by
  have hb0 := one_box w (.cells (m.cells q x y z) 26)
  have HK0 := Lib.hid (Ce.new w 26 (m.cells q x y z))
  have hc := h.all _ (hl.below hb0)
  have ha : (allM m).2 = mck m := by unfold allM; by_cases g : mck m = 0 <;> simp [g]
  rw [ha] at hc
  generalize (allM m).1 = F at hc
  generalize mck m = E at hc ⊢
  have HC := Lib.hid hc
  have HB0 := Lib.hid hb0
  clear hb0 h hl hc ha
  go_enter Try.func46, Try.ntmps46
  go_wp2_with (first | (refine ld12 (.tmp 1) HK0.out rfl rfl rfl rfl ?_))
  refine HC.out.mono ?_
  rintro e w1 ⟨rfl, hb1⟩
  have HB1 := Lib.hid (HB0.out.trans (hb1.mono HB0.out.size))
  clear hb1
  go_wp2
  go_ret
  exact ⟨rfl, HB1.out⟩
end Go.Proofs.Ytljfkjbagebncaa
