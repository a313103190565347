/-
  The walk of the law MessageReplies. No older memory is changed.
-/
import Derived.Test.YtljfkjbagebncaaG35
import Derived.Deep.RegionHeld3
import Derived.Deep.RegionWith
import Derived.Deep.CutRange
import Derived.StillTailTactics
namespace Go.Proofs.Ytljfkjbagebncaa
open Go.RowKit
/-- What is so of the numbers of any message. -/
structure Ms.Num (m : Ms) : Prop where
  id : m.id < 65536
  op : -9223372036854775808 ≤ m.op ∧ m.op ≤ 9223372036854775807
  cd : -9223372036854775808 ≤ m.cd ∧ m.cd ≤ 9223372036854775807
  qs : ∀ q ∈ m.qs, q.Num
  an : ∀ r ∈ m.an, r.Num
  au : ∀ r ∈ m.au, r.Num
  ex : ∀ r ∈ m.ex, r.Num
theorem LimQ.ok {qs : List Qn} (h : LimQ qs) : ∀ q ∈ qs, q.Ok := fun q hq => ⟨by have := (h.q q hq).2; omega, (h.q q hq).1.t, (h.q q hq).1.c⟩
theorem Lim.ok {rs : List Rc} (h : Lim rs) : ∀ r ∈ rs, r.Ok := fun r hr => ⟨by have := (h.r r hr).2.1; omega, by have := (h.r r hr).2.2; omega, (h.r r hr).1.t, (h.r r hr).1.c, (h.r r hr).1.l⟩
theorem lim_mok {id : Nat} {r a t d v : Bool} {op cd : Int} {qs : List Qn} {an au ex : List Rc} (hid : id < 65536) (hop : -9223372036854775808 ≤ op ∧ op ≤ 9223372036854775807) (hcd : -9223372036854775808 ≤ cd ∧ cd ≤ 9223372036854775807)
    (lq : LimQ qs) (lx : Lim an) (ly : Lim au) (lz : Lim ex) : (⟨id, r, a, t, d, v, op, cd, qs, an, au, ex⟩ : Ms).Ok :=
  ⟨hid, hop, hcd, lq.ok, lx.ok, ly.ok, lz.ok, by have := lq.n; show qs.length ≤ _; omega, by have := lx.n; show an.length ≤ _; omega, by have := ly.n; show au.length ≤ _; omega, by have := lz.n; show ex.length ≤ _; omega⟩
theorem Lay.other {w w' : World} {m : Ms} {q x y z : Sl} {g : Nat} {T : TypeId} {cs : Array Value} (h : Lay w m q x y z) (hc : Ce w g T cs) (hn : NoS cs) (hs : w.heap.size ≤ w'.heap.size) (hk : ∀ k, k ≠ g → w'.heap[k]? = w.heap[k]?) : Lay w' m q x y z :=
  ⟨h.q.other hc hn hs hk, h.x.other hc hn hs hk, h.y.other hc hn hs hk, h.z.other hc hn hs hk⟩
/-- Three messages' boxes with their questions, and nothing older changed. -/
def TriM (w0 : World) (i j k : Nat) (A B C : Array Value) (qa qb qc : Sl) (QA QB : List Qn) (w : World) : Prop :=
  (Ce w i 26 A ∧ Ce w j 26 B ∧ Ce w k 26 C) ∧ (RdQ w qa QA ∧ RdQ w qb QB ∧ RdQ w qc QA) ∧ Below w0.heap.size w0 w
theorem TriM.under {w0 w w' : World} {i j k : Nat} {A B C : Array Value} {qa qb qc : Sl} {QA QB : List Qn} (h : TriM w0 i j k A B C qa qb qc QA QB w) (hb : Below w.heap.size w w') : TriM w0 i j k A B C qa qb qc QA QB w' :=
  ⟨⟨h.1.1.below hb, h.1.2.1.below hb, h.1.2.2.below hb⟩, ⟨h.2.1.1.below hb, h.2.1.2.1.below hb, h.2.1.2.2.below hb⟩, h.2.2.trans (hb.mono h.2.2.size)⟩
theorem TriM.c {w0 w : World} {i j k : Nat} {a0 a1 a2 a3 a4 a5 a6 a7 a8 a9 a10 a11 b0 b1 b2 b3 b4 b5 b6 b7 b8 b9 b10 b11 c0 c1 c2 c3 c4 c5 c6 c7 c8 c9 c10 c11 : Value} {qa qb qc : Sl} {QA QB : List Qn}
    (h : TriM w0 i j k #[a0, a1, a2, a3, a4, a5, a6, a7, a8, a9, a10, a11] #[b0, b1, b2, b3, b4, b5, b6, b7, b8, b9, b10, b11] #[c0, c1, c2, c3, c4, c5, c6, c7, c8, c9, c10, c11] qa qb qc QA QB w) :
    (w.cell? ⟨i, 0, none⟩ = some a0 ∧ w.cell? ⟨i, 1, none⟩ = some a1 ∧ w.cell? ⟨i, 2, none⟩ = some a2 ∧ w.cell? ⟨i, 3, none⟩ = some a3 ∧ w.cell? ⟨i, 4, none⟩ = some a4 ∧ w.cell? ⟨i, 5, none⟩ = some a5 ∧ w.cell? ⟨i, 6, none⟩ = some a6 ∧ w.cell? ⟨i, 7, none⟩ = some a7 ∧ w.cell? ⟨i, 8, none⟩ = some a8 ∧ w.cell? ⟨i, 9, none⟩ = some a9 ∧ w.cell? ⟨i, 10, none⟩ = some a10 ∧ w.cell? ⟨i, 11, none⟩ = some a11) ∧
    (w.cell? ⟨j, 0, none⟩ = some b0 ∧ w.cell? ⟨j, 1, none⟩ = some b1 ∧ w.cell? ⟨j, 2, none⟩ = some b2 ∧ w.cell? ⟨j, 3, none⟩ = some b3 ∧ w.cell? ⟨j, 4, none⟩ = some b4 ∧ w.cell? ⟨j, 5, none⟩ = some b5 ∧ w.cell? ⟨j, 6, none⟩ = some b6 ∧ w.cell? ⟨j, 7, none⟩ = some b7 ∧ w.cell? ⟨j, 8, none⟩ = some b8 ∧ w.cell? ⟨j, 9, none⟩ = some b9 ∧ w.cell? ⟨j, 10, none⟩ = some b10 ∧ w.cell? ⟨j, 11, none⟩ = some b11) ∧
    (w.cell? ⟨k, 0, none⟩ = some c0 ∧ w.cell? ⟨k, 1, none⟩ = some c1 ∧ w.cell? ⟨k, 2, none⟩ = some c2 ∧ w.cell? ⟨k, 3, none⟩ = some c3 ∧ w.cell? ⟨k, 4, none⟩ = some c4 ∧ w.cell? ⟨k, 5, none⟩ = some c5 ∧ w.cell? ⟨k, 6, none⟩ = some c6 ∧ w.cell? ⟨k, 7, none⟩ = some c7 ∧ w.cell? ⟨k, 8, none⟩ = some c8 ∧ w.cell? ⟨k, 9, none⟩ = some c9 ∧ w.cell? ⟨k, 10, none⟩ = some c10 ∧ w.cell? ⟨k, 11, none⟩ = some c11) := ⟨c12 h.1.1, c12 h.1.2.1, c12 h.1.2.2⟩
/-- The first question of the first message. -/
theorem TriM.q {w0 w : World} {i j k id : Nat} {r a t d v : Bool} {op cd : Int} {b off qn qc : Nat} {x y z : Sl} {B C : Array Value} {qb qd : Sl} {QA QB : List Qn} {n : ByteArray} {ty cl : Nat}
    (h : TriM w0 i j k (mc id r a t d v op cd ⟨some ⟨b, off, none⟩, qn, qc⟩ x y z) B C ⟨some ⟨b, off, none⟩, qn, qc⟩ qb qd QA QB w) (hq : QA[0]? = some ⟨n, ty, cl⟩) :
    w.cell? ⟨i, 0, none⟩ = some (.int .u16 (id : Int)) ∧ w.cell? ⟨i, 8, none⟩ = some (.slice (some ⟨b, off, none⟩) qn qc) ∧ w.cell? ⟨b, off, none⟩ = some (.string n) ∧ w.cell? ⟨b, off + 1, none⟩ = some (.int .u16 (ty : Int)) ∧ w.cell? ⟨b, off + 2, none⟩ = some (.int .u16 (cl : Int)) := by
  obtain ⟨b', off', e, _, c0, c1, c2⟩ := h.2.1.1.get hq
  simp only [Option.some.injEq, Addr.mk.injEq] at e
  obtain ⟨rfl, rfl, _⟩ := e
  simp only [Nat.zero_mul, Nat.add_zero] at c0 c1 c2
  exact ⟨(h.1.1.cell 0).trans rfl, (h.1.1.cell 8).trans rfl, c0, c1, c2⟩
theorem TriM.qa {w0 w : World} {i j k id : Nat} {r a t d v : Bool} {op cd : Int} {b off qn qc : Nat} {x y z : Sl} {B C : Array Value} {qb qd : Sl} {QA QB : List Qn} {n : ByteArray} {ty cl : Nat}
    (h : TriM w0 i j k (mc id r a t d v op cd ⟨some ⟨b, off, none⟩, qn, qc⟩ x y z) B C ⟨some ⟨b, off, none⟩, qn, qc⟩ qb qd QA QB w) (hq : QA[0]? = some ⟨n, ty, cl⟩) (o : Obj) :
    (w.alloc o).cell? ⟨i, 0, none⟩ = some (.int .u16 (id : Int)) ∧ (w.alloc o).cell? ⟨i, 8, none⟩ = some (.slice (some ⟨b, off, none⟩) qn qc) ∧ (w.alloc o).cell? ⟨b, off, none⟩ = some (.string n) ∧ (w.alloc o).cell? ⟨b, off + 1, none⟩ = some (.int .u16 (ty : Int)) ∧ (w.alloc o).cell? ⟨b, off + 2, none⟩ = some (.int .u16 (cl : Int)) :=
  (h.under (one_box w o)).q hq
theorem TriM.fill {w0 w : World} {i j k n : Nat} {A B C : Array Value} {qa qb qc : Sl} {QA QB : List Qn} (h : TriM w0 i j k A B C qa qb qc QA QB w) {cs : Array Value} (hz : Ce w n 26 cs) (ns : NoS cs) (hi : i ≠ n) (hj : j ≠ n) (hk : k ≠ n) (hn : w0.heap.size ≤ n)
    (v0 v1 v2 v3 v4 v5 v6 v7 v8 v9 v10 v11 : Value) : TriM w0 i j k A B C qa qb qc QA QB (set12 w n v0 v1 v2 v3 v4 v5 v6 v7 v8 v9 v10 v11) :=
  let o := set12_others w n v0 v1 v2 v3 v4 v5 v6 v7 v8 v9 v10 v11
  ⟨⟨set12_keep h.1.1 hi .., set12_keep h.1.2.1 hj .., set12_keep h.1.2.2 hk ..⟩, ⟨h.2.1.1.other hz ns o.1 o.2, h.2.1.2.1.other hz ns o.1 o.2, h.2.1.2.2.other hz ns o.1 o.2⟩, set12_below h.2.2 hn ..⟩
/-- The cells that the last test reads. -/
theorem TriM.cc {w0 w : World} {i j k : Nat} {a0 a1 a2 a3 a4 a5 a6 a7 a8 a9 a10 a11 b0 b1 b2 b3 b4 b5 b6 b7 b8 b9 b10 b11 c0 c1 c2 c3 c4 c5 c6 c7 c8 c9 c10 c11 : Value} {b off qn qc bp offp pn pc : Nat} {qd : Sl} {QA QB : List Qn} {n n' : ByteArray} {ty cl ty' cl' : Nat}
    (h : TriM w0 i j k #[a0, a1, a2, a3, a4, a5, a6, a7, a8, a9, a10, a11] #[b0, b1, b2, b3, b4, b5, b6, b7, b8, b9, b10, b11] #[c0, c1, c2, c3, c4, c5, c6, c7, c8, c9, c10, c11] ⟨some ⟨b, off, none⟩, qn, qc⟩ ⟨some ⟨bp, offp, none⟩, pn, pc⟩ qd QA QB w) (hq : QA[0]? = some ⟨n, ty, cl⟩) (hp : QB[0]? = some ⟨n', ty', cl'⟩) :
    ((w.cell? ⟨i, 0, none⟩ = some a0 ∧ w.cell? ⟨i, 1, none⟩ = some a1 ∧ w.cell? ⟨i, 2, none⟩ = some a2 ∧ w.cell? ⟨i, 3, none⟩ = some a3 ∧ w.cell? ⟨i, 4, none⟩ = some a4 ∧ w.cell? ⟨i, 5, none⟩ = some a5 ∧ w.cell? ⟨i, 6, none⟩ = some a6 ∧ w.cell? ⟨i, 7, none⟩ = some a7 ∧ w.cell? ⟨i, 8, none⟩ = some a8 ∧ w.cell? ⟨i, 9, none⟩ = some a9 ∧ w.cell? ⟨i, 10, none⟩ = some a10 ∧ w.cell? ⟨i, 11, none⟩ = some a11) ∧
    (w.cell? ⟨j, 0, none⟩ = some b0 ∧ w.cell? ⟨j, 1, none⟩ = some b1 ∧ w.cell? ⟨j, 2, none⟩ = some b2 ∧ w.cell? ⟨j, 3, none⟩ = some b3 ∧ w.cell? ⟨j, 4, none⟩ = some b4 ∧ w.cell? ⟨j, 5, none⟩ = some b5 ∧ w.cell? ⟨j, 6, none⟩ = some b6 ∧ w.cell? ⟨j, 7, none⟩ = some b7 ∧ w.cell? ⟨j, 8, none⟩ = some b8 ∧ w.cell? ⟨j, 9, none⟩ = some b9 ∧ w.cell? ⟨j, 10, none⟩ = some b10 ∧ w.cell? ⟨j, 11, none⟩ = some b11) ∧
    (w.cell? ⟨k, 0, none⟩ = some c0 ∧ w.cell? ⟨k, 1, none⟩ = some c1 ∧ w.cell? ⟨k, 2, none⟩ = some c2 ∧ w.cell? ⟨k, 3, none⟩ = some c3 ∧ w.cell? ⟨k, 4, none⟩ = some c4 ∧ w.cell? ⟨k, 5, none⟩ = some c5 ∧ w.cell? ⟨k, 6, none⟩ = some c6 ∧ w.cell? ⟨k, 7, none⟩ = some c7 ∧ w.cell? ⟨k, 8, none⟩ = some c8 ∧ w.cell? ⟨k, 9, none⟩ = some c9 ∧ w.cell? ⟨k, 10, none⟩ = some c10 ∧ w.cell? ⟨k, 11, none⟩ = some c11)) ∧
    (w.cell? ⟨b, off, none⟩ = some (.string n) ∧ w.cell? ⟨b, off + 1, none⟩ = some (.int .u16 (ty : Int)) ∧ w.cell? ⟨b, off + 2, none⟩ = some (.int .u16 (cl : Int))) ∧
    (w.cell? ⟨bp, offp, none⟩ = some (.string n') ∧ w.cell? ⟨bp, offp + 1, none⟩ = some (.int .u16 (ty' : Int)) ∧ w.cell? ⟨bp, offp + 2, none⟩ = some (.int .u16 (cl' : Int))) := by
  obtain ⟨b', off', e, _, d0, d1, d2⟩ := h.2.1.1.get hq
  obtain ⟨bp', offp', e', _, d0', d1', d2'⟩ := h.2.1.2.1.get hp
  simp only [Option.some.injEq, Addr.mk.injEq] at e e'
  obtain ⟨rfl, rfl, _⟩ := e
  obtain ⟨rfl, rfl, _⟩ := e'
  simp only [Nat.zero_mul, Nat.add_zero] at d0 d1 d2 d0' d1' d2'
  exact ⟨h.c, ⟨d0, d1, d2⟩, ⟨d0', d1', d2'⟩⟩
/-- Another number than this one. -/
theorem other_id (id : Nat) (h : id < 65536) : ∃ id2 : Nat, IntKind.u16.wrap ((id : Int) + 1) = (id2 : Int) ∧ id2 ≠ id := by
  by_cases g : id = 65535
  · subst g
    exact ⟨0, by kernel_rfl, by decide⟩
  · refine ⟨id + 1, ?_, by omega⟩
    simp [IntKind.wrap, IntKind.signed, IntKind.bits]
    omega
theorem RdQ.first {w : World} {b off n c c' : Nat} {qs : List Qn} {g : Qn} (h : RdQ w ⟨some ⟨b, off, none⟩, n, c⟩ qs) (hg : qs[0]? = some g) : RdQ w ⟨some ⟨b, off, none⟩, 1, c'⟩ [g] := by
  obtain ⟨b', off', e, hlt, hc⟩ := h.get hg
  simp only [Option.some.injEq, Addr.mk.injEq] at e
  obtain ⟨rfl, rfl, _⟩ := e
  refine ⟨rfl, .inr ⟨b, off, rfl, hlt, fun j q hj => ?_⟩⟩
  match j, hj with
  | 0, hj =>
    simp at hj
    subst hj
    exact hc
  | j + 1, hj => simp at hj
set_option maxRecDepth 100000 in
set_option maxHeartbeats 25600000 in
theorem lrepl_any (m m' : Ms) (hm : m.Num) (hm' : m'.Num) (code : Int) (hcode : -9223372036854775808 ≤ code ∧ code ≤ 9223372036854775807) (q x y z q' x' y' z' : Sl) (w : World) (h : Lay w m q x y z) (h' : Lay w m' q' x' y' z') :
    Calls Try.prog 7 #[.agg (m.cells q x y z), .agg (m'.cells q' x' y' z'), .int .i64 code] w fun e w' => e = .returned (.bool true) ∧ Below w.heap.size w w' := by
  have ht := two_boxes w 26 26 (m.cells q x y z) (m'.cells q' x' y' z')
  simp only at ht
  have HT := Lib.hid ht
  have HNE : Hid (w.heap.size ≠ w.heap.size + 1) := Lib.hid (by omega)
  have HL1 : Hid (∀ w1, Below ((w.alloc (.cells (m.cells q x y z) 26)).alloc (.cells (m'.cells q' x' y' z') 26)).heap.size ((w.alloc (.cells (m.cells q x y z) 26)).alloc (.cells (m'.cells q' x' y' z') 26)) w1 → Lay w1 m q x y z ∧ Lay w1 m' q' x' y' z') :=
    Lib.hid fun w1 hb => ⟨(h.below ht.2.2).below hb, (h'.below ht.2.2).below hb⟩
  have HNUM := Lib.hid hm
  have HNUM' := Lib.hid hm'
  have HCODE := Lib.hid hcode
  obtain ⟨id, r, a, t, d, v, op, cd, qs0, an0, au0, ex0⟩ := m
  obtain ⟨id', r', a', t', d', v', op', cd', qs1, an1, au1, ex1⟩ := m'
  clear h h' ht hm hm' hcode
  go_enter Try.func7, Try.ntmps7
  go_wp2_with fail
  refine (mawake_any _).mono ?_
  rintro e w1 ⟨rfl, hb1⟩
  have A1 := Lib.hid (HT.out.1.below hb1)
  have B1 := Lib.hid (HT.out.2.1.below hb1)
  have U1 := Lib.hid (HT.out.2.2.trans (hb1.mono HT.out.2.2.size))
  have L1 := Lib.hid (HL1.out w1 hb1)
  clear hb1 HT HL1
  go_wp2_with (first | (refine ld12 (.tmp 3) A1.out rfl rfl rfl rfl ?_))
  refine (small_any ⟨id, r, a, t, d, v, op, cd, qs0, an0, au0, ex0⟩ q x y z _ L1.out.1 HNUM.out.qs HNUM.out.an HNUM.out.au HNUM.out.ex).mono ?_
  rintro e w2 ⟨qs, an, au, ex, ⟨qa, qn, qc⟩, x2, y2, z2, rfl, hq2, hx2, hy2, hz2, lq, lx, ly, lz, hcap, _, hb2⟩
  have A2 := Lib.hid (A1.out.below hb2)
  have B2 := Lib.hid ((B1.out.below hb2).rowOther HNE.out.symm (mc id r a t d v op cd ⟨qa, qn, qc⟩ x2 y2 z2))
  have A3 := Lib.hid ((A1.out.below hb2).row (mc id r a t d v op cd ⟨qa, qn, qc⟩ x2 y2 z2))
  have U2 := Lib.hid (below_row (U1.out.trans (hb2.mono U1.out.size)) (Nat.le_refl _) (mc id r a t d v op cd ⟨qa, qn, qc⟩ x2 y2 z2))
  have L2 := Lib.hid ((L1.out.2.below hb2).other A2.out (mc_ns _ _ _ _ _ _ _ _ _ _ _ _) (row_others w2 w.heap.size (mc id r a t d v op cd ⟨qa, qn, qc⟩ x2 y2 z2)).1 (row_others w2 w.heap.size (mc id r a t d v op cd ⟨qa, qn, qc⟩ x2 y2 z2)).2)
  have Q2 := Lib.hid (hq2.other A2.out (mc_ns _ _ _ _ _ _ _ _ _ _ _ _) (row_others w2 w.heap.size (mc id r a t d v op cd ⟨qa, qn, qc⟩ x2 y2 z2)).1 (row_others w2 w.heap.size (mc id r a t d v op cd ⟨qa, qn, qc⟩ x2 y2 z2)).2)
  have HOK : Hid ((⟨id, r, a, t, d, v, op, cd, qs, an, au, ex⟩ : Ms).Ok) := Lib.hid (lim_mok HNUM.out.id HNUM.out.op HNUM.out.cd lq lx ly lz)
  have HLQ := Lib.hid lq
  have HCAP : Hid (qn ≤ qc) := Lib.hid hcap
  clear hq2 hx2 hy2 hz2 lq lx ly lz hcap hb2 A1 B1 U1 L1
  go_wp2_with (first | (refine st12 (.tmp 3) (.tmp 16) A2.out rfl rfl rfl rfl rfl ?_) | (refine ld12 (.tmp 4) B2.out rfl rfl rfl rfl ?_))
  refine (small_any ⟨id', r', a', t', d', v', op', cd', qs1, an1, au1, ex1⟩ q' x' y' z' _ L2.out HNUM'.out.qs HNUM'.out.an HNUM'.out.au HNUM'.out.ex).mono ?_
  rintro e w3 ⟨ps, an', au', ex', ⟨pa, pn, pc⟩, x3, y3, z3, rfl, hq3, hx3, hy3, hz3, lq, lx, ly, lz, hcap, _, hb3⟩
  have B3 := Lib.hid (B2.out.below hb3)
  have A4 := Lib.hid ((A3.out.below hb3).rowOther HNE.out (mc id' r' a' t' d' v' op' cd' ⟨pa, pn, pc⟩ x3 y3 z3))
  have B4 := Lib.hid ((B2.out.below hb3).row (mc id' r' a' t' d' v' op' cd' ⟨pa, pn, pc⟩ x3 y3 z3))
  have U4 := Lib.hid (below_row (U2.out.trans (hb3.mono U2.out.size)) (Nat.le_succ _) (mc id' r' a' t' d' v' op' cd' ⟨pa, pn, pc⟩ x3 y3 z3))
  have Q4 := Lib.hid ((Q2.out.below hb3).other B3.out (mc_ns _ _ _ _ _ _ _ _ _ _ _ _) (row_others w3 (w.heap.size + 1) (mc id' r' a' t' d' v' op' cd' ⟨pa, pn, pc⟩ x3 y3 z3)).1 (row_others w3 (w.heap.size + 1) (mc id' r' a' t' d' v' op' cd' ⟨pa, pn, pc⟩ x3 y3 z3)).2)
  have P4 := Lib.hid (hq3.other B3.out (mc_ns _ _ _ _ _ _ _ _ _ _ _ _) (row_others w3 (w.heap.size + 1) (mc id' r' a' t' d' v' op' cd' ⟨pa, pn, pc⟩ x3 y3 z3)).1 (row_others w3 (w.heap.size + 1) (mc id' r' a' t' d' v' op' cd' ⟨pa, pn, pc⟩ x3 y3 z3)).2)
  have HOK' : Hid ((⟨id', r', a', t', d', v', op', cd', ps, an', au', ex'⟩ : Ms).Ok) := Lib.hid (lim_mok HNUM'.out.id HNUM'.out.op HNUM'.out.cd lq lx ly lz)
  have HLP := Lib.hid lq
  clear hq3 hx3 hy3 hz3 lq lx ly lz hcap hb3 A2 A3 B2 U2 L2 Q2 HNUM HNUM'
  go_wp2_with (first | (refine st12 (.tmp 4) (.tmp 18) B3.out rfl rfl rfl rfl rfl ?_) | (refine ld12 (.tmp 3) A4.out rfl rfl rfl rfl ?_))
  generalize World.setRow w3 _ _ = w4 at A4 B4 U4 Q4 P4 ⊢
  clear B3
  refine (reply_any ⟨id, r, a, t, d, v, op, cd, qs, an, au, ex⟩ HOK.out code ⟨qa, qn, qc⟩ x2 y2 z2 _ Q4.out).mono ?_
  rintro e w5 ⟨s, he, hs5, hb5⟩
  have he2 : e = .returned (.agg (mc id true false false d true op code s nl nl nl)) := he
  clear he
  subst he2
  replace hs5 : RdQ w5 s qs := hs5
  have k5 := one_box w5 (.cells (mc id true false false d true op code s nl nl nl) 26)
  have g0 : w.heap.size ≤ w5.heap.size := Nat.le_trans U4.out.size hb5.size
  have TT : TriM w w.heap.size (w.heap.size + 1) w5.heap.size (mc id r a t d v op cd ⟨qa, qn, qc⟩ x2 y2 z2) (mc id' r' a' t' d' v' op' cd' ⟨pa, pn, pc⟩ x3 y3 z3) (mc id true false false d true op code s nl nl nl) ⟨qa, qn, qc⟩ ⟨pa, pn, pc⟩ s qs ps (w5.alloc (.cells (mc id true false false d true op code s nl nl nl) 26)) :=
    ⟨⟨(A4.out.below hb5).below k5, (B4.out.below hb5).below k5, Ce.new w5 26 _⟩, ⟨(Q4.out.below hb5).below k5, (P4.out.below hb5).below k5, hs5.below k5⟩, (U4.out.trans (hb5.mono U4.out.size)).trans (k5.mono (U4.out.trans (hb5.mono U4.out.size)).size)⟩
  have HTT := Lib.hid TT
  obtain ⟨x0, x4, x6, x8⟩ := four TT.1.1
  clear TT k5 hs5 hb5 A4 B4 U4 Q4 P4
  go_upto_region 5 with fail
  generalize World.alloc w5 _ = w6 at HTT x0 x4 x6 x8 ⊢
  generalize w5.heap.size = g at HTT g0 ⊢
  have w9b := one_box w6 (.cells (mc id true false false d true op code ⟨qa, qn, qc⟩ nl nl nl) 26)
  have W9 := Lib.hid (Ce.new w6 26 (mc id true false false d true op code ⟨qa, qn, qc⟩ nl nl nl))
  have T9 := Lib.hid (HTT.out.under w9b)
  have LS := Lib.hid (show Lay _ (⟨id, true, false, false, d, true, op, code, qs, [], [], []⟩ : Ms) s nl nl nl from ⟨T9.out.2.1.2.2, rdr_nil _, rdr_nil _, rdr_nil _⟩)
  have LW := Lib.hid (show Lay _ (⟨id, true, false, false, d, true, op, code, qs, [], [], []⟩ : Ms) ⟨qa, qn, qc⟩ nl nl nl from ⟨T9.out.2.1.1, rdr_nil _, rdr_nil _, rdr_nil _⟩)
  have HTR := Lib.hid (T9.out.1.2.2)
  clear w9b
  go_wp2_with (first | (refine ld12 (.tmp 8) HTR.out rfl rfl rfl rfl ?_) | (refine ld12 (.tmp 9) W9.out rfl rfl rfl rfl ?_))
  refine (rmsame_any ⟨id, true, false, false, d, true, op, code, qs, [], [], []⟩ (by have := HLQ.out.n; show qs.length ≤ _; omega) (by simp) (by simp) (by simp) s nl nl nl ⟨qa, qn, qc⟩ nl nl nl _ LS.out LW.out).mono ?_
  rintro e w7 ⟨rfl, hb7⟩
  have T7 := Lib.hid (T9.out.under hb7)
  clear hb7 x0 x4 x6 x8 LS LW HTR W9 T9 HTT
  -- what the two Matches answer
  have HM1a := fun w h1 h2 => matches_any ⟨id, r, a, t, d, v, op, cd, qs, an, au, ex⟩ ⟨id', r', a', t', d', v', op', cd', ps, an', au', ex'⟩ (fun q hq => by have := (HLQ.out.q q hq).2; omega) (fun q hq => by have := (HLP.out.q q hq).2; omega) ⟨qa, qn, qc⟩ x2 y2 z2 ⟨pa, pn, pc⟩ x3 y3 z3 w h1 h2
  have HN1a := fun w h1 h2 => rmatches_any ⟨id, r, a, t, d, v, op, cd, qs, an, au, ex⟩ ⟨id', r', a', t', d', v', op', cd', ps, an', au', ex'⟩ (fun q hq => by have := (HLQ.out.q q hq).2; omega) (fun q hq => by have := (HLP.out.q q hq).2; omega) ⟨qa, qn, qc⟩ x2 y2 z2 ⟨pa, pn, pc⟩ x3 y3 z3 w h1 h2
  have HM2a := fun w h1 h2 => matches_any ⟨id, r, a, t, d, v, op, cd, qs, an, au, ex⟩ ⟨id, true, false, false, d, true, op, code, qs, [], [], []⟩ (fun q hq => by have := (HLQ.out.q q hq).2; omega) (fun q hq => by have := (HLQ.out.q q hq).2; omega) ⟨qa, qn, qc⟩ x2 y2 z2 s nl nl nl w h1 h2
  have HN2a := fun w h1 h2 => rmatches_any ⟨id, r, a, t, d, v, op, cd, qs, an, au, ex⟩ ⟨id, true, false, false, d, true, op, code, qs, [], [], []⟩ (fun q hq => by have := (HLQ.out.q q hq).2; omega) (fun q hq => by have := (HLQ.out.q q hq).2; omega) ⟨qa, qn, qc⟩ x2 y2 z2 s nl nl nl w h1 h2
  generalize mt ⟨id, r, a, t, d, v, op, cd, qs, an, au, ex⟩ ⟨id', r', a', t', d', v', op', cd', ps, an', au', ex'⟩ = R1 at HM1a HN1a
  generalize mt ⟨id, r, a, t, d, v, op, cd, qs, an, au, ex⟩ ⟨id, true, false, false, d, true, op, code, qs, [], [], []⟩ = R2 at HM2a HN2a
  have HM1 := Lib.hid HM1a
  have HN1 := Lib.hid HN1a
  have HM2 := Lib.hid HM2a
  have HN2 := Lib.hid HN2a
  have n1 : (R1 != R1) = false := by simp
  have n2 : (R2 != R2) = false := by simp
  clear HM1a HN1a HM2a HN2a
  go_upto_region 7 with fail
  have HT0 := Lib.hid (T7.out.under (Below.refl _ w7).drew)
  go_region_held3 (fun w' => (w'.cell? ⟨w.heap.size, 0, none⟩ = some (.int .u16 (id : Int)) ∧ w'.cell? ⟨w.heap.size, 1, none⟩ = some (.bool r) ∧ w'.cell? ⟨w.heap.size, 2, none⟩ = some (.bool a) ∧ w'.cell? ⟨w.heap.size, 3, none⟩ = some (.bool t) ∧ w'.cell? ⟨w.heap.size, 4, none⟩ = some (.bool d) ∧ w'.cell? ⟨w.heap.size, 5, none⟩ = some (.bool v) ∧ w'.cell? ⟨w.heap.size, 6, none⟩ = some (.int .i64 op) ∧ w'.cell? ⟨w.heap.size, 7, none⟩ = some (.int .i64 cd) ∧ w'.cell? ⟨w.heap.size, 8, none⟩ = some (.slice qa qn qc) ∧ w'.cell? ⟨w.heap.size, 9, none⟩ = some (x2.v) ∧ w'.cell? ⟨w.heap.size, 10, none⟩ = some (y2.v) ∧ w'.cell? ⟨w.heap.size, 11, none⟩ = some (z2.v)) ∧ (w'.cell? ⟨(w.heap.size + 1), 0, none⟩ = some (.int .u16 (id' : Int)) ∧ w'.cell? ⟨(w.heap.size + 1), 1, none⟩ = some (.bool r') ∧ w'.cell? ⟨(w.heap.size + 1), 2, none⟩ = some (.bool a') ∧ w'.cell? ⟨(w.heap.size + 1), 3, none⟩ = some (.bool t') ∧ w'.cell? ⟨(w.heap.size + 1), 4, none⟩ = some (.bool d') ∧ w'.cell? ⟨(w.heap.size + 1), 5, none⟩ = some (.bool v') ∧ w'.cell? ⟨(w.heap.size + 1), 6, none⟩ = some (.int .i64 op') ∧ w'.cell? ⟨(w.heap.size + 1), 7, none⟩ = some (.int .i64 cd') ∧ w'.cell? ⟨(w.heap.size + 1), 8, none⟩ = some (.slice pa pn pc) ∧ w'.cell? ⟨(w.heap.size + 1), 9, none⟩ = some (x3.v) ∧ w'.cell? ⟨(w.heap.size + 1), 10, none⟩ = some (y3.v) ∧ w'.cell? ⟨(w.heap.size + 1), 11, none⟩ = some (z3.v)) ∧ (w'.cell? ⟨g, 0, none⟩ = some (.int .u16 (id : Int)) ∧ w'.cell? ⟨g, 1, none⟩ = some (.bool true) ∧ w'.cell? ⟨g, 2, none⟩ = some (.bool false) ∧ w'.cell? ⟨g, 3, none⟩ = some (.bool false) ∧ w'.cell? ⟨g, 4, none⟩ = some (.bool d) ∧ w'.cell? ⟨g, 5, none⟩ = some (.bool true) ∧ w'.cell? ⟨g, 6, none⟩ = some (.int .i64 op) ∧ w'.cell? ⟨g, 7, none⟩ = some (.int .i64 code) ∧ w'.cell? ⟨g, 8, none⟩ = some (s.v) ∧ w'.cell? ⟨g, 9, none⟩ = some (nl.v) ∧ w'.cell? ⟨g, 10, none⟩ = some (nl.v) ∧ w'.cell? ⟨g, 11, none⟩ = some (nl.v)))
    (first | with_reducible exact HT4.out.c | with_reducible exact HT3.out.c | with_reducible exact HT2.out.c | with_reducible exact HT1.out.c | with_reducible exact HT0.out.c)
    (first
      | (go_at_call_of 22 op'; (first | (refine (HM1.out _ HT3.out.2.1.1 HT3.out.2.1.2.1).mono ?_; rintro e u ⟨rfl, hu⟩; have HT4 := Lib.hid (HT3.out.under hu); clear hu) | (refine (HM1.out _ HT2.out.2.1.1 HT2.out.2.1.2.1).mono ?_; rintro e u ⟨rfl, hu⟩; have HT3 := Lib.hid (HT2.out.under hu); clear hu) | (refine (HM1.out _ HT1.out.2.1.1 HT1.out.2.1.2.1).mono ?_; rintro e u ⟨rfl, hu⟩; have HT2 := Lib.hid (HT1.out.under hu); clear hu) | (refine (HM1.out _ HT0.out.2.1.1 HT0.out.2.1.2.1).mono ?_; rintro e u ⟨rfl, hu⟩; have HT1 := Lib.hid (HT0.out.under hu); clear hu)))
      | (go_at_call_of 23 op'; (first | (refine (HN1.out _ HT3.out.2.1.1 HT3.out.2.1.2.1).mono ?_; rintro e u ⟨rfl, hu⟩; have HT4 := Lib.hid (HT3.out.under hu); clear hu) | (refine (HN1.out _ HT2.out.2.1.1 HT2.out.2.1.2.1).mono ?_; rintro e u ⟨rfl, hu⟩; have HT3 := Lib.hid (HT2.out.under hu); clear hu) | (refine (HN1.out _ HT1.out.2.1.1 HT1.out.2.1.2.1).mono ?_; rintro e u ⟨rfl, hu⟩; have HT2 := Lib.hid (HT1.out.under hu); clear hu) | (refine (HN1.out _ HT0.out.2.1.1 HT0.out.2.1.2.1).mono ?_; rintro e u ⟨rfl, hu⟩; have HT1 := Lib.hid (HT0.out.under hu); clear hu)))
      | (go_at_call_of 22 code; (first | (refine (HM2.out _ HT3.out.2.1.1 HT3.out.2.1.2.2).mono ?_; rintro e u ⟨rfl, hu⟩; have HT4 := Lib.hid (HT3.out.under hu); clear hu) | (refine (HM2.out _ HT2.out.2.1.1 HT2.out.2.1.2.2).mono ?_; rintro e u ⟨rfl, hu⟩; have HT3 := Lib.hid (HT2.out.under hu); clear hu) | (refine (HM2.out _ HT1.out.2.1.1 HT1.out.2.1.2.2).mono ?_; rintro e u ⟨rfl, hu⟩; have HT2 := Lib.hid (HT1.out.under hu); clear hu) | (refine (HM2.out _ HT0.out.2.1.1 HT0.out.2.1.2.2).mono ?_; rintro e u ⟨rfl, hu⟩; have HT1 := Lib.hid (HT0.out.under hu); clear hu)))
      | (go_at_call_of 23 code; (first | (refine (HN2.out _ HT3.out.2.1.1 HT3.out.2.1.2.2).mono ?_; rintro e u ⟨rfl, hu⟩; have HT4 := Lib.hid (HT3.out.under hu); clear hu) | (refine (HN2.out _ HT2.out.2.1.1 HT2.out.2.1.2.2).mono ?_; rintro e u ⟨rfl, hu⟩; have HT3 := Lib.hid (HT2.out.under hu); clear hu) | (refine (HN2.out _ HT1.out.2.1.1 HT1.out.2.1.2.2).mono ?_; rintro e u ⟨rfl, hu⟩; have HT2 := Lib.hid (HT1.out.under hu); clear hu) | (refine (HN2.out _ HT0.out.2.1.1 HT0.out.2.1.2.2).mono ?_; rintro e u ⟨rfl, hu⟩; have HT1 := Lib.hid (HT0.out.under hu); clear hu))))
  clear HM1 HN1 n1 HN2 HT0 HT1 HT2 HT3 T7
  have x8 : u.cell? ⟨w.heap.size, 8, none⟩ = some (.slice qa qn qc) := (HT4.out.1.1.cell 8).trans rfl
  have y8 : u.cell? ⟨w.heap.size + 1, 8, none⟩ = some (.slice pa pn pc) := (HT4.out.1.2.1.cell 8).trans rfl
  by_cases n0 : qn = 0
  · have q1 : ((qn : Int) == 0) = true := by rw [n0]; rfl
    clear n0
    go_wp2
    go_ret
    exact ⟨rfl, HT4.out.2.2⟩
  have q1 : ((qn : Int) == 0) = false := by simpa using n0
  by_cases m0 : pn = 0
  · have q2 : ((pn : Int) == 0) = true := by rw [m0]; rfl
    clear m0 n0
    go_wp2
    go_ret
    exact ⟨rfl, HT4.out.2.2⟩
  have q2 : ((pn : Int) == 0) = false := by simpa using m0
  have hqn : qn = qs.length := HT4.out.2.1.1.1
  have hpn : pn = ps.length := HT4.out.2.1.2.1.1
  obtain ⟨⟨n0', t0, c0'⟩, hg⟩ : ∃ g1, qs[0]? = some g1 := ⟨_, List.getElem?_eq_getElem (by omega)⟩
  obtain ⟨⟨n1', t1, c1'⟩, hp⟩ : ∃ g1, ps[0]? = some g1 := ⟨_, List.getElem?_eq_getElem (by omega)⟩
  obtain ⟨b, off, hsa, _, _⟩ := HT4.out.2.1.1.get hg
  obtain ⟨bp, offp, hsp, _, _⟩ := HT4.out.2.1.2.1.get hp
  simp only at hsa hsp
  subst hsa hsp
  have HG := Lib.hid hg
  have HP := Lib.hid hp
  have hb0 : 0 < qn := Nat.pos_of_ne_zero n0
  have hb1 : 0 < pn := Nat.pos_of_ne_zero m0
  have hb2 : (0 : Int) < (qn : Int) := by omega
  have hb3 : (0 : Int) < (pn : Int) := by omega
  have hsz : n0'.size ≤ 300 := (HLQ.out.q _ (List.mem_of_getElem? hg)).2
  have HQ : Hid (∀ w, Calls Try.prog 24 #[.int .u16 (id : Int), .agg #[.string n0', .int .u16 (t0 : Int), .int .u16 (c0' : Int)]] w fun e w' => ∃ s2 : Sl, e = .returned (.agg (mc id false false false false false 0 0 s2 nl nl nl)) ∧ RdQ w' s2 [⟨n0', t0, c0'⟩] ∧ Below w.heap.size w w') := Lib.hid fun w => query_any id ⟨n0', t0, c0'⟩ (by show n0'.size ≤ _; omega) w
  clear n0 m0 hqn hpn hg hp hsz
  go_upto_region 11 with fail
  clear x8 y8
  have HT5 := Lib.hid (HT4.out.under (Below.refl _ u).drew)
  have HTB := Lib.hid ((HT4.out.under (one_box u (.cells #[.int .u16 0, .bool false, .bool false, .bool false, .bool false, .bool false, .int .i64 0, .int .i64 0, .slice none 0 0, .slice none 0 0, .slice none 0 0, .slice none 0 0] 26))).under (Below.refl _ (u.alloc (.cells #[.int .u16 0, .bool false, .bool false, .bool false, .bool false, .bool false, .int .i64 0, .int .i64 0, .slice none 0 0, .slice none 0 0, .slice none 0 0, .slice none 0 0] 26))).drew)
  have HZB := Lib.hid ((Ce.new u 26 #[.int .u16 0, .bool false, .bool false, .bool false, .bool false, .bool false, .int .i64 0, .int .i64 0, .slice none 0 0, .slice none 0 0, .slice none 0 0, .slice none 0 0]).below (Below.refl _ (u.alloc (.cells #[.int .u16 0, .bool false, .bool false, .bool false, .bool false, .bool false, .int .i64 0, .int .i64 0, .slice none 0 0, .slice none 0 0, .slice none 0 0, .slice none 0 0] 26))).drew)
  have HN : Hid (w.heap.size ≠ u.heap.size ∧ w.heap.size + 1 ≠ u.heap.size ∧ g ≠ u.heap.size ∧ w.heap.size ≤ u.heap.size) := Lib.hid ⟨by have := HT4.out.1.1.lt; omega, by have := HT4.out.1.2.1.lt; omega, by have := HT4.out.1.2.2.lt; omega, HT4.out.2.2.size⟩
  have HNS : Hid (NoS #[.int .u16 0, .bool false, .bool false, .bool false, .bool false, .bool false, .int .i64 0, .int .i64 0, .slice none 0 0, .slice none 0 0, .slice none 0 0, .slice none 0 0]) := Lib.hid (nos_of (by simp))
  go_cut [11] from 66 to 72 (fun pv wx => ∃ (g2 : Nat) (s2 : Sl), pv = ptr g2 ∧ TriM w w.heap.size (w.heap.size + 1) g (mc id r a t d v op cd ⟨some ⟨b, off, none⟩, qn, qc⟩ x2 y2 z2) (mc id' r' a' t' d' v' op' cd' ⟨some ⟨bp, offp, none⟩, pn, pc⟩ x3 y3 z3) (mc id true false false d true op code s nl nl nl) ⟨some ⟨b, off, none⟩, qn, qc⟩ ⟨some ⟨bp, offp, none⟩, pn, pc⟩ s qs ps wx ∧ Ce wx g2 26 (mc id false false false false false 0 0 s2 nl nl nl) ∧ RdQ wx s2 [⟨n0', t0, c0'⟩])
  case first =>
    go_region_held3 (fun w' => w'.cell? ⟨w.heap.size, 0, none⟩ = some (.int .u16 (id : Int)) ∧ w'.cell? ⟨w.heap.size, 8, none⟩ = some (.slice (some ⟨b, off, none⟩) qn qc) ∧ w'.cell? ⟨b, off, none⟩ = some (.string n0') ∧ w'.cell? ⟨b, off + 1, none⟩ = some (.int .u16 (t0 : Int)) ∧ w'.cell? ⟨b, off + 2, none⟩ = some (.int .u16 (c0' : Int)))
      (first | with_reducible exact HT8.out.q HG.out | with_reducible exact HT7.out.q HG.out | with_reducible exact HT6.out.q HG.out | with_reducible exact HT5.out.q HG.out | with_reducible exact HTB.out.q HG.out | with_reducible exact HT6.out.qa HG.out _ | fail)
      (first
        | (go_at_call 24; refine (HQ.out _).mono ?_; rintro e u2 ⟨s2, rfl, hs2, hu2⟩; have HT6 := Lib.hid (HT5.out.under hu2); have HS2 := Lib.hid hs2; clear hs2 hu2)
        | (go_at_call 24; refine (HQ.out _).mono ?_; rintro e u2 ⟨s2, rfl, hs2, hu2⟩; have HT7 := Lib.hid (HTB.out.under hu2); have HS2 := Lib.hid hs2; have HZ7 := Lib.hid (HZB.out.below hu2); clear hs2 hu2; obtain ⟨zz0, zz1, zz2, zz3, zz4, zz5, zz6, zz7, zz8, zz9, zz10, zz11⟩ := c12 HZ7.out; obtain ⟨f0, f1, f2, f3, f4, f5, f6, f7, f8, f9, f10, f11⟩ := f12 HZ7.out; have HT8 := Lib.hid (HT7.out.fill HZ7.out HNS.out HN.out.1 HN.out.2.1 HN.out.2.2.1 HN.out.2.2.2 (.int .u16 (id : Int)) (.bool false) (.bool false) (.bool false) (.bool false) (.bool false) (.int .i64 0) (.int .i64 0) (.slice s2.a s2.n s2.c) (.slice none 0 0) (.slice none 0 0) (.slice none 0 0)); have HZ8 := Lib.hid (set12_ce HZ7.out (.int .u16 (id : Int)) (.bool false) (.bool false) (.bool false) (.bool false) (.bool false) (.int .i64 0) (.int .i64 0) (.slice s2.a s2.n s2.c) (.slice none 0 0) (.slice none 0 0) (.slice none 0 0)); have HS8 := Lib.hid (HS2.out.other HZ7.out HNS.out (set12_others u2 u.heap.size (.int .u16 (id : Int)) (.bool false) (.bool false) (.bool false) (.bool false) (.bool false) (.int .i64 0) (.int .i64 0) (.slice s2.a s2.n s2.c) (.slice none 0 0) (.slice none 0 0) (.slice none 0 0)).1 (set12_others u2 u.heap.size (.int .u16 (id : Int)) (.bool false) (.bool false) (.bool false) (.bool false) (.bool false) (.int .i64 0) (.int .i64 0) (.slice s2.a s2.n s2.c) (.slice none 0 0) (.slice none 0 0) (.slice none 0 0)).2))
        | fail)
    · go_wp2_with fail
      go_meet
      case rel => exact ⟨_, s2, rfl, HT6.out.under (one_box _ _), Ce.new _ _ _, HS2.out.below (one_box _ _)⟩
    · go_wp2_with fail
      go_meet
      case rel => exact ⟨_, s2, rfl, HT8.out, HZ8.out, HS8.out⟩
  case rest =>
    obtain ⟨g2, s2, rfl, hT, hZ, hS⟩ := hcut
    have T9 := Lib.hid (hT.under (Below.refl _ wc).drew)
    have S9 := Lib.hid (hS.below (Below.refl _ wc).drew)
    obtain ⟨x0, x8, _⟩ := hT.q HG.out
    obtain ⟨yy0, yy1, yy2, yy3, yy4, yy5, yy6, yy7, yy8, yy9, yy10, yy11⟩ := c12 hZ
    have HL1 := Lib.hid (show Lay wc.drew (⟨id, false, false, false, false, false, 0, 0, [⟨n0', t0, c0'⟩], [], [], []⟩ : Ms) s2 nl nl nl from ⟨S9.out, rdr_nil _, rdr_nil _, rdr_nil _⟩)
    have HL2 := Lib.hid (show Lay wc.drew (⟨id, false, false, false, false, false, 0, 0, [⟨n0', t0, c0'⟩], [], [], []⟩ : Ms) ⟨some ⟨b, off, none⟩, 1, qc⟩ nl nl nl from ⟨T9.out.2.1.1.first HG.out, rdr_nil _, rdr_nil _, rdr_nil _⟩)
    have hqc : (1 : Int) ≤ (qc : Int) := by have := HCAP.out; omega
    clear hT hZ hS HT4 HT5 HTB HZB HN HNS HQ
    go_wp2_with fail
    go_still_tail 7, (by kernel_rfl)
    change wpList _ _ _ _ _ wc.drew
    clear yy0 yy1 yy2 yy3 yy4 yy5 yy6 yy7 yy8 yy9 yy10 yy11 x0 x8
    go_wp2_with fail
    refine (rmsame_any ⟨id, false, false, false, false, false, 0, 0, [⟨n0', t0, c0'⟩], [], [], []⟩ (by simp) (by simp) (by simp) (by simp) s2 nl nl nl ⟨some ⟨b, off, none⟩, 1, qc⟩ nl nl nl _ HL1.out HL2.out).mono ?_
    rintro e w9 ⟨rfl, hb9⟩
    have T10 := Lib.hid (T9.out.under hb9)
    have R10 := Lib.hid (T10.out.1.2.2)
    clear hb9 T9 S9 HL1 HL2
    go_upto_region 14 with (first | (refine ld12 (.tmp 8) R10.out rfl rfl rfl rfl ?_))
    have T11 := T10.out.under (one_box w9 (.cells (mc id true false false d true op code s nl nl nl) 26))
    have N11 := Ce.new w9 26 (mc id true false false d true op code s nl nl nl)
    have HN3 : Hid (w.heap.size ≠ w9.heap.size ∧ w.heap.size + 1 ≠ w9.heap.size ∧ g ≠ w9.heap.size ∧ w.heap.size ≤ w9.heap.size) := Lib.hid ⟨by have := T10.out.1.1.lt; omega, by have := T10.out.1.2.1.lt; omega, by have := T10.out.1.2.2.lt; omega, T10.out.2.2.size⟩
    clear R10 T10
    generalize World.alloc w9 _ = w10 at T11 N11 ⊢
    generalize w9.heap.size = g3 at N11 HN3 ⊢
    have r0 : w10.cell? ⟨g, 0, none⟩ = some (.int .u16 (id : Int)) := (T11.1.2.2.cell 0).trans rfl
    have r3 : w10.cell? ⟨g3, 0, none⟩ = some (.int .u16 (id : Int)) := (N11.cell 0).trans rfl
    have f3 := N11.frozen 0
    have HT11 := Lib.hid T11
    have HN11 := Lib.hid N11
    clear T11 N11
    go_upto_region 15 with fail
    obtain ⟨id2, hid2, hne⟩ := other_id id HOK.out.id
    rw [hid2]
    have T12 : TriM w w.heap.size (w.heap.size + 1) g3 (mc id r a t d v op cd ⟨some ⟨b, off, none⟩, qn, qc⟩ x2 y2 z2) (mc id' r' a' t' d' v' op' cd' ⟨some ⟨bp, offp, none⟩, pn, pc⟩ x3 y3 z3) (mc id2 true false false d true op code s nl nl nl) ⟨some ⟨b, off, none⟩, qn, qc⟩ ⟨some ⟨bp, offp, none⟩, pn, pc⟩ s qs ps (w10.setCell ⟨g3, 0, none⟩ (.int .u16 (id2 : Int))) :=
      have o := set_others w10 g3 0 (.int .u16 (id2 : Int))
      have ns : NoS (mc id true false false d true op code s nl nl nl) := mc_ns _ _ _ _ _ _ _ _ _ _ _ _
      ⟨⟨HT11.out.1.1.other HN3.out.1 _, HT11.out.1.2.1.other HN3.out.2.1 _, HN11.out.set (i := 0) _⟩, ⟨HT11.out.2.1.1.other HN11.out ns o.1 o.2, HT11.out.2.1.2.1.other HN11.out ns o.1 o.2, HT11.out.2.1.2.2.other HN11.out ns o.1 o.2⟩, HT11.out.2.2.setCell (p := ⟨g3, 0, none⟩) HN3.out.2.2.2 _⟩
    have hmt : mt ⟨id, r, a, t, d, v, op, cd, qs, an, au, ex⟩ ⟨id2, true, false, false, d, true, op, code, qs, [], [], []⟩ = false := (mt_no (by simp [hne])).symm
    have M3 := fun w h1 h2 => matches_any ⟨id, r, a, t, d, v, op, cd, qs, an, au, ex⟩ ⟨id2, true, false, false, d, true, op, code, qs, [], [], []⟩ (fun q hq => by have := (HLQ.out.q q hq).2; omega) (fun q hq => by have := (HLQ.out.q q hq).2; omega) ⟨some ⟨b, off, none⟩, qn, qc⟩ x2 y2 z2 s nl nl nl w h1 h2
    rw [hmt] at M3
    have hs0 : n0'.size ≤ 300 := (HLQ.out.q _ (List.mem_of_getElem? HG.out)).2
    have hs1 : n1'.size ≤ 300 := (HLP.out.q _ (List.mem_of_getElem? HP.out)).2
    have S1 := fun w => sameq_any ⟨n0', t0, c0'⟩ ⟨n1', t1, c1'⟩ (by show n0'.size ≤ _; omega) (by show n1'.size ≤ _; omega) w
    have S2 := fun w => rsameq_any ⟨n0', t0, c0'⟩ ⟨n1', t1, c1'⟩ (by show n0'.size ≤ _; omega) (by show n1'.size ≤ _; omega) w
    generalize sq ⟨n0', t0, c0'⟩ ⟨n1', t1, c1'⟩ = R3 at S1 S2
    have HM3 := Lib.hid M3
    have HS1 := Lib.hid S1
    have HS2 := Lib.hid S2
    have n3 : (R3 == R3) = true := by simp
    have HT12 := Lib.hid T12
    clear T12 hmt M3 hs0 hs1 S1 S2 HT11 HN11 HN3 r0 r3 f3 hid2 hne
    generalize World.setCell w10 _ _ = w11 at HT12 ⊢
    have HT0 := Lib.hid (HT12.out.under (Below.refl _ w11).drew)
    go_region_held3 (fun w' => ((w'.cell? ⟨w.heap.size, 0, none⟩ = some (.int .u16 (id : Int)) ∧ w'.cell? ⟨w.heap.size, 1, none⟩ = some (.bool r) ∧ w'.cell? ⟨w.heap.size, 2, none⟩ = some (.bool a) ∧ w'.cell? ⟨w.heap.size, 3, none⟩ = some (.bool t) ∧ w'.cell? ⟨w.heap.size, 4, none⟩ = some (.bool d) ∧ w'.cell? ⟨w.heap.size, 5, none⟩ = some (.bool v) ∧ w'.cell? ⟨w.heap.size, 6, none⟩ = some (.int .i64 op) ∧ w'.cell? ⟨w.heap.size, 7, none⟩ = some (.int .i64 cd) ∧ w'.cell? ⟨w.heap.size, 8, none⟩ = some (.slice (some ⟨b, off, none⟩) qn qc) ∧ w'.cell? ⟨w.heap.size, 9, none⟩ = some (x2.v) ∧ w'.cell? ⟨w.heap.size, 10, none⟩ = some (y2.v) ∧ w'.cell? ⟨w.heap.size, 11, none⟩ = some (z2.v)) ∧ (w'.cell? ⟨(w.heap.size + 1), 0, none⟩ = some (.int .u16 (id' : Int)) ∧ w'.cell? ⟨(w.heap.size + 1), 1, none⟩ = some (.bool r') ∧ w'.cell? ⟨(w.heap.size + 1), 2, none⟩ = some (.bool a') ∧ w'.cell? ⟨(w.heap.size + 1), 3, none⟩ = some (.bool t') ∧ w'.cell? ⟨(w.heap.size + 1), 4, none⟩ = some (.bool d') ∧ w'.cell? ⟨(w.heap.size + 1), 5, none⟩ = some (.bool v') ∧ w'.cell? ⟨(w.heap.size + 1), 6, none⟩ = some (.int .i64 op') ∧ w'.cell? ⟨(w.heap.size + 1), 7, none⟩ = some (.int .i64 cd') ∧ w'.cell? ⟨(w.heap.size + 1), 8, none⟩ = some (.slice (some ⟨bp, offp, none⟩) pn pc) ∧ w'.cell? ⟨(w.heap.size + 1), 9, none⟩ = some (x3.v) ∧ w'.cell? ⟨(w.heap.size + 1), 10, none⟩ = some (y3.v) ∧ w'.cell? ⟨(w.heap.size + 1), 11, none⟩ = some (z3.v)) ∧ (w'.cell? ⟨g3, 0, none⟩ = some (.int .u16 (id2 : Int)) ∧ w'.cell? ⟨g3, 1, none⟩ = some (.bool true) ∧ w'.cell? ⟨g3, 2, none⟩ = some (.bool false) ∧ w'.cell? ⟨g3, 3, none⟩ = some (.bool false) ∧ w'.cell? ⟨g3, 4, none⟩ = some (.bool d) ∧ w'.cell? ⟨g3, 5, none⟩ = some (.bool true) ∧ w'.cell? ⟨g3, 6, none⟩ = some (.int .i64 op) ∧ w'.cell? ⟨g3, 7, none⟩ = some (.int .i64 code) ∧ w'.cell? ⟨g3, 8, none⟩ = some (s.v) ∧ w'.cell? ⟨g3, 9, none⟩ = some (nl.v) ∧ w'.cell? ⟨g3, 10, none⟩ = some (nl.v) ∧ w'.cell? ⟨g3, 11, none⟩ = some (nl.v))) ∧ (w'.cell? ⟨b, off, none⟩ = some (.string n0') ∧ w'.cell? ⟨b, off + 1, none⟩ = some (.int .u16 (t0 : Int)) ∧ w'.cell? ⟨b, off + 2, none⟩ = some (.int .u16 (c0' : Int))) ∧ (w'.cell? ⟨bp, offp, none⟩ = some (.string n1') ∧ w'.cell? ⟨bp, offp + 1, none⟩ = some (.int .u16 (t1 : Int)) ∧ w'.cell? ⟨bp, offp + 2, none⟩ = some (.int .u16 (c1' : Int))))
      (first | with_reducible exact HT3.out.cc HG.out HP.out | with_reducible exact HT2.out.cc HG.out HP.out | with_reducible exact HT1.out.cc HG.out HP.out | with_reducible exact HT0.out.cc HG.out HP.out | fail)
      (first
        | (go_at_call 22; (first | (refine (HM3.out _ HT2.out.2.1.1 HT2.out.2.1.2.2).mono ?_; rintro e u ⟨rfl, hu⟩; have HT3 := Lib.hid (HT2.out.under hu); clear hu) | (refine (HM3.out _ HT1.out.2.1.1 HT1.out.2.1.2.2).mono ?_; rintro e u ⟨rfl, hu⟩; have HT2 := Lib.hid (HT1.out.under hu); clear hu) | (refine (HM3.out _ HT0.out.2.1.1 HT0.out.2.1.2.2).mono ?_; rintro e u ⟨rfl, hu⟩; have HT1 := Lib.hid (HT0.out.under hu); clear hu)))
        | (go_at_call 25; (first | (refine (HS1.out _).mono ?_; rintro e u ⟨rfl, hu⟩; have HT3 := Lib.hid (HT2.out.under hu); clear hu) | (refine (HS1.out _).mono ?_; rintro e u ⟨rfl, hu⟩; have HT2 := Lib.hid (HT1.out.under hu); clear hu) | (refine (HS1.out _).mono ?_; rintro e u ⟨rfl, hu⟩; have HT1 := Lib.hid (HT0.out.under hu); clear hu)))
        | (go_at_call 26; (first | (refine (HS2.out _).mono ?_; rintro e u ⟨rfl, hu⟩; have HT3 := Lib.hid (HT2.out.under hu); clear hu) | (refine (HS2.out _).mono ?_; rintro e u ⟨rfl, hu⟩; have HT2 := Lib.hid (HT1.out.under hu); clear hu) | (refine (HS2.out _).mono ?_; rintro e u ⟨rfl, hu⟩; have HT1 := Lib.hid (HT0.out.under hu); clear hu)))
        | fail)
    all_goals go_wp2
    all_goals go_ret
    all_goals exact ⟨rfl, HT3.out.2.2⟩
end Go.Proofs.Ytljfkjbagebncaa
