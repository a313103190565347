/-
  Write: What writing a message that was checked answers. No older memory is changed.
-/
import Derived.Test.YtljfkjbagebncaaG28
import Derived.Test.YtljfkjbagebncaaG26
import Derived.Great.BuildSlice

/- Write -/
namespace Go.Proofs.Ytljfkjbagebncaa
open Go.RowKit
/-- A message's header. -/
def hdM (m : Ms) : Bs := word m.id ++ word (flw m.r m.a m.t m.d m.v m.op.toNat m.cd.toNat) ++ word m.qs.length ++ word m.an.length ++ word m.au.length ++ word m.ex.length
/-- What stands there behind the questions and so many lists. -/
def ws (m : Ms) : Nat → St
  | 0 => m.qs.foldl qP (hdM m, [])
  | k + 1 => (sel m.an m.au m.ex k).foldl rP (ws m k)
/-- All of a message. -/
def mF (m : Ms) : St := ws m 3
def wres (lim : Int) (m : Ms) : Bs × Int := if lim < ((mF m).1.length : Int) then ([], 11) else ((mF m).1, 0)
theorem hd_fit (m : Ms) : FitS (hdM m, ([] : Kn)) := ⟨by simp, okK_nil⟩
theorem hd_length (m : Ms) : (hdM m).length = 12 := by simp only [hdM, List.length_append, word_length]
/-- A message that may be written. -/
structure MGood (m : Ms) : Prop where
  op : 0 ≤ m.op ∧ m.op ≤ 15
  cd : 0 ≤ m.cd ∧ m.cd ≤ 15
  nq : m.qs.length ≤ 65535
  nx : m.an.length ≤ 65535
  ny : m.au.length ≤ 65535
  nz : m.ex.length ≤ 65535
  qs : ∀ q ∈ m.qs, qck q = 0
  an : ∀ r ∈ m.an, rck r = 0
  au : ∀ r ∈ m.au, rck r = 0
  ex : ∀ r ∈ m.ex, rck r = 0
theorem mck_good {m : Ms} : mck m = 0 ↔ MGood m := by
  constructor
  · intro h
    unfold mck at h
    by_cases hn : m.nf = true
    · rw [if_pos hn] at h
      have h2 := hn
      unfold Ms.nf nfit at h2
      simp only [decide_eq_true_eq] at h2
      obtain ⟨a1, a2, a3, a4, a5, a6, a7, a8⟩ := h2
      simp only [ek, sel] at h
      have e0 : fe qck m.qs = 0 := by
        by_cases g : fe qck m.qs = 0
        · exact g
        · simp [g] at h
      have e1 : fe rck m.an = 0 := by
        by_cases g : fe rck m.an = 0
        · exact g
        · simp [e0, g] at h
      have e2 : fe rck m.au = 0 := by
        by_cases g : fe rck m.au = 0
        · exact g
        · simp [e0, e1, g] at h
      have e3 : fe rck m.ex = 0 := by simpa [e0, e1, e2] using h
      exact ⟨⟨a1, a2⟩, ⟨a3, a4⟩, a5, a6, a7, a8, fe_zero e0, fe_zero e1, fe_zero e2, fe_zero e3⟩
    · rw [if_neg hn] at h; cases h
  · intro h
    have hn : m.nf = true := by
      unfold Ms.nf nfit
      simp only [decide_eq_true_eq]
      exact ⟨h.op.1, h.op.2, h.cd.1, h.cd.2, h.nq, h.nx, h.ny, h.nz⟩
    unfold mck
    rw [if_pos hn]
    simp [ek, sel, fe_all h.qs, fe_all h.an, fe_all h.au, fe_all h.ex]
theorem MGood.sel {m : Ms} (h : MGood m) (k : Nat) : ∀ r ∈ sel m.an m.au m.ex k, rck r = 0 := by
  unfold Go.Proofs.Ytljfkjbagebncaa.sel
  split
  · exact h.an
  · split
    · exact h.au
    · exact h.ex
theorem ws_fit {m : Ms} (h : MGood m) (k : Nat) : FitS (ws m k) := by
  induction k with
  | zero => exact (foldQ_fit _ _ (hd_fit m) h.qs).1
  | succ k ih => exact (foldR_fit _ _ ih).1
theorem Wr.next {lim : Int} {s0 f0 R : St} {rs : List Rc} (h : Wr lim s0 f0) (h1 : s0.1.length ≤ R.1.length) (h2 : Wr lim R (rs.foldl rP s0)) (hf : FitS f0) : Wr lim R (rs.foldl rP f0) := by
  rcases h with rfl | ⟨g1, g2⟩
  · exact h2
  · have := (foldR_fit rs f0 hf).2
    exact .inr ⟨by omega, by omega⟩
theorem QP.new {w0 w : World} {b : Nat} {K : List (Nat × Obj)} (h : PK (w0.heap.size ≤ ·) b [] [] w) (hb : Below w0.heap.size w0 w) (hK : ∀ p ∈ K, w0.heap[p.1]? = some p.2) : QP (w0.heap.size ≤ ·) w0 b K [] [] w :=
  ⟨_, ⟨h.lt, fun k hk => ⟨hk.2, .inl hk.1⟩⟩, Tr.of_below hb, fun p hp => by
    have hlt : p.1 < w0.heap.size := (Array.getElem?_eq_some_iff.1 (hK p hp)).1
    exact ⟨fun hs => by have := hs.1; omega, (hb.block _ hlt).trans (hK p hp)⟩⟩
theorem wres_of {lim : Int} {m : Ms} {R : St} (h : Wr lim R (mF m)) : (rmE lim R.1.length = 11 ∧ wres lim m = ([], 11)) ∨ (rmE lim R.1.length = 0 ∧ wres lim m = (R.1, 0)) := by
  unfold rmE wres
  rcases h with rfl | ⟨h1, h2⟩
  · by_cases g : lim < ((mF m).1.length : Int)
    · rw [if_pos g, if_pos g]; exact .inl ⟨rfl, rfl⟩
    · rw [if_neg g, if_neg g]; exact .inr ⟨rfl, rfl⟩
  · rw [if_pos h1, if_pos h2]; exact .inl ⟨rfl, rfl⟩
theorem info89 : (Try.prog.info? 89).map (·.size) = some 1 := by kernel_rfl
theorem st89 {ops : Array Oper} {rest : List Oper} {o : Oper} {a : Act} {w : World} {Q : Exit → Act → World → Prop} (x y : Operand) {g : Nat} {old : Value} (hg : Ce w g 89 #[old])
    (v : Value) (hgd : o.guard = none) (ho : o.op = .store 89 x y) (hx : a.eval x = ptr g) (hy : a.eval y = v) (h1 : v.oneCell' = true) (h : wpList Try.prog ops Q rest (a.put o.dst undef) (w.setRow g #[v])) : wpList Try.prog ops Q (o :: rest) a w :=
  wpList_store_one hgd 89 x y ho g hx (by rw [hy]; exact h1) 89 old hg info89 (by rw [hy]; exact h)
set_option maxRecDepth 100000 in
set_option maxHeartbeats 12800000 in
theorem write_any (m : Ms) (hm : m.Ok) (hg : MGood m) (q x y z : Sl) (lim : Int) (hlim : -9223372036854775808 ≤ lim ∧ lim ≤ 4096) (w : World) (h : Lay w m q x y z) :
    Calls Try.prog 29 #[.agg (m.cells q x y z), .int .i64 lim] w fun e w' => e = .returned (.tuple #[str (wres lim m).1, .int .i64 (wres lim m).2]) ∧ Below w.heap.size w w' := by
  obtain ⟨k0, k1, kb⟩ := two_boxes w 26 3 (m.cells q x y z) #[.int .i64 lim]
  have hl := h.below kb
  have ho : m.op = ((m.op.toNat : Nat) : Int) := by have := hg.op; omega
  have hcd : m.cd = ((m.cd.toNat : Nat) : Int) := by have := hg.cd; omega
  have HP : Hid (∀ S b w, PK S b [] [] w → Calls Try.prog 59 #[ptr b, .agg (m.cells q x y z)] w fun e w' => (∃ v, e = .returned v) ∧ Lft S b (hdM m) [] w w') := Lib.hid fun S b w hp => by
    have := putHead_any m.id hm.id m.r m.a m.t m.d m.v m.op.toNat m.cd.toNat (by have := hg.op; omega) (by have := hg.cd; omega) q x y z (by rw [h.q.1]; exact hg.nq) (by rw [h.x.1]; exact hg.nx) (by rw [h.y.1]; exact hg.ny) (by rw [h.z.1]; exact hg.nz) S b [] [] w hp (by simp)
    rw [← ho, ← hcd] at this
    have e : ([] : Bs) ++ hdB m.id (flw m.r m.a m.t m.d m.v m.op.toNat m.cd.toNat) q.n x y z = hdM m := by
      have e1 : wl x y z 3 = [] ++ word x.n ++ word y.n ++ word z.n := rfl
      unfold hdB hdM
      rw [e1, h.q.1, h.x.1, h.y.1, h.z.1]
      simp
    rw [e] at this
    exact this
  have HO := Lib.hid (fun w => of_any m.id m.r m.a m.t m.d m.v m.op m.cd q x y z w)
  have HM := Lib.hid hm
  have HG := Lib.hid hg
  have HL := Lib.hid hl
  have HK0 := Lib.hid k0
  have HK1 := Lib.hid k1
  have HKB := Lib.hid kb
  have HLIM := Lib.hid hlim
  clear k0 k1 kb hl h hm hg hlim ho hcd
  go_enter Try.func29, Try.ntmps29
  go_wp2_with fail
  generalize hW2 : World.alloc (World.alloc _ _) _ = W2 at HL HK0 HK1 HKB ⊢
  clear hW2
  refine (new_any W2).mono ?_
  rintro e w3 ⟨rfl, hp3, hb3⟩
  have Q3 : QP (W2.heap.size ≤ ·) W2 W2.heap.size [(w.heap.size + 1, .cells #[.int .i64 lim] 3)] [] [] w3 := QP.new hp3 hb3 (fun p hp => by
    rcases List.mem_cons.1 hp with rfl | hp
    · exact HK1.out
    · cases hp)
  have Q4 := Q3.box (.cells #[ptr W2.heap.size] 86)
  generalize hb' : W2.heap.size = b at Q4 ⊢
  clear hp3 hb3 Q3
  have Q5 := fun v => Q4.more (below_row (one_box _ (.cells #[.nilFunc] 89)) (Nat.le_refl _) #[v]) (Nat.le_refl _) ((Ce.new _ 89 #[.nilFunc]).row #[v])
  have HN : Hid (Ce ((w3.alloc (.cells #[ptr b] 86)).alloc (.cells #[.nilFunc] 89)) (w3.heap.size + 1) 89 #[.nilFunc]) := Lib.hid (by
    have := Ce.new (w3.alloc (.cells #[ptr b] 86)) 89 #[.nilFunc]
    rwa [World.size_alloc] at this)
  simp only [World.size_alloc] at Q5
  obtain ⟨V, hV⟩ : ∃ V : Value, V = .func (.func 57) #[] #[ptr w3.heap.size, ptr (w.heap.size + 1)] := ⟨_, rfl⟩
  have q5 := (Q5 V).sub (K' := wk w3.heap.size (w3.heap.size + 1) (w.heap.size + 1) b lim) (fun p hp => by
    rw [hV]
    rcases List.mem_cons.1 hp with rfl | hp
    · simp
    · rcases List.mem_cons.1 hp with rfl | hp
      · simp
      · rcases List.mem_cons.1 hp with rfl | hp
        · simp
        · cases hp)
  have y5 := (q5.ce (g := w3.heap.size) (T := 86) (cs := #[ptr b]) (by simp)).cell 0
  have HM5 : Hid (Ce _ w.heap.size 26 (m.cells q x y z)) := Lib.hid (HK0.out.below (q5.below (fun k hk => by omega)))
  have HQ5 := Lib.hid q5
  simp at y5
  clear Q4 Q5 q5
  rw [hV] at HQ5 HM5 y5
  clear hV
  go_wp2_with (first | (refine st89 (.tmp 7) (.tmp 12) HN.out (.func (.func 57) #[] #[ptr w3.heap.size, ptr (w.heap.size + 1)]) rfl rfl rfl rfl rfl ?_) | (refine ld12 (.tmp 2) HM5.out rfl rfl rfl rfl ?_))
  refine (QP.call HQ5.out (fun S' hS => HP.out S' b _ hS)).mono ?_
  rintro e w6 ⟨⟨v6, rfl⟩, Q6⟩
  have HS : Hid (∀ k, b ≤ k → W2.heap.size ≤ k) := Lib.hid (fun k hk => by omega)
  have M6 := HK0.out.below (Q6.below HS.out)
  have x8 := M6.cell 8
  simp at x8
  have H6 := Lib.hid Q6
  clear Q6 M6 HQ5 HM5 HN y5 hb'
  go_wp2_with fail
  refine (eachWQ_any q m.qs HM.out.qs HG.out.qs HM.out.nq _ W2 HS.out _ _ _ b lim HLIM.out.2 (hdM m, []) 4096 (by omega) w6 H6.out (hd_fit m) (by show (hdM m).length ≤ _; rw [hd_length]; omega) HL.out.q).mono ?_
  rintro e w7 ⟨⟨v7, rfl⟩, R0, Q7, hf7, hl7, hB7, hW7⟩
  have HM7 := Lib.hid (HK0.out.below (Q7.below HS.out))
  have H7 := Lib.hid Q7
  have HF7 := Lib.hid hf7
  have HB7 := Lib.hid hB7
  have HW7 : Hid (Wr lim R0 (ws m 0)) := Lib.hid hW7
  clear Q7 hf7 hB7 hW7 hl7 x8 H6
  go_wp2_with (first | (refine ld12 (.tmp 2) HM7.out rfl rfl rfl rfl ?_))
  refine (HO.out _).mono ?_
  rintro e w8 ⟨rfl, hb8⟩
  have H8 := Lib.hid (H7.out.under hb8)
  clear hb8 H7 HM7
  go_wp2
  go_loopw [22] (fun i wr => ∃ (k : Nat) (R : St), k ≤ 3 ∧ i = .int .i64 k ∧ QP (fun x => b ≤ x) W2 b (wk w3.heap.size (w3.heap.size + 1) (w.heap.size + 1) b lim) R.1 R.2 wr ∧ FitS R ∧ R.1.length ≤ 6496 + 2400 * k ∧ Wr lim R (ws m k)) (fun i _ => 3 - (intOf i).toNat)
  case atStart => exact ⟨0, R0, by omega, rfl, H8.out, HF7.out, by have := HB7.out; omega, HW7.out⟩
  case round =>
    clear H8 HF7 HB7 HW7
    obtain ⟨k, R, hk, rfl, hq, hf, hB, hW⟩ := hrel
    by_cases hlt : k < 3
    · have q1 : (k : Int) < 3 := by omega
      have hix := fun w => idx3 x y z k hlt w
      have C := eachWR_any (sel x y z k) (sel m.an m.au m.ex k) (HM.out.sel k).1 (HG.out.sel k) (HM.out.sel k).2 _ W2 HS.out _ _ _ b lim HLIM.out.2 R (6496 + 2400 * k) (by omega) wr hq hf hB (HL.out.sel k)
      have HC := Lib.hid C
      have HW := Lib.hid hW
      generalize hs : sel x y z k = s at hix HC
      clear hq hf hB hW C hs
      go_wp2_with fail
      refine HC.out.mono ?_
      rintro e w9 ⟨⟨v9, rfl⟩, R1, Q9, hf9, hl9, hB9, hW9⟩
      have H9 := Lib.hid Q9
      have HF9 := Lib.hid hf9
      have HB9 := Lib.hid hB9
      have HW9 : Hid (Wr lim R1 (ws m (k + 1))) := Lib.hid (HW.out.next hl9 hW9 (ws_fit HG.out k))
      clear Q9 hf9 hB9 hW9 hl9
      go_wp2
      go_roundw
      case rel => exact ⟨k + 1, R1, by omega, by go_num, H9.out, HF9.out, by have := HB9.out; omega, HW9.out⟩
      case measure => simp [intOf]; omega
    · obtain rfl : k = 3 := by omega
      obtain ⟨S9, hS9, _⟩ := hq.step
      have C := room_any S9 b w3.heap.size (w.heap.size + 1) lim R.1 R.2 wr hS9 (hq.ce (by simp)) (hq.ce (by simp))
      have hbw := HKB.out.trans ((hq.below HS.out).mono HKB.out.size)
      have z0 := (hq.ce (g := w3.heap.size + 1) (T := 89) (cs := #[.func (.func 57) #[] #[ptr w3.heap.size, ptr (w.heap.size + 1)]]) (by simp)).cell 0
      simp at z0
      have HBW := Lib.hid hbw
      have HQ := Lib.hid hq
      rcases wres_of hW with ⟨e1, e2⟩ | ⟨e1, e2⟩
      · rw [e1] at C
        have HC := Lib.hid C
        have HE := Lib.hid e2
        clear C e1 e2 hbw hq hf hB hW hS9
        go_wp2_with fail
        refine HC.out.mono ?_
        rintro e w9 ⟨rfl, hb9⟩
        have HB9 := Lib.hid (HBW.out.trans (hb9.mono HBW.out.size))
        clear hb9
        go_wp2
        go_ret2
        exact ⟨by rw [HE.out]; rfl, HB9.out⟩
      · rw [e1] at C
        have HC := Lib.hid C
        have HE := Lib.hid e2
        clear C e1 e2 hbw hf hB hW hS9 hq
        go_wp2_with fail
        refine HC.out.mono ?_
        rintro e w9 ⟨rfl, hb9⟩
        have HB9 := Lib.hid (HBW.out.trans (hb9.mono HBW.out.size))
        have Q9 := HQ.out.under hb9
        have y0 := (Q9.ce (g := w3.heap.size) (T := 86) (cs := #[ptr b]) (by simp)).cell 0
        simp at y0
        obtain ⟨S10, hS10, _⟩ := Q9.step
        have CB := pbytes_any S10 b R.1 R.2 w9 hS10
        obtain ⟨X, hX⟩ : ∃ X : Value, X = str R.1 := ⟨_, rfl⟩
        rw [← hX] at CB
        have HX := Lib.hid hX
        have HCB := Lib.hid CB
        clear hb9 z0 Q9 hS10 CB hX
        go_wp2_with fail
        refine HCB.out.mono ?_
        rintro e w' ⟨rfl, rfl⟩
        go_wp2
        go_ret2
        exact ⟨by rw [HE.out, HX.out]; rfl, HB9.out⟩
end Go.Proofs.Ytljfkjbagebncaa
