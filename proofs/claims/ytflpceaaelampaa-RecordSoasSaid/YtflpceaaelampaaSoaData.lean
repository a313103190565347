/-
  The data of an SOA: what SoaData answers, by the program and by the document. No older memory is changed.
-/
import Derived.Test.YtflpceaaelampaaSoa
import Derived.Test.YtflpceaaelampaaKeep
import Derived.Test.YtflpceaaelampaaPr
namespace Go.Proofs.Ytflpceaaelampaa
open Go.RowKit
/-- A packer, and blocks that are not its own and hold what they held. -/
def PG (S : Nat → Prop) (w0 : World) (b : Nat) (K : List (Nat × Obj)) (B : Bs) (L : Kn) (w : World) : Prop :=
  ∃ keep, PS S keep w0 b B L w ∧ ∀ p ∈ K, keep p.1 ∧ w.heap[p.1]? = some p.2
theorem PG.step {S : Nat → Prop} {w0 w : World} {b : Nat} {K : List (Nat × Obj)} {B : Bs} {L : Kn} (h : PG S w0 b K B L w) :
    ∃ S', PK S' b B L w ∧ ∀ w' B' L', Lft S' b B' L' w w' → PG S w0 b K B' L' w' ∧ w.heap.size ≤ w'.heap.size := by
  obtain ⟨keep, h1, h2⟩ := h
  obtain ⟨S', k1, k2⟩ := h1.step
  refine ⟨S', k1, fun w' B' L' hl => ?_⟩
  obtain ⟨j1, j2, j3⟩ := k2 w' B' L' hl
  refine ⟨⟨_, j1, fun p hp => ?_⟩, j3⟩
  obtain ⟨m1, m2⟩ := h2 p hp
  have hlt : p.1 < w.heap.size := (Array.getElem?_eq_some_iff.1 m2).1
  exact ⟨⟨m1, hlt⟩, (j2 _ m1 hlt).trans m2⟩
theorem PG.under {S : Nat → Prop} {w0 w w' : World} {b : Nat} {K : List (Nat × Obj)} {B : Bs} {L : Kn} (h : PG S w0 b K B L w) (hb : Below w.heap.size w w') : PG S w0 b K B L w' := by
  obtain ⟨keep, h1, h2⟩ := h
  refine ⟨_, h1.under hb, fun p hp => ?_⟩
  obtain ⟨m1, m2⟩ := h2 p hp
  exact ⟨.inl m1, (hb.block _ (Array.getElem?_eq_some_iff.1 m2).1).trans m2⟩
/-- What came below in new memory is kept, too. -/
theorem PG.more {S : Nat → Prop} {w0 w w' : World} {b g : Nat} {o : Obj} {K : List (Nat × Obj)} {B : Bs} {L : Kn} (h : PG S w0 b K B L w) (hb : Below w.heap.size w w') (hg : w.heap.size ≤ g) (ho : w'.heap[g]? = some o) : PG S w0 b ((g, o) :: K) B L w' := by
  obtain ⟨keep, h1, h2⟩ := h
  refine ⟨_, h1.under hb, fun p hp => ?_⟩
  rcases List.mem_cons.1 hp with rfl | hp
  · exact ⟨.inr ⟨hg, (Array.getElem?_eq_some_iff.1 ho).1⟩, ho⟩
  · obtain ⟨m1, m2⟩ := h2 p hp
    exact ⟨.inl m1, (hb.block _ (Array.getElem?_eq_some_iff.1 m2).1).trans m2⟩
theorem PG.alloc {S : Nat → Prop} {w0 w : World} {b : Nat} {K : List (Nat × Obj)} {B : Bs} {L : Kn} (h : PG S w0 b K B L w) (o : Obj) : PG S w0 b ((w.heap.size, o) :: K) B L (w.alloc o) :=
  h.more (one_box w o) (Nat.le_refl _) (World.alloc_heap_new w o)
theorem PG.get {S : Nat → Prop} {w0 w : World} {b g : Nat} {o : Obj} {K : List (Nat × Obj)} {B : Bs} {L : Kn} (h : PG S w0 b K B L w) (hm : (g, o) ∈ K) : w.heap[g]? = some o := by
  obtain ⟨keep, h1, h2⟩ := h
  exact (h2 _ hm).2
theorem PG.ce {S : Nat → Prop} {w0 w : World} {b g : Nat} {T : TypeId} {cs : Array Value} {K : List (Nat × Obj)} {B : Bs} {L : Kn} (h : PG S w0 b K B L w) (hm : (g, Obj.cells cs T (0, 0)) ∈ K) : Ce w g T cs := h.get hm
/-- A new packer: all that was there before is kept. -/
theorem PG.start {w w1 : World} {b : Nat} {K : List (Nat × Obj)} (h : PK (w.heap.size ≤ ·) b [] [] w1) (hb : Below w.heap.size w w1) (hK : ∀ p ∈ K, w.heap[p.1]? = some p.2) : PG (w.heap.size ≤ ·) w b K [] [] w1 := by
  refine ⟨fun k => k < w.heap.size, ⟨_, h.lt, fun k hk => ⟨hk.2, .inl hk.1, fun h => by have := hk.1; omega⟩, Tr.of_below hb⟩, fun p hp => ?_⟩
  have := hK p hp
  have hlt : p.1 < w.heap.size := (Array.getElem?_eq_some_iff.1 this).1
  exact ⟨hlt, (hb.block _ hlt).trans this⟩
theorem PG.below {w w1 : World} {b : Nat} {K : List (Nat × Obj)} {B : Bs} {L : Kn} (h : PG (w.heap.size ≤ ·) w b K B L w1) : Below w.heap.size w w1 := by
  obtain ⟨keep, ⟨S', h1, h2, h3⟩, _⟩ := h
  exact h3.below (Nat.le_refl _) fun k hk => hk
/-- The data of an SOA. -/
def sd (x : Sa) : Bs × Int :=
  if chk x.s.data.toList = 0 then (if chk x.m.data.toList = 0 then (x.s.data.toList ++ x.m.data.toList ++ long x.a ++ long x.b ++ long x.c ++ long x.d ++ long x.e, 0) else ([], chk x.m.data.toList)) else ([], chk x.s.data.toList)
def longs (l : List Nat) : Bs := l.flatMap long
theorem longs_len (l : List Nat) : (longs l).length = 4 * l.length := by
  induction l with
  | nil => rfl
  | cons x l ih => simp only [longs, List.flatMap_cons, List.length_append] at ih ⊢; rw [ih]; simp [long]; omega
theorem longs_take {l : List Nat} {k x : Nat} (h : l[k]? = some x) : longs (l.take (k + 1)) = longs (l.take k) ++ long x := by
  obtain ⟨hk, e⟩ := List.getElem?_eq_some_iff.1 h
  rw [List.take_succ_eq_append_getElem hk, e]; simp [longs]
def SdPost (w : World) (x : Bs × Int) (e : Ending) (w' : World) : Prop := e = .returned (.tuple #[str x.1, .int .i64 x.2]) ∧ Below w.heap.size w w'
theorem sdp_no {w w' : World} {x : Bs × Int} {E : Int} (h : x = ([], E)) (hb : Below w.heap.size w w') : SdPost w x (.returned (.tuple #[.string ⟨#[]⟩, .int .i64 E])) w' := by
  subst h; exact ⟨rfl, hb⟩
set_option maxRecDepth 100000 in
set_option maxHeartbeats 12800000 in
theorem soadata_any (x : Sa) (hx : x.Num) (hs : x.s.size ≤ 1000) (hm : x.m.size ≤ 1000) (w : World) :
    Calls Try.prog 30 #[x.v] w (SdPost w (sd x)) := by
  have hb := one_box w (.cells x.cells 31)
  have bk := Ce.new w 31 x.cells
  obtain ⟨T, hT⟩ : ∃ T, T = sd x := ⟨_, rfl⟩
  rw [← hT]
  obtain ⟨s, m, a, b, c, d, e⟩ := x
  obtain ⟨ha, hb', hc, hd, he⟩ := hx
  simp only at ha hb' hc hd he hs hm
  unfold sd at hT
  simp only at hT
  have HT := Lib.hid hT
  have HB := Lib.hid hb
  have HK := Lib.hid bk
  have hs9 : s.size ≤ 140737488351232 := by omega
  have hm9 : m.size ≤ 140737488351232 := by omega
  have hsl := size_list s
  have hml := size_list m
  have hai : 0 ≤ (a : Int) ∧ (a : Int) < 4294967296 := by omega
  have hbi : 0 ≤ (b : Int) ∧ (b : Int) < 4294967296 := by omega
  have hci : 0 ≤ (c : Int) ∧ (c : Int) < 4294967296 := by omega
  have hdi : 0 ≤ (d : Int) ∧ (d : Int) < 4294967296 := by omega
  have hei : 0 ≤ (e : Int) ∧ (e : Int) < 4294967296 := by omega
  clear hT hb bk ha hb' hc hd he
  go_enter Try.func30, Try.ntmps30
  go_wp2_with fail
  refine (new_any _).mono ?_
  rintro e1 w1 ⟨rfl, hp1, hb1⟩
  have hG := PG.start (K := [(w.heap.size, Obj.cells #[.string s, .string m, .int .u32 (a : Int), .int .u32 (b : Int), .int .u32 (c : Int), .int .u32 (d : Int), .int .u32 (e : Int)] 31 (0, 0))]) hp1 hb1 (fun p hp => by rw [List.mem_singleton.1 hp]; exact HK.out)
  obtain ⟨w0, hw0⟩ : ∃ w0, w0 = w.alloc (.cells #[.string s, .string m, .int .u32 (a : Int), .int .u32 (b : Int), .int .u32 (c : Int), .int .u32 (d : Int), .int .u32 (e : Int)] 31) := ⟨_, rfl⟩
  rw [← hw0] at hG
  have HB0 : Hid (Below w.heap.size w w0) := Lib.hid (by rw [hw0]; exact HB.out)
  have hsz0 : w0.heap.size = w.heap.size + 1 := by rw [hw0]; simp
  obtain ⟨y0, y1, y2, y3, y4, y5, y6⟩ := c7 (hG.ce (List.mem_singleton.2 rfl))
  have hG2 := hG.alloc (.cells #[.string s, .string m] 9)
  have HG2 := Lib.hid ((congrArg (fun bb => PG (fun k => w0.heap.size ≤ k) w0 bb ((w1.heap.size, Obj.cells #[.string s, .string m] 9 (0, 0)) :: [(w.heap.size, Obj.cells #[.string s, .string m, .int .u32 (a : Int), .int .u32 (b : Int), .int .u32 (c : Int), .int .u32 (d : Int), .int .u32 (e : Int)] 31 (0, 0))]) [] [] (w1.alloc (.cells #[.string s, .string m] 9))) hsz0).mp hG2)
  clear hp1 hb1 hG hw0 hG2
  rw [World.size_alloc]
  go_wp2
  go_loopw [17] (fun i wr => ∃ (k : Nat) (B : Bs) (L : Kn), k ≤ 2 ∧ i = .int .i64 k ∧ PG (w0.heap.size ≤ ·) w0 (w.heap.size + 1) ((w1.heap.size, Obj.cells #[.string s, .string m] 9 (0, 0)) :: [(w.heap.size, Obj.cells #[.string s, .string m, .int .u32 (a : Int), .int .u32 (b : Int), .int .u32 (c : Int), .int .u32 (d : Int), .int .u32 (e : Int)] 31 (0, 0))]) B L wr ∧ Fit B L ∧ B = (if k = 0 then [] else if k = 1 then s.data.toList else s.data.toList ++ m.data.toList) ∧ (0 < k → chk s.data.toList = 0) ∧ (1 < k → chk m.data.toList = 0)) (fun i _ => 2 - (intOf i).toNat)
  case atStart => exact ⟨0, [], [], by omega, rfl, HG2.out, ⟨by simp, okK_nil⟩, rfl, by omega, by omega⟩
  case round =>
    clear HG2
    obtain ⟨k, B, L, hk, rfl, hI, hF, hBk, hk1, hk2⟩ := hrel
    rcases (by omega : k = 0 ∨ k = 1 ∨ k = 2) with rfl | rfl | rfl
    · have C2 := hI.ce (List.mem_cons_self ..)
      have i0 := C2.cell 0
      simp at i0
      obtain ⟨S', hp, hs'⟩ := hI.step
      have HS' := Lib.hid hs'
      have HF := Lib.hid hF
      have HI := Lib.hid hI
      rw [show ((0 : Nat) : Int) = 0 from rfl]
      have hBk' : B = [] := hBk
      subst hBk'
      clear hBk
      clear C2 hs' hI
      by_cases g : chk s.data.toList = 0
      · have q : (chk s.data.toList == 0) = true := by simpa using g
        have q' : (chk s.data.toList != 0) = false := by simpa using g
        have HBE : Hid (pkB false ([] : Bs) L s.data.toList = ([] : Bs) ++ s.data.toList) := Lib.hid (pkB_plain g)
        have HG := Lib.hid g
        clear g
        go_wp2_with fail
        refine (pname_any s hs9 false S' _ ([] : Bs) L _ hp (by simp) HF.out.l HF.out.k).mono ?_
        rintro e2 w2 ⟨rfl, hl2⟩
        obtain ⟨hI2, hsz2⟩ := HS'.out _ _ _ hl2
        rw [HBE.out] at hI2
        have HI2 := Lib.hid hI2
        have HF2 := Lib.hid (HF.out.name false s.data.toList)
        rw [HBE.out] at HF2
        clear hl2 hI2
        go_wp2
        go_roundw
        case rel => exact ⟨1, _, _, by omega, rfl, HI2.out, HF2.out, by simp, fun _ => HG.out, by omega⟩
        case measure => simp [intOf]
      · have q : (chk s.data.toList == 0) = false := by simpa using g
        have q' : (chk s.data.toList != 0) = true := by simpa using g
        have HN : Hid (T = ([], chk s.data.toList)) := Lib.hid (by rw [HT.out]; rw [if_neg g])
        clear g
        go_wp2_with fail
        refine (pname_any s hs9 false S' _ ([] : Bs) L _ hp (by simp) HF.out.l HF.out.k).mono ?_
        rintro e2 w2 ⟨rfl, hl2⟩
        obtain ⟨hI2, hsz2⟩ := HS'.out _ _ _ hl2
        have HI2 := Lib.hid hI2
        clear hl2 hI2
        go_wp2
        go_ret2
        exact sdp_no HN.out (HB0.out.trans (HI2.out.below.mono HB0.out.size))
    · have C2 := hI.ce (List.mem_cons_self ..)
      have i1 := C2.cell 1
      simp at i1
      obtain ⟨S', hp, hs'⟩ := hI.step
      have HS' := Lib.hid hs'
      have HF := Lib.hid hF
      have HI := Lib.hid hI
      rw [show ((1 : Nat) : Int) = 1 from rfl]
      have hBk' : B = s.data.toList := hBk
      subst hBk'
      clear hBk
      clear C2 hs' hI
      by_cases g : chk m.data.toList = 0
      · have q : (chk m.data.toList == 0) = true := by simpa using g
        have q' : (chk m.data.toList != 0) = false := by simpa using g
        have HBE : Hid (pkB false s.data.toList L m.data.toList = s.data.toList ++ m.data.toList) := Lib.hid (pkB_plain g)
        have HG := Lib.hid g
        clear g
        go_wp2_with fail
        refine (pname_any m hm9 false S' _ s.data.toList L _ hp (by rw [← size_list]; omega) HF.out.l HF.out.k).mono ?_
        rintro e2 w2 ⟨rfl, hl2⟩
        obtain ⟨hI2, hsz2⟩ := HS'.out _ _ _ hl2
        rw [HBE.out] at hI2
        have HI2 := Lib.hid hI2
        have HF2 := Lib.hid (HF.out.name false m.data.toList)
        rw [HBE.out] at HF2
        clear hl2 hI2
        go_wp2
        go_roundw
        case rel => exact ⟨2, _, _, by omega, rfl, HI2.out, HF2.out, by simp, fun _ => hk1 (by omega), fun _ => HG.out⟩
        case measure => simp [intOf]
      · have q : (chk m.data.toList == 0) = false := by simpa using g
        have q' : (chk m.data.toList != 0) = true := by simpa using g
        have HN : Hid (T = ([], chk m.data.toList)) := Lib.hid (by rw [HT.out]; rw [if_pos (hk1 (by omega)), if_neg g])
        clear g
        go_wp2_with fail
        refine (pname_any m hm9 false S' _ s.data.toList L _ hp (by rw [← size_list]; omega) HF.out.l HF.out.k).mono ?_
        rintro e2 w2 ⟨rfl, hl2⟩
        obtain ⟨hI2, hsz2⟩ := HS'.out _ _ _ hl2
        have HI2 := Lib.hid hI2
        clear hl2 hI2
        go_wp2
        go_ret2
        exact sdp_no HN.out (HB0.out.trans (HI2.out.below.mono HB0.out.size))
    · have hBk' : B = s.data.toList ++ m.data.toList := hBk
      subst hBk'
      have HN : Hid (T = (s.data.toList ++ (m.data.toList ++ longs [a, b, c, d, e]), 0)) := Lib.hid (by rw [HT.out, if_pos (hk1 (by omega)), if_pos (hk2 (by omega))]; simp [longs])
      have hbl : (s.data.toList ++ m.data.toList).length ≤ 2000 := by rw [List.length_append]; omega
      obtain ⟨wo, hwo⟩ : ∃ wo, wo = wr := ⟨_, rfl⟩
      subst hwo
      obtain ⟨y0, y1, y2, y3, y4, y5, y6⟩ := c7 (hI.ce (List.mem_cons_of_mem _ (List.mem_cons_self ..)))
      have hI3 := hI.alloc (.cells #[.int .u32 (a : Int), .int .u32 (b : Int), .int .u32 (c : Int), .int .u32 (d : Int), .int .u32 (e : Int)] 23)
      have HI3 := Lib.hid hI3
      have HF := Lib.hid hF
      rw [show ((2 : Nat) : Int) = 2 from rfl]
      clear hI hI3 hBk hk1 hk2 hF
      go_wp2
      go_loopw [40] (fun i wr => ∃ (k : Nat) (L : Kn), k ≤ 5 ∧ i = .int .i64 k ∧ PG (w0.heap.size ≤ ·) w0 (w.heap.size + 1) ((wo.heap.size, Obj.cells #[.int .u32 (a : Int), .int .u32 (b : Int), .int .u32 (c : Int), .int .u32 (d : Int), .int .u32 (e : Int)] 23 (0, 0)) :: ((w1.heap.size, Obj.cells #[.string s, .string m] 9 (0, 0)) :: [(w.heap.size, Obj.cells #[.string s, .string m, .int .u32 (a : Int), .int .u32 (b : Int), .int .u32 (c : Int), .int .u32 (d : Int), .int .u32 (e : Int)] 31 (0, 0))])) (s.data.toList ++ m.data.toList ++ longs ([a, b, c, d, e].take k)) L wr ) (fun i _ => 5 - (intOf i).toNat)
      case atStart => exact ⟨0, L, by omega, rfl, by simpa [longs] using HI3.out⟩
      case round =>
        clear HI3
        obtain ⟨k, L', hk, rfl, hI⟩ := hrel
        have hlk := longs_len ([a, b, c, d, e].take k)
        have hlk2 : ([a, b, c, d, e].take k).length ≤ 5 := by simp; omega
        obtain ⟨S', hp, hs'⟩ := hI.step
        have C3 := hI.ce (List.mem_cons_self ..)
        have HS' := Lib.hid hs'
        have hBB : (s.data.toList ++ m.data.toList ++ longs ([a, b, c, d, e].take k)).length + 4 ≤ 1000000 := by rw [List.length_append]; omega
        by_cases hlt : k < 5
        · obtain ⟨z, hz, hzi⟩ : ∃ z, [a, b, c, d, e][k]? = some z ∧ 0 ≤ (z : Int) ∧ (z : Int) < 4294967296 := by
            rcases (by omega : k = 0 ∨ k = 1 ∨ k = 2 ∨ k = 3 ∨ k = 4) with rfl | rfl | rfl | rfl | rfl
            · exact ⟨_, rfl, hai⟩
            · exact ⟨_, rfl, hbi⟩
            · exact ⟨_, rfl, hci⟩
            · exact ⟨_, rfl, hdi⟩
            · exact ⟨_, rfl, hei⟩
          have cz : wr.cell? ⟨wo.heap.size, k, none⟩ = some (.int .u32 (z : Int)) := by
            rw [C3.cell k]
            rcases (by omega : k = 0 ∨ k = 1 ∨ k = 2 ∨ k = 3 ∨ k = 4) with rfl | rfl | rfl | rfl | rfl <;> (simp at hz; subst hz; rfl)
          have q1 : (k : Int) < 5 := by omega
          have CL := plong_any (z : Int) hzi.1 hzi.2 S' _ _ L' wr hp hBB
          rw [Int.toNat_natCast] at CL
          have HCL := Lib.hid CL
          have HLT := Lib.hid (longs_take hz)
          clear hs' CL hp hI C3 hz hBB hlk hlk2
          go_wp2_with fail
          refine HCL.out.mono ?_
          rintro e2 w2 ⟨⟨v, rfl⟩, hl2⟩
          obtain ⟨hI2, hsz2⟩ := HS'.out _ _ _ hl2
          rw [List.append_assoc _ _ (long z), ← HLT.out] at hI2
          have HI2 := Lib.hid hI2
          clear hl2 hI2
          go_wp2
          go_roundw
          case rel => exact ⟨k + 1, L', by omega, by go_num, HI2.out⟩
          case measure => simp [intOf]; omega
        · have hk5 : k = 5 := by omega
          subst hk5
          have HPB := Lib.hid (pbytes_any S' _ _ L' wr hp)
          have HBL := Lib.hid hI.below
          rw [show ((5 : Nat) : Int) = 5 from rfl]
          clear hs' hI C3 hp hBB hlk hlk2
          go_wp2_with fail
          refine HPB.out.mono ?_
          rintro e2 w' ⟨rfl, rfl⟩
          go_wp2
          go_ret2
          rw [HN.out]
          exact ⟨rfl, HB0.out.trans (HBL.out.mono HB0.out.size)⟩
/-- The document's packer among blocks that are not its own. -/
def RG (w0 : World) (b : Nat) (B : Bs) (g : Nat) (cs : Array Value) (w : World) : Prop :=
  (∃ S, RK S b B [] w ∧ ∀ k, S k → w0.heap.size ≤ k) ∧ Below w0.heap.size w0 w ∧ Ce w g 31 cs ∧ g < w0.heap.size
theorem RG.put {w0 w w' : World} {b g : Nat} {B' : Bs} {cs : Array Value} {S : Nat → Prop} (hS : ∀ k, S k → w0.heap.size ≤ k) (h : Below w0.heap.size w0 w ∧ Ce w g 31 cs ∧ g < w0.heap.size) (hl : RLft S b B' [] w w') : RG w0 b B' g cs w' :=
  ⟨⟨_, hl.1, fun k hk => by
    rcases hk with hk | hk
    · exact hS k hk
    · exact Nat.le_trans h.1.size hk⟩, h.1.trans (hl.2.below h.1.size hS), h.2.1.tr hl.2 (fun hh => by have := hS g hh; omega), h.2.2⟩
set_option maxRecDepth 100000 in
set_option maxHeartbeats 12800000 in
theorem rsoadata_any (x : Sa) (hx : x.Num) (hs : x.s.size ≤ 1000) (hm : x.m.size ≤ 1000) (w : World) :
    Calls Try.prog 31 #[x.v] w (SdPost w (sd x)) := by
  have hb := one_box w (.cells x.cells 31)
  have bk := Ce.new w 31 x.cells
  obtain ⟨T, hT⟩ : ∃ T, T = sd x := ⟨_, rfl⟩
  rw [← hT]
  obtain ⟨s, m, a, b, c, d, e⟩ := x
  obtain ⟨ha, hb', hc, hd, he⟩ := hx
  simp only at ha hb' hc hd he hs hm
  unfold sd at hT
  simp only at hT
  have HT := Lib.hid hT
  have HB := Lib.hid hb
  have HK := Lib.hid bk
  have C1 := fun w => rcheck_any s (by omega) w
  have C2 := fun w => rcheck_any m (by omega) w
  have HC1 := Lib.hid C1
  have HC2 := Lib.hid C2
  have hsl := size_list s
  have hml := size_list m
  have hai : 0 ≤ (a : Int) ∧ (a : Int) < 4294967296 := by omega
  have hbi : 0 ≤ (b : Int) ∧ (b : Int) < 4294967296 := by omega
  have hci : 0 ≤ (c : Int) ∧ (c : Int) < 4294967296 := by omega
  have hdi : 0 ≤ (d : Int) ∧ (d : Int) < 4294967296 := by omega
  have hei : 0 ≤ (e : Int) ∧ (e : Int) < 4294967296 := by omega
  clear hT hb bk C1 C2
  by_cases g1 : chk s.data.toList = 0
  · rw [g1] at HC1
    by_cases g2 : chk m.data.toList = 0
    · rw [g2] at HC2
      obtain ⟨SM, hSM⟩ : ∃ SM, SM = s.data.toList ++ m.data.toList := ⟨_, rfl⟩
      obtain ⟨Q, hQ⟩ : ∃ Q, Q = nb a 4 ++ nb b 4 ++ nb c 4 ++ nb d 4 ++ nb e 4 := ⟨_, rfl⟩
      have HN : Hid (T = (SM ++ Q, 0)) := Lib.hid (by rw [HT.out, if_pos g1, if_pos g2, hSM, hQ, nb_four, nb_four, nb_four, nb_four, nb_four]; simp)
      have hadd1 : ∀ w, (Op.stringOp .add s m).run Try.prog w = .ok (str SM) w := fun w => by
        rw [run_string_add_sum w _ _ (by omega), show s = ⟨s.data.toList.toArray⟩ from rfl, show m = ⟨m.data.toList.toArray⟩ from rfl, cat, ← hSM]
      have hadd2 : ∀ w, (Op.stringOp .add ⟨SM.toArray⟩ ⟨Q.toArray⟩).run Try.prog w = .ok (str (SM ++ Q)) w := fun w => by
        rw [run_string_add_sum w _ _ (by show SM.length + Q.length ≤ _; rw [hSM, hQ]; simp [nb_length]; omega), cat]
      have HQ := Lib.hid hQ
      clear hSM hQ
      have HA1 := Lib.hid hadd1
      have HA2 := Lib.hid hadd2
      clear hadd1 hadd2 g1 g2
      go_enter Try.func31, Try.ntmps31
      go_wp2_with fail
      refine (HC1.out _).mono ?_
      rintro e1 w1 ⟨rfl, hb1⟩
      have K1 := HK.out.below hb1
      have h1 := HB.out.trans (hb1.mono HB.out.size)
      obtain ⟨y0, y1, y2, y3, y4, y5, y6⟩ := c7 K1
      clear hb1
      go_wp2_with fail
      refine (HC2.out _).mono ?_
      rintro e1 w2 ⟨rfl, hb2⟩
      have K2 := K1.below hb2
      have h2 := h1.trans (hb2.mono h1.size)
      clear hb2 y0 y1 y2 y3 y4 y5 y6 h1 K1
      have HH2 := Lib.hid h2
      have hR : RG w2 w2.heap.size [] w.heap.size #[.string s, .string m, .int .u32 (a : Int), .int .u32 (b : Int), .int .u32 (c : Int), .int .u32 (d : Int), .int .u32 (e : Int)] (w2.alloc (.cells #[.string ⟨#[]⟩, .slice none 0 0] 48)) :=
        ⟨⟨_, rk_new w2, fun k hk => hk⟩, one_box w2 _, K2.below (one_box w2 _), K2.lt⟩
      clear h2 K2
      obtain ⟨⟨S, hk, hS⟩, hRb⟩ := hR
      have HS := Lib.hid hS
      have HRb := Lib.hid hRb
      obtain ⟨y0, y1, y2, y3, y4, y5, y6⟩ := c7 hRb.2.1
      have HP := Lib.hid (rnum_any a 4 ha (by omega) S _ _ [] _ hk (by simp))
      clear hS hRb hk
      go_wp2_with fail
      refine HP.out.mono ?_
      rintro e1 w3 ⟨⟨v, rfl⟩, hl⟩
      have hR := RG.put HS.out HRb.out hl
      clear hl HP HS HRb y0 y1 y2 y3 y4 y5 y6
      obtain ⟨⟨S, hk, hS⟩, hRb⟩ := hR
      have HS := Lib.hid hS
      have HRb := Lib.hid hRb
      obtain ⟨y0, y1, y2, y3, y4, y5, y6⟩ := c7 hRb.2.1
      have HP := Lib.hid (rnum_any b 4 hb' (by omega) S _ _ [] _ hk (by simp [nb_length]))
      clear hS hRb hk
      go_wp2_with fail
      refine HP.out.mono ?_
      rintro e1 w3 ⟨⟨v, rfl⟩, hl⟩
      have hR := RG.put HS.out HRb.out hl
      clear hl HP HS HRb y0 y1 y2 y3 y4 y5 y6
      obtain ⟨⟨S, hk, hS⟩, hRb⟩ := hR
      have HS := Lib.hid hS
      have HRb := Lib.hid hRb
      obtain ⟨y0, y1, y2, y3, y4, y5, y6⟩ := c7 hRb.2.1
      have HP := Lib.hid (rnum_any c 4 hc (by omega) S _ _ [] _ hk (by simp [nb_length]))
      clear hS hRb hk
      go_wp2_with fail
      refine HP.out.mono ?_
      rintro e1 w3 ⟨⟨v, rfl⟩, hl⟩
      have hR := RG.put HS.out HRb.out hl
      clear hl HP HS HRb y0 y1 y2 y3 y4 y5 y6
      obtain ⟨⟨S, hk, hS⟩, hRb⟩ := hR
      have HS := Lib.hid hS
      have HRb := Lib.hid hRb
      obtain ⟨y0, y1, y2, y3, y4, y5, y6⟩ := c7 hRb.2.1
      have HP := Lib.hid (rnum_any d 4 hd (by omega) S _ _ [] _ hk (by simp [nb_length]))
      clear hS hRb hk
      go_wp2_with fail
      refine HP.out.mono ?_
      rintro e1 w3 ⟨⟨v, rfl⟩, hl⟩
      have hR := RG.put HS.out HRb.out hl
      clear hl HP HS HRb y0 y1 y2 y3 y4 y5 y6
      obtain ⟨⟨S, hk, hS⟩, hRb⟩ := hR
      have HS := Lib.hid hS
      have HRb := Lib.hid hRb
      obtain ⟨y0, y1, y2, y3, y4, y5, y6⟩ := c7 hRb.2.1
      have HP := Lib.hid (rnum_any e 4 he (by omega) S _ _ [] _ hk (by simp [nb_length]))
      clear hS hRb hk
      go_wp2_with fail
      refine HP.out.mono ?_
      rintro e1 w3 ⟨⟨v, rfl⟩, hl⟩
      have hR := RG.put HS.out HRb.out hl
      clear hl HP HS HRb y0 y1 y2 y3 y4 y5 y6
      obtain ⟨y0, y1, y2, y3, y4, y5, y6⟩ := c7 hR.2.2.1
      rw [List.nil_append, ← HQ.out] at hR
      have hz0 := y0
      have hz1 := y1
      obtain ⟨S, ⟨lv, hv⟩, hS⟩ := hR.1
      have p0 := hv.blk.cell0
      have HRB := Lib.hid hR.2.1
      have hadd1 := HA1.out
      have hadd2 := HA2.out
      clear hv hS hR
      go_wp2
      go_quiet (fail)
      go_wp2
      go_ret2
      rw [HN.out]
      exact ⟨rfl, HH2.out.trans ((HRB.out.trans ((drewN_below w3 _).mono HRB.out.size)).mono HH2.out.size)⟩
    · have HN : Hid (T = ([], chk m.data.toList)) := Lib.hid (by rw [HT.out, if_pos g1, if_neg g2])
      have q : (chk m.data.toList == 0) = false := by simpa using g2
      have q' : (chk m.data.toList != 0) = true := by simpa using g2
      clear g1 g2
      go_enter Try.func31, Try.ntmps31
      go_wp2_with fail
      refine (HC1.out _).mono ?_
      rintro e1 w1 ⟨rfl, hb1⟩
      obtain ⟨y0, y1, y2, y3, y4, y5, y6⟩ := c7 (HK.out.below hb1)
      have h1 := HB.out.trans (hb1.mono HB.out.size)
      clear hb1
      go_wp2_with fail
      refine (HC2.out _).mono ?_
      rintro e1 w2 ⟨rfl, hb2⟩
      have h2 := h1.trans (hb2.mono h1.size)
      clear hb2 h1
      go_wp2
      go_ret2
      exact sdp_no HN.out h2
  · have HN : Hid (T = ([], chk s.data.toList)) := Lib.hid (by rw [HT.out, if_neg g1])
    have q : (chk s.data.toList == 0) = false := by simpa using g1
    have q' : (chk s.data.toList != 0) = true := by simpa using g1
    clear g1
    go_enter Try.func31, Try.ntmps31
    go_wp2_with fail
    refine (HC1.out _).mono ?_
    rintro e1 w1 ⟨rfl, hb1⟩
    have h1 := HB.out.trans (hb1.mono HB.out.size)
    clear hb1
    go_wp2
    go_ret2
    exact sdp_no HN.out h1
end Go.Proofs.Ytflpceaaelampaa
