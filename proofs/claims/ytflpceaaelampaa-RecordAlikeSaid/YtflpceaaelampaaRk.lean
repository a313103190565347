/-
  The document's packer in memory: its bytes, what it lists, and which blocks are its own; what stays as it was.
-/
import Derived.Test.YtflpceaaelampaaPut
namespace Go.Proofs.Ytflpceaaelampaa
open Go.RowKit
theorem info84 : (Try.prog.info? 121).map (fun i => (i.zero, i.size, i.bytes)) = some (some (.agg #[.string ⟨#[]⟩, .int .i64 0]), 2, 24) := by kernel_rfl
/-- Places as cells. -/
abbrev lc (L : Kn) : List Value := L.flatMap fun p => [str p.1, .int .i64 (p.2 : Int)]
theorem lc_length (L : Kn) : (lc L).length = L.length * 2 := by
  induction L with
  | nil => rfl
  | cons p L ih => simp only [lc, List.flatMap_cons, List.length_append] at ih ⊢; rw [ih]; simp; omega
theorem lc_get (L : Kn) (j : Nat) (p : Bs × Nat) (h : L[j]? = some p) : (lc L)[2 * j]? = some (str p.1) ∧ (lc L)[2 * j + 1]? = some (.int .i64 (p.2 : Int)) := by
  induction L generalizing j with
  | nil => simp at h
  | cons q L ih =>
    have e : lc (q :: L) = str q.1 :: .int .i64 (q.2 : Int) :: lc L := rfl
    rw [e]
    cases j with
    | zero =>
      simp at h
      subst h
      exact ⟨rfl, rfl⟩
    | succ j =>
      have := ih j (by simpa using h)
      rw [show 2 * (j + 1) = 2 * j + 1 + 1 by omega, show 2 * j + 1 + 1 + 1 = (2 * j + 1) + 1 + 1 by omega]
      simpa using this
theorem lc_snoc (L : Kn) (n : Bs) (a : Nat) : lc (L ++ [(n, a)]) = lc L ++ [str n, .int .i64 (a : Int)] := by simp [lc]
/-- The document's packer: the bytes and the places in its two fields; S: the blocks that are its own. -/
structure RV (S : Nat → Prop) (b : Nat) (B : Bs) (L : Kn) (lv : Value) (w : World) : Prop where
  blk : Blk 48 w b (str B) lv
  row : w.ownsRow 0 121 2 lv L.length (lc L)
  rowS : ∀ k, lv.ownBlock = some k → S k
  own : S b
def RK (S : Nat → Prop) (b : Nat) (B : Bs) (L : Kn) (w : World) : Prop := ∃ lv, RV S b B L lv w
theorem RV.tr {S S2 : Nat → Prop} {b : Nat} {B : Bs} {L : Kn} {lv : Value} {w w' : World} (h : RV S b B L lv w) (ht : Tr S2 w w') (hd : ∀ k, k < w.heap.size → S k → ¬ S2 k) : RV S b B L lv w' :=
  ⟨h.blk.tr ht (hd _ h.blk.lt h.own), row_tr h.row ht (fun k hk => hd _ (row_lt h.row k hk) (h.rowS k hk)), h.rowS, h.own⟩
theorem RV.below {S : Nat → Prop} {b : Nat} {B : Bs} {L : Kn} {lv : Value} {w w' : World} (h : RV S b B L lv w) (hb : Below w.heap.size w w') : RV S b B L lv w' :=
  h.tr (Tr.of_below (S := fun _ => False) hb) (fun _ _ _ h => h)
theorem RV.mono {S S' : Nat → Prop} {b : Nat} {B : Bs} {L : Kn} {lv : Value} {w : World} (h : RV S b B L lv w) (hS : ∀ k, S k → S' k) : RV S' b B L lv w := ⟨h.blk, h.row, fun k hk => hS k (h.rowS k hk), hS _ h.own⟩
theorem RK.tr {S S2 : Nat → Prop} {b : Nat} {B : Bs} {L : Kn} {w w' : World} (h : RK S b B L w) (ht : Tr S2 w w') (hd : ∀ k, k < w.heap.size → S k → ¬ S2 k) : RK S b B L w' := let ⟨lv, h⟩ := h; ⟨lv, h.tr ht hd⟩
theorem RK.below {S : Nat → Prop} {b : Nat} {B : Bs} {L : Kn} {w w' : World} (h : RK S b B L w) (hb : Below w.heap.size w w') : RK S b B L w' := let ⟨lv, h⟩ := h; ⟨lv, h.below hb⟩
theorem RK.mono {S S' : Nat → Prop} {b : Nat} {B : Bs} {L : Kn} {w : World} (h : RK S b B L w) (hS : ∀ k, S k → S' k) : RK S' b B L w := let ⟨lv, h⟩ := h; ⟨lv, h.mono hS⟩
theorem RK.lt {S : Nat → Prop} {b : Nat} {B : Bs} {L : Kn} {w : World} (h : RK S b B L w) : RK (fun k => S k ∧ k < w.heap.size) b B L w :=
  let ⟨lv, h⟩ := h; ⟨lv, h.blk, h.row, fun k hk => ⟨h.rowS k hk, row_lt h.row k hk⟩, h.own, h.blk.lt⟩
/-- What a call leaves. -/
def RLft (S : Nat → Prop) (b : Nat) (B : Bs) (L : Kn) (w w' : World) : Prop := RK (andNew S w.heap.size) b B L w' ∧ Tr S w w'
theorem RLft.trans {S : Nat → Prop} {b : Nat} {B B' : Bs} {L L' : Kn} {w1 w2 w3 : World} (h : RLft S b B L w1 w2) (k : RLft (andNew S w1.heap.size) b B' L' w2 w3) : RLft S b B' L' w1 w3 := by
  refine ⟨k.1.mono fun i hi => ?_, h.2.trans k.2 fun i hi => hi⟩
  rcases hi with hi | hi
  · exact hi
  · exact .inr (Nat.le_trans h.2.size hi)
theorem RLft.refl {S : Nat → Prop} {b : Nat} {B : Bs} {L : Kn} {w : World} (h : RK S b B L w) : RLft S b B L w w := ⟨h.mono fun _ => .inl, Tr.refl _ _⟩
theorem RLft.post {S : Nat → Prop} {b : Nat} {B : Bs} {L : Kn} {w1 w2 w3 : World} (h : RLft S b B L w1 w2) (k : Below w2.heap.size w2 w3) : RLft S b B L w1 w3 := ⟨h.1.below k, h.2.then (Tr.of_below k)⟩
/-- Where the text is stored anew. -/
theorem RV.text {S : Nat → Prop} {b : Nat} {B B' : Bs} {L : Kn} {lv : Value} {w w1 : World} (h : RV S b B L lv w) (hb : Below w.heap.size w w1) : RLft S b B' L w (w1.setCell ⟨b, 0, none⟩ (str B')) := by
  have h1 := h.below hb
  exact ⟨⟨lv, h1.blk.set0 _, h1.blk.row h1.row (by decide) 0, fun k hk => .inl (h.rowS k hk), .inl h.own⟩, (Tr.of_below hb).setCell (.inl h.own) _⟩
theorem RV.one {S : Nat → Prop} {b : Nat} {B : Bs} {L : Kn} {lv : Value} {w : World} (h : RV S b B L lv w) (x : UInt8) (o : Obj) : RLft S b (B ++ [x]) L w ((w.setCell ⟨b, 0, none⟩ (.string (⟨B.toArray⟩ ++ ⟨#[x]⟩))).alloc o).drew := by
  have e : (.string (⟨B.toArray⟩ ++ ⟨#[x]⟩) : Value) = str (B ++ [x]) := by
    rw [show (⟨#[x]⟩ : ByteArray) = ⟨[x].toArray⟩ from rfl, cat]
  rw [e]
  exact (h.text (Below.refl _ _)).post (((Below.refl _ _).alloc (Nat.le_refl _) _).drew)
/-- So many bytes of a number, the most significant one first. -/
def nb (v : Nat) : Nat → Bs
  | 0 => []
  | j + 1 => UInt8.ofNat (v / 256 ^ j) :: nb v j
theorem nb_length (v n : Nat) : (nb v n).length = n := by induction n with
  | zero => rfl
  | succ n ih => simp [nb, ih]
theorem nb_one (v : Nat) : nb v 1 = [UInt8.ofNat v] := by simp [nb]
theorem nb_two (v : Nat) : nb v 2 = word v := by simp [nb, word]
theorem nb_four (v : Nat) : nb v 4 = long v := by simp [nb, long]
theorem byte_back (w : World) (x : UInt8) (z : Int) (hz : z = (x.toNat : Int)) : (convert 92 9 (.slice (some ⟨w.heap.size, 0, none⟩) 1 1)).run Try.prog (w.alloc (.cells #[.int .u8 z] 5)).drew = .ok (.string ⟨#[x]⟩) (w.alloc (.cells #[.int .u8 z] 5)).drew :=
  run_convert_bytes_back (P := Try.prog) _ 92 9 5 ⟨w.heap.size, 0, none⟩ 1 [x] Try.underlying92 Try.underlying5 Try.underlying9 (fun j hj => by
    have hj0 : j = 0 := by simp at hj; omega
    subst hj0
    have := cell_one_new w (.int .u8 z) 5 0 (.int .u8 z) rfl
    rw [hz] at this ⊢
    exact this)
set_option maxRecDepth 100000 in
set_option maxHeartbeats 8000000 in
theorem rnum_any (v n : Nat) (hv : v < 4294967296) (hn : n ≤ 4) (S : Nat → Prop) (b : Nat) (B : Bs) (L : Kn) (w : World) (h : RK S b B L w) (hB : B.length ≤ 1000000) :
    Calls Try.prog 53 #[ptr b, .int .i64 (v : Int), .int .i64 (n : Int)] w fun e w' => (∃ v, e = .returned v) ∧ RLft S b (B ++ nb v n) L w w' := by
  have H := Lib.hid (RLft.refl h)
  have hvi : (v : Int) < 4294967296 := by omega
  clear h
  go_enter Try.func53, Try.ntmps53
  go_wp2
  go_loopw [6] (fun i wr => ∃ (j : Nat) (B' : Bs), j ≤ n ∧ i = .int .i64 ((j : Int) - 1) ∧ RLft S b B' L w wr ∧ B' ++ nb v j = B ++ nb v n ∧ B'.length ≤ B.length + n) (fun i _ => (intOf i + 1).toNat)
  case atStart => exact ⟨n, B, Nat.le_refl _, rfl, H.out, rfl, by omega⟩
  case round =>
    obtain ⟨j, B', hj, rfl, hl, he, hB'⟩ := hrel
    have HL := Lib.hid hl
    have HE := Lib.hid he
    clear hl he
    rcases (by omega : j = 0 ∨ j = 1 ∨ j = 2 ∨ j = 3 ∨ j = 4) with rfl | rfl | rfl | rfl | rfl
    · rw [show (((0 : Nat) : Int) - 1) = -1 from rfl]
      go_wp2
      go_end0
      exact ⟨⟨_, rfl⟩, by rw [← HE.out]; simpa [nb] using HL.out⟩
    · rw [show (((1 : Nat) : Int) - 1) = 0 from rfl]
      obtain ⟨lv, hr⟩ := HL.out.1
      have c0 := hr.blk.cell0
      have f0 := hr.blk.frozen0
      have hbl := hr.blk.lt
      have hbn : b ≠ wr.heap.size := by omega
      have HR := Lib.hid hr
      have hone := byte_back wr (UInt8.ofNat (v)) ((v : Int) % 256) (by simp)
      have hadd : ∀ w, (Op.stringOp .add ⟨B'.toArray⟩ ⟨#[UInt8.ofNat (v)]⟩).run Try.prog w = .ok (.string (⟨B'.toArray⟩ ++ ⟨#[UInt8.ofNat (v)]⟩)) w := fun w => run_string_add_sum w _ _ (by rw [size_list]; show B'.length + 1 ≤ _; omega)
      clear hr
      go_wp2
      go_region
      go_wp2
      go_roundw
      case rel => exact ⟨0, B' ++ [UInt8.ofNat (v)], by omega, rfl, HL.out.trans (HR.out.one _ _), by rw [← HE.out]; simp [nb], by rw [List.length_append]; have h := congrArg List.length HE.out; rw [List.length_append, List.length_append, nb_length, nb_length] at h; simp; omega⟩
      case measure => simp [intOf]
    · rw [show (((2 : Nat) : Int) - 1) = 1 from rfl]
      obtain ⟨lv, hr⟩ := HL.out.1
      have c0 := hr.blk.cell0
      have f0 := hr.blk.frozen0
      have hbl := hr.blk.lt
      have hbn : b ≠ wr.heap.size := by omega
      have HR := Lib.hid hr
      have hone := byte_back wr (UInt8.ofNat (v / 256)) ((v : Int) / 256 % 256) (by simp)
      have hadd : ∀ w, (Op.stringOp .add ⟨B'.toArray⟩ ⟨#[UInt8.ofNat (v / 256)]⟩).run Try.prog w = .ok (.string (⟨B'.toArray⟩ ++ ⟨#[UInt8.ofNat (v / 256)]⟩)) w := fun w => run_string_add_sum w _ _ (by rw [size_list]; show B'.length + 1 ≤ _; omega)
      clear hr
      go_wp2
      go_region
      go_wp2
      go_roundw
      case rel => exact ⟨1, B' ++ [UInt8.ofNat (v / 256)], by omega, rfl, HL.out.trans (HR.out.one _ _), by rw [← HE.out]; simp [nb], by rw [List.length_append]; have h := congrArg List.length HE.out; rw [List.length_append, List.length_append, nb_length, nb_length] at h; simp; omega⟩
      case measure => simp [intOf]
    · rw [show (((3 : Nat) : Int) - 1) = 2 from rfl]
      obtain ⟨lv, hr⟩ := HL.out.1
      have c0 := hr.blk.cell0
      have f0 := hr.blk.frozen0
      have hbl := hr.blk.lt
      have hbn : b ≠ wr.heap.size := by omega
      have HR := Lib.hid hr
      have hone := byte_back wr (UInt8.ofNat (v / 65536)) ((v : Int) / 65536 % 256) (by simp)
      have hadd : ∀ w, (Op.stringOp .add ⟨B'.toArray⟩ ⟨#[UInt8.ofNat (v / 65536)]⟩).run Try.prog w = .ok (.string (⟨B'.toArray⟩ ++ ⟨#[UInt8.ofNat (v / 65536)]⟩)) w := fun w => run_string_add_sum w _ _ (by rw [size_list]; show B'.length + 1 ≤ _; omega)
      clear hr
      go_wp2
      go_region
      go_wp2
      go_roundw
      case rel => exact ⟨2, B' ++ [UInt8.ofNat (v / 65536)], by omega, rfl, HL.out.trans (HR.out.one _ _), by rw [← HE.out]; simp [nb], by rw [List.length_append]; have h := congrArg List.length HE.out; rw [List.length_append, List.length_append, nb_length, nb_length] at h; simp; omega⟩
      case measure => simp [intOf]
    · rw [show (((4 : Nat) : Int) - 1) = 3 from rfl]
      obtain ⟨lv, hr⟩ := HL.out.1
      have c0 := hr.blk.cell0
      have f0 := hr.blk.frozen0
      have hbl := hr.blk.lt
      have hbn : b ≠ wr.heap.size := by omega
      have HR := Lib.hid hr
      have hone := byte_back wr (UInt8.ofNat (v / 16777216)) ((v : Int) / 16777216) (by simp; omega)
      have hadd : ∀ w, (Op.stringOp .add ⟨B'.toArray⟩ ⟨#[UInt8.ofNat (v / 16777216)]⟩).run Try.prog w = .ok (.string (⟨B'.toArray⟩ ++ ⟨#[UInt8.ofNat (v / 16777216)]⟩)) w := fun w => run_string_add_sum w _ _ (by rw [size_list]; show B'.length + 1 ≤ _; omega)
      clear hr
      go_wp2
      go_region
      go_wp2
      go_roundw
      case rel => exact ⟨3, B' ++ [UInt8.ofNat (v / 16777216)], by omega, rfl, HL.out.trans (HR.out.one _ _), by rw [← HE.out]; simp [nb], by rw [List.length_append]; have h := congrArg List.length HE.out; rw [List.length_append, List.length_append, nb_length, nb_length] at h; simp; omega⟩
      case measure => simp [intOf]
end Go.Proofs.Ytflpceaaelampaa
