/-
  Owners; the first one that is alive; how many points there are, and each one.
-/
import Derived.Test.YtomghpielgkigaaDoorSetOf
namespace Go.Proofs.YtomghpielgkigaaDoor
open Go.RowKit Go.Shelf
set_option maxRecDepth 100000 in
set_option maxHeartbeats 1600000 in
theorem any_true (x : Fin 64) (W : World) : Calls Tryd.prog 22 (#[encN x] ++ #[]) W fun e W' => e = .returned (.bool true) ∧ Below W.heap.size W W' := by
  show Calls Tryd.prog 22 #[encN x] W _
  go_enter Tryd.func22, Tryd.ntmps22
  go_wp2
  go_ret
  exact ⟨rfl, Below.refl _ _⟩
/-- Who owns a text. -/
def own (s : ByteArray) (L : List Pt) : Option (Fin 64) := (nds (pk s) L).head?
theorem find_true {α : Type} (l : List α) : l.find? (fun _ => true) = l.head? := by cases l <;> rfl
set_option maxRecDepth 100000 in
set_option maxHeartbeats 1600000 in
theorem owner_any {w : World} {v : Value} {L : List Pt} (hT : Tab w) (h : RingAt Z0 w v L) (hS : Srt L) (hL : L.length ≤ 1024) (s : ByteArray) (hs : s.size ≤ 140737488355328) :
    Calls Tryd.prog 11 #[v, .string s] w fun e w' => e = .returned (.tuple #[it (fstN (own s L)), .bool (own s L).isSome]) ∧ Below w.heap.size w w' := by
  have H := first_any hT h hS hL s hs 22 #[] (fun _ => true) (fun x W _ => any_true x W) (enters_of Tryd.func22 (by kernel_rfl) rfl)
  rw [find_true] at H
  obtain ⟨p0, rfl⟩ := h.ptr
  obtain ⟨rn, hrn⟩ : ∃ rn, rn = fstN (own s L) := ⟨_, rfl⟩
  obtain ⟨rb, hrb⟩ : ∃ rb, rb = (own s L).isSome := ⟨_, rfl⟩
  rw [show fstN (nds (pk s) L).head? = rn from hrn.symm, show (nds (pk s) L).head?.isSome = rb from hrb.symm] at H
  rw [← hrn, ← hrb]
  have HH := Lib.hid H
  clear H hT h hS hL hrn hrb
  go_enter Tryd.func11, Tryd.ntmps11
  go_wp2_with fail
  refine HH.out.mono ?_
  rintro e w2 ⟨rfl, hb⟩
  have HB := Lib.hid hb
  clear hb
  go_wp2
  go_ret2
  exact ⟨rfl, HB.out⟩
set_option maxRecDepth 100000 in
set_option maxHeartbeats 1600000 in
theorem lives_any (on : Fin 64 → Bool) (B : Nat) (x : Fin 64) (W : World) (h : Ce W B 47 (onA on)) : Calls Tryd.prog 26 (#[encN x] ++ #[ptr B]) W fun e W' => e = .returned (.bool (on x)) ∧ Below W.heap.size W W' := by
  show Calls Tryd.prog 26 #[encN x, ptr B] W _
  have c := h.cell x.val
  rw [onA_at] at c
  have hx : (x.val : Int) < 64 := by have := x.isLt; omega
  clear h
  go_enter Tryd.func26, Tryd.ntmps26
  go_wp2
  go_ret
  exact ⟨rfl, Below.refl _ _⟩
/-- The first one that is alive. -/
def ali (s : ByteArray) (L : List Pt) (M : List Int) : Option (Fin 64) := (nds (pk s) L).find? (inL M)
set_option maxRecDepth 100000 in
set_option maxHeartbeats 1600000 in
theorem firstA_any {w : World} {v : Value} {L : List Pt} (hT : Tab w) (h : RingAt Z0 w v L) (hS : Srt L) (hL : L.length ≤ 1024) (s : ByteArray) (hs : s.size ≤ 140737488355328) {u : Value} {M : List Int} (hM : RdX elI w u M) (hMl : M.length ≤ 1000000) :
    Calls Tryd.prog 15 #[v, .string s, u] w fun e w' => e = .returned (.tuple #[it (fstN (ali s L M)), .bool (ali s L M).isSome]) ∧ Below w.heap.size w w' := by
  obtain ⟨p0, rfl⟩ := h.ptr
  obtain ⟨a, cap, rfl, _, _⟩ := hM.shape
  obtain ⟨rn, hrn⟩ : ∃ rn, rn = fstN (ali s L M) := ⟨_, rfl⟩
  obtain ⟨rb, hrb⟩ : ∃ rb, rb = (ali s L M).isSome := ⟨_, rfl⟩
  rw [← hrn, ← hrb]
  have HSET := Lib.hid (setOf_any hM hMl)
  have HRN := Lib.hid hrn
  have HRB := Lib.hid hrb
  have HT := Lib.hid hT
  have HR := Lib.hid h
  have HS := Lib.hid hS
  have HL := Lib.hid hL
  obtain ⟨n, hn⟩ : ∃ n, n = M.length := ⟨_, rfl⟩
  rw [← hn] at HSET ⊢
  clear hT h hS hL hrn hrb hM hMl hn
  go_enter Tryd.func15, Tryd.ntmps15
  go_wp2_with fail
  refine HSET.out.mono ?_
  rintro e w2 ⟨rfl, hb⟩
  have hb3 := one_new w2 (.cells (onA (inL M)) 47)
  have hc3 := Ce.new w2 47 (onA (inL M))
  have hbw := hb.trans (hb3.mono hb.size)
  have H : ∀ W, Below (w2.alloc (.cells (onA (inL M)) 47)).heap.size (w2.alloc (.cells (onA (inL M)) 47)) W → W = w2.alloc (.cells (onA (inL M)) 47) → Calls Tryd.prog 21 #[.pointer p0, .string s, .func (.func 26) #[] #[ptr w2.heap.size]] W fun e w' => e = .returned (.tuple #[it rn, .bool rb]) ∧ Below (w2.alloc (.cells (onA (inL M)) 47)).heap.size (w2.alloc (.cells (onA (inL M)) 47)) w' := by
    intro W _ hW
    subst hW
    have H := first_any (HT.out.below hbw) (HR.out.below hbw (fun _ _ h => h)) HS.out HL.out s hs 26 #[ptr w2.heap.size] (inL M) (fun x W hW => lives_any _ _ x W (hc3.below hW)) (enters_of Tryd.func26 (by kernel_rfl) rfl)
    rw [show fstN ((nds (pk s) L).find? (inL M)) = rn from HRN.out.symm, show ((nds (pk s) L).find? (inL M)).isSome = rb from HRB.out.symm] at H
    exact H
  have H := H _ (Below.refl _ _) rfl
  have S1 := Lib.hid (size47 (inL M))
  have S2 := Lib.hid (show (onA (inL M)).size = (Array.replicate 64 (Value.bool false)).size by rw [onA_size, Array.size_replicate])
  have S3 := Lib.hid (onA_one (inL M))
  generalize onA (inL M) = arr at *
  have HH := Lib.hid H
  have HBW := Lib.hid hbw
  clear H hbw hb3 hc3 hb
  go_wp2_with (refine wpList_store_row rfl 47 (.tmp 8) (.tmp 10) rfl w2.heap.size arr rfl rfl 47 (Array.replicate 64 (.bool false)) (heap_alloc_new w2 _) S1.out S2.out.symm S3.out ?_; rw [World.setRow_alloc_new])
  refine HH.out.mono ?_
  rintro e w4 ⟨rfl, hb⟩
  have HB4 := Lib.hid hb
  clear hb
  go_wp2
  go_ret2
  exact ⟨rfl, HBW.out.trans (HB4.out.mono HBW.out.size)⟩
set_option maxRecDepth 100000 in
set_option maxHeartbeats 1600000 in
theorem len_any {Z : Nat → Prop} {w : World} {v : Value} {L : List Pt} (h : RingAt Z w v L) : Calls Tryd.prog 16 #[v] w fun e w' => e = .returned (it (L.length : Int)) ∧ w' = w := by
  obtain ⟨sl, hr, ha⟩ := all_any h
  obtain ⟨a, cap, rfl, _, _⟩ := hr.1.shape
  obtain ⟨p0, rfl⟩ := h.ptr
  have HA := Lib.hid (ha w (Below.refl _ _))
  generalize L.length = n at *
  clear h ha hr
  go_enter Tryd.func16, Tryd.ntmps16
  go_wp2_with fail
  refine HA.out.mono ?_
  rintro e w2 ⟨rfl, rfl⟩
  go_wp2
  go_ret
  exact ⟨rfl, rfl⟩
/-- A point by its index. -/
def atP (L : List Pt) (i : Int) : Int × Int := if 0 ≤ i then (L[i.toNat]?.map fun x => (x.1, (x.2.val : Int))).getD (0, -1) else (0, -1)
end Go.Proofs.YtomghpielgkigaaDoor
