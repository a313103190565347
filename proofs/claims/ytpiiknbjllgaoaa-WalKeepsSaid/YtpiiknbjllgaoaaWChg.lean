/-
  How a log's change runs; what Append and Sync leave and answer.
-/
import Derived.Test.YtpiiknbjllgaoaaWClos
namespace Go.Proofs.Ytpiiknbjllgaoaa
open Go.RowKit
/-- There is room for n more steps and m more bytes. -/
structure Ld.Okn (x : Ld) (n m : Nat) : Prop where
  st : x.steps + n ≤ 1000000000
  lf : x.left ≤ mostL
  us : x.used + m ≤ 900000000
  rm : x.room ≤ 1000000000
theorem Ld.Okn.ok {x : Ld} {n m : Nat} (h : x.Okn n m) : x.Ok := ⟨by have := h.st; omega, h.lf, by have := h.us; omega, h.rm⟩
theorem Ld.Okn.less {x : Ld} {n m n' m' : Nat} (h : x.Okn n m) (hn : n' ≤ n) (hm : m' ≤ m) : x.Okn n' m' := ⟨by have := h.st; omega, h.lf, by have := h.us; omega, h.rm⟩
theorem step_ok {x : Ld} {n m : Nat} (h : x.Okn (n + 1) m) : x.step.Okn n m := by
  refine ⟨by have := h.st; show x.steps + 1 + n ≤ _; omega, ?_, h.us, h.rm⟩
  have := h.lf
  show (if x.sch then x.left - 1 else x.left) ≤ mostL
  split <;> omega
theorem af_ok {x : Ld} {n m : Nat} (h : x.Okn (n + 1) m) (e : Int) : (x.af e).Okn n m := by
  have h0 : x.Okn n m := h.less (by omega) (Nat.le_refl _)
  unfold Ld.af
  split
  · exact h0
  · split
    · exact h0
    · split
      · exact ⟨h0.st, h0.lf, h0.us, h0.rm⟩
      · exact step_ok h
theorem set_ok {x : Ld} {n m : Nat} (h : x.Okn n m) (i : Bool) (o : Option (Bs × Nat)) {m' : Nat} (hm : (x.set i o).used + m' ≤ x.used + m) : (x.set i o).Okn n m' := by
  have hs : (x.set i o).steps = x.steps := by cases i <;> rfl
  have hl : (x.set i o).left = x.left := by cases i <;> rfl
  have hr : (x.set i o).room = x.room := by cases i <;> rfl
  exact ⟨by rw [hs]; exact h.st, by rw [hl]; exact h.lf, by have := h.us; omega, by rw [hr]; exact h.rm⟩
theorem used_set (x : Ld) (i : Bool) (o : Option (Bs × Nat)) : (x.set i o).used + (x.byt i).length = x.used + (match o with | some p => p.1.length | none => 0) := by
  obtain ⟨lo, nw, room, steps, left, off, sch⟩ := x
  cases i <;> cases o <;> simp [Ld.used, Ld.byt, Ld.get, Ld.set] <;> omega
theorem byt_step (x : Ld) (i : Bool) : x.step.byt i = x.byt i := by unfold Ld.byt; rw [get_step]
theorem app_ok {x : Ld} {n m : Nat} (i : Bool) (s : Bs) (h : x.Okn (n + 1) (m + s.length)) : (x.app i s).Okn n m := by
  unfold Ld.app
  split
  · refine set_ok (step_ok h) i _ ?_
    have := used_set x.step i (some (x.byt i ++ s, x.dur i))
    rw [byt_step] at this
    simp only [List.length_append] at this
    omega
  · exact (af_ok h _).less (Nat.le_refl _) (by omega)
theorem syn_ok {x : Ld} {n m : Nat} (i : Bool) (h : x.Okn (n + 1) m) : (x.syn i).Okn n m := by
  unfold Ld.syn
  split
  · refine set_ok (step_ok h) i _ ?_
    have := used_set x.step i (some (x.byt i, (x.byt i).length))
    rw [byt_step] at this
    simp only at this
    omega
  · exact af_ok h _
theorem rem_ok {x : Ld} {n m : Nat} (i : Bool) (h : x.Okn (n + 1) m) : (x.rem i).Okn n m := by
  unfold Ld.rem
  split
  · refine set_ok (step_ok h) i _ ?_
    have := used_set x.step i none
    simp only at this
    omega
  · exact af_ok h _
theorem dis_ok {x : Ld} {n m : Nat} (h : x.Okn (n + 1) m) : x.dis.Okn n m := by
  unfold Ld.dis
  split
  · exact rem_ok true h
  · exact h.less (by omega) (Nat.le_refl _)
theorem ren_ok {x : Ld} {n m : Nat} (h : x.Okn (n + 1) m) : x.ren.Okn n m := by
  unfold Ld.ren
  split
  · have h1 := step_ok h
    refine ⟨h1.st, h1.lf, ?_, h1.rm⟩
    have := h1.us
    have e : ({ x.step with lo := x.nw, nw := none } : Ld).used ≤ x.step.used := by
      obtain ⟨lo, nw, room, steps, left, off, sch⟩ := x
      simp [Ld.used, Ld.byt, Ld.get, Ld.step]
    omega
  · exact af_ok h _
theorem cut_ok {x : Ld} {n m : Nat} (i : Bool) (k : Nat) (h : x.Okn (n + 1) m) : (x.cut i k).Okn n m := by
  unfold Ld.cut
  split
  · refine set_ok (step_ok h) i _ ?_
    have := used_set x.step i (some ((x.byt i).take k, min (x.dur i) k))
    rw [byt_step] at this
    have h2 : ((x.byt i).take k).length ≤ (x.byt i).length := by rw [List.length_take]; omega
    simp only at this
    omega
  · exact af_ok h _
/-- The operations' functions. -/
theorem wri_wk (b : Nat) (k s : ByteArray) (w : World) : Calls Try.prog 46 #[ptr b, .string k, .string s] w fun e w' => e = .returned (.func (.func 68) #[] #[ptr w.heap.size, ptr (w.heap.size + 1), ptr (w.heap.size + 2)]) ∧
    w'.cell? ⟨w.heap.size, 0, none⟩ = some (ptr b) ∧ w'.cell? ⟨w.heap.size + 1, 0, none⟩ = some (.string k) ∧ w'.cell? ⟨w.heap.size + 2, 0, none⟩ = some (.string s) ∧ w'.heap.size = w.heap.size + 3 ∧ Below w.heap.size w w' := by
  have hmf : ∀ (fn : Fn) (first cap : Array Value) (w : World), (Instr.makeFunc fn first cap).run Try.prog w = .ok (.func fn first cap) w := fun _ _ _ _ => rfl
  have hb : Hid (Below w.heap.size w (((w.alloc (.cells #[ptr b] 34)).alloc (.cells #[.string k] 9)).alloc (.cells #[.string s] 9))) := Lib.hid (((((Below.refl _ _).alloc (Nat.le_refl _) _).alloc (by simp) _).alloc (by simp; omega) _))
  go_enter Try.func46, Try.ntmps46
  go_wp2
  go_ret
  obtain ⟨h0, h1, h2⟩ := three_alloc w (.cells #[ptr b] 34) (.cells #[.string k] 9) (.cells #[.string s] 9)
  exact ⟨rfl, (cell_heap h0).trans rfl, (cell_heap h1).trans rfl, (cell_heap h2).trans rfl, by simp, hb.out⟩
theorem syn_wk (b : Nat) (k : ByteArray) (w : World) : Calls Try.prog 40 #[ptr b, .string k] w fun e w' => e = .returned (.func (.func 65) #[] #[ptr w.heap.size, ptr (w.heap.size + 1)]) ∧
    w'.cell? ⟨w.heap.size, 0, none⟩ = some (ptr b) ∧ w'.cell? ⟨w.heap.size + 1, 0, none⟩ = some (.string k) ∧ w'.heap.size = w.heap.size + 2 ∧ Below w.heap.size w w' := by
  have hmf : ∀ (fn : Fn) (first cap : Array Value) (w : World), (Instr.makeFunc fn first cap).run Try.prog w = .ok (.func fn first cap) w := fun _ _ _ _ => rfl
  have hb : Hid (Below w.heap.size w ((w.alloc (.cells #[ptr b] 34)).alloc (.cells #[.string k] 9))) := Lib.hid (((Below.refl _ _).alloc (Nat.le_refl _) _).alloc (by simp) _)
  go_enter Try.func40, Try.ntmps40
  go_wp2
  go_ret
  exact ⟨rfl, by simp, by simp, by simp, hb.out⟩
theorem dis_wk (b : Nat) (w : World) : Calls Try.prog 38 #[ptr b] w fun e w' => e = .returned (.func (.func 63) #[] #[ptr w.heap.size]) ∧ w'.cell? ⟨w.heap.size, 0, none⟩ = some (ptr b) ∧ w'.heap.size = w.heap.size + 1 ∧ Below w.heap.size w w' := by
  have hmf : ∀ (fn : Fn) (first cap : Array Value) (w : World), (Instr.makeFunc fn first cap).run Try.prog w = .ok (.func fn first cap) w := fun _ _ _ _ => rfl
  go_enter Try.func38, Try.ntmps38
  go_wp2
  go_ret
  exact ⟨rfl, by simp, by simp, (Below.refl _ _).alloc (Nat.le_refl _) _⟩
/-- One operation alone. -/
theorem turn1 (t : Tst) (E : Int) (P : World → Prop) (g : Nat) (w : World) (hc : w.cell? ⟨g, 0, none⟩ = some t.val) (hN : ∀ args w, (callFunc t.N args).run Try.prog w = .ok (.enter t.N args) w)
    (hcall : Calls Try.prog t.N (t.fs ++ t.cs) w fun e w2 => e = .returned (.int .i64 E) ∧ P w2) :
    Calls Try.prog 41 #[.slice (some ⟨g, 0, none⟩) 1 1] w fun e w' => e = .returned (.int .i64 E) ∧ P w' := by
  refine (inTurn_any [t] g 1 1 rfl (by decide) w (fun k w1 => (k = 0 ∧ w1 = w) ∨ (k = 1 ∧ E = 0 ∧ P w1)) (fun z w1 => z = E ∧ P w1) ?_ ?_ ?_ (.inl ⟨rfl, rfl⟩)).mono ?_
  · intro k t' w1 ht hK
    rcases hK with ⟨rfl, rfl⟩ | ⟨rfl, _⟩
    · cases ht; exact hc
    · cases ht
  · intro k t' ht
    match k, ht with
    | 0, ht => cases ht; exact hN
  · intro k t' w1 ht hK
    rcases hK with ⟨rfl, rfl⟩ | ⟨rfl, _⟩
    · cases ht
      refine hcall.mono ?_
      rintro e w2 ⟨rfl, hp⟩
      by_cases hE : E = 0
      · exact .inl ⟨by rw [hE], .inr ⟨rfl, hE, hp⟩⟩
      · exact .inr ⟨E, hE, rfl, rfl, hp⟩
    · cases ht
  · rintro e w' (⟨rfl, hK⟩ | ⟨z, _, rfl, rfl, hp⟩)
    · rcases hK with ⟨h, _⟩ | ⟨_, hE, hp⟩
      · cases h
      · exact ⟨by rw [hE], hp⟩
    · exact ⟨rfl, hp⟩
/-- Does an error break the log? -/
def brkE (E : Int) : Bool := decide (E ≠ 0 ∧ E ≠ 15)
set_option maxRecDepth 100000 in
set_option maxHeartbeats 1600000 in
theorem change_any {B b c f z : Nat} {v : Value} {w : World} (E : Int) (P : World → Prop) (hI : Calls Try.prog 41 #[v] w fun e w1 => e = .returned (.int .i64 E) ∧ P w1) (hP : ∀ w1, P w1 → WB B (ptr b) c f z w1) :
    Calls Try.prog 43 #[ptr B, v] w fun e w' => e = .returned (.int .i64 E) ∧ ∃ w1, P w1 ∧ w' = if brkE E then w1.setCell ⟨B, 0, none⟩ nop else w1 := by
  have HI := Lib.hid hI
  have HP := Lib.hid hP
  clear hI hP
  by_cases h0 : E = 0
  · subst h0
    go_enter Try.func43, Try.ntmps43
    go_wp2_with fail
    refine HI.out.mono ?_
    rintro e w1 ⟨rfl, hp⟩
    have HPP := Lib.hid hp
    clear hp
    go_wp2
    go_ret
    exact ⟨rfl, HPP.out⟩
  · have q1 : (E == 0) = false := by simpa using h0
    have q2 : (E != 0) = true := by simpa using h0
    by_cases h1 : E = 15
    · subst h1
      go_enter Try.func43, Try.ntmps43
      go_wp2_with fail
      refine HI.out.mono ?_
      rintro e w1 ⟨rfl, hp⟩
      have HPP := Lib.hid hp
      clear hp
      go_wp2
      go_ret
      exact ⟨rfl, HPP.out⟩
    · have q3 : (E == 15) = false := by simpa using h1
      have q4 : (E != 15) = true := by simpa using h1
      have hk : brkE E = true := by unfold brkE; simp [h0, h1]
      rw [hk]
      go_enter Try.func43, Try.ntmps43
      go_wp2_with fail
      refine HI.out.mono ?_
      rintro e w1 ⟨rfl, hp⟩
      have hw := HP.out _ hp
      have HPP := Lib.hid hp
      have c0 := hw.cell 0 _ rfl
      have f0 := hw.fz 0
      clear hp hw
      go_wp2
      go_ret
      exact ⟨rfl, _, HPP.out, rfl⟩
end Go.Proofs.Ytpiiknbjllgaoaa
