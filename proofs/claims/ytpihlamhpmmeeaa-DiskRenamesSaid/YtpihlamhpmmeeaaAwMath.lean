/-
  The chapter's examples, as mathematics.
-/
import Derived.Test.YtpihlamhpmmeeaaNA
namespace Go.Proofs.Ytpihlamhpmmeeaa
abbrev nA : ByteArray := ⟨#[97]⟩
def q0 : Dk := newD 9
def q1 : Dk := appD q0 nA [120, 121, 122]
def q2 : Dk := synD q1 nA
def q3 : Dk := appD q2 nA [117, 118, 119]
def fA : Fl := ⟨nA, [120, 121, 122, 117, 118, 119], 3⟩
def q4 : Dk := crashD q3 [fA] [2]
def q6 : Dk := crashD q3 [fA] [2, 1]
def q7 : Dk := { q6 with sch := true, left := 1 }
def q8 : Dk := appD q7 nA [120]
theorem e1 : appE q0 [120, 121, 122] = 0 := by decide +kernel
theorem e2 : synE q1 nA = 0 := by decide +kernel
theorem e3 : appE q2 [117, 118, 119] = 0 := by decide +kernel
theorem f3 : q3.fs = [fA] := by rfl
theorem e4 : redE q4 nA = 0 := by decide +kernel
theorem s4 : redS q4 nA = ⟨#[120, 121, 122, 117, 118]⟩ := by decide +kernel
theorem e5 : appE q4 [49, 50, 51, 52, 53, 54, 55] = 15 := by decide +kernel
theorem e6 : redE q6 nA = 0 := by decide +kernel
theorem s6 : redS q6 nA = ⟨#[120, 121, 122, 117, 137]⟩ := by decide +kernel
theorem e7 : appE q7 [120] = 0 := by decide +kernel
theorem e8 : appE q8 [120] = 14 := by decide +kernel
theorem o9 : (appD q8 nA [120]).off = true := by decide +kernel
end Go.Proofs.Ytpihlamhpmmeeaa
