/- The texts JText, joined. -/
import Derived.Test.YtnjhmjkonmmomaaDoorG11
import Derived.Lib.Hide
/- JText: Plain: the live question's two texts; texts of many stars, of many blocks. -/
section
namespace Go.Proofs.YtnjhmjkonmmomaaDoor.J
open Go.Lib Go.Proofs.YtnjhmjkonmmomaaDoor.U Go.Proofs.YtnjhmjkonmmomaaDoor.S Go.Proofs.YtnjhmjkonmmomaaDoor.T Go.Proofs.YtnjhmjkonmmomaaDoor.K

def liveS : ByteArray := ⟨#[102, 117, 110, 99, 32, 102, 40, 97, 32, 42, 105, 110, 116, 44, 32, 98, 32, 91, 93, 84, 41, 32, 105, 110, 116, 32, 123, 10, 9, 120, 32, 58, 61, 32, 40, 97, 32, 43, 32, 49, 41, 32, 42, 32, 45, 98, 91, 50, 93, 46, 99, 10, 9, 114, 101, 116, 117, 114, 110, 32, 103, 40, 120, 41, 10, 125, 10]⟩
def liveF : ByteArray := ⟨#[118, 97, 114, 32, 120, 32, 61, 32, 49]⟩
def liveX : Pt := .mk [98, 105, 110, 97, 114, 121] [42] 34 51 [.mk [98, 105, 110, 97, 114, 121] [43] 35 40 [.mk [105, 100] [97] 35 36 [], .mk [110, 117, 109] [49] 39 40 []], .mk [117, 110, 97, 114, 121] [45] 44 51 [.mk [102, 105, 101, 108, 100] [99] 45 51 [.mk [105, 110, 100, 101, 120] [] 45 49 [.mk [105, 100] [98] 45 46 [], .mk [110, 117, 109] [50] 47 48 []]]]]
def liveD : Pt := .mk [100, 101, 102, 105, 110, 101] [] 29 51 [.mk [105, 100] [120] 29 30 [], liveX]
def liveP : Pt := .mk [102, 117, 110, 99] [102] 0 66 [.mk [112, 97, 114, 97, 109, 115] [] 7 20 [.mk [112, 97, 114, 97, 109] [97] 7 13 [.mk [115, 116, 97, 114] [] 9 13 [.mk [110, 97, 109, 101] [105, 110, 116] 10 13 []]], .mk [112, 97, 114, 97, 109] [98] 15 20 [.mk [115, 108, 105, 99, 101] [] 17 20 [.mk [110, 97, 109, 101] [84] 19 20 []]]], .mk [114, 101, 115, 117, 108, 116] [] 22 25 [.mk [110, 97, 109, 101] [105, 110, 116] 22 25 []], .mk [98, 108, 111, 99, 107] [] 26 66 [liveD, .mk [114, 101, 116, 117, 114, 110] [] 53 64 [.mk [99, 97, 108, 108] [103] 60 64 [.mk [105, 100] [120] 62 63 []]]]]
theorem live_ok : okB liveS = true := by kernel_rfl
theorem fail_ok : okB liveF = true := by kernel_rfl
theorem live_is : declP (scanB true liveS.toList) 67 = (liveP, 0, 0) := by kernel_rfl
theorem fail_is : declP (scanB true liveF.toList) 9 = (zeroP, 6, 101) := by kernel_rfl
theorem live_deep : deep liveP = 8 := by kernel_rfl

/-! ### Deep ones -/
def varX : By := [118, 97, 114, 32, 120, 32]
def intB : By := [105, 110, 116]
def funcX : By := [102, 117, 110, 99, 32, 102, 40, 41, 32, 123]
def starsOk (k : Nat) : Bool :=
  let s := varX ++ (List.replicate k 42 ++ intB)
  let d := declP (scanB (okB ⟨s.toArray⟩) s) s.length
  if 38 < k then d.2.2 == 22 else d.2.2 == 0 && deep d.1 == k + 2
def blocksOk (k : Nat) : Bool :=
  let s := funcX ++ (List.replicate k 123 ++ (List.replicate k 125 ++ [125]))
  let d := declP (scanB (okB ⟨s.toArray⟩) s) s.length
  if 38 < k then d.2.2 == 22 else d.2.2 == 0 && deep d.1 == k + 2
theorem stars_all : (List.range 64).all starsOk = true := by kernel_rfl
theorem blocks_all : (List.range 64).all blocksOk = true := by kernel_rfl
end Go.Proofs.YtnjhmjkonmmomaaDoor.J
end
