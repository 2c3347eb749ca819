/-
  Contracts of the document's own answers of layer 1 (step, Over, Sum, Same, Bit), of word, and of the anchor.
-/
import Derived.Test.YtdjnfikacjfkkaaCrcB
import Derived.Deep.QuietTactic
import Derived.BigQuiet
import Derived.Lib.SlBytesConst
namespace Go.Proofs.Ytdjnfikacjfkkaa
open Go.RowKit CrcM
set_option linter.unusedVariables false
set_option linter.unnecessarySimpa false
set_option linter.unusedSimpArgs false

theorem xor32n (a b : Nat) (ha : a < 4294967296) (hb : b < 4294967296) : bits BinOp.xor IntKind.u32 (a : Int) (b : Int) = ((a ^^^ b : Nat) : Int) := u32_xor_nat a b ha hb

theorem xor_half (r : Nat) (h : r < 4294967296) (ho : r % 2 = 1) : bits BinOp.xor IntKind.u32 ((r : Int) / 2) 2197175160 = ((hv r : Nat) : Int) := by
  rw [xor_poly r h, hv_odd ho]

theorem anchor_sum : sm [49, 50, 51, 52, 53, 54, 55, 56, 57] = 3808858755 := by decide +kernel

end Go.Proofs.Ytdjnfikacjfkkaa
