/-
  Layer 3 (frame), fifth part: Decode.
-/
import Derived.Test.YtdjnfikacjfkkaaFrameE
namespace Go.Proofs.Ytdjnfikacjfkkaa
open Go.RowKit CrcM
set_option linter.unusedVariables false
set_option linter.unnecessarySimpa false
set_option linter.unusedSimpArgs false

/-- What Decode tells: a frame and an error. -/
def DecPost (f : FrR) (x : Int) (w : World) (e : Ending) (w' : World) : Prop := e = .returned (.tuple #[.agg (frA f), .int .i64 x]) ∧ Below w.heap.size w w'

/-- Is a sector's sum right? -/
def soundB (bs : List Nat) : Bool := decide (sm (bs.take 60) = num (bs.drop 60))
/-- May what stands ahead of it be? -/
def formB (bs : List Nat) : Bool := decide (ver (bs.take 60) = 1) && rightB (rd (bs.take 60))
/-- Decode's error. -/
def decE (bs : List Nat) : Int := if soundB bs = true then (if formB bs = true then 0 else 10) else 11
/-- Decode's frame. -/
def decF (bs : List Nat) : FrR := if soundB bs = true ∧ formB bs = true then rd (bs.take 60) else fr0

theorem decF_len {bs : List Nat} (h : bs.length = 64) : (decF bs).b.length = 44 := by
  unfold decF; split
  · exact rd_len (by rw [List.length_take, h]; decide)
  · exact fr0_len
theorem decF_lt {bs : List Nat} (h : ∀ c ∈ bs, c < 256) : ∀ c ∈ (decF bs).b, c < 256 := by
  unfold decF; split
  · exact rd_lt (fun c hc => h c (List.mem_of_mem_take hc))
  · exact zeros_lt 44

end Go.Proofs.Ytdjnfikacjfkkaa
