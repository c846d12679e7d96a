/- The zero value of the array of 256 bools. (A seat of more than 80 functions.) -/
import Derived.Test.YtcllnoigppkjiaaArr
namespace Go.Proofs.Ytcllnoigppkjiaa
open Go.RowKit

def fal256 : Array Value := cellsN 256 (bv fun _ => false)
theorem fal256_def : fal256 = cellsN 256 (bv fun _ => false) := rfl
theorem fal256_run : ∀ w : World, (zeroValue 62).run Try.prog w = .ok (.agg fal256) w := fun _ => by kernel_rfl
theorem fal256_size : fal256.size = 256 := by rw [fal256_def, cellsN_size]
theorem fal256_ne : ¬ fal256 = #[] := fun e => by have := fal256_size; rw [e] at this; cases this
theorem fal256_eq : Try.zeroCells62 = fal256 := by kernel_rfl

end Go.Proofs.Ytcllnoigppkjiaa
