import Derived.Test.YtebliaclleplgaaDoorCards
import Derived.Test.YtebliaclleplgaaDoorC08
import Derived.Test.YtebliaclleplgaaDoorC07
import Derived.Lib.LaidU8
import Derived.LaidMore
import Derived.LaidHandle
import Derived.OpenShut
import Derived.Stop.Joined
import Derived.Stop.LaidErr
/- From the cards' condition to the table that Itoa reads; a world that meets the condition. -/
namespace Go.Proofs.YtebliaclleplgaaDoor
open Go.ChangeShapes Go.WideShapes Go.ChangeAt Go.RowKit Go.Joins

abbrev gLaid : List (String × DataW Unit) := Rows.planarEncodesRow.laid
theorem door_met (os : Os) (args : Array Value) : laidMetH Tryd.prog gLaid ((World.doorLaid Tryd.prog 400 os).forCall (fun _ _ => 0) ⟨#[], args, []⟩).memory :=
  laidMetH_of_parts3 (fuel := 8) (laidMet_of_run' 8 (by kernel_rfl) (by kernel_rfl)) (by kernel_rfl) (by kernel_rfl)
theorem pow_data : (Rows.laid_internal_strconv_uint64pow10 : DataW Unit) = Lib.tabData .u64 Lib.pow10Tab := by kernel_rfl
theorem laid_plain {W : World} (h : laidMetH Tryd.prog gLaid W) : laidMet Tryd.prog gLaid W := by
  rw [MakeChecks.laidMetH_plain _ _ _ (by kernel_rfl)] at h
  exact h
theorem pw_of_laid {W : World} (h : laidMetH Tryd.prog gLaid W) : PW W := by
  have h1 := laid_plain h
  have h3 : laidMet Tryd.prog [("internal/strconv.uint64pow10", Rows.laid_internal_strconv_uint64pow10)] W := h1.tail.tail
  rw [pow_data] at h3
  exact Lib.tabIs_of_head Tryd.gPow (by kernel_rfl) Tryd.underlying122 Tryd.underlying113 (by kernel_rfl) (by kernel_rfl) h3

end Go.Proofs.YtebliaclleplgaaDoor
