/- The chapter's example, and another one, on plain data. No condition. -/
import Derived.Test.YtclbjbhpncpmbaaGreatDoorCoSum
import Derived.Test.YtclbjbhpncpmbaaGreatDoorGFlow
import Derived.Test.YtclbjbhpncpmbaaGreatDoorGrTwo
namespace Go.Proofs.YtclbjbhpncpmbaaGreatDoor

def chapC : Gr := ([([97], [])], [], [])
theorem chapC_may : mayG chapC = true := by decide +kernel
theorem chapC_ok : OkG chapC := fun o ho => by cases ho
theorem chapC_e : codeE chapC = 0 := by rw [codeE_lim chapC_may chapC_ok, if_pos (by decide +kernel)]
theorem chapC_f : codeF chapC = (0, [[97, 123, 125], []]) := by
  show ((0 : Int), partsG (canonG chapC)) = _
  rw [show partsG (canonG chapC) = [[97, 123, 125], []] by decide +kernel]
theorem chapC_len : (codeB chapC).length = 49 := by
  rw [show codeB chapC = flowB (codeF chapC) from if_pos chapC_e, chapC_f]
  simp [flowB, framesF, partsF, catL, putL_length, headL, putL_small (show 1 < 128 by omega), putL_small (show 0 < 128 by omega), putL_small (show 2 < 128 by omega)]
theorem two_ok : OkG twoG := by
  unfold OkG OkV
  decide
theorem two_e : codeE twoG = 0 := by rw [codeE_lim two_may two_ok, if_pos (by decide +kernel)]
def twoC : Gr := ([([97], [([110], 2, []), ([111], 5, [97])])], [(0, 0, [(7, [], 0), (0, [], -1)])], [0])
theorem two_canon : canonG twoG = twoC := by decide +kernel
theorem two_get : codeG (codeB twoG) = (twoC, 0) := by rw [code_get two_ok two_e, two_canon]
theorem two_sum : codeS twoG ≠ 0 := by
  rw [codeS, if_pos two_e]
  decide +kernel
end Go.Proofs.YtclbjbhpncpmbaaGreatDoor
