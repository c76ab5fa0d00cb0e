/- The chapter's example, and another one, on plain data. No condition. -/
import Derived.Test.YtnljjnkindjeoaaGreatDoorCoSum
import Derived.Test.YtnljjnkindjeoaaGreatDoorGFlow
import Derived.Test.YtnljjnkindjeoaaGreatDoorGrTwo
import Derived.Test.YtnljjnkindjeoaaGreatDoorAl
namespace Go.Proofs.YtnljjnkindjeoaaGreatDoor
theorem two_ok:OkG twoG:=by
 unfold OkG OkV
 decide
theorem two_e:codeE twoG=0:=by rw[codeE_lim two_may two_ok,if_pos (by decide +kernel)]
end Go.Proofs.YtnljjnkindjeoaaGreatDoor
