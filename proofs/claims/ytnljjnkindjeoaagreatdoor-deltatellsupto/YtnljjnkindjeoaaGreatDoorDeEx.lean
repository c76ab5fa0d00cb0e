/- The laws' example of deltas, on plain data. No condition. -/
import Derived.Test.YtnljjnkindjeoaaGreatDoorCoEx
import Derived.Test.YtnljjnkindjeoaaGreatDoorDeMore
import Derived.Test.YtnljjnkindjeoaaGreatDoorDeSame
import Derived.Test.YtnljjnkindjeoaaGreatDoorAl
namespace Go.Proofs.YtnljjnkindjeoaaGreatDoor
def nineG:Gr:=(twoG.1,[(0,0,[(9,[],0),(0,[],-1)]),(5,0,[(8,[],0),(0,[],0)])],[0])
def nineC:Gr:=(twoG.1,[(0,0,[(9,[],0),(0,[],-1)])],[0])
theorem two_set:setE twoG 0 0 (9,[],0)=0:=by decide +kernel
theorem two_nine:setN twoG 0 0 (9,[],0)=nineG:=by rw[setN,if_pos two_set];decide +kernel
theorem nine_may:mayG nineG=true:=by decide +kernel
theorem nine_canon:canonG nineG=nineC:=by decide +kernel
theorem two_make:makeE twoG twoG=0:=by rw[makeE,two_may,if_pos (show (true && true)=true from rfl),if_pos (by decide +kernel),two_e]
theorem nine_make:makeE twoG nineG=0:=by rw[makeE,two_may,nine_may,if_pos (show (true && true)=true from rfl),if_pos (by decide +kernel),two_e]
theorem two_self:(makeD twoG twoG).2.2=[(0,0,[])]:=by rw[makeD,if_pos two_make];decide +kernel
theorem nine_items:(makeD twoG nineG).2.2=[(0,0,[(0,(9,[],0))])]:=by rw[makeD,if_pos nine_make];decide +kernel
theorem nine_apply:applyD twoG (makeD twoG nineG)=(nineC,0):=by rw[apply_make nine_make,nine_canon]
theorem same_self (d:Dlt):sameD d d=true:=sameD_iff.2 rfl
end Go.Proofs.YtnljjnkindjeoaaGreatDoor
