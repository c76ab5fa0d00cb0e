/- The contract of strings.Clone, out of the library's own contract of what it calls: the same text; nothing that was there is changed. Condition: at most 2^48 bytes. -/
import Derived.Test.YteafbdebmhpffaaScMemAll
import Derived.Shelf.Strconv.Clone
namespace Go.Proofs.Yteafbdebmhpffaa
open Go.RowKit Go.Shelf

def cloneRen : Ren := ⟨fun _ => 95, fun k => if k = 0 then 0 else if k = 3 then 3 else if k = 4 then 4 else if k = 5 then 5 else if k = 9 then 9 else if k = 37 then 116 else 117, fun k => k⟩
set_option maxRecDepth 100000 in
theorem cloneLays : LaysM.n316 Try.prog cloneRen := by
  constructor
  · constructor <;> first | kernel_rfl | (intro w; kernel_rfl)
  all_goals first | kernel_rfl | (intro w; kernel_rfl)
theorem lclone_any (s : ByteArray) (w : World) (hlim : s.size ≤ 281474976710656) :
    Calls Try.prog 95 #[.string s] w fun e w' => e = .returned (.string s) ∧ Below w.heap.size w w' := Any.stringslite_Clone cloneLays s w hlim

set_option maxRecDepth 100000 in
theorem sclone_any (s : ByteArray) (w : World) (hlim : s.size ≤ 281474976710656) :
    Calls Try.prog 77 #[.string s] w fun e w' => e = .returned (.string s) ∧ Below w.heap.size w w' := by
  go_enter Try.func77, Try.ntmps77
  go_wp2_with fail
  refine (lclone_any s w hlim).mono ?_
  rintro e w1 ⟨rfl, hB⟩
  go_wp2
  go_ret
  exact ⟨rfl, hB⟩
end Go.Proofs.Yteafbdebmhpffaa
