/- The contract of strings.Clone, out of the library's own contract of what it calls: the same text; nothing that was there is changed. Condition: at most 2^48 bytes. -/
import Derived.Test.YtembafogbfcajaaScMemAll
import Derived.Shelf.Strconv.Clone
namespace Go.Proofs.Ytembafogbfcajaa
open Go.RowKit Go.Shelf

def cloneRen : Ren := ⟨fun _ => 87, fun k => if k = 0 then 0 else if k = 3 then 3 else if k = 4 then 4 else if k = 5 then 5 else if k = 9 then 9 else if k = 37 then 117 else 118, fun k => k⟩
set_option maxRecDepth 100000 in
theorem cloneLays : LaysM.n316 Try.prog cloneRen := by
  constructor
  · constructor <;> first | kernel_rfl | (intro w; kernel_rfl)
  all_goals first | kernel_rfl | (intro w; kernel_rfl)
theorem lclone_any (s : ByteArray) (w : World) (hlim : s.size ≤ 281474976710656) :
    Calls Try.prog 87 #[.string s] w fun e w' => e = .returned (.string s) ∧ Below w.heap.size w w' := Any.stringslite_Clone cloneLays s w hlim

set_option maxRecDepth 100000 in
theorem sclone_any (s : ByteArray) (w : World) (hlim : s.size ≤ 281474976710656) :
    Calls Try.prog 68 #[.string s] w fun e w' => e = .returned (.string s) ∧ Below w.heap.size w w' := by
  go_enter Try.func68, Try.ntmps68
  go_wp2_with fail
  refine (lclone_any s w hlim).mono ?_
  rintro e w1 ⟨rfl, hB⟩
  go_wp2
  go_ret
  exact ⟨rfl, hB⟩
end Go.Proofs.Ytembafogbfcajaa
