/- flow's contracts at flows that may be, and that may not be; the chapter's example, on plain data. Condition: where it is named, the variable errors.errorType holds the handle of the type 'error'. -/
import Derived.Test.YtdlkmjfbmenedaaGreatDoorGFlow
import Derived.Test.YtdlkmjfbmenedaaGreatDoorAl
namespace Go.Proofs.YtdlkmjfbmenedaaGreatDoor
open Go.RowKit
theorem fput_ok {f:Flo} (hok:OkF f) (A:Option Addr) (n c:Nat) (w:World) (h:rPts (All w) w [.slice A n c] f.2):
  Calls Tryz.prog 37 #[.agg #[.int .u32 f.1,.slice A n c]] w fun e w'=>∃ B cap,e=.returned (.tuple #[.slice B (flowB f).length cap,.int .i64 0])∧(flowB f).length≤cap∧cap≤maxLen∧Rd w' B (u8s (flowB f))∧Below w.heap.size w w':=by
 have hb:=hok.base
 have P:=fput_any A n c f.1.toNat f.2 w hb.1 h hok.byte
 rw[hb.2] at P
 refine P.mono fun e w' ⟨B,m,cap,E,he,hs,hB⟩=>?_
 rcases hs with⟨_,rfl,rfl,h1,h2,h3⟩ | ⟨h1,_⟩
 ·exact⟨B,cap,he,h1,h2,h3,hB⟩
 ·have:=hok.may
  rw[h1] at this
  cases this
end Go.Proofs.YtdlkmjfbmenedaaGreatDoor
