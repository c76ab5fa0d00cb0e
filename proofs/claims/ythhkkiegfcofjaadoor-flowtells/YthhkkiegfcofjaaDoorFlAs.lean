/- The contracts of errors.As at a target of flow's own error type: no error, and an error of that very type. Go's own text of errors.As is walked, with the model's entries for internal/reflectlite. Condition: the variable errors.errorType holds the handle of the type 'error' (the row lists it, the card ties it). -/
import Derived.Test.YthhkkiegfcofjaaDoorBlk
import Derived.WalkKit
import Derived.LaidEql
import Derived.Stop.Asserts
import Derived.RowKitTokens
namespace Go.Proofs.YthhkkiegfcofjaaDoor
open Go.RowKit Go.Extern.Stop Go.Stop Go.Extern

/-- The variable errors.errorType holds the handle of the type 'error'. -/
def Han (w : World) : Prop := w.cell? ⟨0, 0, none⟩ = some (.iface 98 (.agg #[.pointer (some ⟨1, 55, none⟩)]))
theorem Han.pos {w : World} (h : Han w) : 0 < w.heap.size := by
  rcases Nat.eq_zero_or_pos w.heap.size with h0 | h1
  · simp [Han, World.cell?, h0] at h
  · exact h1
theorem Han.below {w w' : World} (h : Han w) (hB : Below w.heap.size w w') : Han w' := (hB.cell (p := ⟨0, 0, none⟩) h.pos).trans h
theorem Han.to {w w' : World} {n : Nat} (h : Han w) (hB : Below n w w') (hn : 0 < n) : Han w' := (hB.cell (p := ⟨0, 0, none⟩) hn).trans h

theorem as_nil (t : Value) (w : World) : Calls Tryd.prog 30 #[.nilIface, t] w fun e w' => e = .returned (.bool false) ∧ w' = w := by
  go_enter Tryd.func30, Tryd.ntmps30
  go_wp2
  go_ret
  exact ⟨rfl, rfl⟩

theorem Tryd.valueOfP (t : Addr) (w : World) : (ReflectliteValue.unpack (.iface 61 (.pointer (some t)))).run Tryd.prog w
    = .ok (.agg #[.pointer (some ⟨1, 61, none⟩), .pointer (some ⟨w.heap.size, 0, none⟩), .int .u64 150]) (w.alloc (.cells #[.pointer (some t)] 61)) := by kernel_rfl
theorem Tryd.typeP (a : Addr) (w : World) : (ReflectliteValue.methodAny (ReflectliteValue.valueError "reflectlite.Value.Type" 0) (fun t _ _ _ => ReflectliteType.toType t) #[.agg #[.pointer (some ⟨1, 61, none⟩), .pointer (some a), .int .u64 150]]).run Tryd.prog w
    = .ok (.iface 98 (.agg #[.pointer (some ⟨1, 61, none⟩)])) w := by kernel_rfl
theorem Tryd.methodKind (h : Value) (w : World) : (Go.method 254 98 (.agg #[h]) "Kind").run Tryd.prog w = .ok (90, h) w := by kernel_rfl
theorem Tryd.kindP (w : World) : ((ReflectliteType.abiMethod fun t => (fun a : Nat => Value.int IntKind.u8 (a : Int)) <$> Rtype.kind t) #[.pointer (some ⟨1, 61, none⟩)]).run Tryd.prog w = .ok (.int .u8 22) w := by kernel_rfl
theorem Tryd.kindE (w : World) : ((ReflectliteType.abiMethod fun t => (fun a : Nat => Value.int IntKind.u8 (a : Int)) <$> Rtype.kind t) #[.pointer (some ⟨1, 59, none⟩)]).run Tryd.prog w = .ok (.int .u8 25) w := by kernel_rfl
theorem lit1 (v : Value) (h : (#[v] : Array Value).size = 1) (h' : 0 < 1) : (#[v] : Array Value).getLit 0 h h' = v := rfl
theorem lit2 (v x : Value) (h : (#[v, x] : Array Value).size = 2) (h' : 0 < 2) : (#[v, x] : Array Value).getLit 0 h h' = v := rfl
theorem lit2' (v x : Value) (h : (#[v, x] : Array Value).size = 2) (h' : 1 < 2) : (#[v, x] : Array Value).getLit 1 h h' = x := rfl
theorem Tryd.partsP (a : Addr) (w : World) : (ReflectliteValue.parts (.agg #[.pointer (some ⟨1, 61, none⟩), .pointer (some a), .int .u64 150])).run Tryd.prog w = .ok (some (61, a, 150)) w := by kernel_rfl
theorem Tryd.isNilP (a p : Addr) (W : World) (ha : W.cell? a = some (.pointer (some p))) :
    (ReflectliteValue.method (ReflectliteValue.valueError "reflectlite.Value.IsNil" 0) ReflectliteValue.isNil #[.agg #[.pointer (some ⟨1, 61, none⟩), .pointer (some a), .int .u64 150]]).run Tryd.prog W = .ok (.bool false) W := by
  show (ReflectliteValue.parts _ >>= _ : Sem Value).run _ _ = _
  simp only [Sem.run_bind, lit1, Tryd.partsP, Result.andThen]
  simp [ReflectliteValue.isNil, loadVar, isAgg, underlying, Tryd.underlying61, ha, Result.andThen]
theorem Tryd.methodElem (h : Value) (w : World) : (Go.method 254 98 (.agg #[h]) "Elem").run Tryd.prog w = .ok (100, .agg #[h]) w := by kernel_rfl
theorem Tryd.methodImplements (h : Value) (w : World) : (Go.method 254 98 (.agg #[h]) "Implements").run Tryd.prog w = .ok (101, .agg #[h]) w := by kernel_rfl
theorem Tryd.methodAssignableTo (h : Value) (w : World) : (Go.method 254 98 (.agg #[h]) "AssignableTo").run Tryd.prog w = .ok (98, .agg #[h]) w := by kernel_rfl
theorem Tryd.elemP (w : World) : (ReflectliteType.method ReflectliteType.elem #[.agg #[.pointer (some ⟨1, 61, none⟩)]]).run Tryd.prog w = .ok (.iface 98 (.agg #[.pointer (some ⟨1, 59, none⟩)])) w := by kernel_rfl
theorem Tryd.implementsE (w : World) : (ReflectliteType.relation "Implements" ReflectliteType.implements_ #[.agg #[.pointer (some ⟨1, 59, none⟩)], .iface 98 (.agg #[.pointer (some ⟨1, 55, none⟩)])]).run Tryd.prog w = .ok (.bool true) w := by kernel_rfl
theorem Tryd.typeOfE (v : Value) (w : World) : (ReflectliteType.typeOf #[.iface 59 v]).run Tryd.prog w = .ok (.iface 98 (.agg #[.pointer (some ⟨1, 59, none⟩)])) w := by kernel_rfl
theorem Tryd.assignableE (w : World) : (ReflectliteType.relation "AssignableTo" ReflectliteType.assignableTo #[.agg #[.pointer (some ⟨1, 59, none⟩)], .iface 98 (.agg #[.pointer (some ⟨1, 59, none⟩)])]).run Tryd.prog w = .ok (.bool true) w := by kernel_rfl
theorem Tryd.valueOfE (n : Int) (w : World) : (ReflectliteValue.unpack (.iface 59 (.agg #[.int .i64 n]))).run Tryd.prog w
    = .ok (.agg #[.pointer (some ⟨1, 59, none⟩), .pointer (some ⟨w.heap.size, 0, none⟩), .int .u64 153]) (w.alloc (.cells #[.int .i64 n] 59)) := by kernel_rfl
theorem Tryd.elemOfP (w : World) : (Rtype.elem? 61).run Tryd.prog w = .ok (some 59) w := by kernel_rfl
theorem Tryd.mkE (p : Addr) (w : World) : (ReflectliteValue.mk 59 p ReflectliteValue.flagAddr).run Tryd.prog w = .ok (.agg #[.pointer (some ⟨1, 59, none⟩), .pointer (some p), .int .u64 409]) w := by kernel_rfl
theorem Tryd.elemVP (a p : Addr) (W : World) (ha : W.cell? a = some (.pointer (some p))) :
    (ReflectliteValue.method (ReflectliteValue.valueError "reflectlite.Value.Elem" 0) ReflectliteValue.elem #[.agg #[.pointer (some ⟨1, 61, none⟩), .pointer (some a), .int .u64 150]]).run Tryd.prog W
      = .ok (.agg #[.pointer (some ⟨1, 59, none⟩), .pointer (some p), .int .u64 409]) W := by
  show (ReflectliteValue.parts _ >>= _ : Sem Value).run _ _ = _
  simp only [Sem.run_bind, lit1, Tryd.partsP, Result.andThen]
  simp [ReflectliteValue.elem, loadVar, isAgg, underlying, Tryd.underlying61, ha, Result.andThen, Tryd.elemOfP, Tryd.mkE]
theorem Tryd.partsEa (a : Addr) (w : World) : (ReflectliteValue.parts (.agg #[.pointer (some ⟨1, 59, none⟩), .pointer (some a), .int .u64 409])).run Tryd.prog w = .ok (some (59, a, 409)) w := by kernel_rfl
theorem Tryd.partsE (a : Addr) (w : World) : (ReflectliteValue.parts (.agg #[.pointer (some ⟨1, 59, none⟩), .pointer (some a), .int .u64 153])).run Tryd.prog w = .ok (some (59, a, 153)) w := by kernel_rfl
theorem Tryd.directE (w : World) : (Rtype.directlyAssignable 59 59).run Tryd.prog w = .ok true w := by kernel_rfl
theorem Tryd.sizeE (w : World) : (sizeOf 59).run Tryd.prog w = .ok 1 w := by kernel_rfl
theorem Tryd.setE (g h : Nat) (t t' : TypeId) (old : Value) (n : Int) (W : World) (hb : Blk W h t' [.int .i64 n]) (ht : Blk W g t [old]) :
    (ReflectliteValue.set #[.agg #[.pointer (some ⟨1, 59, none⟩), .pointer (some ⟨g, 0, none⟩), .int .u64 409], .agg #[.pointer (some ⟨1, 59, none⟩), .pointer (some ⟨h, 0, none⟩), .int .u64 153]]).run Tryd.prog W
      = .ok (.tuple #[]) (W.setRow g #[.int .i64 n]) := by
  have h1 := run_loadVar_row (P := Tryd.prog) W h t' 59 #[.int .i64 n] (0, 0) _ hb Tryd.underlying59 rfl (by kernel_rfl)
  have h2 := run_storeVar_row (P := Tryd.prog) W g t 59 #[old] #[.int .i64 n] ht (by kernel_rfl) rfl (by simp [Value.oneCell'])
  show (ReflectliteValue.parts _ >>= _ : Sem Value).run _ _ = _
  simp only [Sem.run_bind, lit2, lit2', Tryd.partsEa, Tryd.partsE, Result.andThen]
  simp [ReflectliteValue.flagAddr, h1, Result.andThen, Tryd.directE, h2]
set_option maxHeartbeats 4000000 in
theorem as_hit (n : Int) (g : Nat) (t : TypeId) (old : Value) (w : World) (hg : Han w) (ht : Blk w g t [old]) :
    Calls Tryd.prog 30 #[.iface 59 (.agg #[.int .i64 n]), .iface 61 (.pointer (some ⟨g, 0, none⟩))] w fun ev w' => ev = .returned (.bool true) ∧ ∃ w1, Below w.heap.size w w1 ∧ w' = w1.setRow g #[.int .i64 n] ∧ Blk w' g t [.int .i64 n] := by
  have hF0 := @run_callFunc_extern Tryd.prog 44 _ (fun args => ReflectliteValue.unpack (args.getD 0 (.tuple #[]))) Tryd.func44 (by kernel_rfl) (by kernel_rfl) (by kernel_rfl) (by kernel_rfl)
  have hF1 := @run_callFunc_extern Tryd.prog 45 _ (ReflectliteValue.methodAny (ReflectliteValue.valueError "reflectlite.Value.Type" 0) (fun t _ _ _ => ReflectliteType.toType t)) Tryd.func45 (by kernel_rfl) (by kernel_rfl) (by kernel_rfl) (by kernel_rfl)
  have hF2 := @run_callFunc_extern Tryd.prog 46 _ (ReflectliteValue.method (ReflectliteValue.valueError "reflectlite.Value.IsNil" 0) ReflectliteValue.isNil) Tryd.func46 (by kernel_rfl) (by kernel_rfl) (by kernel_rfl) (by kernel_rfl)
  have hF3 := @run_callFunc_extern Tryd.prog 90 _ (ReflectliteType.abiMethod fun t => do pure (.int .u8 (← Rtype.kind t))) Tryd.func90 (by kernel_rfl) (by kernel_rfl) (by kernel_rfl) (by kernel_rfl)
  have hF4 := @run_callFunc_extern Tryd.prog 100 _ (ReflectliteType.method ReflectliteType.elem) Tryd.func100 (by kernel_rfl) (by kernel_rfl) (by kernel_rfl) (by kernel_rfl)
  have hF5 := @run_callFunc_extern Tryd.prog 101 _ (ReflectliteType.relation "Implements" ReflectliteType.implements_) Tryd.func101 (by kernel_rfl) (by kernel_rfl) (by kernel_rfl) (by kernel_rfl)
  have hF6 := @run_callFunc_extern Tryd.prog 59 _ ReflectliteType.typeOf Tryd.func59 (by kernel_rfl) (by kernel_rfl) (by kernel_rfl) (by kernel_rfl)
  have hF7 := @run_callFunc_extern Tryd.prog 98 _ (ReflectliteType.relation "AssignableTo" ReflectliteType.assignableTo) Tryd.func98 (by kernel_rfl) (by kernel_rfl) (by kernel_rfl) (by kernel_rfl)
  have hF8 := @run_callFunc_extern Tryd.prog 60 _ (ReflectliteValue.method (ReflectliteValue.valueError "reflectlite.Value.Elem" 0) ReflectliteValue.elem) Tryd.func60 (by kernel_rfl) (by kernel_rfl) (by kernel_rfl) (by kernel_rfl)
  have hF9 := @run_callFunc_extern Tryd.prog 61 _ ReflectliteValue.set Tryd.func61 (by kernel_rfl) (by kernel_rfl) (by kernel_rfl) (by kernel_rfl)
  have a0 := Tryd.typeOfE
  have a1 := Tryd.methodAssignableTo
  have a2 := Tryd.assignableE
  have a3 := Tryd.valueOfE
  have a4 := Tryd.valueOfP
  have a5 := Tryd.typeP
  have a6 := Tryd.methodKind
  have a7 := Tryd.methodElem
  have a8 := Tryd.methodImplements
  have a9 := Tryd.kindP
  have a10 := Tryd.kindE
  have a11 := Tryd.elemP
  have a12 := Tryd.implementsE
  have hlt := hg.pos
  have htl := ht.lt
  generalize hW1 : w.alloc (.cells #[.pointer (some ⟨g, 0, none⟩)] 61) = W1
  have hB1 : Below w.heap.size w W1 := by rw [← hW1]; exact (Below.refl _ w).alloc (Nat.le_refl _) _
  have hs1 : W1.heap.size = w.heap.size + 1 := by rw [← hW1]; simp
  have hc1 : Blk W1 w.heap.size 61 [.pointer (some ⟨g, 0, none⟩)] := by rw [← hW1]; exact Blk.new w _ _
  generalize hW2 : W1.alloc (.cells #[.pointer (some ⟨1, 61, none⟩), .pointer (some ⟨w.heap.size, 0, none⟩), .int .u64 150] 81) = W2
  have hB2 : Below w.heap.size w W2 := by rw [← hW2]; exact hB1.alloc (by omega) _
  have hs2 : W2.heap.size = w.heap.size + 1 + 1 := by rw [← hW2]; simp [hs1]
  have hc2 : Blk W2 w.heap.size 61 [.pointer (some ⟨g, 0, none⟩)] := by rw [← hW2]; exact hc1.alloc _
  generalize hW3 : W2.alloc (.cells #[.pointer (some ⟨1, 61, none⟩), .pointer (some ⟨w.heap.size, 0, none⟩), .int .u64 150] 81) = W3
  have hB3 : Below w.heap.size w W3 := by rw [← hW3]; exact hB2.alloc (by omega) _
  have hs3 : W3.heap.size = w.heap.size + 1 + 1 + 1 := by rw [← hW3]; simp [hs2]
  have hc3 : Blk W3 w.heap.size 61 [.pointer (some ⟨g, 0, none⟩)] := by rw [← hW3]; exact hc2.alloc _
  generalize hW4 : W3.alloc (.cells #[.int .i64 n] 59) = W4
  have hB4 : Below w.heap.size w W4 := by rw [← hW4]; exact hB3.alloc (by omega) _
  have hc4 : Blk W4 (w.heap.size + 1 + 1 + 1) 59 [.int .i64 n] := by rw [← hW4, ← hs3]; exact Blk.new _ _ _
  have b0 := Tryd.isNilP ⟨w.heap.size, 0, none⟩ ⟨g, 0, none⟩ W2 (hc2.cell rfl)
  have hg2 : W2.cell? ⟨0, 0, none⟩ = some (.iface 98 (.agg #[.pointer (some ⟨1, 55, none⟩)])) := hg.below hB2
  have b1 := Tryd.elemVP ⟨w.heap.size, 0, none⟩ ⟨g, 0, none⟩ W3 (hc3.cell rfl)
  have ht4 : Blk W4 g t [old] := ht.below htl hB4
  have b2 := Tryd.setE g (w.heap.size + 1 + 1 + 1) t 59 old n W4 hc4 ht4
  subst hW1 hW2 hW3 hW4
  go_enter Tryd.func30, Tryd.ntmps30
  go_wp2
  refine wp_loop_rounds 1 ?_
  rw [rounds_succ]
  go_wp2
  go_ret
  exact ⟨rfl, _, hB4, rfl, ht4.row [.int .i64 n]⟩
end Go.Proofs.YthhkkiegfcofjaaDoor
