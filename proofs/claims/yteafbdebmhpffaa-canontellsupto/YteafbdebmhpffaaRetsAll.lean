/- The texts Rets0, Rets in one; what each proves, and its conditions, stands before it. -/
import Derived.Test.YteafbdebmhpffaaScMemAll
import Derived.Laws.ResultCell
/- A result that stands in a cell alone. Over any program. No condition. -/
namespace Go.Proofs.Yteafbdebmhpffaa
open Go.RowKit

theorem results_cell {fn : Func} {p : Tmp} {ty : TypeId} (h : fn.results = #[.cell p ty]) (tmps : Array Value) (P : Program) (w : World) :
    (results fn tmps).run P w = ((asAddr (tmps.getD p undef)).run P w).andThen fun a w₁ => (loadVar ty a).run P w₁ := by
  simp only [results, h]
  simp [Sem.run_bind, Result.andThen]
theorem ret_cell0 {P : Program} {fn : Func} {p : Tmp} {ty : TypeId} {a : Act} {w : World} {Q : Ending → World → Prop} {g : Nat} {t' : TypeId} {cs : List Value} {d : TypeDesc} (h : fn.results = #[.cell p ty]) (hb : Blk w g t' cs)
    (hu : P.underlying ty = some d) (hd : (match d with | .struct _ | .array _ _ => true | _ => false) = true) (hi : (P.info? ty).map (·.size) = some cs.length) (hp : a.tmps.getD p undef = .pointer (some ⟨g, 0, none⟩)) (hdef : a.defers = [])
    (hQ : Q (.returned (.agg cs.toArray)) w) : bodyPost P fn Q .ret a w := by
  refine bodyPost_ret (v := .agg cs.toArray) ?_ hdef hQ
  have hl := run_loadVar_row (P := P) w g t' ty cs.toArray (0, 0) d hb hu hd (by simpa using hi)
  rw [results_cell h, hp]
  simp only [asAddr, Sem.run_pure, Result.andThen, hl]
end Go.Proofs.Yteafbdebmhpffaa

/- Results that stand in a cell, with one or two more in slots. Over any program. No condition. -/
namespace Go.Proofs.Yteafbdebmhpffaa
open Go.RowKit

theorem results_cell2 {fn : Func} {p q r : Tmp} {ty : TypeId} (h : fn.results = #[.cell p ty, .tmp q, .tmp r]) (tmps : Array Value) (P : Program) (w : World) :
    (results fn tmps).run P w = ((asAddr (tmps.getD p undef)).run P w).andThen fun a w₁ => ((loadVar ty a).run P w₁).andThen fun v w₂ => .ok (.tuple #[v, tmps.getD q undef, tmps.getD r undef]) w₂ := by
  simp only [results, h]
  simp [Sem.run_bind, Result.andThen]
theorem ret_cell2 {P : Program} {fn : Func} {p q r : Tmp} {ty : TypeId} {a : Act} {w : World} {Q : Ending → World → Prop} {g : Nat} {t' : TypeId} {cs : List Value} {d : TypeDesc} (h : fn.results = #[.cell p ty, .tmp q, .tmp r]) (hb : Blk w g t' cs)
    (hu : P.underlying ty = some d) (hd : (match d with | .struct _ | .array _ _ => true | _ => false) = true) (hi : (P.info? ty).map (·.size) = some cs.length) (hp : a.tmps.getD p undef = .pointer (some ⟨g, 0, none⟩)) (hdef : a.defers = [])
    (hQ : Q (.returned (.tuple #[.agg cs.toArray, a.tmps.getD q undef, a.tmps.getD r undef])) w) : bodyPost P fn Q .ret a w := by
  refine bodyPost_ret (v := .tuple #[.agg cs.toArray, a.tmps.getD q undef, a.tmps.getD r undef]) ?_ hdef hQ
  have hl := run_loadVar_row (P := P) w g t' ty cs.toArray (0, 0) d hb hu hd (by simpa using hi)
  rw [results_cell2 h, hp]
  simp only [asAddr, Sem.run_pure, Result.andThen, hl]
theorem ret_cell1 {P : Program} {fn : Func} {p q : Tmp} {ty : TypeId} {a : Act} {w : World} {Q : Ending → World → Prop} {g : Nat} {t' : TypeId} {cs : List Value} {d : TypeDesc} (h : fn.results = #[.cell p ty, .tmp q]) (hb : Blk w g t' cs)
    (hu : P.underlying ty = some d) (hd : (match d with | .struct _ | .array _ _ => true | _ => false) = true) (hi : (P.info? ty).map (·.size) = some cs.length) (hp : a.tmps.getD p undef = .pointer (some ⟨g, 0, none⟩)) (hdef : a.defers = [])
    (hQ : Q (.returned (.tuple #[.agg cs.toArray, a.tmps.getD q undef])) w) : bodyPost P fn Q .ret a w := by
  refine bodyPost_ret (v := .tuple #[.agg cs.toArray, a.tmps.getD q undef]) ?_ hdef hQ
  have hl := run_loadVar_row (P := P) w g t' ty cs.toArray (0, 0) d hb hu hd (by simpa using hi)
  rw [results_cell_tmp h, hp]
  simp only [asAddr, Sem.run_pure, Result.andThen, hl]
end Go.Proofs.Yteafbdebmhpffaa
