/- the law CanonTells returns true at every input whose bulk is at most 1048576 (the given second form), and each argument reads afterwards as it read before. Condition: that bound. -/
import Derived.Test.YteafbdebmhpffaaRows
import Derived.WalkKit
import Derived.ProofKit
import Derived.OpenShut
import Derived.ShutString
import Derived.ChangeOld
import Derived.Below
import Derived.JoinedCond
import Derived.Test.YteafbdebmhpffaaScBulk
import Derived.Test.YteafbdebmhpffaaScMemAll
import Derived.Test.YteafbdebmhpffaaCaLawTells
namespace Go.Proofs.Yteafbdebmhpffaa.canonTells
open Go.ChangeShapes Go.WideShapes Go.ChangeAt Go.RowKit
open Go.ChangeMaps (open_string shut_string)
set_option linter.unusedVariables false

theorem own : ownKnob Try.prog.godebug = none := by kernel_rfl
theorem laidOut : laidOutB Try.prog = true := by kernel_rfl

set_option maxRecDepth 100000 in
theorem lifted (os : Os) (started : os.Started) (H : Type) (enc : TypeId × Value → H) (F : Stop.Interp) :
    ReturnsInHanded {} Try.checked os 3 .any ((Rows.OpenSpec.upto Rows.canonTellsSpec).pre6 enc Try.prog Try.f3 Rows.canonTellsUptoRow.domain false) (((Rows.OpenSpec.upto Rows.canonTellsSpec).at F).post enc Try.prog Try.f3 false true false false) := by
  refine returnsInHanded_of_cond (C := Try.checked) (s := Rows.OpenSpec.upto Rows.canonTellsSpec) (k := Rows.uptoSmall) rfl own started (by kernel_rfl) Try.func3
    (OpenSpec.witness (enc := enc) (C := Try.checked) (s := Rows.OpenSpec.upto Rows.canonTellsSpec) (k := Rows.uptoSmall) rfl false ⟨#[], #[.agg #[.slice none 0 0, .slice none 0 0, .slice none 0 0], .agg #[.slice none 0 0, .slice none 0 0, .slice none 0 0]], []⟩ 8 (by kernel_rfl) (by kernel_rfl) (by kernel_rfl)
      (x := ([.agg [.agg [.nil], .nil, .nil], .agg [.agg [.nil], .nil, .nil]], [], [])) (by kernel_rfl) rfl (by kernel_rfl)) ?_
  intro W base args ds gs before hval0 hW hcnd hk _
  have hval : ∀ (j : Nat) t v, Try.f3.params[j]? = some t → args[j]? = some v → Value.okWide Try.prog W .any base t v := hval0
  have hW' := hW
  obtain ⟨p, q, hA0, hV, rfl, hfz, hnd⟩ := hW
  have hA : DataW.TrodAll enc Try.prog W 0 (fun _ => true) true Try.f3.params.toList args.toList ds p := hA0
  rw [Try.params3] at hA hval
  obtain ⟨v0, vs0, d0, ds0, p0, q0, hargs, rfl, rfl, h0, r0⟩ := trodAll_cons hA
  obtain ⟨v1, vs1, d1, ds1, p1, q1, rfl, rfl, rfl, h1, r1⟩ := trodAll_cons r0
  obtain ⟨rfl, rfl, rfl⟩ := trodAll_nil r1
  obtain rfl : args = #[v0, v1] := by cases args; simp_all
  obtain ⟨rfl, rfl⟩ := trodVars_none hV
  have hbk := of_decide_eq_true hk
  simp only [List.append_nil, Rows.uptoBulkAll] at hbk
  obtain ⟨c0, rfl, _⟩ := okWide_struct Try.underlying28 (hval 0 28 v0 rfl rfl)
  have k0 := h0
  have lt0 : ∀ x ∈ p0, x.block < W.heap.size := by obtain ⟨m, hm⟩ := k0; exact DataW.trod_lt m _ _ _ hm
  obtain ⟨x0, hx0, hb0⟩ : ∃ x, (rBoth 1 (rSlice 2 (rBoth 1 rNm (rSlice 3 (rBoth 1 rNm (rBoth 1 (rInt .i64) rNm))))) (rBoth 1 (rSlice 3 (rBoth 1 (rInt .i64) (rBoth 1 (rInt .i64) (rSlice 3 (rBoth 1 (rInt .i64) (rBoth 1 rNm (rInt .i64))))))) (rSlice 1 (rInt .i64)))) (All W) W c0.toList x ∧ shortG x := by
    obtain ⟨fuel, hf⟩ := h0
    exact OpensP.opens (opensP_struct3 Try.underlying28 (by kernel_rfl) rfl rfl rfl (opensP_struct1 Try.underlying24 (by kernel_rfl) rfl (opensP_slice Try.underlying22 (by kernel_rfl) (by decide) (opensP_struct2 Try.underlying51 (by kernel_rfl) rfl rfl (opensP_nm Try.underlying9 (by kernel_rfl)) (opensP_slice Try.underlying49 (by kernel_rfl) (by decide) (opensP_struct3 Try.underlying48 (by kernel_rfl) rfl rfl rfl (opensP_nm Try.underlying9 (by kernel_rfl)) (opensP_int Try.underlying3 (by kernel_rfl)) (opensP_nm Try.underlying9 (by kernel_rfl))))))) (opensP_slice Try.underlying25 (by kernel_rfl) (by decide) (opensP_struct3 Try.underlying38 (by kernel_rfl) rfl rfl rfl (opensP_int Try.underlying3 (by kernel_rfl)) (opensP_int Try.underlying3 (by kernel_rfl)) (opensP_slice Try.underlying36 (by kernel_rfl) (by decide) (opensP_struct3 Try.underlying42 (by kernel_rfl) rfl rfl rfl (opensP_int Try.underlying3 (by kernel_rfl)) (opensP_nm Try.underlying9 (by kernel_rfl)) (opensP_int Try.underlying3 (by kernel_rfl)))))) (opensP_slice Try.underlying26 (by kernel_rfl) (by decide) (opensP_int Try.underlying3 (by kernel_rfl)))) 1048576 hf (by show Rows.uptoBulk d0 ≤ _; omega)
  obtain ⟨c1, rfl, _⟩ := okWide_struct Try.underlying28 (hval 1 28 v1 rfl rfl)
  have k1 := h1
  have lt1 : ∀ x ∈ p1, x.block < W.heap.size := by obtain ⟨m, hm⟩ := k1; exact DataW.trod_lt m _ _ _ hm
  obtain ⟨x1, hx1, hb1⟩ : ∃ x, (rBoth 1 (rSlice 2 (rBoth 1 rNm (rSlice 3 (rBoth 1 rNm (rBoth 1 (rInt .i64) rNm))))) (rBoth 1 (rSlice 3 (rBoth 1 (rInt .i64) (rBoth 1 (rInt .i64) (rSlice 3 (rBoth 1 (rInt .i64) (rBoth 1 rNm (rInt .i64))))))) (rSlice 1 (rInt .i64)))) (All W) W c1.toList x ∧ shortG x := by
    obtain ⟨fuel, hf⟩ := h1
    exact OpensP.opens (opensP_struct3 Try.underlying28 (by kernel_rfl) rfl rfl rfl (opensP_struct1 Try.underlying24 (by kernel_rfl) rfl (opensP_slice Try.underlying22 (by kernel_rfl) (by decide) (opensP_struct2 Try.underlying51 (by kernel_rfl) rfl rfl (opensP_nm Try.underlying9 (by kernel_rfl)) (opensP_slice Try.underlying49 (by kernel_rfl) (by decide) (opensP_struct3 Try.underlying48 (by kernel_rfl) rfl rfl rfl (opensP_nm Try.underlying9 (by kernel_rfl)) (opensP_int Try.underlying3 (by kernel_rfl)) (opensP_nm Try.underlying9 (by kernel_rfl))))))) (opensP_slice Try.underlying25 (by kernel_rfl) (by decide) (opensP_struct3 Try.underlying38 (by kernel_rfl) rfl rfl rfl (opensP_int Try.underlying3 (by kernel_rfl)) (opensP_int Try.underlying3 (by kernel_rfl)) (opensP_slice Try.underlying36 (by kernel_rfl) (by decide) (opensP_struct3 Try.underlying42 (by kernel_rfl) rfl rfl rfl (opensP_int Try.underlying3 (by kernel_rfl)) (opensP_nm Try.underlying9 (by kernel_rfl)) (opensP_int Try.underlying3 (by kernel_rfl)))))) (opensP_slice Try.underlying26 (by kernel_rfl) (by decide) (opensP_int Try.underlying3 (by kernel_rfl)))) 1048576 hf (by show Rows.uptoBulk d1 ≤ _; omega)
  clear hA0 hval0

  refine (canonTells_walk W c0 x0 hx0 hb0 c1 x1 hx1 hb1).mono fun e W' ⟨he, bel⟩ => ?_
  subst he
  exact ⟨_, rfl, _, _, _, [], _, [], hW', trodAll_mk1 (shut_bool Try.underlying4 _), (trodAll_cons_mk (Below.trod laidOut (by kernel_rfl) (of_decide_eq_true (by kernel_rfl)) k0 bel lt0) (trodAll_cons_mk (Below.trod laidOut (by kernel_rfl) (of_decide_eq_true (by kernel_rfl)) k1 bel lt1) trodAll_mk0)), rfl, bel.frame _, fun h => by cases h⟩

theorem over : Rows.canonTellsUptoRow.holds Try.pinned (Rows.OpenSpec.upto Rows.canonTellsSpec) :=
  OpenClaim.holds_of_cond 3 Try.f3 rfl rfl rfl rfl rfl rfl rfl ⟨rfl, rfl, rfl, rfl, rfl⟩ rfl rfl rfl rfl rfl (by kernel_rfl) Try.func3 (by kernel_rfl)
    (of_decide_eq_true (by kernel_rfl)) (by unfold Func.isWrapper; first | (rw [if_pos (by decide +kernel)]; kernel_rfl) | (rw [if_neg (by decide +kernel)]; exact ⟨rfl, rfl⟩))
    (fun os started H enc _ F => lifted os started H enc F)
end Go.Proofs.Yteafbdebmhpffaa.canonTells
namespace Go.Proofs.Yteafbdebmhpffaa
theorem canonTells_holds : Rows.CanonTellsUptoSaid := canonTells.over
#print axioms canonTells_holds
end Go.Proofs.Yteafbdebmhpffaa
