/- the law GraphTells returns true at every input whose bulk is at most 1048576 (the given second form), and each argument reads afterwards as it read before. Condition: that bound. -/
import Derived.Test.YtembafogbfcajaaRows
import Derived.WalkKit
import Derived.ProofKit
import Derived.OpenShut
import Derived.ShutString
import Derived.ChangeOld
import Derived.Below
import Derived.JoinedCond
import Derived.Test.YtembafogbfcajaaScBulk
import Derived.Test.YtembafogbfcajaaScMemAll
import Derived.Test.YtembafogbfcajaaGrLawTellsAll
namespace Go.Proofs.Ytembafogbfcajaa.graphTells
open Go.ChangeShapes Go.WideShapes Go.ChangeAt Go.RowKit
open Go.ChangeMaps (open_string shut_string)
set_option linter.unusedVariables false

theorem own : ownKnob Try.prog.godebug = none := by kernel_rfl
theorem laidOut : laidOutB Try.prog = true := by kernel_rfl

set_option maxRecDepth 100000 in
theorem lifted (os : Os) (started : os.Started) (H : Type) (enc : TypeId × Value → H) (F : Stop.Interp) :
    ReturnsInHanded {} Try.checked os 3 .any ((Rows.OpenSpec.upto Rows.graphTellsSpec).pre6 enc Try.prog Try.f3 Rows.graphTellsUptoRow.domain false) (((Rows.OpenSpec.upto Rows.graphTellsSpec).at F).post enc Try.prog Try.f3 false true false false) := by
  refine returnsInHanded_of_cond (C := Try.checked) (s := Rows.OpenSpec.upto Rows.graphTellsSpec) (k := Rows.uptoSmall) rfl own started (by kernel_rfl) Try.func3
    (OpenSpec.witness (enc := enc) (C := Try.checked) (s := Rows.OpenSpec.upto Rows.graphTellsSpec) (k := Rows.uptoSmall) rfl false ⟨#[], #[.agg #[.slice none 0 0, .slice none 0 0, .slice none 0 0], .agg #[.slice none 0 0, .slice none 0 0, .slice none 0 0], .int .i64 0, .int .i64 0, .agg #[.int .i64 0, .string ByteArray.empty, .int .i64 0]], []⟩ 8 (by kernel_rfl) (by kernel_rfl) (by kernel_rfl)
      (x := ([.agg [.agg [.nil], .nil, .nil], .agg [.agg [.nil], .nil, .nil], .lit (.int .i64 0), .lit (.int .i64 0), .agg [.lit (.int .i64 0), .lit (.string []), .lit (.int .i64 0)]], [], [])) (by kernel_rfl) rfl (by kernel_rfl)) ?_
  intro W base args ds gs before hval0 hW hcnd hk _
  have hval : ∀ (j : Nat) t v, Try.f3.params[j]? = some t → args[j]? = some v → Value.okWide Try.prog W .any base t v := hval0
  have hW' := hW
  obtain ⟨p, q, hA0, hV, rfl, hfz, hnd⟩ := hW
  have hA : DataW.TrodAll enc Try.prog W 0 (fun _ => true) true Try.f3.params.toList args.toList ds p := hA0
  rw [Try.params3] at hA hval
  obtain ⟨v0, vs0, d0, ds0, p0, q0, hargs, rfl, rfl, h0, r0⟩ := trodAll_cons hA
  obtain ⟨v1, vs1, d1, ds1, p1, q1, rfl, rfl, rfl, h1, r1⟩ := trodAll_cons r0
  obtain ⟨v2, vs2, d2, ds2, p2, q2, rfl, rfl, rfl, h2, r2⟩ := trodAll_cons r1
  obtain ⟨v3, vs3, d3, ds3, p3, q3, rfl, rfl, rfl, h3, r3⟩ := trodAll_cons r2
  obtain ⟨v4, vs4, d4, ds4, p4, q4, rfl, rfl, rfl, h4, r4⟩ := trodAll_cons r3
  obtain ⟨rfl, rfl, rfl⟩ := trodAll_nil r4
  obtain rfl : args = #[v0, v1, v2, v3, v4] := by cases args; simp_all
  obtain ⟨rfl, rfl⟩ := trodVars_none hV
  have hbk := of_decide_eq_true hk
  simp only [List.append_nil, Rows.uptoBulkAll] at hbk
  obtain ⟨c0, rfl, _⟩ := okWide_struct Try.underlying28 (hval 0 28 v0 rfl rfl)
  have k0 := h0
  have lt0 : ∀ x ∈ p0, x.block < W.heap.size := by obtain ⟨m, hm⟩ := k0; exact DataW.trod_lt m _ _ _ hm
  obtain ⟨x0, hx0, hb0⟩ : ∃ x, (rBoth 1 (rSlice 2 (rBoth 1 rNm (rSlice 3 (rBoth 1 rNm (rBoth 1 (rInt .i64) rNm))))) (rBoth 1 (rSlice 3 (rBoth 1 (rInt .i64) (rBoth 1 (rInt .i64) (rSlice 3 (rBoth 1 (rInt .i64) (rBoth 1 rNm (rInt .i64))))))) (rSlice 1 (rInt .i64)))) (All W) W c0.toList x ∧ shortG x := by
    obtain ⟨fuel, hf⟩ := h0
    exact OpensP.opens (opensP_struct3 Try.underlying28 (by kernel_rfl) rfl rfl rfl (opensP_struct1 Try.underlying24 (by kernel_rfl) rfl (opensP_slice Try.underlying22 (by kernel_rfl) (by decide) (opensP_struct2 Try.underlying54 (by kernel_rfl) rfl rfl (opensP_nm Try.underlying9 (by kernel_rfl)) (opensP_slice Try.underlying52 (by kernel_rfl) (by decide) (opensP_struct3 Try.underlying51 (by kernel_rfl) rfl rfl rfl (opensP_nm Try.underlying9 (by kernel_rfl)) (opensP_int Try.underlying3 (by kernel_rfl)) (opensP_nm Try.underlying9 (by kernel_rfl))))))) (opensP_slice Try.underlying25 (by kernel_rfl) (by decide) (opensP_struct3 Try.underlying49 (by kernel_rfl) rfl rfl rfl (opensP_int Try.underlying3 (by kernel_rfl)) (opensP_int Try.underlying3 (by kernel_rfl)) (opensP_slice Try.underlying47 (by kernel_rfl) (by decide) (opensP_struct3 Try.underlying30 (by kernel_rfl) rfl rfl rfl (opensP_int Try.underlying3 (by kernel_rfl)) (opensP_nm Try.underlying9 (by kernel_rfl)) (opensP_int Try.underlying3 (by kernel_rfl)))))) (opensP_slice Try.underlying26 (by kernel_rfl) (by decide) (opensP_int Try.underlying3 (by kernel_rfl)))) 1048576 hf (by show Rows.uptoBulk d0 ≤ _; omega)
  obtain ⟨c1, rfl, _⟩ := okWide_struct Try.underlying28 (hval 1 28 v1 rfl rfl)
  have k1 := h1
  have lt1 : ∀ x ∈ p1, x.block < W.heap.size := by obtain ⟨m, hm⟩ := k1; exact DataW.trod_lt m _ _ _ hm
  obtain ⟨x1, hx1⟩ : ∃ x, (rBoth 1 (rSlice 2 (rBoth 1 rNm (rSlice 3 (rBoth 1 rNm (rBoth 1 (rInt .i64) rNm))))) (rBoth 1 (rSlice 3 (rBoth 1 (rInt .i64) (rBoth 1 (rInt .i64) (rSlice 3 (rBoth 1 (rInt .i64) (rBoth 1 rNm (rInt .i64))))))) (rSlice 1 (rInt .i64)))) (All W) W c1.toList x := by
    obtain ⟨fuel, hf⟩ := h1
    exact Opens.opens (opens_struct3 Try.underlying28 (by kernel_rfl) rfl rfl rfl (opens_struct1 Try.underlying24 (by kernel_rfl) rfl (opens_slice Try.underlying22 (by kernel_rfl) (by decide) (opens_struct2 Try.underlying54 (by kernel_rfl) rfl rfl (opens_nm Try.underlying9 (by kernel_rfl)) (opens_slice Try.underlying52 (by kernel_rfl) (by decide) (opens_struct3 Try.underlying51 (by kernel_rfl) rfl rfl rfl (opens_nm Try.underlying9 (by kernel_rfl)) (opens_int Try.underlying3 (by kernel_rfl)) (opens_nm Try.underlying9 (by kernel_rfl))))))) (opens_slice Try.underlying25 (by kernel_rfl) (by decide) (opens_struct3 Try.underlying49 (by kernel_rfl) rfl rfl rfl (opens_int Try.underlying3 (by kernel_rfl)) (opens_int Try.underlying3 (by kernel_rfl)) (opens_slice Try.underlying47 (by kernel_rfl) (by decide) (opens_struct3 Try.underlying30 (by kernel_rfl) rfl rfl rfl (opens_int Try.underlying3 (by kernel_rfl)) (opens_nm Try.underlying9 (by kernel_rfl)) (opens_int Try.underlying3 (by kernel_rfl)))))) (opens_slice Try.underlying26 (by kernel_rfl) (by decide) (opens_int Try.underlying3 (by kernel_rfl)))) hf
  obtain ⟨a2, rfl, rfl, rfl, w2⟩ := open_int Try.underlying3 (hval 2 3 v2 rfl rfl) h2
  obtain ⟨a3, rfl, rfl, rfl, w3⟩ := open_int Try.underlying3 (hval 3 3 v3 rfl rfl) h3
  obtain ⟨c4, rfl, _⟩ := okWide_struct Try.underlying30 (hval 4 30 v4 rfl rfl)
  have k4 := h4
  have lt4 : ∀ x ∈ p4, x.block < W.heap.size := by obtain ⟨m, hm⟩ := k4; exact DataW.trod_lt m _ _ _ hm
  obtain ⟨x4, hx4⟩ : ∃ x, (rBoth 1 (rInt .i64) (rBoth 1 rNm (rInt .i64))) (All W) W c4.toList x := by
    obtain ⟨fuel, hf⟩ := h4
    exact Opens.opens (opens_struct3 Try.underlying30 (by kernel_rfl) rfl rfl rfl (opens_int Try.underlying3 (by kernel_rfl)) (opens_nm Try.underlying9 (by kernel_rfl)) (opens_int Try.underlying3 (by kernel_rfl))) hf
  clear hA0 hval0

  refine (graphTells_walk W c0 x0 hx0 hb0 c1 x1 hx1 a2 (bounds_i64 w2).1 (bounds_i64 w2).2 a3 (bounds_i64 w3).1 (bounds_i64 w3).2 c4 x4 hx4).mono fun e W' ⟨he, bel⟩ => ?_
  subst he
  exact ⟨_, rfl, _, _, _, [], _, [], hW', trodAll_mk1 (shut_bool Try.underlying4 _), (trodAll_cons_mk (Below.trod laidOut (by kernel_rfl) (of_decide_eq_true (by kernel_rfl)) k0 bel lt0) (trodAll_cons_mk (Below.trod laidOut (by kernel_rfl) (of_decide_eq_true (by kernel_rfl)) k1 bel lt1) (trodAll_cons_mk (shut_int Try.underlying3 w2) (trodAll_cons_mk (shut_int Try.underlying3 w3) (trodAll_cons_mk (Below.trod laidOut (by kernel_rfl) (of_decide_eq_true (by kernel_rfl)) k4 bel lt4) trodAll_mk0))))), rfl, bel.frame _, fun h => by cases h⟩

theorem over : Rows.graphTellsUptoRow.holds Try.pinned (Rows.OpenSpec.upto Rows.graphTellsSpec) :=
  OpenClaim.holds_of_cond 3 Try.f3 rfl rfl rfl rfl rfl rfl rfl ⟨rfl, rfl, rfl, rfl, rfl⟩ rfl rfl rfl rfl rfl (by kernel_rfl) Try.func3 (by kernel_rfl)
    (of_decide_eq_true (by kernel_rfl)) (by unfold Func.isWrapper; first | (rw [if_pos (by decide +kernel)]; kernel_rfl) | (rw [if_neg (by decide +kernel)]; exact ⟨rfl, rfl⟩))
    (fun os started H enc _ F => lifted os started H enc F)
end Go.Proofs.Ytembafogbfcajaa.graphTells
namespace Go.Proofs.Ytembafogbfcajaa
theorem graphTells_holds : Rows.GraphTellsUptoSaid := graphTells.over
#print axioms graphTells_holds
end Go.Proofs.Ytembafogbfcajaa
