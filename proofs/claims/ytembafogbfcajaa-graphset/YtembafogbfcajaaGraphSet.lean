/- the law GraphSet returns true at every input, and each argument reads afterwards as it read before. No condition. -/
import Derived.Test.YtembafogbfcajaaRows
import Derived.WalkKit
import Derived.ProofKit
import Derived.OpenShut
import Derived.ShutString
import Derived.ChangeOld
import Derived.Below
import Derived.SizedLaws
import Derived.Test.YtembafogbfcajaaGrWeigh
import Derived.Test.YtembafogbfcajaaScMemAll
import Derived.Test.YtembafogbfcajaaGrLawSet
namespace Go.Proofs.Ytembafogbfcajaa.graphSet
open Go.ChangeShapes Go.WideShapes Go.ChangeAt Go.RowKit
open Go.ChangeMaps (open_string shut_string)
set_option linter.unusedVariables false

theorem own : ownKnob Try.prog.godebug = none := by kernel_rfl
theorem laidOut : laidOutB Try.prog = true := by kernel_rfl

set_option maxRecDepth 100000 in
theorem lifted (os : Os) (started : os.Started) (H : Type) (enc : TypeId × Value → H) :
    ReturnsInHanded {} Try.checked os 7 .any (Rows.graphSetSpec.pre6 enc Try.prog Try.f7 Rows.graphSetRow.domain false) (Rows.graphSetSpec.post enc Try.prog Try.f7 false true false false) := by
  refine returnsInHanded_of_change_sized (C := Try.checked) own started (by kernel_rfl) Try.func7
    (ChangeSpec.witness6 (enc := enc) (C := Try.checked) false ⟨#[], #[.agg #[.slice none 0 0, .slice none 0 0, .slice none 0 0], .int .i64 0, .int .i64 0, .agg #[.int .i64 0, .string ByteArray.empty, .int .i64 0]], []⟩ 8 (by kernel_rfl) (by kernel_rfl) (by kernel_rfl) (by kernel_rfl)) ?_
  intro W base args ds gs before hval0 hW hcnd hsz0 _
  have hsz : (DataW.weightsEach Try.prog (Try.f7.params.toList ++ Rows.graphSetSpec.plain.varTypes Try.prog) (ds ++ gs)).all (· ≤ reachBytes) = true := hsz0
  have hval : ∀ (j : Nat) t v, Try.f7.params[j]? = some t → args[j]? = some v → Value.okWide Try.prog W .any base t v := hval0
  have hW' := hW
  obtain ⟨p, q, hA0, hV, rfl, hfz, hnd⟩ := hW
  have hA : DataW.TrodAll enc Try.prog W 0 (fun _ => true) true Try.f7.params.toList args.toList ds p := hA0
  rw [Try.params7] at hA hval hsz
  obtain ⟨v0, vs0, d0, ds0, p0, q0, hargs, rfl, rfl, h0, r0⟩ := trodAll_cons hA
  obtain ⟨v1, vs1, d1, ds1, p1, q1, rfl, rfl, rfl, h1, r1⟩ := trodAll_cons r0
  obtain ⟨v2, vs2, d2, ds2, p2, q2, rfl, rfl, rfl, h2, r2⟩ := trodAll_cons r1
  obtain ⟨v3, vs3, d3, ds3, p3, q3, rfl, rfl, rfl, h3, r3⟩ := trodAll_cons r2
  obtain ⟨rfl, rfl, rfl⟩ := trodAll_nil r3
  obtain rfl : args = #[v0, v1, v2, v3] := by cases args; simp_all
  obtain ⟨rfl, rfl⟩ := trodVars_none hV
  obtain ⟨c0, rfl, _⟩ := okWide_struct Try.underlying28 (hval 0 28 v0 rfl rfl)
  have k0 := h0
  have lt0 : ∀ x ∈ p0, x.block < W.heap.size := by obtain ⟨m, hm⟩ := k0; exact DataW.trod_lt m _ _ _ hm
  obtain ⟨x0, hx0, hb0⟩ : ∃ x, (rBoth 1 (rSlice 2 (rBoth 1 rNm (rSlice 3 (rBoth 1 rNm (rBoth 1 (rInt .i64) rNm))))) (rBoth 1 (rSlice 3 (rBoth 1 (rInt .i64) (rBoth 1 (rInt .i64) (rSlice 3 (rBoth 1 (rInt .i64) (rBoth 1 rNm (rInt .i64))))))) (rSlice 1 (rInt .i64)))) (All W) W c0.toList x ∧ reachB x := by
    obtain ⟨fuel, hf⟩ := h0
    exact OpensW.opens (opensW_struct3 Try.underlying28 (by kernel_rfl) rfl rfl rfl (opensW_struct1 Try.underlying24 (by kernel_rfl) rfl (opensW_slice Try.underlying22 (by kernel_rfl) (by decide) (by kernel_rfl) (opensW_struct2 Try.underlying54 (by kernel_rfl) rfl rfl (opensW_nm Try.underlying9 (by kernel_rfl)) (opensW_slice Try.underlying52 (by kernel_rfl) (by decide) (by kernel_rfl) (opensW_struct3 Try.underlying51 (by kernel_rfl) rfl rfl rfl (opensW_nm Try.underlying9 (by kernel_rfl)) (opensW_int Try.underlying3 (by kernel_rfl)) (opensW_nm Try.underlying9 (by kernel_rfl))))))) (opensW_slice Try.underlying25 (by kernel_rfl) (by decide) (by kernel_rfl) (opensW_struct3 Try.underlying49 (by kernel_rfl) rfl rfl rfl (opensW_int Try.underlying3 (by kernel_rfl)) (opensW_int Try.underlying3 (by kernel_rfl)) (opensW_slice Try.underlying47 (by kernel_rfl) (by decide) (by kernel_rfl) (opensW_struct3 Try.underlying30 (by kernel_rfl) rfl rfl rfl (opensW_int Try.underlying3 (by kernel_rfl)) (opensW_nm Try.underlying9 (by kernel_rfl)) (opensW_int Try.underlying3 (by kernel_rfl)))))) (opensW_slice Try.underlying26 (by kernel_rfl) (by decide) (by kernel_rfl) (opensW_int Try.underlying3 (by kernel_rfl)))) hf (fun n hn => of_decide_eq_true (List.all_eq_true.1 hsz n (DataW.weights_mem_each (j := 0) (t := 28) rfl rfl n hn)))
  obtain ⟨a1, rfl, rfl, rfl, w1⟩ := open_int Try.underlying3 (hval 1 3 v1 rfl rfl) h1
  obtain ⟨a2, rfl, rfl, rfl, w2⟩ := open_int Try.underlying3 (hval 2 3 v2 rfl rfl) h2
  obtain ⟨c3, rfl, _⟩ := okWide_struct Try.underlying30 (hval 3 30 v3 rfl rfl)
  have k3 := h3
  have lt3 : ∀ x ∈ p3, x.block < W.heap.size := by obtain ⟨m, hm⟩ := k3; exact DataW.trod_lt m _ _ _ hm
  obtain ⟨x3, hx3⟩ : ∃ x, (rBoth 1 (rInt .i64) (rBoth 1 rNm (rInt .i64))) (All W) W c3.toList x := by
    obtain ⟨fuel, hf⟩ := h3
    exact Opens.opens (opens_struct3 Try.underlying30 (by kernel_rfl) rfl rfl rfl (opens_int Try.underlying3 (by kernel_rfl)) (opens_nm Try.underlying9 (by kernel_rfl)) (opens_int Try.underlying3 (by kernel_rfl))) hf
  clear hA0 hval0

  refine (graphSet_walk W c0 x0 hx0 hb0 a1 (bounds_i64 w1).1 (bounds_i64 w1).2 a2 (bounds_i64 w2).1 (bounds_i64 w2).2 c3 x3 hx3).mono fun e W' ⟨he, bel⟩ => ?_
  subst he
  exact ⟨_, rfl, _, _, _, [], _, [], hW', trodAll_mk1 (shut_bool Try.underlying4 _), (trodAll_cons_mk (Below.trod laidOut (by kernel_rfl) (of_decide_eq_true (by kernel_rfl)) k0 bel lt0) (trodAll_cons_mk (shut_int Try.underlying3 w1) (trodAll_cons_mk (shut_int Try.underlying3 w2) (trodAll_cons_mk (Below.trod laidOut (by kernel_rfl) (of_decide_eq_true (by kernel_rfl)) k3 bel lt3) trodAll_mk0)))), rfl, bel.frame _, fun h => by cases h⟩

theorem over : Rows.graphSetRow.holds Try.pinned (OpenSpec.ofChange Rows.graphSetSpec) :=
  OpenClaim.holds_of_wide 7 Try.f7 rfl rfl rfl rfl rfl rfl rfl ⟨rfl, rfl, rfl, rfl, rfl⟩ rfl rfl rfl rfl rfl (by kernel_rfl) Try.func7 (by kernel_rfl)
    (of_decide_eq_true (by kernel_rfl)) (by unfold Func.isWrapper; first | (rw [if_pos (by decide +kernel)]; kernel_rfl) | (rw [if_neg (by decide +kernel)]; exact ⟨rfl, rfl⟩))
    (fun os started H enc _ => lifted os started H enc)
end Go.Proofs.Ytembafogbfcajaa.graphSet
namespace Go.Proofs.Ytembafogbfcajaa
theorem graphSet_holds : Rows.GraphSetSaid := graphSet.over
#print axioms graphSet_holds
end Go.Proofs.Ytembafogbfcajaa
