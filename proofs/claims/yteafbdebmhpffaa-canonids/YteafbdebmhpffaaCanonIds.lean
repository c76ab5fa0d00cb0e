/- the law CanonIds returns true at every input, and each argument reads afterwards as it read before. No condition. -/
import Derived.Test.YteafbdebmhpffaaRows
import Derived.WalkKit
import Derived.ProofKit
import Derived.OpenShut
import Derived.ShutString
import Derived.ChangeOld
import Derived.Below
import Derived.Test.YteafbdebmhpffaaScMemAll
import Derived.Test.YteafbdebmhpffaaCaLawIds
namespace Go.Proofs.Yteafbdebmhpffaa.canonIds
open Go.ChangeShapes Go.WideShapes Go.ChangeAt Go.RowKit
open Go.ChangeMaps (open_string shut_string)
set_option linter.unusedVariables false

theorem own : ownKnob Try.prog.godebug = none := by kernel_rfl
theorem laidOut : laidOutB Try.prog = true := by kernel_rfl

set_option maxRecDepth 100000 in
theorem lifted (os : Os) (started : os.Started) (H : Type) (enc : TypeId × Value → H) :
    ReturnsInHanded {} Try.checked os 5 .any (Rows.canonIdsSpec.pre6 enc Try.prog Try.f5 Rows.canonIdsRow.domain false) (Rows.canonIdsSpec.post enc Try.prog Try.f5 false true false false) := by
  refine returnsInHanded_of_change (C := Try.checked) own started (by kernel_rfl) Try.func5
    (ChangeSpec.witness6 (enc := enc) (C := Try.checked) false ⟨#[], #[.agg #[.slice none 0 0, .slice none 0 0, .slice none 0 0], .slice none 0 0], []⟩ 8 (by kernel_rfl) (by kernel_rfl) (by kernel_rfl) (by kernel_rfl)) ?_
  intro W base args ds gs before hval0 hW hcnd _
  have hval : ∀ (j : Nat) t v, Try.f5.params[j]? = some t → args[j]? = some v → Value.okWide Try.prog W .any base t v := hval0
  have hW' := hW
  obtain ⟨p, q, hA0, hV, rfl, hfz, hnd⟩ := hW
  have hA : DataW.TrodAll enc Try.prog W 0 (fun _ => true) true Try.f5.params.toList args.toList ds p := hA0
  rw [Try.params5] at hA hval
  obtain ⟨v0, vs0, d0, ds0, p0, q0, hargs, rfl, rfl, h0, r0⟩ := trodAll_cons hA
  obtain ⟨v1, vs1, d1, ds1, p1, q1, rfl, rfl, rfl, h1, r1⟩ := trodAll_cons r0
  obtain ⟨rfl, rfl, rfl⟩ := trodAll_nil r1
  obtain rfl : args = #[v0, v1] := by cases args; simp_all
  obtain ⟨rfl, rfl⟩ := trodVars_none hV
  obtain ⟨c0, rfl, _⟩ := okWide_struct Try.underlying28 (hval 0 28 v0 rfl rfl)
  have k0 := h0
  have lt0 : ∀ x ∈ p0, x.block < W.heap.size := by obtain ⟨m, hm⟩ := k0; exact DataW.trod_lt m _ _ _ hm
  obtain ⟨x0, hx0⟩ : ∃ x, (rBoth 1 (rSlice 2 (rBoth 1 rNm (rSlice 3 (rBoth 1 rNm (rBoth 1 (rInt .i64) rNm))))) (rBoth 1 (rSlice 3 (rBoth 1 (rInt .i64) (rBoth 1 (rInt .i64) (rSlice 3 (rBoth 1 (rInt .i64) (rBoth 1 rNm (rInt .i64))))))) (rSlice 1 (rInt .i64)))) (All W) W c0.toList x := by
    obtain ⟨fuel, hf⟩ := h0
    exact Opens.opens (opens_struct3 Try.underlying28 (by kernel_rfl) rfl rfl rfl (opens_struct1 Try.underlying24 (by kernel_rfl) rfl (opens_slice Try.underlying22 (by kernel_rfl) (by decide) (opens_struct2 Try.underlying51 (by kernel_rfl) rfl rfl (opens_nm Try.underlying9 (by kernel_rfl)) (opens_slice Try.underlying49 (by kernel_rfl) (by decide) (opens_struct3 Try.underlying48 (by kernel_rfl) rfl rfl rfl (opens_nm Try.underlying9 (by kernel_rfl)) (opens_int Try.underlying3 (by kernel_rfl)) (opens_nm Try.underlying9 (by kernel_rfl))))))) (opens_slice Try.underlying25 (by kernel_rfl) (by decide) (opens_struct3 Try.underlying38 (by kernel_rfl) rfl rfl rfl (opens_int Try.underlying3 (by kernel_rfl)) (opens_int Try.underlying3 (by kernel_rfl)) (opens_slice Try.underlying36 (by kernel_rfl) (by decide) (opens_struct3 Try.underlying42 (by kernel_rfl) rfl rfl rfl (opens_int Try.underlying3 (by kernel_rfl)) (opens_nm Try.underlying9 (by kernel_rfl)) (opens_int Try.underlying3 (by kernel_rfl)))))) (opens_slice Try.underlying26 (by kernel_rfl) (by decide) (opens_int Try.underlying3 (by kernel_rfl)))) hf
  obtain ⟨a1, len1, cap1, rfl⟩ := okWide_slice Try.underlying26 (hval 1 26 v1 rfl rfl)
  have k1 := h1
  have lt1 : ∀ x ∈ p1, x.block < W.heap.size := by obtain ⟨m, hm⟩ := k1; exact DataW.trod_lt m _ _ _ hm
  obtain ⟨x1, hx1⟩ : ∃ x, (rSlice 1 (rInt .i64)) (All W) W [.slice a1 len1 cap1] x := by
    obtain ⟨fuel, hf⟩ := h1
    exact Opens.opens (opens_slice Try.underlying26 (by kernel_rfl) (by decide) (opens_int Try.underlying3 (by kernel_rfl))) hf
  clear hA0 hval0

  refine (canonIds_walk W c0 x0 hx0 a1 len1 cap1 x1 hx1).mono fun e W' ⟨he, bel⟩ => ?_
  subst he
  exact ⟨_, rfl, _, _, _, [], _, [], hW', trodAll_mk1 (shut_bool Try.underlying4 _), (trodAll_cons_mk (Below.trod laidOut (by kernel_rfl) (of_decide_eq_true (by kernel_rfl)) k0 bel lt0) (trodAll_cons_mk (Below.trod laidOut (by kernel_rfl) (of_decide_eq_true (by kernel_rfl)) k1 bel lt1) trodAll_mk0)), rfl, bel.frame _, fun h => by cases h⟩

theorem over : Rows.canonIdsRow.holds Try.pinned (OpenSpec.ofChange Rows.canonIdsSpec) :=
  OpenClaim.holds_of_wide 5 Try.f5 rfl rfl rfl rfl rfl rfl rfl ⟨rfl, rfl, rfl, rfl, rfl⟩ rfl rfl rfl rfl rfl (by kernel_rfl) Try.func5 (by kernel_rfl)
    (of_decide_eq_true (by kernel_rfl)) (by unfold Func.isWrapper; first | (rw [if_pos (by decide +kernel)]; kernel_rfl) | (rw [if_neg (by decide +kernel)]; exact ⟨rfl, rfl⟩))
    (fun os started H enc _ => lifted os started H enc)
end Go.Proofs.Yteafbdebmhpffaa.canonIds
namespace Go.Proofs.Yteafbdebmhpffaa
theorem canonIds_holds : Rows.CanonIdsSaid := canonIds.over
#print axioms canonIds_holds
end Go.Proofs.Yteafbdebmhpffaa
