/- the law CanonAlike returns true at every input, and each argument reads afterwards as it read before. No condition. -/
import Derived.Test.YteafbdebmhpffaaRows
import Derived.WalkKit
import Derived.ProofKit
import Derived.OpenShut
import Derived.ShutString
import Derived.ChangeOld
import Derived.Below
import Derived.Test.YteafbdebmhpffaaScMemAll
import Derived.Test.YteafbdebmhpffaaCaLawAlike
namespace Go.Proofs.Yteafbdebmhpffaa.canonAlike
open Go.ChangeShapes Go.WideShapes Go.ChangeAt Go.RowKit
open Go.ChangeMaps (open_string shut_string)
set_option linter.unusedVariables false

theorem own : ownKnob Try.prog.godebug = none := by kernel_rfl
theorem laidOut : laidOutB Try.prog = true := by kernel_rfl

set_option maxRecDepth 100000 in
theorem lifted (os : Os) (started : os.Started) (H : Type) (enc : TypeId × Value → H) :
    ReturnsInHanded {} Try.checked os 7 .any (Rows.canonAlikeSpec.pre6 enc Try.prog Try.f7 Rows.canonAlikeRow.domain false) (Rows.canonAlikeSpec.post enc Try.prog Try.f7 false true false false) := by
  refine returnsInHanded_of_change (C := Try.checked) own started (by kernel_rfl) Try.func7
    (ChangeSpec.witness6 (enc := enc) (C := Try.checked) false ⟨#[], #[.agg #[.slice none 0 0, .slice none 0 0, .slice none 0 0], .agg #[.slice none 0 0, .slice none 0 0, .slice none 0 0], .agg #[.slice none 0 0, .slice none 0 0, .slice none 0 0], .int .i64 0, .int .i64 0, .agg #[.int .i64 0, .string ByteArray.empty, .int .i64 0]], []⟩ 8 (by kernel_rfl) (by kernel_rfl) (by kernel_rfl) (by kernel_rfl)) ?_
  intro W base args ds gs before hval0 hW hcnd _
  have hval : ∀ (j : Nat) t v, Try.f7.params[j]? = some t → args[j]? = some v → Value.okWide Try.prog W .any base t v := hval0
  have hW' := hW
  obtain ⟨p, q, hA0, hV, rfl, hfz, hnd⟩ := hW
  have hA : DataW.TrodAll enc Try.prog W 0 (fun _ => true) true Try.f7.params.toList args.toList ds p := hA0
  rw [Try.params7] at hA hval
  obtain ⟨v0, vs0, d0, ds0, p0, q0, hargs, rfl, rfl, h0, r0⟩ := trodAll_cons hA
  obtain ⟨v1, vs1, d1, ds1, p1, q1, rfl, rfl, rfl, h1, r1⟩ := trodAll_cons r0
  obtain ⟨v2, vs2, d2, ds2, p2, q2, rfl, rfl, rfl, h2, r2⟩ := trodAll_cons r1
  obtain ⟨v3, vs3, d3, ds3, p3, q3, rfl, rfl, rfl, h3, r3⟩ := trodAll_cons r2
  obtain ⟨v4, vs4, d4, ds4, p4, q4, rfl, rfl, rfl, h4, r4⟩ := trodAll_cons r3
  obtain ⟨v5, vs5, d5, ds5, p5, q5, rfl, rfl, rfl, h5, r5⟩ := trodAll_cons r4
  obtain ⟨rfl, rfl, rfl⟩ := trodAll_nil r5
  obtain rfl : args = #[v0, v1, v2, v3, v4, v5] := by cases args; simp_all
  obtain ⟨rfl, rfl⟩ := trodVars_none hV
  obtain ⟨c0, rfl, _⟩ := okWide_struct Try.underlying28 (hval 0 28 v0 rfl rfl)
  have k0 := h0
  have lt0 : ∀ x ∈ p0, x.block < W.heap.size := by obtain ⟨m, hm⟩ := k0; exact DataW.trod_lt m _ _ _ hm
  obtain ⟨x0, hx0⟩ : ∃ x, (rBoth 1 (rSlice 2 (rBoth 1 rNm (rSlice 3 (rBoth 1 rNm (rBoth 1 (rInt .i64) rNm))))) (rBoth 1 (rSlice 3 (rBoth 1 (rInt .i64) (rBoth 1 (rInt .i64) (rSlice 3 (rBoth 1 (rInt .i64) (rBoth 1 rNm (rInt .i64))))))) (rSlice 1 (rInt .i64)))) (All W) W c0.toList x := by
    obtain ⟨fuel, hf⟩ := h0
    exact Opens.opens (opens_struct3 Try.underlying28 (by kernel_rfl) rfl rfl rfl (opens_struct1 Try.underlying24 (by kernel_rfl) rfl (opens_slice Try.underlying22 (by kernel_rfl) (by decide) (opens_struct2 Try.underlying51 (by kernel_rfl) rfl rfl (opens_nm Try.underlying9 (by kernel_rfl)) (opens_slice Try.underlying49 (by kernel_rfl) (by decide) (opens_struct3 Try.underlying48 (by kernel_rfl) rfl rfl rfl (opens_nm Try.underlying9 (by kernel_rfl)) (opens_int Try.underlying3 (by kernel_rfl)) (opens_nm Try.underlying9 (by kernel_rfl))))))) (opens_slice Try.underlying25 (by kernel_rfl) (by decide) (opens_struct3 Try.underlying38 (by kernel_rfl) rfl rfl rfl (opens_int Try.underlying3 (by kernel_rfl)) (opens_int Try.underlying3 (by kernel_rfl)) (opens_slice Try.underlying36 (by kernel_rfl) (by decide) (opens_struct3 Try.underlying42 (by kernel_rfl) rfl rfl rfl (opens_int Try.underlying3 (by kernel_rfl)) (opens_nm Try.underlying9 (by kernel_rfl)) (opens_int Try.underlying3 (by kernel_rfl)))))) (opens_slice Try.underlying26 (by kernel_rfl) (by decide) (opens_int Try.underlying3 (by kernel_rfl)))) hf
  obtain ⟨c1, rfl, _⟩ := okWide_struct Try.underlying28 (hval 1 28 v1 rfl rfl)
  have k1 := h1
  have lt1 : ∀ x ∈ p1, x.block < W.heap.size := by obtain ⟨m, hm⟩ := k1; exact DataW.trod_lt m _ _ _ hm
  obtain ⟨x1, hx1⟩ : ∃ x, (rBoth 1 (rSlice 2 (rBoth 1 rNm (rSlice 3 (rBoth 1 rNm (rBoth 1 (rInt .i64) rNm))))) (rBoth 1 (rSlice 3 (rBoth 1 (rInt .i64) (rBoth 1 (rInt .i64) (rSlice 3 (rBoth 1 (rInt .i64) (rBoth 1 rNm (rInt .i64))))))) (rSlice 1 (rInt .i64)))) (All W) W c1.toList x := by
    obtain ⟨fuel, hf⟩ := h1
    exact Opens.opens (opens_struct3 Try.underlying28 (by kernel_rfl) rfl rfl rfl (opens_struct1 Try.underlying24 (by kernel_rfl) rfl (opens_slice Try.underlying22 (by kernel_rfl) (by decide) (opens_struct2 Try.underlying51 (by kernel_rfl) rfl rfl (opens_nm Try.underlying9 (by kernel_rfl)) (opens_slice Try.underlying49 (by kernel_rfl) (by decide) (opens_struct3 Try.underlying48 (by kernel_rfl) rfl rfl rfl (opens_nm Try.underlying9 (by kernel_rfl)) (opens_int Try.underlying3 (by kernel_rfl)) (opens_nm Try.underlying9 (by kernel_rfl))))))) (opens_slice Try.underlying25 (by kernel_rfl) (by decide) (opens_struct3 Try.underlying38 (by kernel_rfl) rfl rfl rfl (opens_int Try.underlying3 (by kernel_rfl)) (opens_int Try.underlying3 (by kernel_rfl)) (opens_slice Try.underlying36 (by kernel_rfl) (by decide) (opens_struct3 Try.underlying42 (by kernel_rfl) rfl rfl rfl (opens_int Try.underlying3 (by kernel_rfl)) (opens_nm Try.underlying9 (by kernel_rfl)) (opens_int Try.underlying3 (by kernel_rfl)))))) (opens_slice Try.underlying26 (by kernel_rfl) (by decide) (opens_int Try.underlying3 (by kernel_rfl)))) hf
  obtain ⟨c2, rfl, _⟩ := okWide_struct Try.underlying28 (hval 2 28 v2 rfl rfl)
  have k2 := h2
  have lt2 : ∀ x ∈ p2, x.block < W.heap.size := by obtain ⟨m, hm⟩ := k2; exact DataW.trod_lt m _ _ _ hm
  obtain ⟨x2, hx2⟩ : ∃ x, (rBoth 1 (rSlice 2 (rBoth 1 rNm (rSlice 3 (rBoth 1 rNm (rBoth 1 (rInt .i64) rNm))))) (rBoth 1 (rSlice 3 (rBoth 1 (rInt .i64) (rBoth 1 (rInt .i64) (rSlice 3 (rBoth 1 (rInt .i64) (rBoth 1 rNm (rInt .i64))))))) (rSlice 1 (rInt .i64)))) (All W) W c2.toList x := by
    obtain ⟨fuel, hf⟩ := h2
    exact Opens.opens (opens_struct3 Try.underlying28 (by kernel_rfl) rfl rfl rfl (opens_struct1 Try.underlying24 (by kernel_rfl) rfl (opens_slice Try.underlying22 (by kernel_rfl) (by decide) (opens_struct2 Try.underlying51 (by kernel_rfl) rfl rfl (opens_nm Try.underlying9 (by kernel_rfl)) (opens_slice Try.underlying49 (by kernel_rfl) (by decide) (opens_struct3 Try.underlying48 (by kernel_rfl) rfl rfl rfl (opens_nm Try.underlying9 (by kernel_rfl)) (opens_int Try.underlying3 (by kernel_rfl)) (opens_nm Try.underlying9 (by kernel_rfl))))))) (opens_slice Try.underlying25 (by kernel_rfl) (by decide) (opens_struct3 Try.underlying38 (by kernel_rfl) rfl rfl rfl (opens_int Try.underlying3 (by kernel_rfl)) (opens_int Try.underlying3 (by kernel_rfl)) (opens_slice Try.underlying36 (by kernel_rfl) (by decide) (opens_struct3 Try.underlying42 (by kernel_rfl) rfl rfl rfl (opens_int Try.underlying3 (by kernel_rfl)) (opens_nm Try.underlying9 (by kernel_rfl)) (opens_int Try.underlying3 (by kernel_rfl)))))) (opens_slice Try.underlying26 (by kernel_rfl) (by decide) (opens_int Try.underlying3 (by kernel_rfl)))) hf
  obtain ⟨a3, rfl, rfl, rfl, w3⟩ := open_int Try.underlying3 (hval 3 3 v3 rfl rfl) h3
  obtain ⟨a4, rfl, rfl, rfl, w4⟩ := open_int Try.underlying3 (hval 4 3 v4 rfl rfl) h4
  obtain ⟨c5, rfl, _⟩ := okWide_struct Try.underlying42 (hval 5 42 v5 rfl rfl)
  have k5 := h5
  have lt5 : ∀ x ∈ p5, x.block < W.heap.size := by obtain ⟨m, hm⟩ := k5; exact DataW.trod_lt m _ _ _ hm
  obtain ⟨x5, hx5⟩ : ∃ x, (rBoth 1 (rInt .i64) (rBoth 1 rNm (rInt .i64))) (All W) W c5.toList x := by
    obtain ⟨fuel, hf⟩ := h5
    exact Opens.opens (opens_struct3 Try.underlying42 (by kernel_rfl) rfl rfl rfl (opens_int Try.underlying3 (by kernel_rfl)) (opens_nm Try.underlying9 (by kernel_rfl)) (opens_int Try.underlying3 (by kernel_rfl))) hf
  clear hA0 hval0

  refine (canonAlike_walk W c0 x0 hx0 c1 x1 hx1 c2 x2 hx2 a3 (bounds_i64 w3).1 (bounds_i64 w3).2 a4 (bounds_i64 w4).1 (bounds_i64 w4).2 c5 x5 hx5).mono fun e W' ⟨he, bel⟩ => ?_
  subst he
  exact ⟨_, rfl, _, _, _, [], _, [], hW', trodAll_mk1 (shut_bool Try.underlying4 _), (trodAll_cons_mk (Below.trod laidOut (by kernel_rfl) (of_decide_eq_true (by kernel_rfl)) k0 bel lt0) (trodAll_cons_mk (Below.trod laidOut (by kernel_rfl) (of_decide_eq_true (by kernel_rfl)) k1 bel lt1) (trodAll_cons_mk (Below.trod laidOut (by kernel_rfl) (of_decide_eq_true (by kernel_rfl)) k2 bel lt2) (trodAll_cons_mk (shut_int Try.underlying3 w3) (trodAll_cons_mk (shut_int Try.underlying3 w4) (trodAll_cons_mk (Below.trod laidOut (by kernel_rfl) (of_decide_eq_true (by kernel_rfl)) k5 bel lt5) trodAll_mk0)))))), rfl, bel.frame _, fun h => by cases h⟩

theorem over : Rows.canonAlikeRow.holds Try.pinned (OpenSpec.ofChange Rows.canonAlikeSpec) :=
  OpenClaim.holds_of_wide 7 Try.f7 rfl rfl rfl rfl rfl rfl rfl ⟨rfl, rfl, rfl, rfl, rfl⟩ rfl rfl rfl rfl rfl (by kernel_rfl) Try.func7 (by kernel_rfl)
    (of_decide_eq_true (by kernel_rfl)) (by unfold Func.isWrapper; first | (rw [if_pos (by decide +kernel)]; kernel_rfl) | (rw [if_neg (by decide +kernel)]; exact ⟨rfl, rfl⟩))
    (fun os started H enc _ => lifted os started H enc)
end Go.Proofs.Yteafbdebmhpffaa.canonAlike
namespace Go.Proofs.Yteafbdebmhpffaa
theorem canonAlike_holds : Rows.CanonAlikeSaid := canonAlike.over
#print axioms canonAlike_holds
end Go.Proofs.Yteafbdebmhpffaa
