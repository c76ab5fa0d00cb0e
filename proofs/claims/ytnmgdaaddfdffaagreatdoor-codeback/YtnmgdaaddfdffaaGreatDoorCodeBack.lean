/- the law CodeBack returns true at every input, and each argument reads afterwards as it read before; the card ties the listed variables errors.errorType and foliate/schema.kindTexts to the program's text. No condition. -/
import Derived.Test.YtnmgdaaddfdffaaGreatDoorRows
import Derived.WalkKit
import Derived.ProofKit
import Derived.OpenShut
import Derived.ShutString
import Derived.ChangeOld
import Derived.Below
import Derived.Test.YtnmgdaaddfdffaaGreatDoorGGen
import Derived.Test.YtnmgdaaddfdffaaGreatDoorCoLawBack
import Derived.Test.YtnmgdaaddfdffaaGreatDoorCards
import Derived.Test.YtnmgdaaddfdffaaGreatDoorTie
import Derived.Test.YtnmgdaaddfdffaaGreatDoorCoLaid
namespace Go.Proofs.YtnmgdaaddfdffaaGreatDoor.codeBack
open Go.ChangeShapes Go.WideShapes Go.ChangeAt Go.RowKit
open Go.ChangeMaps (open_string shut_string)
set_option linter.unusedVariables false

theorem own : ownKnob Tryz.prog.godebug = none := by kernel_rfl
theorem laidOut : laidOutB Tryz.prog = true := by kernel_rfl

set_option maxRecDepth 100000 in
theorem lifted (os : Os) (started : os.Started) (H : Type) (enc : TypeId × Value → H) :
    ReturnsInHanded {} Tryz.checked os 4 .any (fun w args => (Rows.codeBackSpec.pre enc Tryz.prog Tryz.f4 Rows.codeBackRow.domain false w args ∧ laidMetH Tryz.prog Rows.codeBackRow.laid w) ∧ sizedMet enc Tryz.prog Tryz.f4 (OpenSpec.ofChange Rows.codeBackSpec) false w args) (Rows.codeBackSpec.post enc Tryz.prog Tryz.f4 false true false false) := by
  refine returnsInHanded_of_change_and (C := Tryz.checked) (X := fun w _ => laidMetH Tryz.prog Rows.codeBackRow.laid w) (fun _ _ _ hh h => h.of_heap hh) own started (by kernel_rfl) Tryz.func4
    (ChangeSpec.witness_at (enc := enc) (C := Tryz.checked) (os := os) (X := fun w _ => laidMetH Tryz.prog Rows.codeBackRow.laid w) false (laidWorld os) #[.agg #[.slice none 0 0, .slice none 0 0, .slice none 0 0], .slice none 0 0] 8 rfl (by kernel_rfl) (by kernel_rfl) (by kernel_rfl) (by kernel_rfl) (by kernel_rfl) (laidWorld_met os _)) ?_
  intro W base args ds gs before hval0 hW hcnd _ hL _
  have hval : ∀ (j : Nat) t v, Tryz.f4.params[j]? = some t → args[j]? = some v → Value.okWide Tryz.prog W .any base t v := hval0
  have hW' := hW
  obtain ⟨p, q, hA0, hV, rfl, hfz, hnd⟩ := hW
  have hA : DataW.TrodAll enc Tryz.prog W 0 (fun _ => true) true Tryz.f4.params.toList args.toList ds p := hA0
  rw [Tryz.params4] at hA hval
  obtain ⟨v0, vs0, d0, ds0, p0, q0, hargs, rfl, rfl, h0, r0⟩ := trodAll_cons hA
  obtain ⟨v1, vs1, d1, ds1, p1, q1, rfl, rfl, rfl, h1, r1⟩ := trodAll_cons r0
  obtain ⟨rfl, rfl, rfl⟩ := trodAll_nil r1
  obtain rfl : args = #[v0, v1] := by cases args; simp_all
  obtain ⟨rfl, rfl⟩ := trodVars_none hV
  obtain ⟨c0, rfl, _⟩ := okWide_struct Tryz.underlying28 (hval 0 28 v0 rfl rfl)
  have k0 := h0
  have lt0 : ∀ x ∈ p0, x.block < W.heap.size := by obtain ⟨m, hm⟩ := k0; exact DataW.trod_lt m _ _ _ hm
  obtain ⟨x0, hx0⟩ : ∃ x, (rBoth 1 (rSlice 2 (rBoth 1 rNm (rSlice 3 (rBoth 1 rNm (rBoth 1 (rInt .i64) rNm))))) (rBoth 1 (rSlice 3 (rBoth 1 (rInt .i64) (rBoth 1 (rInt .i64) (rSlice 3 (rBoth 1 (rInt .i64) (rBoth 1 rNm (rInt .i64))))))) (rSlice 1 (rInt .i64)))) (All W) W c0.toList x := by
    obtain ⟨fuel, hf⟩ := h0
    exact Opens.opens (opens_struct3 Tryz.underlying28 (by kernel_rfl) rfl rfl rfl (opens_struct1 Tryz.underlying24 (by kernel_rfl) rfl (opens_slice Tryz.underlying22 (by kernel_rfl) (by decide) (opens_struct2 Tryz.underlying66 (by kernel_rfl) rfl rfl (opens_nm Tryz.underlying9 (by kernel_rfl)) (opens_slice Tryz.underlying64 (by kernel_rfl) (by decide) (opens_struct3 Tryz.underlying114 (by kernel_rfl) rfl rfl rfl (opens_nm Tryz.underlying9 (by kernel_rfl)) (opens_int Tryz.underlying3 (by kernel_rfl)) (opens_nm Tryz.underlying9 (by kernel_rfl))))))) (opens_slice Tryz.underlying25 (by kernel_rfl) (by decide) (opens_struct3 Tryz.underlying62 (by kernel_rfl) rfl rfl rfl (opens_int Tryz.underlying3 (by kernel_rfl)) (opens_int Tryz.underlying3 (by kernel_rfl)) (opens_slice Tryz.underlying60 (by kernel_rfl) (by decide) (opens_struct3 Tryz.underlying57 (by kernel_rfl) rfl rfl rfl (opens_int Tryz.underlying3 (by kernel_rfl)) (opens_nm Tryz.underlying9 (by kernel_rfl)) (opens_int Tryz.underlying3 (by kernel_rfl)))))) (opens_slice Tryz.underlying26 (by kernel_rfl) (by decide) (opens_int Tryz.underlying3 (by kernel_rfl)))) hf
  obtain ⟨a1, len1, cap1, rfl⟩ := okWide_slice Tryz.underlying29 (hval 1 29 v1 rfl rfl)
  have k1 := h1
  have lt1 : ∀ x ∈ p1, x.block < W.heap.size := by obtain ⟨m, hm⟩ := k1; exact DataW.trod_lt m _ _ _ hm
  obtain ⟨b1, e1, hl1, hm1, hb1, hr1⟩ : ∃ bs : List Nat, bs.length = len1 ∧ bs.length ≤ cap1 ∧ cap1 ≤ maxLen ∧ (∀ x ∈ bs, x < 256) ∧ Rd W a1 (u8s bs) := by
    obtain ⟨fuel, hf⟩ := h1
    rcases open_ints Tryz.underlying29 Tryz.underlying5 (by kernel_rfl) hf with ⟨hcs, _⟩ | ⟨x, l, c, zs, hcs, _, hl, hm, hz, _, hcell, hwz⟩
    · simp [Value.cells] at hcs
      obtain ⟨rfl, rfl, rfl⟩ := hcs
      exact row_u8 (zs := []) (.inl ⟨rfl, rfl, rfl, rfl⟩)
    · simp [Value.cells] at hcs
      obtain ⟨rfl, rfl, rfl⟩ := hcs
      exact row_u8 (zs := zs) (.inr ⟨_, rfl, hl, hm, by simpa using hz, hcell, hwz⟩)
  subst e1
  clear hA0 hval0

  refine (codeBack_walk W (han_of_laid hL) c0 x0 hx0 a1 cap1 b1 hl1 hm1 hb1 hr1).mono fun e W' ⟨he, bel⟩ => ?_
  subst he
  exact ⟨_, rfl, _, _, _, [], _, [], hW', trodAll_mk1 (shut_bool Tryz.underlying4 _), (trodAll_cons_mk (Below.trod laidOut (by kernel_rfl) (of_decide_eq_true (by kernel_rfl)) k0 bel lt0) (trodAll_cons_mk (Below.trod laidOut (by kernel_rfl) (of_decide_eq_true (by kernel_rfl)) k1 bel lt1) trodAll_mk0)), rfl, bel.frame _, fun h => by cases h⟩

theorem over : Rows.codeBackRow.holds Tryz.pinned (OpenSpec.ofChange Rows.codeBackSpec) :=
  OpenClaim.holds_of_wide 4 Tryz.f4 rfl rfl rfl rfl rfl rfl rfl ⟨rfl, rfl, rfl, rfl, rfl⟩ rfl rfl rfl rfl rfl (by kernel_rfl) Tryz.func4 (by kernel_rfl)
    (of_decide_eq_true (by kernel_rfl)) (by unfold Func.isWrapper; first | (rw [if_pos (by decide +kernel)]; kernel_rfl) | (rw [if_neg (by decide +kernel)]; exact ⟨rfl, rfl⟩))
    (fun os started H enc _ => lifted os started H enc)
end Go.Proofs.YtnmgdaaddfdffaaGreatDoor.codeBack
namespace Go.Proofs.YtnmgdaaddfdffaaGreatDoor
theorem codeBack.plain (f : FuncId) (fn : Func) (hf : Tryz.pinned.checked.prog.funcNamed "foliate/foliatelaw10.CodeBack" = some f) (hfn : Tryz.pinned.checked.prog.funcs[f]? = some fn) :
    true = Tryz.pinned.checked.prog.looks [] ∧ ∀ (j : Nat) t, fn.params[j]? = some t → Tryz.pinned.checked.prog.wantsStandIn t = false := by
  obtain rfl : f = 4 := Option.some.inj ((show Tryz.prog.funcNamed "foliate/foliatelaw10.CodeBack" = some 4 by kernel_rfl).symm.trans hf) |>.symm
  obtain rfl : fn = Tryz.f4 := (Option.some.inj (Tryz.func4.symm.trans hfn)).symm
  refine ⟨by kernel_rfl, fun j t ht => ?_⟩
  rw [Tryz.params4] at ht
  have hm := Array.mem_of_getElem? ht
  simp only [List.mem_toArray, List.mem_cons, List.not_mem_nil, or_false] at hm
  rcases hm with rfl | rfl
  · exact (show Tryz.prog.wantsStandIn 28 = false by kernel_rfl)
  · exact (show Tryz.prog.wantsStandIn 29 = false by kernel_rfl)
theorem codeBack_holds : Rows.CodeBackCardSaid :=
  Claim7.holds_tied_plain_at .later [] _ _ _ _ codeBack.over (fun _ h => by cases h) (by kernel_rfl) (fun _ h => by cases h) codeBack_row_tie rfl ⟨rfl, rfl⟩ (by kernel_rfl) rfl codeBack.plain (by kernel_rfl)
#print axioms codeBack_holds
end Go.Proofs.YtnmgdaaddfdffaaGreatDoor
