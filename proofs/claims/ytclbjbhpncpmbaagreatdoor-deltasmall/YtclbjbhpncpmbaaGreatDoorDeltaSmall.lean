/- the law DeltaSmall returns true at every input, and each argument reads afterwards as it read before; the card ties the listed variable foliate/schema.kindTexts to the program's text. No condition. -/
import Derived.Test.YtclbjbhpncpmbaaGreatDoorRows
import Derived.WalkKit
import Derived.ProofKit
import Derived.OpenShut
import Derived.ShutString
import Derived.ChangeOld
import Derived.Below
import Derived.SizedLaws
import Derived.Test.YtclbjbhpncpmbaaGreatDoorGrWeigh
import Derived.Test.YtclbjbhpncpmbaaGreatDoorGGen
import Derived.Test.YtclbjbhpncpmbaaGreatDoorDeLawSmall
import Derived.Test.YtclbjbhpncpmbaaGreatDoorCards
import Derived.Test.YtclbjbhpncpmbaaGreatDoorTie
import Derived.Test.YtclbjbhpncpmbaaGreatDoorScLaid
namespace Go.Proofs.YtclbjbhpncpmbaaGreatDoor.deltaSmall
open Go.ChangeShapes Go.WideShapes Go.ChangeAt Go.RowKit
open Go.ChangeMaps (open_string shut_string)
set_option linter.unusedVariables false

theorem own : ownKnob Tryz.prog.godebug = none := by kernel_rfl
theorem laidOut : laidOutB Tryz.prog = true := by kernel_rfl

set_option maxRecDepth 100000 in
theorem lifted (os : Os) (started : os.Started) (H : Type) (enc : TypeId × Value → H) :
    ReturnsInHanded {} Tryz.checked os 8 .any (fun w args => (Rows.deltaSmallSpec.pre enc Tryz.prog Tryz.f8 Rows.deltaSmallRow.domain false w args ∧ laidMetH Tryz.prog Rows.deltaSmallRow.laid w) ∧ sizedMet enc Tryz.prog Tryz.f8 (OpenSpec.ofChange Rows.deltaSmallSpec) false w args) (Rows.deltaSmallSpec.post enc Tryz.prog Tryz.f8 false true false false) := by
  refine returnsInHanded_of_change_and (C := Tryz.checked) (X := fun w _ => laidMetH Tryz.prog Rows.deltaSmallRow.laid w) (fun _ _ _ hh h => h.of_heap hh) own started (by kernel_rfl) Tryz.func8
    (ChangeSpec.witness_at (enc := enc) (C := Tryz.checked) (os := os) (X := fun w _ => laidMetH Tryz.prog Rows.deltaSmallRow.laid w) false (laidWorld os) #[.agg #[.slice none 0 0, .slice none 0 0, .slice none 0 0], .int .i64 0, .int .i64 0, .agg #[.int .i64 0, .string ByteArray.empty, .int .i64 0]] 8 rfl (by kernel_rfl) (by kernel_rfl) (by kernel_rfl) (by kernel_rfl) (by kernel_rfl) (laidWorld_met os _)) ?_
  intro W base args ds gs before hval0 hW hcnd hsz0 hL _
  have hsz : (DataW.weightsEach Tryz.prog (Tryz.f8.params.toList ++ Rows.deltaSmallSpec.plain.varTypes Tryz.prog) (ds ++ gs)).all (· ≤ reachBytes) = true := hsz0
  have hval : ∀ (j : Nat) t v, Tryz.f8.params[j]? = some t → args[j]? = some v → Value.okWide Tryz.prog W .any base t v := hval0
  have hW' := hW
  obtain ⟨p, q, hA0, hV, rfl, hfz, hnd⟩ := hW
  have hA : DataW.TrodAll enc Tryz.prog W 0 (fun _ => true) true Tryz.f8.params.toList args.toList ds p := hA0
  rw [Tryz.params8] at hA hval hsz
  obtain ⟨v0, vs0, d0, ds0, p0, q0, hargs, rfl, rfl, h0, r0⟩ := trodAll_cons hA
  obtain ⟨v1, vs1, d1, ds1, p1, q1, rfl, rfl, rfl, h1, r1⟩ := trodAll_cons r0
  obtain ⟨v2, vs2, d2, ds2, p2, q2, rfl, rfl, rfl, h2, r2⟩ := trodAll_cons r1
  obtain ⟨v3, vs3, d3, ds3, p3, q3, rfl, rfl, rfl, h3, r3⟩ := trodAll_cons r2
  obtain ⟨rfl, rfl, rfl⟩ := trodAll_nil r3
  obtain rfl : args = #[v0, v1, v2, v3] := by cases args; simp_all
  obtain ⟨rfl, rfl⟩ := trodVars_none hV
  obtain ⟨c0, rfl, _⟩ := okWide_struct Tryz.underlying28 (hval 0 28 v0 rfl rfl)
  have k0 := h0
  have lt0 : ∀ x ∈ p0, x.block < W.heap.size := by obtain ⟨m, hm⟩ := k0; exact DataW.trod_lt m _ _ _ hm
  obtain ⟨x0, hx0, hb0⟩ : ∃ x, (rBoth 1 (rSlice 2 (rBoth 1 rNm (rSlice 3 (rBoth 1 rNm (rBoth 1 (rInt .i64) rNm))))) (rBoth 1 (rSlice 3 (rBoth 1 (rInt .i64) (rBoth 1 (rInt .i64) (rSlice 3 (rBoth 1 (rInt .i64) (rBoth 1 rNm (rInt .i64))))))) (rSlice 1 (rInt .i64)))) (All W) W c0.toList x ∧ reachB x := by
    obtain ⟨fuel, hf⟩ := h0
    exact OpensW.opens (opensW_struct3 Tryz.underlying28 (by kernel_rfl) rfl rfl rfl (opensW_struct1 Tryz.underlying24 (by kernel_rfl) rfl (opensW_slice Tryz.underlying22 (by kernel_rfl) (by decide) (by kernel_rfl) (opensW_struct2 Tryz.underlying65 (by kernel_rfl) rfl rfl (opensW_nm Tryz.underlying9 (by kernel_rfl)) (opensW_slice Tryz.underlying63 (by kernel_rfl) (by decide) (by kernel_rfl) (opensW_struct3 Tryz.underlying62 (by kernel_rfl) rfl rfl rfl (opensW_nm Tryz.underlying9 (by kernel_rfl)) (opensW_int Tryz.underlying3 (by kernel_rfl)) (opensW_nm Tryz.underlying9 (by kernel_rfl))))))) (opensW_slice Tryz.underlying25 (by kernel_rfl) (by decide) (by kernel_rfl) (opensW_struct3 Tryz.underlying60 (by kernel_rfl) rfl rfl rfl (opensW_int Tryz.underlying3 (by kernel_rfl)) (opensW_int Tryz.underlying3 (by kernel_rfl)) (opensW_slice Tryz.underlying58 (by kernel_rfl) (by decide) (by kernel_rfl) (opensW_struct3 Tryz.underlying55 (by kernel_rfl) rfl rfl rfl (opensW_int Tryz.underlying3 (by kernel_rfl)) (opensW_nm Tryz.underlying9 (by kernel_rfl)) (opensW_int Tryz.underlying3 (by kernel_rfl)))))) (opensW_slice Tryz.underlying26 (by kernel_rfl) (by decide) (by kernel_rfl) (opensW_int Tryz.underlying3 (by kernel_rfl)))) hf (fun n hn => of_decide_eq_true (List.all_eq_true.1 hsz n (DataW.weights_mem_each (j := 0) (t := 28) rfl rfl n hn)))
  obtain ⟨a1, rfl, rfl, rfl, w1⟩ := open_int Tryz.underlying3 (hval 1 3 v1 rfl rfl) h1
  obtain ⟨a2, rfl, rfl, rfl, w2⟩ := open_int Tryz.underlying3 (hval 2 3 v2 rfl rfl) h2
  obtain ⟨c3, rfl, _⟩ := okWide_struct Tryz.underlying55 (hval 3 55 v3 rfl rfl)
  have k3 := h3
  have lt3 : ∀ x ∈ p3, x.block < W.heap.size := by obtain ⟨m, hm⟩ := k3; exact DataW.trod_lt m _ _ _ hm
  obtain ⟨x3, hx3⟩ : ∃ x, (rBoth 1 (rInt .i64) (rBoth 1 rNm (rInt .i64))) (All W) W c3.toList x := by
    obtain ⟨fuel, hf⟩ := h3
    exact Opens.opens (opens_struct3 Tryz.underlying55 (by kernel_rfl) rfl rfl rfl (opens_int Tryz.underlying3 (by kernel_rfl)) (opens_nm Tryz.underlying9 (by kernel_rfl)) (opens_int Tryz.underlying3 (by kernel_rfl))) hf
  clear hA0 hval0

  refine (deltaSmall_walk W (han_of_laid hL) c0 x0 hx0 hb0 a1 (bounds_i64 w1).1 (bounds_i64 w1).2 a2 (bounds_i64 w2).1 (bounds_i64 w2).2 c3 x3 hx3).mono fun e W' ⟨he, bel⟩ => ?_
  subst he
  exact ⟨_, rfl, _, _, _, [], _, [], hW', trodAll_mk1 (shut_bool Tryz.underlying4 _), (trodAll_cons_mk (Below.trod laidOut (by kernel_rfl) (of_decide_eq_true (by kernel_rfl)) k0 bel lt0) (trodAll_cons_mk (shut_int Tryz.underlying3 w1) (trodAll_cons_mk (shut_int Tryz.underlying3 w2) (trodAll_cons_mk (Below.trod laidOut (by kernel_rfl) (of_decide_eq_true (by kernel_rfl)) k3 bel lt3) trodAll_mk0)))), rfl, bel.frame _, fun h => by cases h⟩

theorem over : Rows.deltaSmallRow.holds Tryz.pinned (OpenSpec.ofChange Rows.deltaSmallSpec) :=
  OpenClaim.holds_of_wide 8 Tryz.f8 rfl rfl rfl rfl rfl rfl rfl ⟨rfl, rfl, rfl, rfl, rfl⟩ rfl rfl rfl rfl rfl (by kernel_rfl) Tryz.func8 (by kernel_rfl)
    (of_decide_eq_true (by kernel_rfl)) (by unfold Func.isWrapper; first | (rw [if_pos (by decide +kernel)]; kernel_rfl) | (rw [if_neg (by decide +kernel)]; exact ⟨rfl, rfl⟩))
    (fun os started H enc _ => lifted os started H enc)
end Go.Proofs.YtclbjbhpncpmbaaGreatDoor.deltaSmall
namespace Go.Proofs.YtclbjbhpncpmbaaGreatDoor
theorem deltaSmall.plain (f : FuncId) (fn : Func) (hf : Tryz.pinned.checked.prog.funcNamed "foliate/foliatelaw11.DeltaSmall" = some f) (hfn : Tryz.pinned.checked.prog.funcs[f]? = some fn) :
    true = Tryz.pinned.checked.prog.looks [] ∧ ∀ (j : Nat) t, fn.params[j]? = some t → Tryz.pinned.checked.prog.wantsStandIn t = false := by
  obtain rfl : f = 8 := Option.some.inj ((show Tryz.prog.funcNamed "foliate/foliatelaw11.DeltaSmall" = some 8 by kernel_rfl).symm.trans hf) |>.symm
  obtain rfl : fn = Tryz.f8 := (Option.some.inj (Tryz.func8.symm.trans hfn)).symm
  refine ⟨by kernel_rfl, fun j t ht => ?_⟩
  rw [Tryz.params8] at ht
  have hm := Array.mem_of_getElem? ht
  simp only [List.mem_toArray, List.mem_cons, List.not_mem_nil, or_false] at hm
  rcases hm with rfl | rfl | rfl | rfl
  · exact (show Tryz.prog.wantsStandIn 28 = false by kernel_rfl)
  · exact (show Tryz.prog.wantsStandIn 3 = false by kernel_rfl)
  · exact (show Tryz.prog.wantsStandIn 3 = false by kernel_rfl)
  · exact (show Tryz.prog.wantsStandIn 55 = false by kernel_rfl)
theorem deltaSmall_holds : Rows.DeltaSmallCardSaid :=
  Claim7.holds_tied_plain_at .later [] _ _ _ _ deltaSmall.over (fun _ h => by cases h) (by kernel_rfl) (fun _ h => by cases h) deltaSmall_row_tie rfl ⟨rfl, rfl⟩ (by kernel_rfl) rfl deltaSmall.plain (by kernel_rfl)
#print axioms deltaSmall_holds
end Go.Proofs.YtclbjbhpncpmbaaGreatDoor
