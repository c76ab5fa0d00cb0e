/- the law SchemaTells returns true at every input whose bulk is at most 1048576 (the given second form), and each argument reads afterwards as it read before; the card ties the listed variable to the program's text. Condition: that bound. -/
import Derived.Test.YtomndfeifjiljaaDoorRows
import Derived.WalkKit
import Derived.ProofKit
import Derived.OpenShut
import Derived.ShutString
import Derived.ChangeOld
import Derived.Below
import Derived.Test.YtomndfeifjiljaaDoorScBulk
import Derived.Deep.DeepHandedRow
import Derived.Test.YtomndfeifjiljaaDoorScLawTells
import Derived.Test.YtomndfeifjiljaaDoorCards
import Derived.Test.YtomndfeifjiljaaDoorTie
import Derived.Test.YtomndfeifjiljaaDoorScLaid
namespace Go.Proofs.YtomndfeifjiljaaDoor.schemaTells
open Go.ChangeShapes Go.WideShapes Go.ChangeAt Go.RowKit
open Go.ChangeMaps (open_string shut_string)
set_option linter.unusedVariables false

theorem own : ownKnob Tryd.prog.godebug = none := by kernel_rfl
theorem laidOut : laidOutB Tryd.prog = true := by kernel_rfl

theorem laid_met (os : Os) : laidMet Tryd.prog Rows.schemaTellsUptoRow.laid ((laidWorld os).forCall (fun _ _ => 0) ⟨#[], #[.agg #[.slice none 0 0], .agg #[.slice none 0 0], .string ByteArray.empty, .string ByteArray.empty], []⟩).memory :=
  laidMet_of_run' 8 (by kernel_rfl) (by kernel_rfl)
theorem reads (os : Os) {H : Type} (enc : TypeId × Value → H) : ∃ places, DataW.whole enc Tryd.prog ((laidWorld os).forCall (fun _ _ => 0) ⟨#[], #[.agg #[.slice none 0 0], .agg #[.slice none 0 0], .string ByteArray.empty, .string ByteArray.empty], []⟩).memory Tryd.f3.params.toList Rows.schemaTellsSpec.vars false (#[.agg #[.slice none 0 0], .agg #[.slice none 0 0], .string ByteArray.empty, .string ByteArray.empty] : Array Value).toList 8 = some ([.agg [.nil], .agg [.nil], .lit (.string []), .lit (.string [])], [], places) :=
  ⟨[], by kernel_rfl⟩

set_option maxRecDepth 100000 in
theorem lifted (os : Os) (started : os.Started) (H : Type) (enc : TypeId × Value → H) (F : Stop.Interp) :
    ReturnsInHanded {} Tryd.checked os 3 .any ((Rows.OpenSpec.upto Rows.schemaTellsSpec).preRow enc Tryd.prog Tryd.f3 Rows.schemaTellsUptoRow.domain false Rows.schemaTellsUptoRow.laid) (((Rows.OpenSpec.upto Rows.schemaTellsSpec).at F).post enc Tryd.prog Tryd.f3 false true false false) := by
  obtain ⟨places, hx⟩ := reads os enc
  refine returnsInHanded_of_row (C := Tryd.checked) (s := Rows.OpenSpec.upto Rows.schemaTellsSpec) own started (by kernel_rfl) Tryd.func3
    (witness_row_at (enc := enc) (C := Tryd.checked) false (laidWorld os) #[.agg #[.slice none 0 0], .agg #[.slice none 0 0], .string ByteArray.empty, .string ByteArray.empty] rfl (by kernel_rfl) (by kernel_rfl) (by kernel_rfl)
      (OpenSpec.preRow_of_cond 8 hx (by kernel_rfl) (fun k hk => by cases hk; kernel_rfl) (by kernel_rfl) (laid_met os))) ?_
  intro W base args ds gs before hval0 hW hcnd hcond _ hL _ _
  have hval : ∀ (j : Nat) t v, Tryd.f3.params[j]? = some t → args[j]? = some v → Value.okWide Tryd.prog W .any base t v := hval0
  have hW' := hW
  obtain ⟨p, q, hA0, hV, rfl, hfz, hnd⟩ := hW
  have hA : DataW.TrodAll enc Tryd.prog W 0 (fun _ => true) true Tryd.f3.params.toList args.toList ds p := hA0
  rw [Tryd.params3] at hA hval
  obtain ⟨v0, vs0, d0, ds0, p0, q0, hargs, rfl, rfl, h0, r0⟩ := trodAll_cons hA
  obtain ⟨v1, vs1, d1, ds1, p1, q1, rfl, rfl, rfl, h1, r1⟩ := trodAll_cons r0
  obtain ⟨v2, vs2, d2, ds2, p2, q2, rfl, rfl, rfl, h2, r2⟩ := trodAll_cons r1
  obtain ⟨v3, vs3, d3, ds3, p3, q3, rfl, rfl, rfl, h3, r3⟩ := trodAll_cons r2
  obtain ⟨rfl, rfl, rfl⟩ := trodAll_nil r3
  obtain rfl : args = #[v0, v1, v2, v3] := by cases args; simp_all
  obtain ⟨rfl, rfl⟩ := trodVars_none hV
  have hbk := of_decide_eq_true (hcond _ rfl)
  simp only [List.append_nil, Rows.uptoBulkAll] at hbk
  obtain ⟨c0, rfl, _⟩ := okWide_struct Tryd.underlying24 (hval 0 24 v0 rfl rfl)
  have k0 := h0
  have lt0 : ∀ x ∈ p0, x.block < W.heap.size := by obtain ⟨m, hm⟩ := k0; exact DataW.trod_lt m _ _ _ hm
  obtain ⟨x0, hx0, hb0⟩ : ∃ x, (rSlice 2 (rBoth 1 rNm (rSlice 3 (rBoth 1 rNm (rBoth 1 (rInt .i64) rNm))))) (All W) W c0.toList x ∧ (∀ t ∈ x, t.1.length ≤ 1048576 ∧ ∀ f ∈ t.2, f.1.length ≤ 1048576 ∧ True ∧ f.2.2.length ≤ 1048576) := by
    obtain ⟨fuel, hf⟩ := h0
    exact OpensP.opens (opensP_struct1 Tryd.underlying24 (by kernel_rfl) rfl (opensP_slice Tryd.underlying22 (by kernel_rfl) (by decide) (opensP_struct2 Tryd.underlying34 (by kernel_rfl) rfl rfl (opensP_nm Tryd.underlying9 (by kernel_rfl)) (opensP_slice Tryd.underlying32 (by kernel_rfl) (by decide) (opensP_struct3 Tryd.underlying40 (by kernel_rfl) rfl rfl rfl (opensP_nm Tryd.underlying9 (by kernel_rfl)) (opensP_int Tryd.underlying3 (by kernel_rfl)) (opensP_nm Tryd.underlying9 (by kernel_rfl))))))) 1048576 hf (by show Rows.uptoBulk d0 ≤ _; omega)
  obtain ⟨c1, rfl, _⟩ := okWide_struct Tryd.underlying24 (hval 1 24 v1 rfl rfl)
  have k1 := h1
  have lt1 : ∀ x ∈ p1, x.block < W.heap.size := by obtain ⟨m, hm⟩ := k1; exact DataW.trod_lt m _ _ _ hm
  obtain ⟨x1, hx1⟩ : ∃ x, (rSlice 2 (rBoth 1 rNm (rSlice 3 (rBoth 1 rNm (rBoth 1 (rInt .i64) rNm))))) (All W) W c1.toList x := by
    obtain ⟨fuel, hf⟩ := h1
    exact Opens.opens (opens_struct1 Tryd.underlying24 (by kernel_rfl) rfl (opens_slice Tryd.underlying22 (by kernel_rfl) (by decide) (opens_struct2 Tryd.underlying34 (by kernel_rfl) rfl rfl (opens_nm Tryd.underlying9 (by kernel_rfl)) (opens_slice Tryd.underlying32 (by kernel_rfl) (by decide) (opens_struct3 Tryd.underlying40 (by kernel_rfl) rfl rfl rfl (opens_nm Tryd.underlying9 (by kernel_rfl)) (opens_int Tryd.underlying3 (by kernel_rfl)) (opens_nm Tryd.underlying9 (by kernel_rfl))))))) hf
  obtain ⟨a2, rfl, rfl, rfl, w2⟩ := open_string Tryd.underlying9 (hval 2 9 v2 rfl rfl) h2
  obtain ⟨a3, rfl, rfl, rfl, w3⟩ := open_string Tryd.underlying9 (hval 3 9 v3 rfl rfl) h3
  clear hA0 hval0

  refine (schemaTells_walk W (han_of_laid hL) c0 x0 hx0 (fun t ht => ⟨(hb0 t ht).1, fun f hf => ((hb0 t ht).2 f hf).1⟩) c1 x1 hx1 a2 w2 a3 w3).mono fun e W' ⟨he, bel⟩ => ?_
  subst he
  exact ⟨_, rfl, _, _, _, [], _, [], hW', trodAll_mk1 (shut_bool Tryd.underlying4 _), (trodAll_cons_mk (Below.trod laidOut (by kernel_rfl) (of_decide_eq_true (by kernel_rfl)) k0 bel lt0) (trodAll_cons_mk (Below.trod laidOut (by kernel_rfl) (of_decide_eq_true (by kernel_rfl)) k1 bel lt1) (trodAll_cons_mk (shut_string Tryd.underlying9 w2) (trodAll_cons_mk (shut_string Tryd.underlying9 w3) trodAll_mk0)))), rfl, bel.frame _, fun h => by cases h⟩

theorem over : Rows.schemaTellsUptoRow.holds Tryd.pinned (Rows.OpenSpec.upto Rows.schemaTellsSpec) :=
  OpenClaim.holds_of_cond 3 Tryd.f3 rfl rfl rfl rfl rfl rfl rfl ⟨rfl, rfl, rfl, rfl, rfl⟩ rfl rfl rfl rfl rfl (by kernel_rfl) Tryd.func3 (by kernel_rfl)
    (of_decide_eq_true (by kernel_rfl)) (by unfold Func.isWrapper; first | (rw [if_pos (by decide +kernel)]; kernel_rfl) | (rw [if_neg (by decide +kernel)]; exact ⟨rfl, rfl⟩))
    (fun os started H enc _ F => by rw [OpenClaim.pre_eq_preRow]; exact lifted os started H enc F)
end Go.Proofs.YtomndfeifjiljaaDoor.schemaTells
namespace Go.Proofs.YtomndfeifjiljaaDoor
theorem schemaTells.plain (f : FuncId) (fn : Func) (hf : Tryd.pinned.checked.prog.funcNamed "foliate/foliatelaw06.SchemaTells" = some f) (hfn : Tryd.pinned.checked.prog.funcs[f]? = some fn) :
    false = Tryd.pinned.checked.prog.looks [] ∧ ∀ (j : Nat) t, fn.params[j]? = some t → Tryd.pinned.checked.prog.wantsStandIn t = false := by
  obtain rfl : f = 3 := Option.some.inj ((show Tryd.prog.funcNamed "foliate/foliatelaw06.SchemaTells" = some 3 by kernel_rfl).symm.trans hf) |>.symm
  obtain rfl : fn = Tryd.f3 := (Option.some.inj (Tryd.func3.symm.trans hfn)).symm
  refine ⟨by kernel_rfl, fun j t ht => ?_⟩
  rw [Tryd.params3] at ht
  have hm := Array.mem_of_getElem? ht
  simp only [List.mem_toArray, List.mem_cons, List.not_mem_nil, or_false] at hm
  rcases hm with rfl | rfl | rfl | rfl
  · exact (show Tryd.prog.wantsStandIn 24 = false by kernel_rfl)
  · exact (show Tryd.prog.wantsStandIn 24 = false by kernel_rfl)
  · exact (show Tryd.prog.wantsStandIn 9 = false by kernel_rfl)
  · exact (show Tryd.prog.wantsStandIn 9 = false by kernel_rfl)
theorem schemaTells_holds : Rows.SchemaTellsUptoCardSaid :=
  Claim7.holds_tied_plain_at .later [] _ _ _ _ schemaTells.over (fun _ h => by cases h) (by kernel_rfl) (fun _ h => by cases h) schemaTellsUpto_row_tie rfl ⟨rfl, rfl⟩ (by kernel_rfl) rfl schemaTells.plain (by kernel_rfl)
#print axioms schemaTells_holds
end Go.Proofs.YtomndfeifjiljaaDoor
