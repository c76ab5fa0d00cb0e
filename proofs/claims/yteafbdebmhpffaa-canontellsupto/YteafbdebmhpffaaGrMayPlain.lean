/- The document's own way to tell whether a graph may be, on plain data. No condition. -/
import Derived.Test.YteafbdebmhpffaaGrLeapPlainAll
import Derived.Test.YteafbdebmhpffaaGrRef1
namespace Go.Proofs.Yteafbdebmhpffaa

theorem objB_may {g : Gr} (hm : mayG g = true) {I : Nat} {o : Ob} (ho : g.2.1[I]? = some o) : objB g (lstG g.2.1 I) o = true := by
  have mo := mayG_obj hm (List.mem_of_getElem? ho)
  have hl : lstG g.2.1 I < o.1 := by
    cases I with
    | zero => have := mo.id0; rw [lstG]; omega
    | succ j =>
      have hlt := (List.getElem?_eq_some_iff.1 ho).1
      obtain ⟨p, hp⟩ : ∃ p, g.2.1[j]? = some p := ⟨_, List.getElem?_eq_getElem (by omega)⟩
      rw [lst_at hp]
      have hs := mayG_sorted hm
      rw [List.pairwise_iff_getElem] at hs
      have := hs j (j + 1) (by omega) hlt (by omega)
      rw [(List.getElem?_eq_some_iff.1 ho).2, (List.getElem?_eq_some_iff.1 hp).2] at this
      exact this
  have h1 := mo.id0
  have h2 := mo.id1
  have h3 := mo.t0
  have h4 := mo.t1
  have h5 := mo.len
  rw [objB, decide_eq_true h1, decide_eq_true h2, decide_eq_true hl, decide_eq_true h3, decide_eq_true h4, decide_eq_true h5.symm]
  rfl
theorem objB_parts {g : Gr} {l : Int} {o : Ob} (h : objB g l o = true) : 0 ≤ o.1 ∧ o.1 ≤ 1073741824 ∧ l < o.1 ∧ 0 ≤ o.2.1 ∧ o.2.1 < (g.1.length : Int) ∧ (fldsG g.1 o.2.1).length = o.2.2.length := by
  rw [objB] at h
  simp only [Bool.and_eq_true, decide_eq_true_eq] at h
  exact ⟨h.1.1.1.1, h.1.1.1.2, h.1.1.2, h.1.2.1, h.1.2.2, h.2.symm⟩
theorem rise_of {g : Gr} {l : List Ob} (h : ∀ (I : Nat) o, l[I]? = some o → lstG l I < o.1 ∧ o.1 ≤ 1073741824 ∧ mayO g o = true) : ∀ (n i : Nat), l.length - i = n → riseG g (lstG l i) (l.drop i) = true
  | 0, i, hn => riseG_end (by omega)
  | n + 1, i, hn => by
    obtain ⟨o, ho⟩ : ∃ o, l[i]? = some o := ⟨_, List.getElem?_eq_getElem (by omega)⟩
    obtain ⟨h1, h2, h3⟩ := h i o ho
    rw [riseG_at ho, decide_eq_true h1, decide_eq_true h2, h3, ← lst_at ho, rise_of h n (i + 1) (by omega)]
    rfl
/-- All that is asked, one after the other. -/
theorem may_all {g : Gr} (h1 : mayS g.1 = true) (h2 : g.2.1.length ≤ 8) (h3 : g.2.2.length ≤ 3) (h4 : ∀ (I : Nat) o, I < g.2.1.length → g.2.1[I]? = some o → objB g (lstG g.2.1 I) o = true)
    (h5 : ∀ (I : Nat) o (k : Nat) f v, I < g.2.1.length → g.2.1[I]? = some o → (fldsG g.1 o.2.1)[k]? = some f → o.2.2[k]? = some v → haveG g f v = true) (h6 : ∀ (j : Nat) r, j < g.2.2.length → g.2.2[j]? = some r → rootG g.2.1 r = true) : mayG g = true := by
  have hr : riseG g (-1) g.2.1 = true := by
    have := rise_of (g := g) (l := g.2.1) (fun I o ho => by
      have hlt := (List.getElem?_eq_some_iff.1 ho).1
      obtain ⟨a1, a2, a3, a4, a5, a6⟩ := objB_parts (h4 I o hlt ho)
      exact ⟨a3, a2, mayO_iff.2 ⟨⟨a4, a5⟩, a6, fun k f v hf hv => h5 I o k f v hlt ho hf hv⟩⟩) g.2.1.length 0 (by omega)
    exact this
  rw [mayG, mayOs, mayRs, h1, hr, decide_eq_true h2, decide_eq_true h3]
  have : g.2.2.all (rootG g.2.1) = true := List.all_eq_true.2 fun r hr => by
    obtain ⟨j, hj⟩ := List.getElem?_of_mem hr
    exact h6 j r (List.getElem?_eq_some_iff.1 hj).1 hj
  rw [this]
  rfl
end Go.Proofs.Yteafbdebmhpffaa
