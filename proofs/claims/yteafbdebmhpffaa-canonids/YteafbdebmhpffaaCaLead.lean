/- Where Refs and roots of a graph that may be lead: to a place. No condition. -/
import Derived.Test.YteafbdebmhpffaaCaMeetAll
namespace Go.Proofs.Yteafbdebmhpffaa
open Go.RowKit

theorem lead_pos {g : Gr} (hm : mayG g = true) {o : Ob} (ho : o ∈ g.2.1) {k : Nat} {f : Fld} {v : Vl} (hf : (fldsG g.1 o.2.1)[k]? = some f) (hv : o.2.2[k]? = some v) (h5 : f.2.1 = 5) (h0 : 0 ≤ v.2.2) : ∃ J : Nat, findG g.2.1 v.2.2 = (J : Int) ∧ J < g.2.1.length := by
  obtain ⟨p, hp, e⟩ := (refs_led hm ho v.2.2 (refsL_mem.2 ⟨k, f, v, hf, hv, h5, rfl⟩)).resolve_left (by omega)
  obtain ⟨J, h1, h2⟩ := obj_place hm hp
  rw [e] at h1
  exact ⟨J, h1, (List.getElem?_eq_some_iff.1 h2).1⟩
theorem root_pos {g : Gr} (hm : mayG g = true) {r : Int} (hr : r ∈ g.2.2) (h0 : 0 ≤ r) : ∃ J : Nat, findG g.2.1 r = (J : Int) ∧ J < g.2.1.length := by
  obtain ⟨p, hp, e⟩ := root_id hm hr h0
  obtain ⟨J, h1, h2⟩ := obj_place hm hp
  rw [e] at h1
  exact ⟨J, h1, (List.getElem?_eq_some_iff.1 h2).1⟩
end Go.Proofs.Yteafbdebmhpffaa
