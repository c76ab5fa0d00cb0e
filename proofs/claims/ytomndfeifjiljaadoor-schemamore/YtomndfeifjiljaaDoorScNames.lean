/- What a schema that may be tells of its names. Over no program. No condition. -/
import Derived.Test.YtomndfeifjiljaaDoorScPlain
namespace Go.Proofs.YtomndfeifjiljaaDoor

theorem findS_at {s : Sch} {n : List Nat} {j : Nat} (h : findS s n = (j : Int)) : ∃ t, s[j]? = some t ∧ t.1 = n := by
  obtain ⟨⟨a, ha, hp⟩, _⟩ := (idxP_iff _ s j).1 h
  exact ⟨a, ha, by simpa using hp⟩
theorem fieldS_at {s : List Fld} {n : List Nat} {j : Nat} (h : fieldS s n = (j : Int)) : ∃ t, s[j]? = some t ∧ t.1 = n := by
  obtain ⟨⟨a, ha, hp⟩, _⟩ := (idxP_iff _ s j).1 h
  exact ⟨a, ha, by simpa using hp⟩
theorem findS_low (s : Sch) (n : List Nat) : -1 ≤ findS s n := idxP_low _ s
theorem fieldS_low (s : List Fld) (n : List Nat) : -1 ≤ fieldS s n := idxP_low _ s
theorem mayS_at {s : Sch} (h : mayS s = true) {i : Nat} {t : Typ} (hi : s[i]? = some t) : findS s t.1 = (i : Int) ∧ ∀ (k : Nat) (f : Fld), t.2[k]? = some f → fieldS t.2 f.1 = (k : Int) := by
  obtain ⟨_, h1, _, h2⟩ := (mayT_iff s i t).1 (((mayS_iff s).1 h).2 i t hi)
  exact ⟨h1, fun k f hf => ((mayF_iff s t.2 k f).1 (h2 k f hf)).2.1⟩
theorem int_cases (k : Int) (n : Nat) : k < 0 ∨ (n : Int) ≤ k ∨ ∃ j : Nat, k = (j : Int) ∧ j < n := by
  by_cases h0 : k < 0
  · exact .inl h0
  · by_cases h1 : (n : Int) ≤ k
    · exact .inr (.inl h1)
    · obtain ⟨j, hj⟩ := Int.eq_ofNat_of_zero_le (show 0 ≤ k by omega)
      exact .inr (.inr ⟨j, hj, by omega⟩)
end Go.Proofs.YtomndfeifjiljaaDoor
