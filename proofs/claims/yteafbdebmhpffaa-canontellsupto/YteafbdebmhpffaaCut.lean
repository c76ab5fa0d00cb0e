/- A slice of a slice of one-cell elements, whatever its address (nil, or with no room left): what it is, and that it reads what stands there. No condition but the bounds that Go asks. -/
import Derived.Test.YteafbdebmhpffaaScMemAll
namespace Go.Proofs.Yteafbdebmhpffaa
open Go.RowKit

/-- Where a slice's rest begins: Go keeps the address where no room is left. -/
def slA (A : Option Addr) (c l : Nat) : Option Addr := if c = l then A else A.map (·.add l)
theorem run_cut {P : Program} {t e : TypeId} {i : TypeInfo} (ht : P.underlying t = some (.slice e)) (hi : P.info? e = some i) (hs : i.size = 1) (A : Option Addr) (n c l h : Nat) (hlh : l ≤ h) (hhc : h ≤ c) (W : World) :
    (Instr.slice t (.slice A n c) (some (.int .i64 (l : Int))) (some (.int .i64 (h : Int))) none).run P W = .ok (.slice (slA A c l) (h - l) (c - l)) W := by
  have h1 : (0 : Int) ≤ (h : Int) ∧ (h : Int) ≤ (c : Int) := by omega
  have h2 : (0 : Int) ≤ (l : Int) ∧ (l : Int) ≤ (h : Int) := by omega
  simp [Instr.slice, Instr.sliceBounds, Instr.sliceBound, asIntOf, run_underlying ht, sizeOf, typeInfo, hi, hs, hlh, hhc, slA]
theorem run_cut0 {P : Program} {t e : TypeId} {i : TypeInfo} (ht : P.underlying t = some (.slice e)) (hi : P.info? e = some i) (A : Option Addr) (n c h : Nat) (hhc : h ≤ c) (W : World) :
    (Instr.slice t (.slice A n c) none (some (.int .i64 (h : Int))) none).run P W = .ok (.slice (slA A c 0) h c) W := by
  have h1 : (0 : Int) ≤ (h : Int) ∧ (h : Int) ≤ (c : Int) := by omega
  simp [Instr.slice, Instr.sliceBounds, Instr.sliceBound, asIntOf, run_underlying ht, sizeOf, typeInfo, hi, hhc, slA]
theorem Rd.cut {w : World} {A : Option Addr} {xs : List Value} {c : Nat} (h : Rd w A xs) (hc : xs.length ≤ c) (l : Nat) : Rd w (slA A c l) (xs.drop l) := by
  unfold slA
  by_cases e : c = l
  · exact .inl (List.drop_eq_nil_of_le (by omega))
  · rw [if_neg e]
    rcases h with rfl | ⟨b, off, rfl, hb, hcl⟩
    · exact .inl (by simp)
    · have := Rd.drop (.inr ⟨b, off, rfl, hb, hcl⟩ : Rd w (some ⟨b, off, none⟩) xs) l
      rw [Option.map_some, addr_add]
      exact this
end Go.Proofs.Yteafbdebmhpffaa
