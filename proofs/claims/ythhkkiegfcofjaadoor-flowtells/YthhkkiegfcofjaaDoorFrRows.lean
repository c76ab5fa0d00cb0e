/- A slice of frames in memory: the frame at a place, how many there are. No condition. -/
import Derived.Test.YthhkkiegfcofjaaDoorFrAll
namespace Go.Proofs.YthhkkiegfcofjaaDoor
open Go.RowKit

/-- The frame at i of a slice of frames: its two cells. -/
theorem fra_at {S : Nat → Prop} {w : World} {A0 : Option Addr} {n c : Nat} {l : List Fra} {i : Nat} {f : Fra} (h : rSlice 2 rFra S w [.slice A0 n c] l) (hi : l[i]? = some f) : ∃ b off A c', A0 = some ⟨b, off, none⟩ ∧ S b ∧ w.cell? ⟨b, off + i * 2, none⟩ = some (.int .i64 f.1) ∧ w.cell? ⟨b, off + i * 2 + 1, none⟩ = some (.slice A f.2.length c') ∧ (∀ x ∈ f.2, x < 256) ∧ (Lit.int .i64 f.1).wf = true ∧ RdIn S w A (u8s f.2) := by
  obtain ⟨A1, c1, xs, hv, hlc, hcm, hr, hl, hch⟩ := h
  obtain ⟨A, c', hcs, _, _, hby, hwf, hrd⟩ := rFra_open (hch i f hi)
  have hlt := (List.getElem?_eq_some_iff.1 hi).1
  have hA : A0 = A1 := by simp at hv; exact hv.1
  subst hA
  rcases hr with h | ⟨b, off, rfl, hb, hc⟩
  · rw [h] at hl; simp at hl; omega
  · have h0 : xs[i * 2]? = some (.int .i64 f.1) := by
      have := congrArg (fun l : List Value => l[0]?) hcs
      simpa [List.getElem?_take, List.getElem?_drop] using this
    have h1 : xs[i * 2 + 1]? = some (.slice A f.2.length c') := by
      have := congrArg (fun l : List Value => l[1]?) hcs
      simpa [List.getElem?_take, List.getElem?_drop] using this
    exact ⟨b, off, A, c', rfl, hb, hc _ _ h0, by rw [Nat.add_assoc]; exact hc _ _ h1, hby, hwf, hrd⟩
theorem rows_len {S : Nat → Prop} {w : World} {A0 : Option Addr} {n c : Nat} {l : List Fra} (h : rSlice 2 rFra S w [.slice A0 n c] l) : l.length = n ∧ n ≤ c ∧ c ≤ maxLen := by
  obtain ⟨A1, c1, xs, hv, hlc, hcm, _⟩ := h
  simp at hv
  omega
end Go.Proofs.YthhkkiegfcofjaaDoor
