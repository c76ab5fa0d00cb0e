/- How a slice of integers that came in reads as a list: from the row's reading to the words of this seat. No condition. -/
import Derived.Test.YtembafogbfcajaaWords
import Derived.OpenShut
namespace Go.Proofs.Ytembafogbfcajaa
open Go.RowKit

theorem Rd.of_cells {w : World} {x : Addr} {xs : List Value} (h : ∀ j u, xs[j]? = some u → w.cell? (x.add j) = some u) : Rd w (some x) xs := by
  cases xs with
  | nil => exact .inl rfl
  | cons v r =>
    have h0 := h 0 v rfl
    obtain ⟨b, off, sp⟩ := x
    have hs : sp = none ∧ b < w.heap.size := by
      have e : (⟨b, off, sp⟩ : Addr).add 0 = ⟨b, off, sp⟩ := by simp [Addr.add]
      rw [e] at h0
      unfold World.cell? at h0
      split at h0
      · rename_i heq
        have hlt := (Array.getElem?_eq_some_iff.1 heq).1
        cases sp with
        | none => exact ⟨rfl, hlt⟩
        | some s => simp at h0
      · cases h0
    obtain ⟨rfl, hlt⟩ := hs
    refine .inr ⟨b, off, rfl, hlt, fun j u hu => ?_⟩
    have := h j u hu
    rw [addr_add] at this
    exact this

/-- A slice of integers of kind k that came in: its elements, as a list. -/
theorem row_ints {k : IntKind} {w : World} {a : Option Addr} {len cap : Nat} {zs : List Int}
    (h : (a = none ∧ len = 0 ∧ cap = 0 ∧ zs = []) ∨ ∃ x, a = some x ∧ len ≤ cap ∧ cap ≤ maxLen ∧ zs.length = cap ∧ (∀ i, i < zs.length → w.cell? (x.add i) = some (.int k (zs.getD i 0))) ∧ ∀ n ∈ zs, (Lit.int k n).wf = true) :
    ∃ ys : List Int, ys.length = len ∧ len ≤ cap ∧ cap ≤ maxLen ∧ (∀ n ∈ ys, (Lit.int k n).wf = true) ∧ Rd w a (ys.map (Value.int k)) := by
  rcases h with ⟨rfl, rfl, rfl, rfl⟩ | ⟨x, rfl, hl, hm, hz, hc, hw⟩
  · exact ⟨[], rfl, Nat.le_refl _, Nat.zero_le _, by simp, .inl rfl⟩
  · refine ⟨zs.take len, by simp; omega, hl, hm, fun n hn => hw n (List.mem_of_mem_take hn), Rd.of_cells fun j u hu => ?_⟩
    rw [List.getElem?_map, List.getElem?_take] at hu
    split at hu
    · have hj : j < zs.length := by omega
      rw [List.getElem?_eq_getElem hj] at hu
      simp at hu
      rw [hc j hj, ← hu]
      simp [hj]
    · simp at hu
theorem nats_of {ys : List Int} (h : ∀ n ∈ ys, 0 ≤ n) : ∃ ns : List Nat, ys = ns.map (fun n : Nat => (n : Int)) := by
  induction ys with
  | nil => exact ⟨[], rfl⟩
  | cons y r ih =>
    obtain ⟨ns, e⟩ := ih fun n hn => h n (by simp [hn])
    obtain ⟨m, rfl⟩ := Int.eq_ofNat_of_zero_le (h y (by simp))
    exact ⟨m :: ns, by simp [e]⟩
theorem row_u8 {w : World} {a : Option Addr} {len cap : Nat} {zs : List Int}
    (h : (a = none ∧ len = 0 ∧ cap = 0 ∧ zs = []) ∨ ∃ x, a = some x ∧ len ≤ cap ∧ cap ≤ maxLen ∧ zs.length = cap ∧ (∀ i, i < zs.length → w.cell? (x.add i) = some (.int .u8 (zs.getD i 0))) ∧ ∀ n ∈ zs, (Lit.int .u8 n).wf = true) :
    ∃ bs : List Nat, bs.length = len ∧ bs.length ≤ cap ∧ cap ≤ maxLen ∧ (∀ x ∈ bs, x < 256) ∧ Rd w a (u8s bs) := by
  obtain ⟨ys, h1, h2, h3, h4, h5⟩ := row_ints h
  obtain ⟨ns, rfl⟩ := nats_of fun n hn => (bounds_u8 (h4 n hn)).1
  refine ⟨ns, by simpa using h1, by simp at h1; omega, h3, fun x hx => ?_, ?_⟩
  · have := (bounds_u8 (h4 (x : Int) (List.mem_map.2 ⟨x, hx, rfl⟩))).2
    omega
  · rw [List.map_map] at h5
    exact h5
theorem row_u64 {w : World} {a : Option Addr} {len cap : Nat} {zs : List Int}
    (h : (a = none ∧ len = 0 ∧ cap = 0 ∧ zs = []) ∨ ∃ x, a = some x ∧ len ≤ cap ∧ cap ≤ maxLen ∧ zs.length = cap ∧ (∀ i, i < zs.length → w.cell? (x.add i) = some (.int .u64 (zs.getD i 0))) ∧ ∀ n ∈ zs, (Lit.int .u64 n).wf = true) :
    ∃ bs : List Nat, bs.length = len ∧ bs.length ≤ cap ∧ cap ≤ maxLen ∧ (∀ x ∈ bs, x < 18446744073709551616) ∧ Rd w a (u64s bs) := by
  obtain ⟨ys, h1, h2, h3, h4, h5⟩ := row_ints h
  obtain ⟨ns, rfl⟩ := nats_of fun n hn => (bounds_u64 (h4 n hn)).1
  refine ⟨ns, by simpa using h1, by simp at h1; omega, h3, fun x hx => ?_, ?_⟩
  · have := (bounds_u64 (h4 (x : Int) (List.mem_map.2 ⟨x, hx, rfl⟩))).2
    omega
  · rw [List.map_map] at h5
    exact h5
end Go.Proofs.Ytembafogbfcajaa
