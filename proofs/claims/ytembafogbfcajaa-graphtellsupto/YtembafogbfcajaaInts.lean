/- Rows of ints, as lists of numbers that are not below 0. No condition. -/
import Derived.Test.YtembafogbfcajaaScMemAll
namespace Go.Proofs.Ytembafogbfcajaa
open Go.RowKit

def i64s (l : List Nat) : List Value := l.map fun x : Nat => Value.int .i64 (x : Int)
@[simp] theorem i64s_length (l : List Nat) : (i64s l).length = l.length := by simp [i64s]
theorem i64s_append (a b : List Nat) : i64s (a ++ b) = i64s a ++ i64s b := by simp [i64s]
theorem i64s_get {l : List Nat} {k x : Nat} (h : l[k]? = some x) : (i64s l)[k]? = some (.int .i64 (x : Int)) := by simp [i64s, h]
theorem i64s_in {l : List Nat} {k : Nat} (h : k < l.length) : (i64s l)[k]? = some (.int .i64 (l[k] : Int)) := by simp [i64s, h]
theorem i64s_one (l : List Nat) : ∀ u ∈ i64s l, u.oneCell' = true := by
  intro u hu
  obtain ⟨x, _, rfl⟩ := List.mem_map.1 hu
  rfl
theorem info_int : (Try.prog.info? 3).map (fun i => (i.zero, i.size, i.bytes)) = some (some (.int .i64 0), 1, 8) := by kernel_rfl
theorem lit_int (w : World) (bs : List Nat) : Rd (w.alloc (.cells (i64s bs).toArray 3)) (some ⟨w.heap.size, 0, none⟩) (i64s bs) :=
  .inr ⟨w.heap.size, 0, rfl, by simp, fun j u hu => by
    rw [World.cell?_alloc_at _ _ _ _ rfl, Nat.zero_add]
    simpa using hu⟩
end Go.Proofs.Ytembafogbfcajaa
