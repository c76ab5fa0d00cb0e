/- Bytes that are changed, bit by bit: as lists, and as numbers. No program's function. No condition. -/
import Derived.Test.YthhkkiegfcofjaaDoorCrPlain
import Derived.Test.YthhkkiegfcofjaaDoorWords
namespace Go.Proofs.YthhkkiegfcofjaaDoor
open Go.RowKit

theorem set_byte {xs : List Nat} (hb : ∀ x ∈ xs, x < 256) (k : Nat) {v : Nat} (hv : v < 256) : ∀ x ∈ xs.set k v, x < 256 := fun x hx => by
  rcases List.mem_or_eq_of_mem_set hx with h | h
  · exact hb x h
  · rw [h]; exact hv
theorem u8s_set (ns : List Nat) (j x : Nat) : (u8s ns).set j (.int .u8 (x : Int)) = u8s (ns.set j x) := by simp [u8s, List.map_set]
theorem app_byte {xs : List Nat} (hb : ∀ x ∈ xs, x < 256) {v : Nat} (hv : v < 256) : ∀ x ∈ xs ++ [v], x < 256 := fun x hx => by
  rcases List.mem_append.1 hx with h | h
  · exact hb x h
  · simp at h; omega
theorem burst_even (T v m e : Nat) (h : v ^^^ m * 2 ^ e = T) (hm : m % 2 = 0) : v ^^^ m / 2 * 2 ^ (e + 1) = T := by
  rw [← h]
  congr 1
  rw [Nat.pow_succ, Nat.mul_comm (2 ^ e) 2, ← Nat.mul_assoc]
  congr 1
  omega
theorem burst_odd (T m e : Nat) (ys : List Nat) (hy : ∀ y ∈ ys, y < 256) (hp : e / 8 < ys.length) (h : val ys ^^^ m * 2 ^ e = T) (hm : m % 2 = 1) : val (ys.set (e / 8) (ys.getD (e / 8) 0 ^^^ 2 ^ (e % 8))) ^^^ m / 2 * 2 ^ (e + 1) = T := by
  have hb : 2 ^ (e % 8) < 256 := Nat.pow_lt_pow_right (a := 2) (m := e % 8) (n := 8) (by omega) (by omega)
  rw [val_set ys (e / 8) (2 ^ (e % 8)) hp hy hb, ← h]
  have e1 : 2 ^ (e % 8) * 256 ^ (e / 8) = 2 ^ e := by
    rw [show (256 : Nat) = 2 ^ 8 from rfl, ← Nat.pow_mul, ← Nat.pow_add]
    congr 1
    omega
  rw [e1, Nat.xor_assoc]
  congr 1
  have e2 : m = 1 + 2 ^ 1 * (m / 2) := by omega
  conv => rhs; rw [e2, add_eq_xor (a := 1) (k := 1) (by decide), xor_mul_pow]
  rw [Nat.one_mul, Nat.pow_succ, Nat.pow_one, Nat.mul_comm 2 (m / 2), Nat.mul_assoc, Nat.mul_comm 2]
theorem getD_lt {ys : List Nat} (hy : ∀ y ∈ ys, y < 256) {p : Nat} (hp : p < ys.length) : ys.getD p 0 < 256 := by
  have : ys.getD p 0 = ys[p] := by simp [hp]
  rw [this]
  exact hy _ (List.getElem_mem hp)
theorem u8s_getD {ys : List Nat} {p : Nat} (hp : p < ys.length) : (u8s ys)[p]? = some (.int .u8 ((ys.getD p 0 : Nat) : Int)) := by
  rw [u8s_get hp]; simp [hp]
end Go.Proofs.YthhkkiegfcofjaaDoor
