/- Some names of the library, shorter. No condition. -/
import Derived.Lib.Hide
import Derived.Below
namespace Go.Proofs.YtnljjnkindjeoaaGreatDoor
open Go.RowKit
theorem zZ {p : Prop} (h : p) : Hid p := Lib.hid h
theorem zY {α : Type _} (l : List α) (i : Nat) (a : α) : l.toArray.setIfInBounds i a = (l.set i a).toArray := List.setIfInBounds_toArray l i a
theorem zX {α : Type _} {x a : α} {l : List α} : (x :: l).set 0 a = a :: l := List.set_cons_zero
theorem zQ {α : Type _} {x a : α} {l : List α} {n : Nat} : (x :: l).set (n + 1) a = x :: l.set n a := List.set_cons_succ
theorem zJ {p : Prop} [h : Decidable p] : p → decide p = true := decide_eq_true
theorem zK {p : Prop} [h : Decidable p] : ¬ p → decide p = false := decide_eq_false
theorem zV {α : Type _} {l : List α} {i : Nat} (h : i < l.length) : l[i]? = some l[i] := List.getElem?_eq_getElem h
theorem zW (n : Nat) : n ≤ n := Nat.le_refl n
theorem zA (n : Nat) (w : World) : Below n w w := Below.refl n w
end Go.Proofs.YtnljjnkindjeoaaGreatDoor
