/- The contract of flow's numbers: the bytes of so many numbers, one behind the other, in memory of the call's own. Condition: at most 10 numbers. -/
import Derived.Test.YthhkkiegfcofjaaDoorFlMem
import Derived.Test.YthhkkiegfcofjaaDoorVaPut
namespace Go.Proofs.YthhkkiegfcofjaaDoor
open Go.RowKit

theorem catV_append : ∀ (a b : List Nat), catV (a ++ b) = catV a ++ catV b
  | [], _ => rfl
  | n :: a, b => by simp only [List.cons_append, catV]; rw [catV_append a b, List.append_assoc]
theorem catV_len : ∀ (l : List Nat), (∀ n ∈ l, n < 18446744073709551616) → (catV l).length ≤ 10 * l.length
  | [], _ => by simp [catV]
  | n :: l, h => by
    have h1 := putL_len10 n (h n (by simp))
    have h2 := catV_len l fun m hm => h m (by simp [hm])
    simp only [catV, List.length_append, List.length_cons]
    omega
theorem vput_form (N : Nat) (w : World) (hN : N < 18446744073709551616) :
    Calls Tryd.prog 52 #[.int .u64 (N : Int)] w fun e w' => ∃ g cap, e = .returned (.slice (some ⟨g, 0, none⟩) (vputL N).length cap) ∧ Rd w' (some ⟨g, 0, none⟩) (u8s (vputL N)) ∧ Below w.heap.size w w' :=
  (vput_any N w hN).mono fun e w' ⟨v, he, hown, hb⟩ => by
    obtain ⟨g, cap, rfl, hg, hlt, hcap, hc⟩ := own_open hown (putL_pos N)
    exact ⟨g, cap, he, Rd.own hown, hb⟩

set_option maxRecDepth 100000 in
set_option maxHeartbeats 400000 in
theorem fnumbers_any (A : Option Addr) (n c : Nat) (ns : List Nat) (w : World) (hn : ns.length = n) (hn10 : n ≤ 10) (hlt : ∀ x ∈ ns, x < 18446744073709551616) (hr : Rd w A (u64s ns)) :
    Calls Tryd.prog 38 #[.slice A n c] w fun e w' => ∃ v, e = .returned v ∧ w'.ownsRow w.heap.size 5 1 v (catV ns).length (u8s (catV ns)) ∧ Below w.heap.size w w' := by
  obtain ⟨i0, hi, hz0, hz1, hz2⟩ := info_parts info_u8
  go_enter Tryd.func38, Tryd.ntmps38
  go_wp2
  go_loopw [3, 8] (fun v iv wr => ∃ i : Nat, i ≤ n ∧ iv = .int .i64 (i : Int) ∧ wr.ownsRow w.heap.size 5 1 v (catV (ns.take i)).length (u8s (catV (ns.take i))) ∧ Below w.heap.size w wr) (fun _ iv _ => n - (intOf iv).toNat)
  case atStart => exact ⟨0, by omega, rfl, World.ownsRow_nil _ _ _ _, Below.refl _ _⟩
  case round =>
    obtain ⟨i, hile, rfl, hown, hB⟩ := hrel
    by_cases hin : i < n
    · obtain ⟨b, off, rfl, hblt, hc0⟩ := hr.at (k := i) (by simp; omega)
      have hcell : wr.cell? ⟨b, off + i, none⟩ = some (.int .u64 ((ns[i] : Nat) : Int)) := (hB.cell (p := ⟨b, off + i, none⟩) hblt).trans (hc0 i _ (u64s_get (by omega)))
      have hx := hlt ns[i] (List.getElem_mem _)
      have P1 := Lib.hid (fun W => vput_form ns[i] W hx)
      have hl10 := putL_len10 ns[i] hx
      have htk : catV (ns.take (i + 1)) = catV (ns.take i) ++ vputL ns[i] := by
        rw [List.take_add_one, List.getElem?_eq_getElem (by omega), catV_append]
        simp [catV]
      have hpl : (catV (ns.take i)).length ≤ 100 := by
        have := catV_len (ns.take i) fun x hx => hlt x (List.mem_of_mem_take hx)
        rw [List.length_take] at this
        omega
      have Htk := Lib.hid htk
      clear htk hx hc0
      generalize ns[i] = x at *
      generalize catV (ns.take i) = pre at *
      have hil : (i : Int) < (n : Int) := by omega
      have hi0 : (0 : Int) ≤ (i : Int) := by omega
      go_wp2_with (first
        | (go_at_call 52; refine (P1.out _).mono ?_; rintro e w1 ⟨g1, cap1, rfl, hr1, hB1⟩; have hown1 := own_below hown hB1; have hBx : Below w.heap.size w w1 := hB.trans (hB1.mono hB.size))
        | (at_builtin; (refine wpList_app rfl (.tmp 12) (.tmp 14) 26 rfl w.heap.size 5 i0 (.int .u8 0) 1 Tryd.underlying26 hi hz0 hz1 hz2 rfl _ pre.length (u8s pre) rfl hown1 (some ⟨g1, 0, none⟩) (vputL x).length cap1 (u8s (vputL x)) rfl (by rw [u8s_length]) hr1 (u8s_one _) (by simp only [maxLen]; omega) (by omega) hBx.size ?_; intro v2 w2 hown2 hg2 _; have hB2 : Below w.heap.size w w2 := hBx.grown hg2 hBx.size (fun k hk => (hown1.lt k hk).1)))
        | fail)
      go_roundw
      case rel =>
        refine ⟨i + 1, by omega, by go_num, ?_, hB2⟩
        rw [Htk.out, u8s_append, List.length_append]
        exact hown2
      case measure => simp [intOf]; omega
    · obtain rfl : i = n := by omega
      rw [List.take_of_length_le (by omega)] at hown
      go_wp2
      go_ret
      exact ⟨_, rfl, hown, hB⟩
end Go.Proofs.YthhkkiegfcofjaaDoor
