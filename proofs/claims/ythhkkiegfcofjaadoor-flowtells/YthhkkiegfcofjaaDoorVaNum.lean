/- The contract of vari.All: at every slice of bytes it tells what 'allL' tells, in memory of the call's own, and changes nothing that was there. -/
import Derived.RangeFuncBox
import Derived.RangeFuncLeaves
import Derived.Shelf.Abstract
import Derived.OwnWalkIn
import Derived.TacticsInMore
import Derived.LoopNIn
import Derived.LoopIn
import Derived.Maps.AppendAt
import Derived.Deep.QuietTactic
import Derived.BigQuiet
import Derived.Test.YthhkkiegfcofjaaDoorVaGet
namespace Go.Proofs.YthhkkiegfcofjaaDoor
open Go.RowKit Go.Shelf
attribute [local go_sem] Oper.semAt_some

theorem numbers_in (n : Nat) (A : Option Addr) (len cap : Nat) (w : World) :
    CallsIn Fence.wide n Tryd.prog 71 #[.slice A len cap] w fun e w' => e = .returned (.func (.func 73) #[] #[.pointer (some ⟨w.heap.size, 0, none⟩)]) ∧ w' = w.alloc (.cells #[.slice A len cap] 26) := by
  refine callsIn_of_wp Tryd.func71 rfl trivial ?_ rfl
  simp only [Tryd.ntmps71, List.size_toArray, List.length_cons, List.length_nil, Nat.reduceAdd, Nat.reduceSub, Array.replicate_succ, Array.replicate_zero, List.push_toArray, List.append_toArray, List.nil_append, List.cons_append]
  gi_wp2
  go_ret
  exact ⟨rfl, rfl⟩

/-- What a round of All keeps: what lay below n₀, and the box Bs. -/
def KpN (n₀ Bs : Nat) (W W' : World) : Prop := Below n₀ W W' ∧ W'.heap[Bs]? = W.heap[Bs]?
theorem KpN.refl (n₀ Bs : Nat) (W : World) : KpN n₀ Bs W W := ⟨Below.refl _ _, rfl⟩
theorem KpN.trans {n₀ Bs : Nat} {A B C : World} (h : KpN n₀ Bs A B) (k : KpN n₀ Bs B C) : KpN n₀ Bs A C := ⟨h.1.trans k.1, k.2.trans h.2⟩
theorem KpN.cell {n₀ Bs : Nat} {A B : World} (h : KpN n₀ Bs A B) (i : Nat) : B.cell? ⟨Bs, i, none⟩ = A.cell? ⟨Bs, i, none⟩ := World.cell?_of_block h.2

abbrev encN (x : Nat × Nat) : Array Value := #[.int .u64 (x.1 : Int), .int .i64 (x.2 : Int)]

set_option maxRecDepth 100000 in
set_option maxHeartbeats 1000000 in
theorem nums1_in (n : Nat) (hn : 1 ≤ n) (l Bs n₀ : Nat) (A : Option Addr) (c : Nat) (bs : List Nat) (hc : bs.length ≤ c) (hb : ∀ x ∈ bs, x < 256) (hlen : bs.length ≤ 140737488355328) (J Jx : List (Nat × Nat) → World → Prop)
    (hY : ∀ pre x W, J pre W → pre.length < (numL bs).length → YieldAt Fence.wide (n - 1) Tryd.prog l (encN x) W fun e W' =>
      (e = .returned (.bool true) ∧ J (pre ++ [x]) W' ∧ KpN n₀ Bs W W') ∨ (e = .returned (.bool false) ∧ Jx (pre ++ [x]) W'))
    (W : World) (hBc : W.cell? ⟨Bs, 0, none⟩ = some (.slice A bs.length c)) (hr : ∀ W', Below n₀ W W' → Rd W' A (u8s bs)) (h0 : J [] W) :
    CallsIn Fence.wide n Tryd.prog 73 #[.func (.yield l) #[] #[], .pointer (some ⟨Bs, 0, none⟩)] W fun e W' => (∃ v, e = .returned v) ∧
      ((∃ ys, ys = numL bs ∧ J ys W') ∨ (∃ pre, pre <+: numL bs ∧ Jx pre W')) := by
  refine callsIn_of_wp Tryd.func73 rfl trivial ?_ rfl
  simp only [Tryd.ntmps73, List.size_toArray, List.length_cons, List.length_nil, Nat.reduceAdd, Nat.reduceSub, Array.replicate_succ, Array.replicate_zero, List.push_toArray, List.append_toArray, List.nil_append, List.cons_append]
  gi_wp2
  gi_loopw [3] (fun i wr => ∃ (k : Nat) (pre : List (Nat × Nat)), k ≤ bs.length ∧ i = .int .i64 (k : Int) ∧ numL bs = pre ++ numL (bs.drop k) ∧ J pre wr ∧ KpN n₀ Bs W wr)
    (fun i _ => bs.length - (intOf i).toNat)
  case atStart => exact ⟨0, [], Nat.zero_le _, rfl, rfl, h0, KpN.refl _ _ _⟩
  case round =>
    obtain ⟨k, pre, hk, rfl, hx, hJs, hnx⟩ := hrel
    have hBc' : wr.cell? ⟨Bs, 0, none⟩ = some (.slice A bs.length c) := (hnx.cell 0).trans hBc
    by_cases hlt : k < bs.length
    · have hrd := hr wr hnx.1
      obtain ⟨b, off, rfl, hblt, hcell⟩ := hrd.at (k := k) (by simpa using hlt)
      have hget := vget_any (some ⟨b, off + k, none⟩) (c - k) (bs.drop k) wr (fun x hx => hb x (List.mem_of_mem_drop hx)) (by rw [← u8s_drop]; exact hrd.drop k) (by rw [List.length_drop]; omega)
      rw [List.length_drop] at hget
      have hgl := getL_le (bs.drop k) (fun x hx => hb x (List.mem_of_mem_drop hx))
      rw [List.length_drop] at hgl
      have hne : bs.drop k ≠ [] := by intro e; have := congrArg List.length e; simp at this; omega
      have hxs : ∃ rest, numL bs = pre ++ (getL (bs.drop k) :: rest) ∧ ((getL (bs.drop k)).2 ≠ 0 → rest = numL (bs.drop (k + (getL (bs.drop k)).2))) ∧ ((getL (bs.drop k)).2 = 0 → rest = []) := by
        by_cases h2 : (getL (bs.drop k)).2 = 0
        · exact ⟨[], by rw [hx, numL_none _ hne h2], fun h => absurd h2 h, fun _ => rfl⟩
        · exact ⟨_, by rw [hx, numL_some _ h2], fun _ => by rw [List.drop_drop], fun h => absurd h h2⟩
      obtain ⟨rest, hxs, hrest, hrest0⟩ := hxs
      generalize hgg : getL (bs.drop k) = g at *
      obtain ⟨gn, gs⟩ := g
      obtain ⟨fn, tmps, assign, body, hy, hR⟩ := hY pre (gn, gs) wr hJs (by rw [hxs]; simp)
      dsimp only [encN] at hy
      dsimp only at hget hgl hrest hrest0
      have Hget := Lib.hid hget
      have Hx := Lib.hid hx
      have Hxs := Lib.hid hxs
      have Hrest := Lib.hid hrest
      have Hrest0 := Lib.hid hrest0
      have Hgg := Lib.hid hgg
      have Hc := Lib.hid hcell
      clear hget hx hxs hrest hrest0 hgg hcell hr hY
      have hk0 : (k : Int) < (bs.length : Int) := by omega
      by_cases h2 : gs = 0
      · have hz : ((gs : Int) == 0) = true := by rw [h2]; rfl
        have H2 := Lib.hid h2
        clear h2
        gi_wp2_with (refine ⟨trivial, ?_⟩; gi_at_call 67; refine (callsIn_wide.2 Hget.out).mono ?_; rintro e w' ⟨rfl, rfl⟩)
        refine hR.mono ?_
        rintro e W3 (⟨rfl, hJ3, hk3⟩ | ⟨rfl, hJx3⟩)
        · gi_wp2
          refine bodyPost_ret (results_none rfl _ _ _) rfl ?_
          exact ⟨⟨_, rfl⟩, .inl ⟨pre ++ [(gn, gs)], by rw [Hxs.out, Hrest0.out H2.out], hJ3⟩⟩
        · gi_wp2
          refine bodyPost_ret (results_none rfl _ _ _) rfl ?_
          exact ⟨⟨_, rfl⟩, .inr ⟨pre ++ [(gn, gs)], ⟨rest, by rw [Hxs.out]; simp⟩, hJx3⟩⟩
      · have hz : ((gs : Int) == 0) = false := by simp; omega
        gi_wp2_with (refine ⟨trivial, ?_⟩; gi_at_call 67; refine (callsIn_wide.2 Hget.out).mono ?_; rintro e w' ⟨rfl, rfl⟩)
        refine hR.mono ?_
        rintro e W3 (⟨rfl, hJ3, hk3⟩ | ⟨rfl, hJx3⟩)
        · gi_wp2
          go_roundw
          case rel => exact ⟨k + gs, pre ++ [(gn, gs)], by omega, by go_num, by rw [Hxs.out, Hrest.out h2]; simp, hJ3, hnx.trans hk3⟩
          case measure => simp [intOf]; omega
        · gi_wp2
          refine bodyPost_ret (results_none rfl _ _ _) rfl ?_
          exact ⟨⟨_, rfl⟩, .inr ⟨pre ++ [(gn, gs)], ⟨rest, by rw [Hxs.out]; simp⟩, hJx3⟩⟩
    · have he : bs.drop k = [] := List.drop_eq_nil_of_le (by omega)
      rw [he, numL_nil, List.append_nil] at hx
      have Hx := Lib.hid hx
      clear hx he
      gi_wp2
      go_end0
      exact ⟨⟨_, rfl⟩, .inl ⟨pre, Hx.out.symm, hJs⟩⟩
end Go.Proofs.YthhkkiegfcofjaaDoor
