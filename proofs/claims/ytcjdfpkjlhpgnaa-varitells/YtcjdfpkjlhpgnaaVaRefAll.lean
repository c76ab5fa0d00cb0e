/- The contract of the document's own All. -/
import Derived.Test.YtcjdfpkjlhpgnaaVaRef
namespace Go.Proofs.Ytcjdfpkjlhpgnaa
open Go.RowKit

theorem rget_len (A : Option Addr) (c n : Nat) (bs : List Nat) (w : World) (hn : bs.length = n) (hl : n ≤ c) (hb : ∀ x ∈ bs, x < 256) (hr : Rd w A (u8s bs)) (hlen : n ≤ 140737488355328) :
    Calls Try.prog 12 #[.slice A n c] w fun e w' => e = .returned (.tuple #[.int .u64 ((getL bs).1 : Int), .int .i64 ((getL bs).2 : Int)]) ∧ Below w.heap.size w w' := by
  subst hn
  exact rget_any A c bs w hl hb hr hlen

theorem own_step64 {B : Nat} {w wr w1 : World} {v v' : Value} {pre : List Nat} {x : Nat} {o : Obj} (hnx : Below B w wr) (hown : wr.ownsRow B 22 1 v pre.length (u64s pre)) (hle : B ≤ wr.heap.size)
    (hown' : w1.ownsRow B 22 1 v' (pre.length + 1) (u64s pre ++ [.int .u64 (x : Int)])) (hg : (wr.alloc o).grownBy w1 v.ownBlock) :
    w1.ownsRow B 22 1 v' (pre ++ [x]).length (u64s (pre ++ [x])) ∧ Below B w w1 := by
  constructor
  · rw [u64s_append]; simpa [u64s] using hown'
  · exact (hnx.alloc hle o).grown hg (by simp; omega) (fun k hk => (hown.lt k hk).1)
theorem allL_next {bs pre : List Nat} {k n s : Nat} (h : allL bs = (allL (bs.drop k)).map (pre ++ ·)) (hg : getL (bs.drop k) = (n, s)) (hs : s ≠ 0) : allL bs = (allL (bs.drop (k + s))).map ((pre ++ [n]) ++ ·) := by
  rw [h, allL_some (bs.drop k) (by rw [hg]; exact hs), hg, List.drop_drop]
  cases allL (bs.drop (k + s)) <;> simp

set_option maxRecDepth 100000 in
set_option maxHeartbeats 1000000 in
theorem rall_any (A : Option Addr) (c : Nat) (bs : List Nat) (w : World) (hl : bs.length ≤ c) (hb : ∀ x ∈ bs, x < 256) (hr : Rd w A (u8s bs)) (hlen : bs.length ≤ 1048576) :
    Calls Try.prog 14 #[.slice A bs.length c] w fun e w' => ∃ v, e = .returned (.tuple #[v, .bool (allL bs).isSome]) ∧ w'.ownsRow w.heap.size 22 1 v ((allL bs).getD []).length (u64s ((allL bs).getD [])) ∧ Below w.heap.size w w' := by
  obtain ⟨i0, hi, hz0, hz1, hz2⟩ := info_parts info_u64
  go_enter Try.func14, Try.ntmps14
  go_wp2
  go_loopw [4, 5] (fun v i wr => ∃ (k : Nat) (pre : List Nat), i = .int .i64 (k : Int) ∧ k ≤ bs.length ∧ pre.length ≤ k ∧ wr.ownsRow w.heap.size 22 1 v pre.length (u64s pre) ∧ Below w.heap.size w wr ∧ allL bs = (allL (bs.drop k)).map (pre ++ ·)) (fun _ i _ => bs.length - (intOf i).toNat)
  case atStart => exact ⟨0, [], rfl, Nat.zero_le _, by simp, World.ownsRow_nil _ _ _ _, Below.refl _ _, by simp⟩
  case round =>
    obtain ⟨k, pre, rfl, hk, hpk, hown, hnx, hall⟩ := hrel
    have Hall := Lib.hid hall
    clear hall
    by_cases hlt : k < bs.length
    · have hrd := hr.below hnx
      obtain ⟨b, off, rfl, _, _⟩ := hrd.at (k := k) (by simpa using hlt)
      have hbd : ∀ x ∈ bs.drop k, x < 256 := fun x hx => hb x (List.mem_of_mem_drop hx)
      have hget := rget_len (some ⟨b, off + k, none⟩) (c - k) (bs.length - k) (bs.drop k) wr List.length_drop (by omega) hbd (by rw [← u8s_drop]; exact hrd.drop k) (by omega)
      have hgl := getL_le (bs.drop k) hbd
      rw [List.length_drop] at hgl
      have hne : bs.drop k ≠ [] := by intro e; have := congrArg List.length e; simp at this; omega
      have hnone := allL_none (bs.drop k) hne
      generalize hgg : getL (bs.drop k) = ns at *
      obtain ⟨x, s⟩ := ns
      dsimp only at hget hgl hnone
      have Hgg := Lib.hid hgg
      have Hget := Lib.hid hget
      have Hnone := Lib.hid hnone
      clear hgg hget hnone hrd
      have hck : ¬ c = k := by omega
      have hk1 : (k : Int) < (bs.length : Int) := by omega
      go_wp2_with fail
      refine Hget.out.mono ?_
      rintro e w2 ⟨rfl, hb2⟩
      have hown2 := own_below hown hb2
      have hnx2 : Below w.heap.size w w2 := hnx.trans (hb2.mono hnx.size)
      have hsz := hnx2.size
      by_cases hs : s = 0
      · have hz : ((s : Int) == 0) = true := by rw [hs]; rfl
        have hfin : allL bs = none := by rw [Hall.out, Hnone.out hs]; rfl
        have Hfin := Lib.hid hfin
        clear hs hfin
        go_wp2
        go_ret2
        refine ⟨.slice none 0 0, ?_, ?_, hnx2⟩
        · rw [Hfin.out]; rfl
        · rw [Hfin.out]; exact World.ownsRow_nil _ _ _ _
      · have hz : ((s : Int) == 0) = false := by simp; omega
        have hnext := allL_next Hall.out Hgg.out hs
        have Hnext := Lib.hid hnext
        clear hnext
        go_wp2_with (at_builtin; refine wpList_append_own _ rfl _ _ 27 rfl w.heap.size 22 i0 (.int .u64 0) 1 8 Try.underlying27 hi hz0 hz1 hz2 rfl (by decide) _ _ _ rfl (hown2.alloc _) ⟨w2.heap.size, 0, none⟩ 1 1 [.int .u64 (x : Int)] rfl rfl (cell_one_new _ _ _) (by simp [Value.oneCell']) (by simp only [maxLen]; omega) (by omega) (by simp; omega) ?_; intro v' w3 hown' hgrow _)
        have R := own_step64 hnx2 hown2 hsz hown' hgrow
        go_roundw
        case rel => exact ⟨k + s, pre ++ [x], by go_num, by omega, by simp; omega, R.1, R.2, Hnext.out⟩
        case measure => simp [intOf]; omega
    · have hd : bs.drop k = [] := List.drop_eq_nil_of_le (by omega)
      have hfin : allL bs = some pre := by rw [Hall.out, hd, allL_nil]; simp
      have Hfin := Lib.hid hfin
      clear hd hfin
      go_wp2
      go_ret2
      exact ⟨u4, by rw [Hfin.out]; rfl, by rw [Hfin.out]; exact hown, hnx⟩
end Go.Proofs.Ytcjdfpkjlhpgnaa
