/- The contract of the document's own Split: what the plain function tells; nothing that was there is changed. Condition: at most 2^20 bytes. -/
import Derived.Test.YteejinngkjgifaaNaRef3
namespace Go.Proofs.Yteejinngkjgifaa
open Go.RowKit

set_option maxRecDepth 100000 in
set_option maxHeartbeats 2000000 in
theorem rsplit_any (s : ByteArray) (w : World) (hs : s.size ≤ 1048576) : Calls Try.prog 11 #[.string s] w fun e w' => ∃ x y, e = .returned (.tuple #[.string x, .string y, .bool (canN (byt s))]) ∧
    byt x = (splitN (byt s)).1 ∧ byt y = (splitN (byt s)).2 ∧ Below w.heap.size w w' := by
  have HO := Lib.hid (fun k => pass_other (l := byt s) (k := k))
  have HN := Lib.hid (fun k => pass_none (l := byt s) (k := k))
  have HE := Lib.hid (pass_end (l := byt s))
  have HH := Lib.hid (fun k => hit_at (l := byt s) (k := k))
  have ex : ∀ k, byt (s.extract 0 k) = (byt s).take k := fun k => by rw [byt_extract, List.drop_zero]
  have ey : ∀ k, byt (s.extract (k + 1) s.size) = (byt s).drop (k + 1) := fun k => by rw [byt_extract, List.take_of_length_le (by simp)]
  have EX := Lib.hid ex
  have EY := Lib.hid ey
  have HJ := Lib.hid (fun k W => rjoin_any (s.extract 0 k) (s.extract (k + 1) s.size) W (by rw [← byt_length, ex, List.length_take, byt_length]; omega) (by rw [← byt_length, ey, List.length_drop, byt_length]; omega))
  clear ex ey
  generalize canN (byt s) = can at *
  generalize splitN (byt s) = sp at *
  generalize dotN (byt s) = dot at *
  go_enter Try.func11, Try.ntmps11
  go_wp2
  go_loopw [5] (fun i W => ∃ k : Nat, i = .int .i64 (k : Int) ∧ k ≤ s.size ∧ Hid (Below w.heap.size w W) ∧ Hid (can = true → k ≤ dot)) (fun i _ => s.size - (intOf i).toNat)
  case atStart => exact ⟨0, rfl, Nat.zero_le _, Below.refl _ _, fun _ => Nat.zero_le _⟩
  case round =>
    obtain ⟨k, rfl, hk, hB, hc⟩ := hrel
    by_cases hlt : k < s.size
    · have hb := byt_at3 hlt
      have hq1 : (k : Int) < (s.size : Int) := by omega
      have hq0 : (0 : Int) ≤ (k : Int) := by omega
      have hq2 : (k : Int) ≤ (s.size : Int) := by omega
      have hq3 : IntKind.i64.wrap ((k : Int) + 1) = (k : Int) + 1 := IntWalk.i64_in _ (by omega)
      have hq4 : (k : Int) + 1 ≤ (s.size : Int) := by omega
      have hq5 : (0 : Int) ≤ (k : Int) + 1 := by omega
      by_cases h46 : (s[k]'hlt).toNat = 46
      · have h46' : (((s[k]'hlt).toNat : Int) == 46) = true := by rw [h46]; rfl
        rw [h46] at hb
        by_cases hmm : mayN ((byt s).take k) = true ∧ mayN ((byt s).drop (k + 1)) = true
        · obtain ⟨rfl, rfl, hj⟩ := HH.out k (by simpa using hlt) hb hmm
          have hx := EX.out k
          have hy := EY.out k
          have HJ1 : Hid (∀ W, Calls Try.prog 19 #[.string (s.extract 0 k), .string (s.extract (k + 1) s.size)] W fun e w' => e = .returned (.string s) ∧ Below W.heap.size W w') := fun W =>
            (HJ.out k W).mono fun e w' ⟨t, he, ht, hB⟩ => ⟨by rw [EX.out, EY.out, hj] at ht; rw [he, byt_inj ht], hB⟩
          have Hx := Lib.hid hx
          have Hy := Lib.hid hy
          clear HO HN HE HH EX EY HJ hb hc hmm hj hx hy h46
          go_wp2_with fail
          refine sch_start [(0, true), (1, true), (2, true), (3, true), (4, true), (5, true), (6, true), (7, true), (8, true), (9, true), (10, true), (11, true), (13, true), (12, false), (14, true), (15, true)]
            (fun _ => True) (by kernel_rfl) rfl (by kernel_rfl) (fun _ _ _ _ _ h => h) trivial (fun hH => ?_)
          repeat (first | (refine sch_yes (v := ?_) rfl rfl ?_ hH ?_; rotate_left; (focus ((intro W hW; go_simp) <;> with_reducible rfl)); simp only [Act.put, List.setIfInBounds_toArray, List.set_cons_zero, List.set_cons_succ]) | (refine sch_no rfl rfl hH ?_; simp only [Act.put, List.setIfInBounds_toArray, List.set_cons_zero, List.set_cons_succ]))
          refine sch_call rfl rfl (fun K hK => ?_)
          go_wp2_with (go_at_call 19; refine (HJ1.out _).mono ?_; rintro e w2 ⟨rfl, hB2⟩)
          refine hK.out _ _ trivial ?_
          clear hK
          repeat (first | (refine sch_yes (v := ?_) rfl rfl ?_ hH ?_; rotate_left; (focus ((intro W hW; go_simp) <;> with_reducible rfl)); simp only [Act.put, List.setIfInBounds_toArray, List.set_cons_zero, List.set_cons_succ]) | (refine sch_no rfl rfl hH ?_; simp only [Act.put, List.setIfInBounds_toArray, List.set_cons_zero, List.set_cons_succ]))
          refine sch_done ?_
          have hB3 : Below w.heap.size w w2 := hB.out.drew.trans (hB2.mono hB.out.size)
          have HB3 := Lib.hid hB3
          clear hB3 hB2 hB
          go_wp2_with fail
          go_quiet (fail)
          go_wp2
          go_ret3
          exact ⟨_, _, rfl, Hx.out, Hy.out, below_drewN HB3.out _⟩
        · have Hn := Lib.hid (HN.out k hc.out hmm)
          have HJ1 : Hid (∀ W, Calls Try.prog 19 #[.string (s.extract 0 k), .string (s.extract (k + 1) s.size)] W fun e w' => ∃ t : ByteArray, e = .returned (.string t) ∧ (t.toList == s.toList) = false ∧ Below W.heap.size W w') := fun W =>
            (HJ.out k W).mono fun e w' ⟨t, he, ht, hB⟩ => ⟨t, he, by
              rw [EX.out, EY.out, joinN, if_neg hmm] at ht
              rw [str_beq, ht]
              exact decide_eq_false fun e => by
                have := congrArg List.length e
                rw [byt_length] at this
                simp at this
                omega, hB⟩
          clear HO HN HE HH EX EY HJ hb hc hmm h46
          go_wp2_with fail
          refine sch_start [(0, true), (1, true), (2, true), (3, true), (4, true), (5, true), (6, true), (7, true), (8, true), (9, true), (10, true), (11, true), (13, true), (12, false), (14, true), (15, true)]
            (fun _ => True) (by kernel_rfl) rfl (by kernel_rfl) (fun _ _ _ _ _ h => h) trivial (fun hH => ?_)
          repeat (first | (refine sch_yes (v := ?_) rfl rfl ?_ hH ?_; rotate_left; (focus ((intro W hW; go_simp) <;> with_reducible rfl)); simp only [Act.put, List.setIfInBounds_toArray, List.set_cons_zero, List.set_cons_succ]) | (refine sch_no rfl rfl hH ?_; simp only [Act.put, List.setIfInBounds_toArray, List.set_cons_zero, List.set_cons_succ]))
          refine sch_call rfl rfl (fun K hK => ?_)
          go_wp2_with (go_at_call 19; refine (HJ1.out _).mono ?_; rintro e w2 ⟨t, rfl, ht, hB2⟩)
          refine hK.out _ _ trivial ?_
          clear hK
          repeat (first | (refine sch_yes (v := ?_) rfl rfl ?_ hH ?_; rotate_left; (focus ((intro W hW; go_simp) <;> with_reducible rfl)); simp only [Act.put, List.setIfInBounds_toArray, List.set_cons_zero, List.set_cons_succ]) | (refine sch_no rfl rfl hH ?_; simp only [Act.put, List.setIfInBounds_toArray, List.set_cons_zero, List.set_cons_succ]))
          refine sch_done ?_
          have hB3 : Below w.heap.size w w2 := hB.out.drew.trans (hB2.mono hB.out.size)
          have HB3 := Lib.hid hB3
          clear hB3 hB2 hB
          go_wp2
          go_roundw
          case rel => exact ⟨k + 1, by go_num, by omega, HB3, Hn⟩
          case measure => simp [intOf]; omega
      · have h46' : (((s[k]'hlt).toNat : Int) == 46) = false := by simp; omega
        have Hn := Lib.hid (HO.out k hc.out (by rw [hb]; exact h46))
        clear HO HN HE HH EX EY HJ hb hc h46
        go_wp2_with fail
        refine sch_start [(0, true), (1, true), (2, true), (3, true), (4, true), (5, true), (6, true), (7, true), (8, true), (9, true), (10, true), (11, true), (13, true), (12, false), (14, true), (15, true)]
          (fun _ => True) (by kernel_rfl) rfl (by kernel_rfl) (fun _ _ _ _ _ h => h) trivial (fun hH => ?_)
        repeat (first | (refine sch_yes (v := ?_) rfl rfl ?_ hH ?_; rotate_left; (focus ((intro W hW; go_simp) <;> with_reducible rfl)); simp only [Act.put, List.setIfInBounds_toArray, List.set_cons_zero, List.set_cons_succ]) | (refine sch_no rfl rfl hH ?_; simp only [Act.put, List.setIfInBounds_toArray, List.set_cons_zero, List.set_cons_succ]))
        refine sch_call_no rfl rfl hH ?_
        simp only [Act.put, List.setIfInBounds_toArray, List.set_cons_zero, List.set_cons_succ]
        repeat (first | (refine sch_yes (v := ?_) rfl rfl ?_ hH ?_; rotate_left; (focus ((intro W hW; go_simp) <;> with_reducible rfl)); simp only [Act.put, List.setIfInBounds_toArray, List.set_cons_zero, List.set_cons_succ]) | (refine sch_no rfl rfl hH ?_; simp only [Act.put, List.setIfInBounds_toArray, List.set_cons_zero, List.set_cons_succ]))
        refine sch_done ?_
        go_wp2
        go_roundw
        case rel => exact ⟨k + 1, by go_num, by omega, hB.out.drew, Hn⟩
        case measure => simp [intOf]; omega
    · obtain rfl : k = s.size := by omega
      obtain ⟨rfl, rfl⟩ := HE.out (by rw [byt_length]; exact hc.out)
      clear HO HN HE HH EX EY HJ hc
      go_wp2
      go_ret3
      exact ⟨_, _, rfl, rfl, rfl, hB.out⟩
end Go.Proofs.Yteejinngkjgifaa
