/- VariBack's walk. -/
import Derived.Test.YtcjdfpkjlhpgnaaVaLawCut
import Derived.Test.YtcjdfpkjlhpgnaaAppend
import Derived.Deep.QuietTactic
import Derived.BigQuiet
import Derived.Test.YtcjdfpkjlhpgnaaSched
namespace Go.Proofs.Ytcjdfpkjlhpgnaa
open Go.RowKit

set_option maxRecDepth 100000 in
set_option maxHeartbeats 1000000 in
theorem variBack_walk (w : World) (n : Nat) (hn : n < 18446744073709551616) (A : Option Addr) (c : Nat) (bs : List Nat) (hl : bs.length ≤ c) (_hm : c ≤ maxLen) (hb : ∀ x ∈ bs, x < 256) (hr : Rd w A (u8s bs)) :
    Calls Try.prog 4 #[.int .u64 (n : Int), .slice A bs.length c] w fun e w' => e = .returned (.bool true) ∧ Below w.heap.size w w' := by
  obtain ⟨i0, hi, hz0, hz1, hz2⟩ := info_parts info_u8
  by_cases h300 : bs.length ≤ 300
  · have hp := putL_pos n
    have hp10 := putL_len10 n hn
    have hgp := getL_put n bs hn
    have hby : ∀ x ∈ putL n, x < 256 := putL_byte n
    have P1 := Lib.hid (put_form n)
    have Hgp := Lib.hid hgp
    have Hby := Lib.hid hby
    generalize hP : putL n = pn at *
    clear hP hgp hby
    go_enter Try.func4, Try.ntmps4
    go_wp2_with fail
    refine (awake_any _).mono ?_
    rintro e w1 ⟨rfl, hb1⟩
    have hr1 := hr.below hb1
    go_wp2_with fail
    refine (P1.out _ hn).mono ?_
    rintro e w2 ⟨g, cap, rfl, hcap, hg, hlt, hrp, hb2⟩
    have hr2 := hr1.below hb2
    go_wp2_with (first
      | (at_builtin; refine wpList_app rfl (.const (.slice none 0 0)) (.tmp 23) 23 rfl w2.heap.size 5 i0 (.int .u8 0) 1 Try.underlying23 hi hz0 hz1 hz2 rfl (.slice none 0 0) 0 [] rfl (World.ownsRow_nil _ _ _ _) (some ⟨g, 0, none⟩) pn.length cap (u8s pn) rfl (u8s_length _) hrp (u8s_one _) (by simp only [maxLen]; omega) (by omega) (Nat.le_refl _) ?_; intro v3 w3 hown3 hg3 hat3; simp only [Nat.zero_add, List.nil_append] at hown3; have hsz3 := hg3.size; have hr3 := hr2.below ((Below.refl _ _).grown hg3 (Nat.le_refl _) (fun k hk => by cases hk)))
      | (at_builtin; refine wpList_app rfl (.tmp 24) (.tmp 25) 23 rfl w2.heap.size 5 i0 (.int .u8 0) 1 Try.underlying23 hi hz0 hz1 hz2 rfl v3 pn.length (u8s pn) rfl hown3 A bs.length c (u8s bs) rfl (u8s_length _) hr3 (u8s_one _) (by simp only [maxLen]; omega) (by omega) hsz3 ?_; intro v4 w4 hown4 hg4 hat4; rw [← u8s_append, ← List.length_append] at hown4; obtain ⟨g4, cap4, rfl, hg4g, hg4l, hcap4, hc4⟩ := own_open hown4 (by simp; omega))
      | fail)
    have hB4 : Below w2.heap.size w2 w4 := ((Below.refl _ _).grown hg3 (Nat.le_refl _) (fun k hk => by cases hk)).grown hg4 hsz3 (fun k hk => (hown3.lt k hk).1)
    have hr4 := hr2.below hB4
    have hB : Below w.heap.size w w4 := (hb1.trans (hb2.mono hb1.size)).trans (hB4.mono (Nat.le_trans hb1.size hb2.size))
    have hrd4 : Rd w4 (some ⟨g4, 0, none⟩) (u8s (pn ++ bs)) := Rd.own hown4
    have hget := get_len (some ⟨g4, 0, none⟩) cap4 (pn.length + bs.length) (pn ++ bs) w4 (by simp) (fun x hx => by rcases List.mem_append.1 hx with h | h; exact Hby.out x h; exact hb x h) hrd4 (by omega)
    rw [Hgp.out] at hget
    have Hget := Lib.hid hget
    have hget2 := get_len A c bs.length bs w4 rfl hb hr4 (by omega)
    have hle := getL_le bs hb
    have hz := getL_zero bs
    have hbk := getL_back bs hb
    generalize hgg : getL bs = yk at *
    obtain ⟨y, k⟩ := yk
    dsimp only at hget2 hle hz hbk
    have Hget2 := Lib.hid hget2
    have Hz := Lib.hid hz
    have Hbk := Lib.hid hbk
    clear hget hget2 hz hbk hgg hc4 hown3 hown4 hg3 hg4 hat3 hat4 hr hr1 hr2 hr3 hrp hrd4 hsz3 hB4 hb1 hb2 hcap4 hg4g hg4l
    refine Hget.out.mono ?_
    rintro e w5 ⟨rfl, rfl⟩
    have hp1 : decide ((pn.length : Int) < 1) = false := by simp; omega
    have hp2 : decide ((10 : Int) < (pn.length : Int)) = false := by simp; omega
    go_wp2_with fail
    refine Hget2.out.mono ?_
    rintro e w5 ⟨rfl, rfl⟩
    by_cases hk : k = 0
    · have hy := Hz.out hk
      subst hk hy
      go_wp2_with fail
      go_quiet (fail)
      go_wp2
      go_ret
      exact ⟨rfl, below_drewN hB _⟩
    · obtain ⟨hk1, hk2, hpy, hy⟩ := Hbk.out hk
      have hpt : ∀ W, Below w4.heap.size w4 W → Calls Try.prog 16 #[.int .u64 (y : Int)] W fun e w' => ∃ g cap, e = .returned (.slice (some ⟨g, 0, none⟩) k cap) ∧ Rd w' (some ⟨g, 0, none⟩) (u8s (bs.take k)) ∧ Below w4.heap.size w4 w' := fun W hW =>
        (put_form y W hy).mono fun e w' ⟨g, cap, he, _, _, _, hr', hb'⟩ => ⟨g, cap, by rw [he, hpy, List.length_take, Nat.min_eq_left hk1], by rw [← hpy]; exact hr', hW.trans (hb'.mono hW.size)⟩
      obtain ⟨b0, off0, rfl, hb0, _⟩ := hr4.at (k := 0) (by simp; omega)
      have hcv : ∀ W, Below w4.heap.size w4 W → (convert 23 9 (.slice (some ⟨b0, off0, none⟩) k c)).run Try.prog W = .ok (.string (strB (bs.take k))) W := fun W hW =>
        conv_str W _ _ _ Try.underlying23 Try.underlying5 Try.underlying9 _ (bs.take k) k c (by rw [List.length_take, Nat.min_eq_left hk1]) (by rw [← u8s_take]; exact (hr4.below hW).take k)
      have hcv0 := hcv w4.drew (Below.refl _ w4).drew
      have Hpt := Lib.hid hpt
      have Hcv := Lib.hid hcv
      have Hpy := Lib.hid hpy
      have hkz : ((k : Int) == 0) = false := by simp; omega
      have hk3 : 0 < k := by omega
      have hk6 : k ≤ c := by omega
      have hk4 : decide ((0 : Int) < (k : Int)) = true := by simp; omega
      have hk5 : decide ((k : Int) ≤ (bs.length : Int)) = true := by simp; omega
      clear hpt hcv hpy
      go_wp2_with fail
      refine sch_start [(0, true), (1, true), (2, true), (3, true), (4, true), (5, true), (6, true), (7, true), (8, true), (9, true), (10, true), (11, true), (12, true), (13, true), (14, true), (15, true), (16, true), (19, true), (20, true), (21, true), (22, true), (17, false), (18, true), (23, true), (24, true), (25, true), (26, true)]
        (fun W => (convert 23 9 (.slice (some ⟨b0, off0, none⟩) k c)).run Try.prog W = .ok (.string (strB (bs.take k))) W) (by kernel_rfl) rfl (by kernel_rfl) (fun _ _ _ _ _ h => h) hcv0 (fun hH => ?_)
      repeat (first
        | (refine sch_yes (v := ?_) rfl rfl ?_ hH ?_; rotate_left; (focus ((intro W hW; go_simp) <;> with_reducible rfl)); simp only [Act.put, List.setIfInBounds_toArray, List.set_cons_zero, List.set_cons_succ])
        | (refine sch_no rfl rfl hH ?_; simp only [Act.put, List.setIfInBounds_toArray, List.set_cons_zero, List.set_cons_succ]))
      refine sch_call rfl rfl (fun K hK => ?_)
      go_wp2_with (go_at_call 16; refine (Hpt.out _ ?_).mono ?_; exact (Below.refl _ w4).drew; rintro e w6 ⟨g6, cap6, rfl, hrd6, hB6⟩)
      refine hK.out _ _ (Hcv.out w6 hB6) ?_
      clear hK
      have hcv6 := conv_str (P := Try.prog) w6 _ _ _ Try.underlying23 Try.underlying5 Try.underlying9 _ (bs.take k) k cap6 (by rw [List.length_take, Nat.min_eq_left hk1]) hrd6
      refine sch_more (S' := fun W => W = w6) (fun W hW => by rw [hW]; exact Hcv.out w6 hB6) ?_
      have hH : w6 = w6 := rfl
      repeat (first
        | (refine sch_yes (v := ?_) rfl rfl ?_ hH ?_; rotate_left; (focus ((intro W hW; go_simp) <;> with_reducible rfl)); simp only [Act.put, List.setIfInBounds_toArray, List.set_cons_zero, List.set_cons_succ])
        | (refine sch_no rfl rfl hH ?_; simp only [Act.put, List.setIfInBounds_toArray, List.set_cons_zero, List.set_cons_succ]))
      refine sch_done ?_
      go_wp2
      go_ret
      exact ⟨rfl, hB.trans (hB6.mono hB.size)⟩
  · go_enter Try.func4, Try.ntmps4
    go_wp2_with fail
    refine (awake_any _).mono ?_
    rintro e w1 ⟨rfl, hb1⟩
    go_wp2
    go_ret
    exact ⟨rfl, hb1⟩
end Go.Proofs.Ytcjdfpkjlhpgnaa
