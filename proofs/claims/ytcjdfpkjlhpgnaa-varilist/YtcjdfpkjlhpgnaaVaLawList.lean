/- VariList's walk. -/
import Derived.Test.YtcjdfpkjlhpgnaaVaLawFirst
import Derived.Test.YtcjdfpkjlhpgnaaVaSame
namespace Go.Proofs.Ytcjdfpkjlhpgnaa
open Go.RowKit

def catL (l : List Nat) : List Nat := (l.map putL).flatten
theorem catL_cons (n : Nat) (r : List Nat) : catL (n :: r) = putL n ++ catL r := by simp [catL]
theorem catL_snoc (l : List Nat) (n : Nat) : catL (l ++ [n]) = catL l ++ putL n := by simp [catL]
theorem catL_byte (l : List Nat) : ∀ x ∈ catL l, x < 256 := by
  intro x hx
  simp only [catL, List.mem_flatten, List.mem_map] at hx
  obtain ⟨_, ⟨n, _, rfl⟩, hx⟩ := hx
  exact putL_byte n x hx
theorem catL_len (l : List Nat) (h : ∀ x ∈ l, x < 18446744073709551616) : (catL l).length ≤ 10 * l.length := by
  induction l with
  | nil => simp [catL]
  | cons n r ih =>
    rw [catL_cons, List.length_append, List.length_cons]
    have := ih fun x hx => h x (by simp [hx])
    have := putL_len10 n (h n (by simp))
    omega
theorem allL_put (n : Nat) (r : List Nat) (hn : n < 18446744073709551616) : allL (putL n ++ r) = (allL r).map (n :: ·) := by
  have hg := getL_put n r hn
  rw [allL_some _ (by rw [hg]; exact Nat.pos_iff_ne_zero.1 (putL_pos n)), hg]
  simp
theorem allL_cat (l : List Nat) (h : ∀ x ∈ l, x < 18446744073709551616) : allL (catL l) = some l := by
  induction l with
  | nil => exact allL_nil
  | cons n r ih => rw [catL_cons, allL_put _ _ (h n (by simp)), ih fun x hx => h x (by simp [hx])]; rfl
theorem allL_cut (l : List Nat) (h : ∀ x ∈ l, x < 18446744073709551616) : ∀ (k : Nat) (ys : List Nat), k < (catL l).length → allL ((catL l).take k) = some ys → ys.length < l.length := by
  induction l with
  | nil => intro k ys hk; simp [catL] at hk
  | cons n r ih =>
    intro k ys hk ha
    have hn := h n (by simp)
    rw [catL_cons] at hk ha
    by_cases hlt : k < (putL n).length
    · rw [List.take_append_of_le_length (by omega)] at ha
      by_cases h0 : k = 0
      · subst h0
        simp only [List.take_zero, allL_nil] at ha
        injection ha with ha
        subst ha
        simp
      · rw [allL_none _ (by intro e; have := congrArg List.length e; rw [List.length_take, List.length_nil] at this; omega) (by rw [getL_cut n k hn hlt])] at ha
        cases ha
    · rw [List.take_append, List.take_of_length_le (by omega), allL_put _ _ hn] at ha
      rw [List.length_append] at hk
      cases hr : allL ((catL r).take (k - (putL n).length)) with
      | none => rw [hr] at ha; cases ha
      | some zs =>
        rw [hr] at ha
        injection ha with ha
        subst ha
        have := ih (fun x hx => h x (by simp [hx])) _ zs (by omega) hr
        simp
        exact this

set_option maxRecDepth 100000 in
set_option maxHeartbeats 1000000 in
theorem variList_walk (w : World) (A : Option Addr) (c : Nat) (l : List Nat) (_hl : l.length ≤ c) (_hm : c ≤ maxLen) (hb : ∀ x ∈ l, x < 18446744073709551616) (hr : Rd w A (u64s l)) (k : Int) (k0 : -9223372036854775808 ≤ k) (k1 : k ≤ 9223372036854775807) :
    Calls Try.prog 7 #[.slice A l.length c, .int .i64 k] w fun e w' => e = .returned (.bool true) ∧ Below w.heap.size w w' := by
  obtain ⟨i0, hi, hz0, hz1, hz2⟩ := info_parts info_u8
  by_cases h30 : l.length ≤ 30
  · have h30' : decide ((30 : Int) < (l.length : Int)) = false := by simp; omega
    go_enter Try.func7, Try.ntmps7
    go_wp2_with fail
    refine (awake_any _).mono ?_
    rintro e w1 ⟨rfl, hb1⟩
    have hr1 := hr.below hb1
    go_wp2
    go_loopw [6, 7] (fun v i wr => ∃ j : Nat, i = .int .i64 (j : Int) ∧ j ≤ l.length ∧ wr.ownsRow w1.heap.size 5 1 v (catL (l.take j)).length (u8s (catL (l.take j))) ∧ Below w1.heap.size w1 wr) (fun _ i _ => l.length - (intOf i).toNat)
    case atStart => exact ⟨0, rfl, Nat.zero_le _, World.ownsRow_nil _ _ _ _, Below.refl _ _⟩
    case round =>
      obtain ⟨j, rfl, hj, hown, hnx⟩ := hrel
      by_cases hjl : j < l.length
      · obtain ⟨g, o, rfl, hgl, hcell⟩ := u64_at (hr1.below hnx) hjl
        have hx : l.getD j 0 < 18446744073709551616 := by simpa [hjl] using hb _ (List.getElem_mem hjl)
        have htk : l.take (j + 1) = l.take j ++ [l.getD j 0] := by simp [hjl]
        have hcl := catL_len (l.take j) (fun x hx => hb x (List.mem_of_mem_take hx))
        rw [List.length_take] at hcl
        generalize l.getD j 0 = x at *
        have hpl := putL_len10 x hx
        have Htk := Lib.hid htk
        clear htk
        have hj1 : (j : Int) < (l.length : Int) := by omega
        go_wp2_with fail
        refine (put_form x _ hx).mono ?_
        rintro e w2 ⟨g2, cap2, rfl, hcap2, _, _, hrp, hb2⟩
        have hown2 := own_below hown hb2
        have hsz := hnx.size
        have hsz2 := hb2.size
        go_wp2_with (at_builtin; refine wpList_app rfl _ _ 23 rfl w1.heap.size 5 i0 (.int .u8 0) 1 Try.underlying23 hi hz0 hz1 hz2 rfl _ (catL (l.take j)).length (u8s (catL (l.take j))) rfl hown2 (some ⟨g2, 0, none⟩) (putL x).length cap2 (u8s (putL x)) rfl (u8s_length _) hrp (u8s_one _) (by simp only [maxLen]; omega) (by omega) (by omega) ?_; intro v3 w3 hown3 hg3 hat3)
        go_roundw
        case rel =>
          refine ⟨j + 1, by go_num, by omega, ?_, ((hnx.trans (hb2.mono hnx.size)).grown hg3 (by omega) (fun k hk => (hown2.lt k hk).1))⟩
          rw [Htk.out, catL_snoc, u8s_append, List.length_append]
          exact hown3
        case measure => simp [intOf]; omega
      · have hj' : l.take j = l := List.take_of_length_le (by omega)
        rw [hj'] at hown
        have hcl := catL_len l hb
        have hall := allL_cat l hb
        have hcut := allL_cut l hb
        have hby := catL_byte l
        generalize catL l = bs at *
        obtain ⟨B, cb, hv, hcb, hrb, hBg⟩ := own_slice hown
        subst hv
        have HA := Lib.hid (fun w h => all_good B cb bs.length bs l w rfl hcb hby (by omega) h hall)
        have Hcut := Lib.hid hcut
        have Hby := Lib.hid hby
        have HBg := Lib.hid hBg
        clear hj' hall hcut hby hown hBg
        have hbd : bs.length ≤ 300 := by omega
        have hl30 : l.length ≤ 30 := h30
        go_wp2_with fail
        refine (HA.out _ hrb).mono ?_
        rintro e w2 ⟨A2, c2, rfl, _, hrA2, hb2⟩
        have hrl2 := (hr1.below hnx).below hb2
        go_wp2_with fail
        refine (same_yes A2 A c2 c l.length l w2 rfl (by omega) hrA2 hrl2).mono ?_
        rintro e w3 ⟨rfl, q, rfl⟩
        have hB : Below w.heap.size w (w2.drewN q) := below_drewN ((hb1.trans (hnx.mono hb1.size)).trans (hb2.mono (Nat.le_trans hb1.size hnx.size))) q
        have hrb2 := hrb.below hb2
        have hsz2 : w2.heap.size ≤ w2.heap.size := Nat.le_refl _
        by_cases hk : k < 0
        · go_wp2
          go_ret
          exact ⟨rfl, hB⟩
        · obtain ⟨m, rfl⟩ := Int.eq_ofNat_of_zero_le (a := k) (by omega)
          by_cases hm2 : m < bs.length
          · obtain ⟨g, rfl⟩ := HBg.out (by omega)
            have hmc : m ≤ cb := by omega
            have hrt : Rd (w2.drewN q) (some ⟨g, 0, none⟩) (u8s (bs.take m)) := by rw [← u8s_take]; exact Rd.take hrb2 m
            have hlt : (bs.take m).length = m := by rw [List.length_take]; omega
            have hbt : ∀ x ∈ bs.take m, x < 256 := fun x hx => Hby.out x (List.mem_of_mem_take hx)
            cases hys : allL (bs.take m) with
            | none =>
              have HC := Lib.hid (all_bad (some ⟨g, 0, none⟩) cb m (bs.take m) (w2.drewN q) hlt hmc hbt (by omega) hrt hys)
              clear hys hrt hlt hbt
              go_wp2_with fail
              refine HC.out.mono ?_
              rintro e w4 ⟨A4, c4, rfl, hb4⟩
              go_wp2
              go_ret
              exact ⟨rfl, hB.trans (hb4.mono hB.size)⟩
            | some ys =>
              have hyl := Hcut.out m ys hm2 hys
              have HC := Lib.hid (all_good (some ⟨g, 0, none⟩) cb m (bs.take m) ys (w2.drewN q) hlt hmc hbt (by omega) hrt hys)
              clear hys hrt hlt hbt
              have hyl1 : decide (ys.length < l.length) = true := by simp; omega
              go_wp2_with fail
              refine HC.out.mono ?_
              rintro e w4 ⟨A4, c4, rfl, _, _, hb4⟩
              go_wp2
              go_ret
              exact ⟨rfl, hB.trans (hb4.mono hB.size)⟩
          · go_wp2
            go_ret
            exact ⟨rfl, hB⟩
  · go_enter Try.func7, Try.ntmps7
    go_wp2_with fail
    refine (awake_any _).mono ?_
    rintro e w1 ⟨rfl, hb1⟩
    go_wp2
    go_ret
    exact ⟨rfl, hb1⟩
end Go.Proofs.Ytcjdfpkjlhpgnaa
