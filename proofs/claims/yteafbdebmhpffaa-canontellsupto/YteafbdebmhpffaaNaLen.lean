/- The contracts of name's letter, digit, fits, Len and May: what the plain functions tell; nothing that was there is changed. No condition but that a sign fits 31 bits. -/
import Derived.Test.YteafbdebmhpffaaScMemAll
import Derived.Test.YteafbdebmhpffaaScPlainAll
namespace Go.Proofs.Yteafbdebmhpffaa
open Go.RowKit

theorem ret_bool {a b : Bool} (h : a = b) : Ending.returned (.bool a) = .returned (.bool b) := by rw [h]

set_option maxRecDepth 100000 in
theorem letter_any (c : Nat) (w : World) (hc : c ≤ 2147483647) : Calls Try.prog 105 #[.int .i32 (c : Int)] w fun e w' => e = .returned (.bool (letS c)) ∧ w' = w := by
  go_enter Try.func105, Try.ntmps105
  go_wp2
  all_goals go_ret
  all_goals refine ⟨ret_bool ?_, rfl⟩
  all_goals rw [Bool.eq_iff_iff]
  all_goals simp [letS]
  all_goals omega

set_option maxRecDepth 100000 in
theorem digit_any (c : Nat) (w : World) (hc : c ≤ 2147483647) : Calls Try.prog 106 #[.int .i32 (c : Int)] w fun e w' => e = .returned (.bool (digS c)) ∧ w' = w := by
  go_enter Try.func106, Try.ntmps106
  go_wp2
  all_goals go_ret
  all_goals refine ⟨ret_bool ?_, rfl⟩
  all_goals rw [Bool.eq_iff_iff]
  all_goals simp [digS]
  all_goals omega

def fitS (c k : Nat) : Bool := letS c || (decide (0 < k) && digS c)
set_option maxRecDepth 100000 in
theorem fits_any (c k : Nat) (w : World) (hc : c ≤ 2147483647) (hk : k ≤ 8) : Calls Try.prog 99 #[.int .i32 (c : Int), .int .i64 (k : Int)] w fun e w' => e = .returned (.bool (fitS c k)) ∧ w' = w := by
  have HL := Lib.hid (letter_any c w hc)
  have HD := Lib.hid (digit_any c w hc)
  have HR : Hid (∀ x, x = fitS c k → Ending.returned (.bool x) = .returned (.bool (fitS c k))) := fun x h => ret_bool h
  have e : fitS c k = (letS c || (decide (0 < k) && digS c)) := rfl
  have E := Lib.hid e
  clear e
  generalize fitS c k = r at *
  generalize letS c = l at *
  generalize digS c = d at *
  go_enter Try.func99, Try.ntmps99
  go_wp2_with fail
  refine HL.out.mono ?_
  rintro e w1 ⟨rfl, rfl⟩
  cases l
  · by_cases hk0 : 0 < k
    · have hk1 : decide ((0 : Int) < (k : Int)) = true := by simp; omega
      go_wp2_with fail
      refine HD.out.mono ?_
      rintro e w1 ⟨rfl, rfl⟩
      go_wp2
      go_ret
      refine ⟨HR.out _ ?_, rfl⟩
      rw [E.out]; simp [hk0]
    · have hk1 : decide ((0 : Int) < (k : Int)) = false := by simp; omega
      go_wp2
      go_ret
      refine ⟨HR.out _ ?_, rfl⟩
      rw [E.out]; simp [hk0]
  · go_wp2
    go_ret
    refine ⟨HR.out _ ?_, rfl⟩
    rw [E.out]; simp

/-- How many signs there are, k of which were gone through; 0, if they make no name. -/
def lenF : List Nat → Nat → Nat
  | [], k => k
  | c :: t, k => if k = 8 ∨ fitS c k = false then 0 else lenF t (k + 1)
theorem lenF_pos : ∀ (t : List Nat) (k : Nat), 1 ≤ k → k ≤ 8 → lenF t k = if t.all okS = true ∧ k + t.length ≤ 8 then k + t.length else 0
  | [], k, _, h => by simp [lenF, h]
  | c :: t, k, h1, h => by
    rw [lenF]
    have hf : fitS c k = okS c := by simp [fitS, okS, show 0 < k by omega]
    rw [hf, List.all_cons, List.length_cons]
    by_cases h8 : k = 8
    · rw [if_pos (.inl h8), if_neg (by omega)]
    · cases ho : okS c
      · simp
      · rw [if_neg (by simp [h8]), lenF_pos t (k + 1) (by omega) (by omega)]
        simp only [Bool.true_and]
        by_cases hq : t.all okS = true ∧ k + 1 + t.length ≤ 8
        · rw [if_pos hq, if_pos ⟨hq.1, by omega⟩]; omega
        · rw [if_neg hq, if_neg (fun h => hq ⟨h.1, by omega⟩)]
theorem lenN_F (l : List Nat) : lenN l = lenF (sgn l) 0 := by
  rw [lenN, mayN]
  cases sgn l with
  | nil => rfl
  | cons c t =>
    rw [lenF, nameS]
    have hf : fitS c 0 = letS c := by simp [fitS]
    rw [hf, lenF_pos t 1 (by omega) (by omega), List.length_cons]
    cases letS c
    · simp
    · simp only [Bool.true_and]
      by_cases hq : t.all okS = true ∧ 1 + t.length ≤ 8
      · rw [if_pos (by rw [Bool.and_eq_true, decide_eq_true_iff]; exact ⟨hq.1, by omega⟩), if_neg (by simp), if_pos hq]; omega
      · rw [if_neg (by rw [Bool.and_eq_true, decide_eq_true_iff]; exact fun h => hq ⟨h.1, by omega⟩), if_neg (by simp), if_neg hq]

theorem drop_ne {s : ByteArray} {pos : Nat} (h : pos < s.size) : (byt s).drop pos ≠ [] := fun e => by
  have := congrArg List.length e
  rw [List.length_drop, byt_length, List.length_nil] at this
  omega
theorem below_iter (w : World) (s : ByteArray) (pos : Nat) : Below w.heap.size w (w.iter s pos) := (Below.refl _ w).alloc (Nat.le_refl _) _
/-- Signs from a place on: the one there, and those behind it. -/
theorem sgn_at {s : ByteArray} {pos : Nat} (h : pos < s.size) : ∃ c n, Utf8.decode s pos = (c, n) ∧ sig ((byt s).drop pos) = (c, n) ∧ sgn ((byt s).drop pos) = c :: sgn ((byt s).drop (pos + n)) ∧ c ≤ 2147483647 ∧ 1 ≤ n ∧ pos + n ≤ s.size := by
  have hw := sig_wide ((byt s).drop pos)
  have h2 := hw.2.1 (drop_ne h)
  rw [List.length_drop, byt_length] at h2
  refine ⟨(sig ((byt s).drop pos)).1, (sig ((byt s).drop pos)).2, dec_sig s pos, rfl, ?_, (by rw [← dec_sig]; exact decode_le s pos), hw.1, by omega⟩
  rw [sgn_cons (drop_ne h), List.drop_drop]
theorem sgn_end {s : ByteArray} {pos : Nat} (h : ¬ pos < s.size) : sgn ((byt s).drop pos) = [] := by
  rw [List.drop_of_length_le (by rw [byt_length]; omega)]; rfl

set_option maxRecDepth 100000 in
set_option maxHeartbeats 1000000 in
theorem len_any (s : ByteArray) (w : World) : Calls Try.prog 83 #[.string s] w fun e w' => e = .returned (.int .i64 (lenN (byt s) : Int)) ∧ Below w.heap.size w w' := by
  rw [lenN_F]
  have Hs : Hid (lenF (sgn ((byt s).drop 0)) 0 = lenF (sgn (byt s)) 0) := by rw [List.drop_zero]; exact rfl
  generalize lenF (sgn (byt s)) 0 = r at *
  go_enter Try.func83, Try.ntmps83
  go_wp2
  go_loopw [3] (fun n w' => ∃ (pos k : Nat), w' = w.iter s pos ∧ n = .int .i64 (k : Int) ∧ k ≤ 8 ∧ Hid (lenF (sgn ((byt s).drop pos)) k = r)) (fun _ w' => s.size - w'.iterPos w.heap.size)
  case atStart => exact ⟨0, 0, rfl, rfl, by omega, Hs⟩
  case round =>
    obtain ⟨pos, k, rfl, rfl, hk, hc⟩ := hrel
    clear Hs
    by_cases hp : pos < s.size
    · obtain ⟨c, n, hdec, _, hsg, hcl, hn1, hn2⟩ := sgn_at hp
      have hnx : ∀ ty, (Instr.next (.pointer (some ⟨w.heap.size, 0, none⟩)) true ty).run Try.prog (w.iter s pos) = _ := fun ty => run_next_any w s pos ty hp
      rw [hdec] at hnx
      have hc' := hc.out
      rw [hsg, lenF] at hc'
      have HC := Lib.hid hc'
      clear hc' hdec hsg hc
      by_cases h8 : k = 8
      · subst h8
        go_wp2
        go_ret
        refine ⟨?_, below_iter _ _ _⟩
        have := HC.out
        rw [if_pos (by simp)] at this
        rw [← this]; rfl
      · have h8' : ((k : Int) == 8) = false := by simp; omega
        have HF := Lib.hid (fun W => fits_any c k W hcl hk)
        cases hf : fitS c k
        · rw [hf] at HF HC
          go_wp2_with fail
          refine (HF.out _).mono ?_
          rintro e w1 ⟨rfl, rfl⟩
          go_wp2
          go_ret
          refine ⟨?_, below_iter _ _ _⟩
          have := HC.out
          rw [if_pos (by simp)] at this
          rw [← this]; rfl
        · rw [hf] at HF HC
          go_wp2_with fail
          refine (HF.out _).mono ?_
          rintro e w1 ⟨rfl, rfl⟩
          go_wp2
          go_roundw
          case rel =>
            refine ⟨pos + n, k + 1, rfl, by go_num, by omega, ?_⟩
            have := HC.out
            rw [if_neg (by simp [h8])] at this
            exact this
          case measure =>
            simp
            omega
    · have hnx : ∀ ty, (Instr.next (.pointer (some ⟨w.heap.size, 0, none⟩)) true ty).run Try.prog (w.iter s pos) = _ := fun ty => run_next_end w s pos ty hp
      go_wp2
      go_ret
      have := hc.out
      rw [sgn_end hp, lenF] at this
      subst this
      exact ⟨rfl, below_iter _ _ _⟩

set_option maxRecDepth 100000 in
theorem nmay_any (s : ByteArray) (w : World) : Calls Try.prog 61 #[.string s] w fun e w' => e = .returned (.bool (mayN (byt s))) ∧ Below w.heap.size w w' := by
  have HL := Lib.hid (len_any s w)
  have h := lenN_pos (a := byt s)
  have H : Hid (∀ n : Nat, n = lenN (byt s) → Ending.returned (.bool (decide (0 < n))) = .returned (.bool (mayN (byt s)))) := fun n hn => by
    subst hn
    apply ret_bool
    rw [Bool.eq_iff_iff, decide_eq_true_iff]
    cases hm : mayN (byt s)
    · have := h.2 hm; simp [this]
    · have : lenN (byt s) ≠ 0 := fun e => by rw [h.1 e] at hm; cases hm
      simp; omega
  clear h
  go_enter Try.func61, Try.ntmps61
  go_wp2_with fail
  refine HL.out.mono ?_
  rintro e w1 ⟨rfl, hB⟩
  generalize hg : lenN (byt s) = n at *
  go_wp2
  go_ret
  exact ⟨H.out _ rfl, hB⟩
end Go.Proofs.Yteafbdebmhpffaa
