/- The contracts of the document's own Signs, letter, digit, May and Len: what the plain functions tell; nothing that was there is changed. Condition: at most 2^20 bytes. -/
import Derived.Test.YteafbdebmhpffaaNaRef1
import Derived.Test.YteafbdebmhpffaaIntsAll
import Derived.OwnWalk
namespace Go.Proofs.Yteafbdebmhpffaa
open Go.RowKit

def strLen : Value → Nat | .string t => t.size | _ => 0
theorem sgn_fst {t : ByteArray} (h : 0 < t.size) : ∃ c n, sig (byt t) = (c, n) ∧ sgn (byt t) = c :: sgn (byt (t.extract n t.size)) ∧ c ≤ 2147483647 ∧ 1 ≤ n ∧ n ≤ t.size ∧ (t.extract n t.size).size = t.size - n := by
  obtain ⟨c, n, _, hsig, hsg, hc, hn, hn2⟩ := sgn_at h
  rw [List.drop_zero] at hsig hsg
  rw [Nat.zero_add] at hsg hn2
  have e : byt (t.extract n t.size) = (byt t).drop n := by rw [byt_extract, List.take_of_length_le (by simp)]
  refine ⟨c, n, hsig, by rw [hsg, e], hc, hn, hn2, ?_⟩
  rw [← byt_length, e, List.length_drop, byt_length]

set_option maxRecDepth 100000 in
set_option maxHeartbeats 2000000 in
theorem rsigns_any (s : ByteArray) (w : World) (hs : s.size ≤ 1048576) : Calls Try.prog 96 #[.string s] w fun e w' => ∃ v, e = .returned v ∧ w'.ownsRow w.heap.size 3 1 v (sgn (byt s)).length (i64s (sgn (byt s))) ∧ Below w.heap.size w w' := by
  obtain ⟨i0, hi, hz0, hz1, hz2⟩ := info_parts info_int
  obtain ⟨r, hr⟩ : ∃ r, r = sgn (byt s) := ⟨_, rfl⟩
  rw [← hr]
  have Hst : Hid ([] ++ sgn (byt s) = r) := hr.symm
  clear hr
  go_enter Try.func96, Try.ntmps96
  go_wp2
  go_loopw [0, 3] (fun sv v W => ∃ (t : ByteArray) (xs : List Nat), sv = .string t ∧ W.ownsRow w.heap.size 3 1 v xs.length (i64s xs) ∧ Below w.heap.size w W ∧ xs.length + t.size ≤ s.size ∧ Hid (xs ++ sgn (byt t) = r)) (fun sv _ _ => strLen sv)
  case atStart => exact ⟨s, [], rfl, World.ownsRow_nil _ _ _ _, Below.refl _ _, by simp, Hst⟩
  case round =>
    obtain ⟨t, xs, rfl, hown, hB, hl, hc⟩ := hrel
    clear Hst
    by_cases ht : 0 < t.size
    · obtain ⟨c, n, hsig, hsg, hcl, hn1, hn2, hsz⟩ := sgn_fst ht
      have HS := Lib.hid (rsign_any t wr ht)
      rw [hsig] at HS
      have hc' := hc.out
      rw [hsg, show xs ++ c :: sgn (byt (t.extract n t.size)) = (xs ++ [c]) ++ sgn (byt (t.extract n t.size)) by simp] at hc'
      have HC := Lib.hid hc'
      clear hc hc' hsg hsig
      have ht' : decide ((0 : Int) < (t.size : Int)) = true := by simp; omega
      have hn2' : (n : Int) ≤ (t.size : Int) := by omega
      have hrd := lit_int wr [c]
      have hBs := hB.size
      have Hrd := Lib.hid hrd
      clear hrd
      go_wp2_with fail
      refine HS.out.mono ?_
      rintro e w1 ⟨rfl, rfl⟩
      go_wp2_with (first
        | (at_builtin; refine wpList_app rfl (.tmp 14) (.tmp 16) 26 rfl w.heap.size 3 i0 (.int .i64 0) 8 Try.underlying26 hi hz0 hz1 hz2 rfl _ xs.length (i64s xs) rfl (hown.alloc _) (some ⟨w1.heap.size, 0, none⟩) 1 1 (i64s [c]) rfl rfl Hrd.out (i64s_one _) (by simp only [maxLen]; omega) (by omega) (by simp; omega) ?_; intro v4 w4 hown4 hg4 _)
        | fail)
      go_roundw
      case rel =>
        refine ⟨t.extract n t.size, xs ++ [c], rfl, ?_, ?_, ?_, HC⟩
        · rw [i64s_append, List.length_append]; exact hown4
        · exact (hB.alloc hBs _).grown hg4 (by simp; omega) (fun k hk => (hown.lt k hk).1)
        · rw [List.length_append, hsz, List.length_singleton]; omega
      case measure =>
        show (t.extract n t.size).size < t.size
        rw [hsz]
        omega
    · have ht' : decide ((0 : Int) < (t.size : Int)) = false := decide_eq_false (by omega)
      have hr := hc.out
      rw [show byt t = [] from List.eq_nil_of_length_eq_zero (by rw [byt_length]; omega), sgn_nil, List.append_nil] at hr
      subst hr
      go_wp2
      go_ret
      exact ⟨_, rfl, hown, hB⟩

set_option maxRecDepth 100000 in
theorem rletter_any (c : Nat) (w : World) (hc : c ≤ 2147483647) : Calls Try.prog 97 #[.int .i64 (c : Int)] w fun e w' => e = .returned (.bool (letS c)) ∧ w' = w := by
  go_enter Try.func97, Try.ntmps97
  go_wp2
  all_goals go_ret
  all_goals refine ⟨ret_bool ?_, rfl⟩
  all_goals rw [Bool.eq_iff_iff]
  all_goals simp [letS]
  all_goals omega
set_option maxRecDepth 100000 in
theorem rdigit_any (c : Nat) (w : World) (hc : c ≤ 2147483647) : Calls Try.prog 98 #[.int .i64 (c : Int)] w fun e w' => e = .returned (.bool (digS c)) ∧ w' = w := by
  go_enter Try.func98, Try.ntmps98
  go_wp2
  all_goals go_ret
  all_goals refine ⟨ret_bool ?_, rfl⟩
  all_goals rw [Bool.eq_iff_iff]
  all_goals simp [digS]
  all_goals omega

theorem sgn_le (l : List Nat) (hl : ∀ x ∈ l, x < 256) : ∀ c ∈ sgn l, c ≤ 2147483647 := by
  suffices H : ∀ (n : Nat) (l : List Nat), l.length ≤ n → (∀ x ∈ l, x < 256) → ∀ c ∈ sgn l, c ≤ 2147483647 from H _ l (Nat.le_refl _) hl
  intro n
  induction n with
  | zero =>
    intro l h _ c hc
    obtain rfl : l = [] := List.eq_nil_of_length_eq_zero (by omega)
    simp [sgn_nil] at hc
  | succ n ih =>
    intro l h hl c hc
    by_cases h0 : l = []
    · subst h0; simp [sgn_nil] at hc
    · have hp : 0 < l.length := List.length_pos_iff.2 h0
      have hw := (sig_wide l).1
      rw [sgn_cons h0] at hc
      rcases List.mem_cons.1 hc with rfl | hc
      · have e : byt (strB l) = l := by
          show List.map UInt8.toNat (List.map UInt8.ofNat l) = l
          rw [List.map_map]
          conv => rhs; rw [← List.map_id l]
          apply List.map_congr_left
          intro x hx
          have := hl x hx
          simp
          omega
        have := decode_le (strB l) 0
        rw [dec_sig, e, List.drop_zero] at this
        exact this
      · exact ih _ (by rw [List.length_drop]; omega) (fun x hx => hl x (List.mem_of_mem_drop hx)) c hc

theorem fit_0 (c : Nat) : fitS c 0 = letS c := by simp [fitS]
theorem fit_s (c k : Nat) : fitS c (k + 1) = okS c := by simp [fitS, okS]
/-- A name, sign by sign. -/
theorem nameS_iff (l : List Nat) : nameS l = true ↔ (1 ≤ l.length ∧ l.length ≤ 8) ∧ ∀ j, j < l.length → fitS (l.getD j 0) j = true := by
  cases l with
  | nil => simp [nameS]
  | cons c t =>
    rw [nameS, Bool.and_eq_true, Bool.and_eq_true, decide_eq_true_iff, List.all_eq_true, List.length_cons]
    constructor
    · rintro ⟨⟨h1, h2⟩, h3⟩
      refine ⟨by omega, fun j hj => ?_⟩
      cases j with
      | zero => rw [fit_0]; exact h1
      | succ j =>
        rw [fit_s, List.getD_cons_succ]
        have hj' : j < t.length := by omega
        rw [List.getD_eq_getElem?_getD, List.getElem?_eq_getElem hj']
        exact h2 _ (List.getElem_mem hj')
    · rintro ⟨h1, h2⟩
      refine ⟨⟨by have := h2 0 (by omega); rwa [fit_0] at this, fun x hx => ?_⟩, by omega⟩
      obtain ⟨j, hj, rfl⟩ := List.getElem_of_mem hx
      have := h2 (j + 1) (by omega)
      rw [fit_s, List.getD_cons_succ, List.getD_eq_getElem?_getD, List.getElem?_eq_getElem hj] at this
      exact this

set_option maxRecDepth 100000 in
set_option maxHeartbeats 2000000 in
theorem rnmay_any (s : ByteArray) (w : World) (hs : s.size ≤ 1048576) : Calls Try.prog 79 #[.string s] w fun e w' => e = .returned (.bool (mayN (byt s))) ∧ Below w.heap.size w w' := by
  have HS := Lib.hid (rsigns_any s w hs)
  have hlen : (sgn (byt s)).length ≤ 1048576 := Nat.le_trans (sgn_length_le _) (by rw [byt_length]; exact hs)
  have hle := sgn_le (byt s) (byt_lt s)
  have HI := Lib.hid (nameS_iff (sgn (byt s)))
  unfold mayN
  generalize sgn (byt s) = l at *
  generalize nameS l = ok at *
  go_enter Try.func79, Try.ntmps79
  go_wp2_with fail
  refine HS.out.mono ?_
  rintro e w1 ⟨v, rfl, hown, hB⟩
  obtain ⟨A, cp, rfl, hcp, hrd, _⟩ := own_slice hown
  clear hown HS
  have HB := Lib.hid hB
  have HR := Lib.hid hrd
  have HLE := Lib.hid hle
  clear hB hrd hle
  go_wp2
  go_loop [4] (fun i => ∃ k : Nat, k ≤ l.length ∧ i = .int .i64 (k : Int) ∧ Hid (∀ j, j < k → fitS (l.getD j 0) j = true)) (fun i => l.length - (intOf i).toNat)
  case atStart => exact ⟨0, Nat.zero_le _, rfl, fun j hj => by omega⟩
  case round =>
    obtain ⟨k, hk, rfl, hc⟩ := hrel
    by_cases hlt : k < l.length
    · obtain ⟨b, off, rfl, hblt, hcell⟩ := HR.out.at (k := k) (by simpa using hlt)
      have hcl := hcell k _ (i64s_in hlt)
      have hcle := HLE.out _ (List.getElem_mem hlt)
      have hg : l[k] = l.getD k 0 := by simp [hlt]
      rw [hg] at hcl hcle
      clear hcell HR HLE hg
      have hnext : Hid (fitS (l.getD k 0) k = true → ∀ j, j < k + 1 → fitS (l.getD j 0) j = true) := fun h j hj => by
        by_cases e : j = k
        · rw [e]; exact h
        · exact hc.out j (by omega)
      have hbad : Hid (fitS (l.getD k 0) k = false → ok = false) := fun h => by
        cases e : ok
        · rfl
        · have := (HI.out.1 e).2 k hlt
          rw [h] at this; cases this
      generalize l.getD k 0 = c at *
      have hk1 : (k : Int) < (l.length : Int) := by omega
      have HL := Lib.hid (fun W => rletter_any c W hcle)
      have HD := Lib.hid (fun W => rdigit_any c W hcle)
      unfold fitS at hnext hbad
      clear hc HI
      generalize letS c = lc at *
      generalize digS c = dc at *
      go_wp2_with fail
      refine (HL.out _).mono ?_
      rintro e w2 ⟨rfl, rfl⟩
      go_wp2_with fail
      refine (HD.out _).mono ?_
      rintro e w2 ⟨rfl, rfl⟩
      clear HL HD
      cases lc
      · cases dc
        · have Hb := Lib.hid (hbad.out (by simp))
          clear hnext hbad
          go_wp2
          go_ret
          exact ⟨ret_bool Hb.out.symm, HB.out⟩
        · by_cases hk0 : k = 0
          · have Hb := Lib.hid (hbad.out (by simp [hk0]))
            clear hnext hbad
            have hk0' : ((k : Int) == 0) = true := by simp [hk0]
            go_wp2
            go_ret
            exact ⟨ret_bool Hb.out.symm, HB.out⟩
          · have Hn := Lib.hid (hnext.out (by simp; omega))
            clear hnext hbad
            have hk0' : ((k : Int) == 0) = false := by simp; omega
            go_wp2
            go_round
            case rel => exact ⟨k + 1, by omega, by go_num, Hn⟩
            case measure => simp [intOf]; omega
      · have Hn := Lib.hid (hnext.out (by simp))
        clear hnext hbad
        go_wp2
        go_round
        case rel => exact ⟨k + 1, by omega, by go_num, Hn⟩
        case measure => simp [intOf]; omega
    · obtain rfl : k = l.length := by omega
      have hfin : ok = (decide (1 ≤ l.length) && decide (l.length ≤ 8)) := by
        rw [Bool.eq_iff_iff, HI.out, Bool.and_eq_true, decide_eq_true_iff, decide_eq_true_iff]
        exact ⟨fun h => h.1, fun h => ⟨h, hc.out⟩⟩
      clear HI hc HR HLE
      by_cases h1 : 1 ≤ l.length
      · have h1' : decide ((1 : Int) ≤ (l.length : Int)) = true := by simp; omega
        have Hf : Hid (ok = decide (l.length ≤ 8)) := by rw [hfin, decide_eq_true h1, Bool.true_and]; exact rfl
        clear hfin
        by_cases h8 : l.length ≤ 8
        · have h8' : decide ((l.length : Int) ≤ 8) = true := by simp; omega
          go_wp2
          go_ret
          exact ⟨ret_bool (Hf.out.trans (by simp [h8])).symm, HB.out⟩
        · have h8' : decide ((l.length : Int) ≤ 8) = false := by simp; omega
          go_wp2
          go_ret
          exact ⟨ret_bool (Hf.out.trans (by simp [h8])).symm, HB.out⟩
      · have h1' : decide ((1 : Int) ≤ (l.length : Int)) = false := decide_eq_false (by omega)
        have Hf : Hid (ok = false) := by rw [hfin, decide_eq_false h1, Bool.false_and]; exact rfl
        clear hfin
        go_wp2
        go_ret
        exact ⟨ret_bool Hf.out.symm, HB.out⟩
end Go.Proofs.Yteafbdebmhpffaa
