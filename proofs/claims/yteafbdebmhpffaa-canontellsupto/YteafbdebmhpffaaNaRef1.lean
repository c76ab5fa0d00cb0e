/- The contract of the document's own 'sign': the sign that a text begins by, and its bytes. No condition but that there is one. -/
import Derived.Test.YteafbdebmhpffaaNaLen
namespace Go.Proofs.Yteafbdebmhpffaa
open Go.RowKit

theorem byt_at3 {s : ByteArray} {k : Nat} (h : k < s.size) : (byt s).getD k 0 = (s[k]'h).toNat := by
  rw [List.getD_eq_getElem?_getD, List.getElem?_eq_getElem (by simpa using h)]
  simp only [Option.getD_some, byt, List.getElem_map, Array.getElem_toList]; rfl
theorem byt_out {s : ByteArray} {k : Nat} (h : s.size ≤ k) : (byt s).getD k 0 = 0 := getD_out (by simpa using h)
theorem mid_0 : mid 0 = false := rfl
theorem mid_no {x : Nat} (h : mid x = false) : x < 128 ∨ 191 < x := by
  have := of_decide_eq_false h; omega
theorem sig_none (l : List Nat) (h : 128 ≤ l.getD 0 0) (h1 : mid (l.getD 1 0) = false) : sig l = (65533, 1) := by
  rw [sig, sig_x (by omega) (by rw [h1]; simp) (by rw [h1]; simp) (by rw [h1]; simp)]
theorem sig_odd (l : List Nat) (h : 128 ≤ l.getD 0 0) (h1 : l.getD 0 0 < 194 ∨ 245 ≤ l.getD 0 0) : sig l = (65533, 1) := by
  rw [sig, sig_x (by omega) (by omega) (by omega)]
  rintro ⟨h2, _, _, _, _, _, h3⟩
  unfold v4 at h3
  omega

theorem sig_no2 (l : List Nat) (h : 224 ≤ l.getD 0 0) (h1 : mid (l.getD 2 0) = false) : sig l = (65533, 1) := by
  rw [sig, sig_x (by omega) (by omega) (by rw [h1]; simp) (by rw [h1]; simp)]
theorem sig_no3 (l : List Nat) (h : 240 ≤ l.getD 0 0) (h1 : mid (l.getD 3 0) = false) : sig l = (65533, 1) := by
  rw [sig, sig_x (by omega) (by omega) (by omega) (by rw [h1]; simp)]
theorem sig_is2 (l : List Nat) (h : 194 ≤ l.getD 0 0) (h' : l.getD 0 0 < 224) (h1 : mid (l.getD 1 0) = true) {c : Nat} (hc : c = (l.getD 0 0 - 192) * 64 + (l.getD 1 0 - 128)) : sig l = (c, 2) := by
  rw [sig, sig_2 h h' h1, hc]
theorem sig_is3 (l : List Nat) (h : 224 ≤ l.getD 0 0) (h' : l.getD 0 0 < 240) (h1 : mid (l.getD 1 0) = true) (h2 : mid (l.getD 2 0) = true) {c : Nat} (hc : c = (l.getD 0 0 - 224) * 4096 + (l.getD 1 0 - 128) * 64 + (l.getD 2 0 - 128)) :
    sig l = if 2048 ≤ c ∧ ¬ (55296 ≤ c ∧ c < 57344) then (c, 3) else (65533, 1) := by
  have e : v3 (l.getD 0 0) (l.getD 1 0) (l.getD 2 0) = c := by rw [hc]; unfold v3; rfl
  rw [sig]
  by_cases hq : 2048 ≤ c ∧ ¬ (55296 ≤ c ∧ c < 57344)
  · rw [if_pos hq, sig_3 h h' h1 h2 (by rw [e]; exact hq.1) (by rw [e]; exact hq.2), e]
  · rw [if_neg hq, sig_x (by omega) (by omega) (by rw [e]; exact fun h => hq h.2.2.2.2) (by omega)]
theorem sig_is4 (l : List Nat) (h : 240 ≤ l.getD 0 0) (h' : l.getD 0 0 < 245) (h1 : mid (l.getD 1 0) = true) (h2 : mid (l.getD 2 0) = true) (h3 : mid (l.getD 3 0) = true) {c : Nat}
    (hc : c = (l.getD 0 0 - 240) * 262144 + (l.getD 1 0 - 128) * 4096 + (l.getD 2 0 - 128) * 64 + (l.getD 3 0 - 128)) : sig l = if 65536 ≤ c ∧ c < 1114112 then (c, 4) else (65533, 1) := by
  have e : v4 (l.getD 0 0) (l.getD 1 0) (l.getD 2 0) (l.getD 3 0) = c := by rw [hc]; unfold v4; rfl
  rw [sig]
  by_cases hq : 65536 ≤ c ∧ c < 1114112
  · rw [if_pos hq, sig_4 h (by omega) h1 h2 h3 (by rw [e]; exact hq.1) (by rw [e]; exact hq.2), e]
  · rw [if_neg hq, sig_x (by omega) (by omega) (by omega) (by rw [e]; exact fun h => hq h.2.2.2.2.2)]

set_option maxRecDepth 100000 in
set_option maxHeartbeats 2000000 in
theorem rsign_any (s : ByteArray) (w : World) (hs : 0 < s.size) : Calls Try.prog 104 #[.string s] w fun e w' => e = .returned (.tuple #[.int .i64 ((sig (byt s)).1 : Int), .int .i64 ((sig (byt s)).2 : Int)]) ∧ w' = w := by
  have h0 := byt_at3 hs
  have hlt : (s[0]'hs).toNat < 256 := UInt8.toNat_lt _
  have hs' : (0 : Int) < (s.size : Int) := by omega
  by_cases c1 : (s[0]'hs).toNat < 128
  · have d1 : decide (((s[0]'hs).toNat : Int) < 128) = true := by simp; omega
    have e : sig (byt s) = ((s[0]'hs).toNat, 1) := by rw [sig, h0, sig_1 c1]
    rw [e]
    clear e h0
    go_enter Try.func104, Try.ntmps104
    go_wp2
    go_ret2
    exact ⟨rfl, rfl⟩
  have d1 : decide (((s[0]'hs).toNat : Int) < 128) = false := by simp; omega
  by_cases c2 : (s[0]'hs).toNat < 194
  · have d2 : decide ((194 : Int) ≤ ((s[0]'hs).toNat : Int)) = false := by simp; omega
    have d3 : decide ((224 : Int) ≤ ((s[0]'hs).toNat : Int)) = false := by simp; omega
    have d4 : decide ((240 : Int) ≤ ((s[0]'hs).toNat : Int)) = false := by simp; omega
    rw [sig_odd _ (by omega) (by omega)]
    clear h0
    go_enter Try.func104, Try.ntmps104
    go_wp2
    go_ret2
    exact ⟨rfl, rfl⟩
  have d2 : decide ((194 : Int) ≤ ((s[0]'hs).toNat : Int)) = true := by simp; omega
  by_cases c3 : (s[0]'hs).toNat < 224
  · have d3 : decide (((s[0]'hs).toNat : Int) < 224) = true := by simp; omega
    have d4 : decide ((224 : Int) ≤ ((s[0]'hs).toNat : Int)) = false := by simp; omega
    have d5 : decide ((240 : Int) ≤ ((s[0]'hs).toNat : Int)) = false := by simp; omega
    by_cases c4 : s.size < 2
    · have d6 : decide ((s.size : Int) < 2) = true := by simp; omega
      have e : sig (byt s) = (65533, 1) := by
        exact sig_none _ (by omega) (by rw [byt_out (by omega)]; rfl)
      rw [e]
      clear e h0
      go_enter Try.func104, Try.ntmps104
      go_wp2
      go_ret2
      exact ⟨rfl, rfl⟩
    have d6 : decide ((s.size : Int) < 2) = false := by simp; omega
    have q1 : 1 < s.size := by omega
    have q1' : (1 : Int) < (s.size : Int) := by omega
    have h1 := byt_at3 q1
    have l1 : (s[1]'q1).toNat < 256 := UInt8.toNat_lt _
    have N1 : Hid (mid (s[1]'q1).toNat = false → sig (byt s) = (65533, 1)) := fun h => sig_none _ (by omega) (by rw [h1]; exact h)
    have Y : Hid (∀ c : Nat, mid (s[1]'q1).toNat = true → c = ((s[0]'hs).toNat - 192) * 64 + ((s[1]'q1).toNat - 128) → sig (byt s) = (c, 2)) := fun c m1 hc => sig_is2 _ (by omega) (by omega) (by rw [h1]; exact m1) (by rw [h0, h1]; exact hc)
    clear h0 h1
    generalize sig (byt s) = r at *
    go_enter Try.func104, Try.ntmps104
    go_wp2
    go_loop [7, 8] (fun v i => (i = .int .i64 1 ∧ ∃ c : Nat, v = .int .i64 (c : Int) ∧ c = ((s[0]'hs).toNat - 192) * 1) ∨ (i = .int .i64 2 ∧ mid (s[1]'q1).toNat = true ∧ ∃ c : Nat, v = .int .i64 (c : Int) ∧ c = ((s[0]'hs).toNat - 192) * 64 + ((s[1]'q1).toNat - 128) * 1)) (fun _ i => 2 - (intOf i).toNat)
    case atStart => exact .inl ⟨rfl, (s[0]'hs).toNat - 192, by go_num, by omega⟩
    case round =>
      rcases hrel with ⟨rfl, c, rfl, hc⟩ | ⟨rfl, m1, c, rfl, hc⟩
      · by_cases hm : mid (s[1]'q1).toNat = true
        · have hm1 := mid_of hm
          have t1 : decide (((s[1]'q1).toNat : Int) < 128) = false := by simp; omega
          have t2 : decide ((191 : Int) < ((s[1]'q1).toNat : Int)) = false := by simp; omega
          go_wp2
          go_round
          case rel => exact .inr ⟨rfl, hm, c * 64 + ((s[1]'q1).toNat - 128), by go_num, by omega⟩
          case measure => simp [intOf]
        · have hm0 : mid (s[1]'q1).toNat = false := by simpa using hm
          obtain rfl := N1.out hm0
          rcases mid_no hm0 with g | g
          · have t1 : decide (((s[1]'q1).toNat : Int) < 128) = true := by simp; omega
            go_wp2
            go_ret2
            exact ⟨rfl, rfl⟩
          · have t1 : decide (((s[1]'q1).toNat : Int) < 128) = false := by simp; omega
            have t2 : decide ((191 : Int) < ((s[1]'q1).toNat : Int)) = true := by simp; omega
            go_wp2
            go_ret2
            exact ⟨rfl, rfl⟩
      · have hr := Y.out c m1 (by omega)
        have u1 := mid_of m1
        subst hr
        have t1 : decide ((c : Int) < 128) = false := by simp; omega
        have t2 : decide ((1114111 : Int) < (c : Int)) = false := by simp; omega
        have t3 : decide ((55296 : Int) ≤ (c : Int)) = false := by simp; omega
        go_wp2
        go_ret2
        exact ⟨rfl, rfl⟩
  have d3 : decide (((s[0]'hs).toNat : Int) < 224) = false := by simp; omega
  have d4 : decide ((224 : Int) ≤ ((s[0]'hs).toNat : Int)) = true := by simp; omega
  by_cases c5 : (s[0]'hs).toNat < 240
  · have d5 : decide (((s[0]'hs).toNat : Int) < 240) = true := by simp; omega
    have d5' : decide ((240 : Int) ≤ ((s[0]'hs).toNat : Int)) = false := by simp; omega
    by_cases c4 : s.size < 3
    · have d6 : decide ((s.size : Int) < 3) = true := by simp; omega
      have e : sig (byt s) = (65533, 1) := by
        exact sig_no2 _ (by omega) (by rw [byt_out (by omega)]; rfl)
      rw [e]
      clear e h0
      go_enter Try.func104, Try.ntmps104
      go_wp2
      go_ret2
      exact ⟨rfl, rfl⟩
    have d6 : decide ((s.size : Int) < 3) = false := by simp; omega
    have q1 : 1 < s.size := by omega
    have q1' : (1 : Int) < (s.size : Int) := by omega
    have h1 := byt_at3 q1
    have l1 : (s[1]'q1).toNat < 256 := UInt8.toNat_lt _
    have q2 : 2 < s.size := by omega
    have q2' : (2 : Int) < (s.size : Int) := by omega
    have h2 := byt_at3 q2
    have l2 : (s[2]'q2).toNat < 256 := UInt8.toNat_lt _
    have N1 : Hid (mid (s[1]'q1).toNat = false → sig (byt s) = (65533, 1)) := fun h => sig_none _ (by omega) (by rw [h1]; exact h)
    have N2 : Hid (mid (s[2]'q2).toNat = false → sig (byt s) = (65533, 1)) := fun h => sig_no2 _ (by omega) (by rw [h2]; exact h)
    have Y : Hid (∀ c : Nat, mid (s[1]'q1).toNat = true → mid (s[2]'q2).toNat = true → c = ((s[0]'hs).toNat - 224) * 4096 + ((s[1]'q1).toNat - 128) * 64 + ((s[2]'q2).toNat - 128) → sig (byt s) = if 2048 ≤ c ∧ ¬ (55296 ≤ c ∧ c < 57344) then (c, 3) else (65533, 1)) := fun c m1 m2 hc => sig_is3 _ (by omega) (by omega) (by rw [h1]; exact m1) (by rw [h2]; exact m2) (by rw [h0, h1, h2]; exact hc)
    clear h0 h1 h2
    generalize sig (byt s) = r at *
    go_enter Try.func104, Try.ntmps104
    go_wp2
    go_loop [7, 8] (fun v i => (i = .int .i64 1 ∧ ∃ c : Nat, v = .int .i64 (c : Int) ∧ c = ((s[0]'hs).toNat - 224) * 1) ∨ (i = .int .i64 2 ∧ mid (s[1]'q1).toNat = true ∧ ∃ c : Nat, v = .int .i64 (c : Int) ∧ c = ((s[0]'hs).toNat - 224) * 64 + ((s[1]'q1).toNat - 128) * 1) ∨ (i = .int .i64 3 ∧ mid (s[1]'q1).toNat = true ∧ mid (s[2]'q2).toNat = true ∧ ∃ c : Nat, v = .int .i64 (c : Int) ∧ c = ((s[0]'hs).toNat - 224) * 4096 + ((s[1]'q1).toNat - 128) * 64 + ((s[2]'q2).toNat - 128) * 1)) (fun _ i => 3 - (intOf i).toNat)
    case atStart => exact .inl ⟨rfl, (s[0]'hs).toNat - 224, by go_num, by omega⟩
    case round =>
      rcases hrel with ⟨rfl, c, rfl, hc⟩ | ⟨rfl, m1, c, rfl, hc⟩ | ⟨rfl, m1, m2, c, rfl, hc⟩
      · by_cases hm : mid (s[1]'q1).toNat = true
        · have hm1 := mid_of hm
          have t1 : decide (((s[1]'q1).toNat : Int) < 128) = false := by simp; omega
          have t2 : decide ((191 : Int) < ((s[1]'q1).toNat : Int)) = false := by simp; omega
          go_wp2
          go_round
          case rel => exact .inr (.inl ⟨rfl, hm, c * 64 + ((s[1]'q1).toNat - 128), by go_num, by omega⟩)
          case measure => simp [intOf]
        · have hm0 : mid (s[1]'q1).toNat = false := by simpa using hm
          obtain rfl := N1.out hm0
          rcases mid_no hm0 with g | g
          · have t1 : decide (((s[1]'q1).toNat : Int) < 128) = true := by simp; omega
            go_wp2
            go_ret2
            exact ⟨rfl, rfl⟩
          · have t1 : decide (((s[1]'q1).toNat : Int) < 128) = false := by simp; omega
            have t2 : decide ((191 : Int) < ((s[1]'q1).toNat : Int)) = true := by simp; omega
            go_wp2
            go_ret2
            exact ⟨rfl, rfl⟩
      · by_cases hm : mid (s[2]'q2).toNat = true
        · have hm1 := mid_of hm
          have t1 : decide (((s[2]'q2).toNat : Int) < 128) = false := by simp; omega
          have t2 : decide ((191 : Int) < ((s[2]'q2).toNat : Int)) = false := by simp; omega
          go_wp2
          go_round
          case rel => exact .inr (.inr ⟨rfl, m1, hm, c * 64 + ((s[2]'q2).toNat - 128), by go_num, by omega⟩)
          case measure => simp [intOf]
        · have hm0 : mid (s[2]'q2).toNat = false := by simpa using hm
          obtain rfl := N2.out hm0
          rcases mid_no hm0 with g | g
          · have t1 : decide (((s[2]'q2).toNat : Int) < 128) = true := by simp; omega
            go_wp2
            go_ret2
            exact ⟨rfl, rfl⟩
          · have t1 : decide (((s[2]'q2).toNat : Int) < 128) = false := by simp; omega
            have t2 : decide ((191 : Int) < ((s[2]'q2).toNat : Int)) = true := by simp; omega
            go_wp2
            go_ret2
            exact ⟨rfl, rfl⟩
      · have hr := Y.out c m1 m2 (by omega)
        have u1 := mid_of m1
        have u2 := mid_of m2
        have hcb : c ≤ 1114111 := by omega
        clear hc Y N1 N2 m1 u1 m2 u2
        by_cases g1 : c < 2048
        · rw [if_neg (by omega)] at hr
          subst hr
          have t1 : decide ((c : Int) < 2048) = true := by simp; omega
          go_wp2
          go_ret2
          exact ⟨rfl, rfl⟩
        have t1 : decide ((c : Int) < 2048) = false := by simp; omega
        have t2 : decide ((1114111 : Int) < (c : Int)) = false := by simp; omega
        by_cases g2 : c < 55296
        · rw [if_pos (by omega)] at hr
          subst hr
          have t3 : decide ((55296 : Int) ≤ (c : Int)) = false := by simp; omega
          go_wp2
          go_ret2
          exact ⟨rfl, rfl⟩
        have t3 : decide ((55296 : Int) ≤ (c : Int)) = true := by simp; omega
        by_cases g3 : c ≤ 57343
        · rw [if_neg (by omega)] at hr
          subst hr
          have t4 : decide ((c : Int) ≤ 57343) = true := by simp; omega
          go_wp2
          go_ret2
          exact ⟨rfl, rfl⟩
        · rw [if_pos (by omega)] at hr
          subst hr
          have t4 : decide ((c : Int) ≤ 57343) = false := by simp; omega
          go_wp2
          go_ret2
          exact ⟨rfl, rfl⟩
  have d5 : decide (((s[0]'hs).toNat : Int) < 240) = false := by simp; omega
  have d5' : decide ((240 : Int) ≤ ((s[0]'hs).toNat : Int)) = true := by simp; omega
  by_cases c6 : (s[0]'hs).toNat < 245
  · have d7 : decide (((s[0]'hs).toNat : Int) < 245) = true := by simp; omega
    by_cases c4 : s.size < 4
    · have d6 : decide ((s.size : Int) < 4) = true := by simp; omega
      have e : sig (byt s) = (65533, 1) := by
        exact sig_no3 _ (by omega) (by rw [byt_out (by omega)]; rfl)
      rw [e]
      clear e h0
      go_enter Try.func104, Try.ntmps104
      go_wp2
      go_ret2
      exact ⟨rfl, rfl⟩
    have d6 : decide ((s.size : Int) < 4) = false := by simp; omega
    have q1 : 1 < s.size := by omega
    have q1' : (1 : Int) < (s.size : Int) := by omega
    have h1 := byt_at3 q1
    have l1 : (s[1]'q1).toNat < 256 := UInt8.toNat_lt _
    have q2 : 2 < s.size := by omega
    have q2' : (2 : Int) < (s.size : Int) := by omega
    have h2 := byt_at3 q2
    have l2 : (s[2]'q2).toNat < 256 := UInt8.toNat_lt _
    have q3 : 3 < s.size := by omega
    have q3' : (3 : Int) < (s.size : Int) := by omega
    have h3 := byt_at3 q3
    have l3 : (s[3]'q3).toNat < 256 := UInt8.toNat_lt _
    have N1 : Hid (mid (s[1]'q1).toNat = false → sig (byt s) = (65533, 1)) := fun h => sig_none _ (by omega) (by rw [h1]; exact h)
    have N2 : Hid (mid (s[2]'q2).toNat = false → sig (byt s) = (65533, 1)) := fun h => sig_no2 _ (by omega) (by rw [h2]; exact h)
    have N3 : Hid (mid (s[3]'q3).toNat = false → sig (byt s) = (65533, 1)) := fun h => sig_no3 _ (by omega) (by rw [h3]; exact h)
    have Y : Hid (∀ c : Nat, mid (s[1]'q1).toNat = true → mid (s[2]'q2).toNat = true → mid (s[3]'q3).toNat = true → c = ((s[0]'hs).toNat - 240) * 262144 + ((s[1]'q1).toNat - 128) * 4096 + ((s[2]'q2).toNat - 128) * 64 + ((s[3]'q3).toNat - 128) → sig (byt s) = if 65536 ≤ c ∧ c < 1114112 then (c, 4) else (65533, 1)) := fun c m1 m2 m3 hc => sig_is4 _ (by omega) (by omega) (by rw [h1]; exact m1) (by rw [h2]; exact m2) (by rw [h3]; exact m3) (by rw [h0, h1, h2, h3]; exact hc)
    clear h0 h1 h2 h3
    generalize sig (byt s) = r at *
    go_enter Try.func104, Try.ntmps104
    go_wp2
    go_loop [7, 8] (fun v i => (i = .int .i64 1 ∧ ∃ c : Nat, v = .int .i64 (c : Int) ∧ c = ((s[0]'hs).toNat - 240) * 1) ∨ (i = .int .i64 2 ∧ mid (s[1]'q1).toNat = true ∧ ∃ c : Nat, v = .int .i64 (c : Int) ∧ c = ((s[0]'hs).toNat - 240) * 64 + ((s[1]'q1).toNat - 128) * 1) ∨ (i = .int .i64 3 ∧ mid (s[1]'q1).toNat = true ∧ mid (s[2]'q2).toNat = true ∧ ∃ c : Nat, v = .int .i64 (c : Int) ∧ c = ((s[0]'hs).toNat - 240) * 4096 + ((s[1]'q1).toNat - 128) * 64 + ((s[2]'q2).toNat - 128) * 1) ∨ (i = .int .i64 4 ∧ mid (s[1]'q1).toNat = true ∧ mid (s[2]'q2).toNat = true ∧ mid (s[3]'q3).toNat = true ∧ ∃ c : Nat, v = .int .i64 (c : Int) ∧ c = ((s[0]'hs).toNat - 240) * 262144 + ((s[1]'q1).toNat - 128) * 4096 + ((s[2]'q2).toNat - 128) * 64 + ((s[3]'q3).toNat - 128) * 1)) (fun _ i => 4 - (intOf i).toNat)
    case atStart => exact .inl ⟨rfl, (s[0]'hs).toNat - 240, by go_num, by omega⟩
    case round =>
      rcases hrel with ⟨rfl, c, rfl, hc⟩ | ⟨rfl, m1, c, rfl, hc⟩ | ⟨rfl, m1, m2, c, rfl, hc⟩ | ⟨rfl, m1, m2, m3, c, rfl, hc⟩
      · by_cases hm : mid (s[1]'q1).toNat = true
        · have hm1 := mid_of hm
          have t1 : decide (((s[1]'q1).toNat : Int) < 128) = false := by simp; omega
          have t2 : decide ((191 : Int) < ((s[1]'q1).toNat : Int)) = false := by simp; omega
          go_wp2
          go_round
          case rel => exact .inr (.inl ⟨rfl, hm, c * 64 + ((s[1]'q1).toNat - 128), by go_num, by omega⟩)
          case measure => simp [intOf]
        · have hm0 : mid (s[1]'q1).toNat = false := by simpa using hm
          obtain rfl := N1.out hm0
          rcases mid_no hm0 with g | g
          · have t1 : decide (((s[1]'q1).toNat : Int) < 128) = true := by simp; omega
            go_wp2
            go_ret2
            exact ⟨rfl, rfl⟩
          · have t1 : decide (((s[1]'q1).toNat : Int) < 128) = false := by simp; omega
            have t2 : decide ((191 : Int) < ((s[1]'q1).toNat : Int)) = true := by simp; omega
            go_wp2
            go_ret2
            exact ⟨rfl, rfl⟩
      · by_cases hm : mid (s[2]'q2).toNat = true
        · have hm1 := mid_of hm
          have t1 : decide (((s[2]'q2).toNat : Int) < 128) = false := by simp; omega
          have t2 : decide ((191 : Int) < ((s[2]'q2).toNat : Int)) = false := by simp; omega
          go_wp2
          go_round
          case rel => exact .inr (.inr (.inl ⟨rfl, m1, hm, c * 64 + ((s[2]'q2).toNat - 128), by go_num, by omega⟩))
          case measure => simp [intOf]
        · have hm0 : mid (s[2]'q2).toNat = false := by simpa using hm
          obtain rfl := N2.out hm0
          rcases mid_no hm0 with g | g
          · have t1 : decide (((s[2]'q2).toNat : Int) < 128) = true := by simp; omega
            go_wp2
            go_ret2
            exact ⟨rfl, rfl⟩
          · have t1 : decide (((s[2]'q2).toNat : Int) < 128) = false := by simp; omega
            have t2 : decide ((191 : Int) < ((s[2]'q2).toNat : Int)) = true := by simp; omega
            go_wp2
            go_ret2
            exact ⟨rfl, rfl⟩
      · by_cases hm : mid (s[3]'q3).toNat = true
        · have hm1 := mid_of hm
          have t1 : decide (((s[3]'q3).toNat : Int) < 128) = false := by simp; omega
          have t2 : decide ((191 : Int) < ((s[3]'q3).toNat : Int)) = false := by simp; omega
          go_wp2
          go_round
          case rel => exact .inr (.inr (.inr ⟨rfl, m1, m2, hm, c * 64 + ((s[3]'q3).toNat - 128), by go_num, by omega⟩))
          case measure => simp [intOf]
        · have hm0 : mid (s[3]'q3).toNat = false := by simpa using hm
          obtain rfl := N3.out hm0
          rcases mid_no hm0 with g | g
          · have t1 : decide (((s[3]'q3).toNat : Int) < 128) = true := by simp; omega
            go_wp2
            go_ret2
            exact ⟨rfl, rfl⟩
          · have t1 : decide (((s[3]'q3).toNat : Int) < 128) = false := by simp; omega
            have t2 : decide ((191 : Int) < ((s[3]'q3).toNat : Int)) = true := by simp; omega
            go_wp2
            go_ret2
            exact ⟨rfl, rfl⟩
      · have hr := Y.out c m1 m2 m3 (by omega)
        have u1 := mid_of m1
        have u2 := mid_of m2
        have u3 := mid_of m3
        have hcb : c ≤ 2000000 := by omega
        clear hc Y N1 N2 N3 m1 u1 m2 u2 m3 u3
        by_cases g1 : c < 65536
        · rw [if_neg (by omega)] at hr
          subst hr
          have t1 : decide ((c : Int) < 65536) = true := by simp; omega
          go_wp2
          go_ret2
          exact ⟨rfl, rfl⟩
        have t1 : decide ((c : Int) < 65536) = false := by simp; omega
        by_cases g2 : 1114111 < c
        · rw [if_neg (by omega)] at hr
          subst hr
          have t2 : decide ((1114111 : Int) < (c : Int)) = true := by simp; omega
          go_wp2
          go_ret2
          exact ⟨rfl, rfl⟩
        · rw [if_pos (by omega)] at hr
          subst hr
          have t2 : decide ((1114111 : Int) < (c : Int)) = false := by simp; omega
          have t3 : decide ((55296 : Int) ≤ (c : Int)) = true := by simp; omega
          have t4 : decide ((c : Int) ≤ 57343) = false := by simp; omega
          go_wp2
          go_ret2
          exact ⟨rfl, rfl⟩
  · have d7 : decide (((s[0]'hs).toNat : Int) < 245) = false := by simp; omega
    rw [sig_odd _ (by omega) (by omega)]
    clear h0
    go_enter Try.func104, Try.ntmps104
    go_wp2
    go_ret2
    exact ⟨rfl, rfl⟩
end Go.Proofs.Yteafbdebmhpffaa
