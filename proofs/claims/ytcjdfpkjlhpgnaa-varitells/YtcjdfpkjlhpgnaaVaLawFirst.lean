/- VariFirst's walk. -/
import Derived.Test.YtcjdfpkjlhpgnaaVaLawOrder
import Derived.Test.YtcjdfpkjlhpgnaaSched
namespace Go.Proofs.Ytcjdfpkjlhpgnaa
open Go.RowKit

/-- vari.All by its form: always a slice value. -/
theorem all_form (A : Option Addr) (c n : Nat) (bs : List Nat) (w : World) (hn : bs.length = n) (hc : n ≤ c) (hb : ∀ x ∈ bs, x < 256) (hlen : n ≤ 1048576) (hr : Rd w A (u8s bs)) :
    Calls Try.prog 13 #[.slice A n c] w fun e w' => ∃ A' c', e = .returned (.tuple #[.slice A' ((allL bs).getD []).length c', .bool (allL bs).isSome]) ∧ (0 < ((allL bs).getD []).length → ∃ g, A' = some ⟨g, 0, none⟩) ∧ Rd w' A' (u64s ((allL bs).getD [])) ∧ Below w.heap.size w w' := by
  subst hn
  refine (all_any A c bs w hc hb hlen hr).mono fun e w' ⟨v, he, hown, hbe⟩ => ?_
  rcases Nat.eq_zero_or_pos ((allL bs).getD []).length with h0 | h0
  · rcases hown.2 with ⟨rfl, _⟩ | ⟨g, cap, cur, rfl, _⟩
    · exact ⟨none, 0, by rw [he, h0], fun h => by omega, by rw [List.eq_nil_of_length_eq_zero h0]; exact .inl rfl, hbe⟩
    · exact ⟨_, cap, he, fun h => by omega, Rd.own hown, hbe⟩
  · obtain ⟨g, cap, rfl, _⟩ := own_open hown h0
    exact ⟨_, cap, he, fun _ => ⟨g, rfl⟩, Rd.own hown, hbe⟩

/-- .. of bytes that are no numbers; and of bytes that are. -/
theorem all_bad (A : Option Addr) (c n : Nat) (bs : List Nat) (w : World) (hn : bs.length = n) (hc : n ≤ c) (hb : ∀ x ∈ bs, x < 256) (hlen : n ≤ 1048576) (hr : Rd w A (u8s bs)) (h : allL bs = none) :
    Calls Try.prog 13 #[.slice A n c] w fun e w' => ∃ A' c', e = .returned (.tuple #[.slice A' 0 c', .bool false]) ∧ Below w.heap.size w w' :=
  (all_form A c n bs w hn hc hb hlen hr).mono fun e w' ⟨A', c', he, _, _, hbe⟩ => by
    rw [h] at he
    exact ⟨A', c', he, hbe⟩
theorem all_good (A : Option Addr) (c n : Nat) (bs ls : List Nat) (w : World) (hn : bs.length = n) (hc : n ≤ c) (hb : ∀ x ∈ bs, x < 256) (hlen : n ≤ 1048576) (hr : Rd w A (u8s bs)) (h : allL bs = some ls) :
    Calls Try.prog 13 #[.slice A n c] w fun e w' => ∃ A' c', e = .returned (.tuple #[.slice A' ls.length c', .bool true]) ∧ (0 < ls.length → ∃ g, A' = some ⟨g, 0, none⟩) ∧ Rd w' A' (u64s ls) ∧ Below w.heap.size w w' :=
  (all_form A c n bs w hn hc hb hlen hr).mono fun e w' ⟨A', c', he, hg, hr', hbe⟩ => by
    rw [h] at he hg hr'
    exact ⟨A', c', he, hg, hr', hbe⟩

set_option maxRecDepth 100000 in
set_option maxHeartbeats 1000000 in
theorem first_none (w : World) (A : Option Addr) (c : Nat) (bs : List Nat) (hl : bs.length ≤ c) (h300 : bs.length ≤ 300) (hb : ∀ x ∈ bs, x < 256) (hr : Rd w A (u8s bs)) (hk : getL bs = (0, 0)) :
    Calls Try.prog 9 #[.slice A bs.length c] w fun e w' => e = .returned (.bool true) ∧ Below w.heap.size w w' := by
  have h300' : decide ((300 : Int) < (bs.length : Int)) = false := by simp; omega
  by_cases hbn : bs = []
  · have hall : allL bs = some [] := by rw [hbn]; exact allL_nil
    have h0 : ((bs.length : Int) == 0) = true := by rw [hbn]; rfl
    have HA := Lib.hid (fun w h => all_good A c bs.length bs [] w rfl hl hb (by omega) h hall)
    have HG := Lib.hid (fun w h => get_len A c bs.length bs w rfl hb h (by omega))
    rw [hk] at HG
    clear hbn hall hk
    go_enter Try.func9, Try.ntmps9
    go_wp2_with fail
    refine (awake_any _).mono ?_
    rintro e w1 ⟨rfl, hb1⟩
    have hr1 := hr.below hb1
    go_wp2_with fail
    refine (HA.out _ hr1).mono ?_
    rintro e w2 ⟨A', c', rfl, _, _, hb2⟩
    have hr2 := hr1.below hb2
    go_wp2_with fail
    refine (HG.out _ hr2).mono ?_
    rintro e w3 ⟨rfl, rfl⟩
    go_wp2
    go_ret
    exact ⟨rfl, hb1.trans (hb2.mono hb1.size)⟩
  · have hall : allL bs = none := allL_none bs hbn (by rw [hk])
    have h0 : ((bs.length : Int) == 0) = false := by
      have : 0 < bs.length := List.length_pos_iff.2 hbn
      simp; omega
    have HA := Lib.hid (fun w h => all_bad A c bs.length bs w rfl hl hb (by omega) h hall)
    have HG := Lib.hid (fun w h => get_len A c bs.length bs w rfl hb h (by omega))
    rw [hk] at HG
    clear hbn hall hk
    go_enter Try.func9, Try.ntmps9
    go_wp2_with fail
    refine (awake_any _).mono ?_
    rintro e w1 ⟨rfl, hb1⟩
    have hr1 := hr.below hb1
    go_wp2_with fail
    refine (HA.out _ hr1).mono ?_
    rintro e w2 ⟨A', c', rfl, hb2⟩
    have hr2 := hr1.below hb2
    go_wp2_with fail
    refine (HG.out _ hr2).mono ?_
    rintro e w3 ⟨rfl, rfl⟩
    go_wp2
    go_ret
    exact ⟨rfl, hb1.trans (hb2.mono hb1.size)⟩

set_option maxRecDepth 100000 in
set_option maxHeartbeats 1000000 in
theorem first_some (w : World) (A : Option Addr) (c : Nat) (bs : List Nat) (hl : bs.length ≤ c) (h300 : bs.length ≤ 300) (hb : ∀ x ∈ bs, x < 256) (hr : Rd w A (u8s bs)) (y k : Nat) (hg : getL bs = (y, k)) (hk : k ≠ 0) :
    Calls Try.prog 9 #[.slice A bs.length c] w fun e w' => e = .returned (.bool true) ∧ Below w.heap.size w w' := by
  have h300' : decide ((300 : Int) < (bs.length : Int)) = false := by simp; omega
  have hle := getL_le bs hb
  rw [hg] at hle
  dsimp only at hle
  have h0 : ((bs.length : Int) == 0) = false := beq_eq_false_iff_ne.2 (by omega)
  have hk1 : decide ((k : Int) ≤ 0) = false := by simp; omega
  have hk2 : decide ((bs.length : Int) < (k : Int)) = false := by simp; omega
  have hk3 : k ≤ bs.length := by omega
  have hk4 : k ≤ 10 := by omega
  have hy4 : y < 18446744073709551616 := by omega
  obtain ⟨b, off, rfl, _, _⟩ := hr.at (k := 0) (by simp; omega)
  have hall := allL_some bs (by rw [hg]; exact hk)
  rw [hg] at hall
  dsimp only at hall
  have HG := Lib.hid (fun w h => get_len (some ⟨b, off, none⟩) c bs.length bs w rfl hb h (by omega))
  rw [hg] at HG
  have hbd : ∀ x ∈ bs.drop k, x < 256 := fun x hx => hb x (List.mem_of_mem_drop hx)
  have hld : (bs.drop k).length = bs.length - k := List.length_drop
  have Hd : Hid (∀ W, Rd W (some ⟨b, off, none⟩) (u8s bs) → Rd W (some ⟨b, off + k, none⟩) (u8s (bs.drop k))) := Lib.hid fun W h => by rw [← u8s_drop]; exact h.drop k
  cases hrest : allL (bs.drop k) with
  | none =>
    rw [hrest] at hall
    have hck : ¬ c = k := by
      intro e
      have : bs.drop k = [] := List.drop_eq_nil_of_le (by omega)
      rw [this, allL_nil] at hrest
      cases hrest
    have HA := Lib.hid (fun w h => all_bad (some ⟨b, off, none⟩) c bs.length bs w rfl hl hb (by omega) h hall)
    have HR := Lib.hid (fun w h => all_bad (some ⟨b, off + k, none⟩) (c - k) (bs.length - k) (bs.drop k) w hld (by omega) hbd (by omega) h hrest)
    clear hall hrest hg hld hbd hle
    go_enter Try.func9, Try.ntmps9
    go_wp2_with fail
    refine (awake_any _).mono ?_
    rintro e w1 ⟨rfl, hb1⟩
    have hr1 := hr.below hb1
    go_wp2_with fail
    refine (HA.out _ hr1).mono ?_
    rintro e w2 ⟨A', c', rfl, hb2⟩
    have hr2 := hr1.below hb2
    go_wp2_with fail
    refine (HG.out _ hr2).mono ?_
    rintro e w3 ⟨rfl, rfl⟩
    go_wp2_with fail
    refine (HR.out _ (Hd.out _ hr2)).mono ?_
    rintro e w3 ⟨A3, c3, rfl, hb3⟩
    have hB : Below w.heap.size w w3 := (hb1.trans (hb2.mono hb1.size)).trans (hb3.mono (Nat.le_trans hb1.size hb2.size))
    go_wp2
    refine wp_loop_rounds 1 ?_
    rw [rounds_succ]
    go_wp2
    go_ret
    exact ⟨rfl, hB⟩
  | some rs =>
    rw [hrest] at hall
    have hrl : rs.length ≤ 300 := by
      have := numL_len bs.length (bs.drop k) (by rw [hld]; omega)
      have h2 := numL_all bs.length (bs.drop k) (by rw [hld]; omega)
      by_cases hbad : ∃ p ∈ numL (bs.drop k), p.2 = 0
      · rw [h2.2 hbad] at hrest; cases hrest
      · have h3 := h2.1 (fun p hp h => hbad ⟨p, hp, h⟩)
        rw [h3] at hrest
        injection hrest with hrest
        rw [← hrest, List.length_map]
        omega
    have hall' : allL bs = some (y :: rs) := hall
    obtain ⟨Ad, CK, hRd, hCK, hcase⟩ : ∃ (Ad : Option Addr) (CK : Nat), (∀ W, Rd W (some ⟨b, off, none⟩) (u8s bs) → Rd W Ad (u8s (bs.drop k))) ∧ bs.length - k ≤ CK ∧ ((c = k ∧ Ad = some ⟨b, off, none⟩ ∧ CK = 0) ∨ (¬ c = k ∧ Ad = some ⟨b, off + k, none⟩ ∧ CK = c - k)) := by
      by_cases hck : c = k
      · exact ⟨_, 0, fun W _ => .inl (by rw [List.drop_eq_nil_of_le (by omega)]; rfl), by omega, .inl ⟨hck, rfl, rfl⟩⟩
      · exact ⟨_, c - k, Hd.out, by omega, .inr ⟨hck, rfl, rfl⟩⟩
    have HA := Lib.hid (fun w h => all_good (some ⟨b, off, none⟩) c bs.length bs (y :: rs) w rfl hl hb (by omega) h hall')
    have HR := Lib.hid (fun w h => all_good Ad CK (bs.length - k) (bs.drop k) rs w hld hCK hbd (by omega) h hrest)
    have HRd := Lib.hid hRd
    have Hcase := Lib.hid hcase
    clear hall hall' hrest hg hld hbd hle hRd hcase hCK
    go_enter Try.func9, Try.ntmps9
    go_wp2_with fail
    refine (awake_any _).mono ?_
    rintro e w1 ⟨rfl, hb1⟩
    have hr1 := hr.below hb1
    go_wp2_with fail
    refine (HA.out _ hr1).mono ?_
    rintro e w2 ⟨A', c', rfl, hA', hrA, hb2⟩
    obtain ⟨g, rfl⟩ := hA' (by simp)
    have hr2 := hr1.below hb2
    go_wp2_with fail
    refine (HG.out _ hr2).mono ?_
    rintro e w3 ⟨rfl, rfl⟩
    clear hA'
    rcases Hcase.out with ⟨hck, rfl, rfl⟩ | ⟨hck, rfl, rfl⟩
    all_goals
      go_wp2_with fail
      refine (HR.out _ (HRd.out _ hr2)).mono ?_
      rintro e w3 ⟨A3, c3, rfl, hA3, hr3, hb3⟩
      have hB : Below w.heap.size w w3 := (hb1.trans (hb2.mono hb1.size)).trans (hb3.mono (Nat.le_trans hb1.size hb2.size))
      have hrA3 := hrA.below hb3
      have hy1 : w3.cell? ⟨g, 0, none⟩ = some (.int .u64 (y : Int)) := by
        have := rd_u64 hrA3 (k := 0) (by simp)
        simpa using this
      have HA3 := Lib.hid hA3
      clear hA3
      go_wp2
      go_loopw [10] (fun v wr => ∃ (j q : Nat), v = .int .i64 (j : Int) ∧ j ≤ rs.length ∧ wr = w3.drewN q) (fun v _ => rs.length - (intOf v).toNat)
      case atStart => exact ⟨0, 0, rfl, Nat.zero_le _, rfl⟩
      case round =>
        obtain ⟨j, q, rfl, hj, rfl⟩ := hrel
        by_cases hjl : j < rs.length
        · obtain ⟨g3, e3⟩ := HA3.out (by omega)
          subst e3
          have hc1 : w3.cell? ⟨g, j + 1, none⟩ = some (.int .u64 ((rs.getD j 0 : Nat) : Int)) := by
            have := rd_u64 hrA3 (k := j + 1) (by simp; omega)
            simpa using this
          have hc2 : w3.cell? ⟨g3, j, none⟩ = some (.int .u64 ((rs.getD j 0 : Nat) : Int)) := rd_u64 hr3 hjl
          generalize rs.getD j 0 = x at *
          have hj1 : (j : Int) < (rs.length : Int) := by omega
          have hj2 : (j : Int) + 1 < (rs.length : Int) + 1 := by omega
          have hj3 : IntKind.i64.wrap ((j : Int) + 1) = (j : Int) + 1 := IntWalk.i64_in _ (by omega)
          have hj4 : ((j : Int) + 1).toNat = j + 1 := by omega
          have hj5 : (0 : Int) ≤ (j : Int) + 1 := by omega
          go_wp2_with fail
          go_quiet (fail)
          go_wp2
          go_roundw
          case rel => exact ⟨j + 1, _, by go_num, by omega, rfl⟩
          case measure => simp [intOf]; omega
        · go_wp2
          go_ret
          exact ⟨rfl, below_drewN hB _⟩

theorem variFirst_walk (w : World) (A : Option Addr) (c : Nat) (bs : List Nat) (hl : bs.length ≤ c) (_hm : c ≤ maxLen) (hb : ∀ x ∈ bs, x < 256) (hr : Rd w A (u8s bs)) :
    Calls Try.prog 9 #[.slice A bs.length c] w fun e w' => e = .returned (.bool true) ∧ Below w.heap.size w w' := by
  by_cases h300 : bs.length ≤ 300
  · by_cases hk : (getL bs).2 = 0
    · exact first_none w A c bs hl h300 hb hr (Prod.ext (getL_zero bs hk) hk)
    · exact first_some w A c bs hl h300 hb hr _ _ rfl hk
  · go_enter Try.func9, Try.ntmps9
    go_wp2_with fail
    refine (awake_any _).mono ?_
    rintro e w1 ⟨rfl, hb1⟩
    go_wp2
    go_ret
    exact ⟨rfl, hb1⟩
end Go.Proofs.Ytcjdfpkjlhpgnaa
