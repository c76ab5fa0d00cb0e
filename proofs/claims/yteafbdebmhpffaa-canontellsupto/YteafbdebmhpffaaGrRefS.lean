/- The contracts of the document's own Has, Ints and Find (layer 8). Nothing that was there is changed. No condition. -/
import Derived.Test.YteafbdebmhpffaaGrSame
import Derived.Test.YteafbdebmhpffaaGrOwn
namespace Go.Proofs.Yteafbdebmhpffaa
open Go.RowKit

set_option maxRecDepth 100000 in
set_option maxHeartbeats 1000000 in
theorem rhas_any (A : Option Addr) (n c : Nat) (l : List Int) (x : Int) (w : World) (h : rIds (All w) w [.slice A n c] l) :
    Calls Try.prog 22 #[.slice A n c, .int .i64 x] w fun e w' => e = .returned (.bool (decide (x ∈ l))) ∧ w' = w := by
  obtain ⟨hn, hnc, hcm⟩ := slice_len h
  simp only [maxLen] at hcm
  go_enter Try.func22, Try.ntmps22
  go_wp2
  go_loopw [5] (fun iv w' => ∃ i : Nat, i ≤ n ∧ iv = .int .i64 (i : Int) ∧ w' = w ∧ ∀ j, j < i → l[j]? ≠ some x) (fun iv _ => n - (intOf iv).toNat)
  case atStart => exact ⟨0, by omega, rfl, rfl, fun j hj => by omega⟩
  case round =>
    obtain ⟨i, hi, rfl, rfl, hno⟩ := hrel
    by_cases hin : i < n
    · obtain ⟨y, hy⟩ : ∃ y, l[i]? = some y := ⟨_, List.getElem?_eq_getElem (by omega)⟩
      obtain ⟨b, off, rfl, hb, hc, -⟩ := id_at h hy
      have hil : (i : Int) < (n : Int) := by omega
      have hi0 : (0 : Int) ≤ (i : Int) := by omega
      by_cases he : y = x
      · have he' : (y == x) = true := by simp [he]
        have Hr : Hid (decide (x ∈ l) = true) := Lib.hid (decide_eq_true (by rw [← he]; exact List.mem_of_getElem? hy))
        clear hno he hy
        go_wp2
        go_ret
        exact ⟨by rw [Hr.out]; rfl, rfl⟩
      · have he' : (y == x) = false := by simp [he]
        have Hr : Hid (∀ j, j < i + 1 → l[j]? ≠ some x) := Lib.hid fun j hj => by
          by_cases hji : j < i
          · exact hno j hji
          · obtain rfl : j = i := by omega
            rw [hy]
            simpa using he
        clear hno he hy
        go_wp2
        go_roundw
        case rel => exact ⟨i + 1, by omega, by go_num, by trivial, Hr.out⟩
        case measure => simp [intOf]; omega
    · obtain rfl : i = n := by omega
      have Hr : Hid (decide (x ∈ l) = false) := Lib.hid (decide_eq_false fun hx => by
        obtain ⟨j, hj⟩ := List.getElem?_of_mem hx
        exact hno j (by have := (List.getElem?_eq_some_iff.1 hj).1; omega) hj)
      clear hno
      go_wp2
      go_ret
      exact ⟨by rw [Hr.out]; rfl, rfl⟩

set_option maxRecDepth 100000 in
set_option maxHeartbeats 2000000 in
theorem rints_any (A B : Option Addr) (n c m d : Nat) (l1 l2 : List Int) (w : World) (h1 : rIds (All w) w [.slice A n c] l1) (h2 : rIds (All w) w [.slice B m d] l2) :
    Calls Try.prog 12 #[.slice A n c, .slice B m d] w fun e w' => e = .returned (.bool (decide (l1 = l2))) ∧ Below w.heap.size w w' := by
  obtain ⟨hn, hnc, hcm⟩ := slice_len h1
  obtain ⟨hm, hmd, hdm⟩ := slice_len h2
  simp only [maxLen] at hcm hdm
  by_cases hnm : n = m
  · subst hnm
    have hnn : ((n : Int) != (n : Int)) = false := by simp
    go_enter Try.func12, Try.ntmps12
    go_wp2
    go_loopw [5] (fun iv w' => ∃ i : Nat, i ≤ n ∧ iv = .int .i64 (i : Int) ∧ Below w.heap.size w w' ∧ (∀ j, j < i → l1[j]? = l2[j]?)) (fun iv _ => n - (intOf iv).toNat)
    case atStart => exact ⟨0, by omega, rfl, Below.refl _ _, fun j hj => by omega⟩
    case round =>
      rename_i iv wr
      obtain ⟨i, hi, rfl, hB, hsame⟩ := hrel
      by_cases hin : i < n
      · have hl1 : l1[i]? = some l1[i] := List.getElem?_eq_getElem (by omega)
        have hl2 : l2[i]? = some l2[i] := List.getElem?_eq_getElem (by omega)
        obtain ⟨b1, off1, rfl, hb1, p1, _⟩ := id_at (ids_below hB h1) hl1
        obtain ⟨b2, off2, rfl, hb2, q1, _⟩ := id_at (ids_below hB h2) hl2
        have hil : (i : Int) < (n : Int) := by omega
        have hi0 : (0 : Int) ≤ (i : Int) := by omega
        have hne : l1[i] ≠ l2[i] → decide (l1 = l2) = false := fun he => decide_eq_false fun e => he (by subst e; rfl)
        have heq : l1[i] = l2[i] → ∀ j, j < i + 1 → l1[j]? = l2[j]? := fun he j hj => by
          by_cases hji : j < i
          · exact hsame j hji
          · obtain rfl : j = i := by omega
            rw [hl1, hl2, he]
        have Hne := Lib.hid hne
        have Heq := Lib.hid heq
        have HB := Lib.hid hB
        clear hne heq hl1 hl2 hsame hB h1 h2
        generalize l1[i] = F1 at *
        generalize l2[i] = F2 at *
        by_cases he : F1 = F2
        · have hq : (F1 != F2) = false := by simp [he]
          have Hq := Lib.hid (Heq.out he)
          clear Heq Hne he
          go_wp2
          go_quiet (fail)
          go_wp2
          go_roundw
          case rel => exact ⟨i + 1, by omega, by go_num, below_drewN HB.out _, Hq.out⟩
          case measure => simp [intOf]; omega
        · have hq : (F1 != F2) = true := by simp [he]
          have Hq := Lib.hid (Hne.out he)
          clear Heq Hne he
          go_wp2
          go_quiet (fail)
          go_wp2
          go_ret
          exact ⟨by rw [Hq.out]; rfl, below_drewN HB.out _⟩
      · obtain rfl : i = n := by omega
        have heq : l1 = l2 := List.ext_getElem? fun j => by
          by_cases hj : j < i
          · exact hsame j hj
          · rw [List.getElem?_eq_none (by omega), List.getElem?_eq_none (by omega)]
        have hd : decide (l1 = l2) = true := decide_eq_true heq
        have Hd := Lib.hid hd
        clear hd hsame heq
        go_wp2
        go_ret
        exact ⟨by rw [Hd.out]; rfl, hB⟩
  · have hd : decide (l1 = l2) = false := decide_eq_false fun e => hnm (by subst e; omega)
    have hne : ((n : Int) != (m : Int)) = true := by rw [bne_iff_ne]; omega
    rw [hd]
    go_enter Try.func12, Try.ntmps12
    go_wp2
    go_ret
    exact ⟨rfl, Below.refl _ _⟩

set_option maxRecDepth 100000 in
set_option maxHeartbeats 1000000 in
theorem rgfind_any (A B C : Option Addr) (N c M d K e : Nat) (g : Gr) (n : Int) (w : World) (h : rGr (All w) w [.slice A N c, .slice B M d, .slice C K e] g) :
    Calls Try.prog 28 #[.agg #[.slice A N c, .slice B M d, .slice C K e], .int .i64 n] w fun e w' => e = .returned (.int .i64 (findG g.2.1 n)) ∧ Below w.heap.size w w' := by
  obtain ⟨hM, hMd, hdm⟩ := slice_len (rGr_open h).2.1
  simp only [maxLen] at hdm
  have hB0 : Below w.heap.size w (w.alloc (.cells #[.slice A N c, .slice B M d, .slice C K e] 28)) := (Below.refl _ w).alloc (Nat.le_refl _) _
  have c0 := (Blk.new w 28 [.slice A N c, .slice B M d, .slice C K e]).cell (j := 1) rfl
  have h0 := (rGr_open (gr_below hB0 h)).2.1
  clear h
  go_enter Try.func28, Try.ntmps28
  go_wp2
  generalize w.alloc (.cells #[.slice A N c, .slice B M d, .slice C K e] 28) = w1 at *
  go_loop [5] (fun iv => ∃ i : Nat, i ≤ M ∧ iv = .int .i64 (i : Int) ∧ ∀ j o, j < i → g.2.1[j]? = some o → decide (o.1 = n) = false) (fun iv => M - (intOf iv).toNat)
  case atStart => exact ⟨0, by omega, rfl, fun j o hj => by omega⟩
  case round =>
    obtain ⟨i, hi, rfl, hno⟩ := hrel
    by_cases hin : i < M
    · obtain ⟨o, ho⟩ : ∃ o, g.2.1[i]? = some o := ⟨_, List.getElem?_eq_getElem (by omega)⟩
      obtain ⟨b, off, A2, c2, rfl, hb, x0, -, -, -, -, -⟩ := ob_at h0 ho
      have hil : (i : Int) < (M : Int) := by omega
      have hi0 : (0 : Int) ≤ (i : Int) := by omega
      by_cases he : o.1 = n
      · have he' : (o.1 == n) = true := by simp [he]
        have Hr : Hid (findG g.2.1 n = (i : Int)) := (idxP_iff _ g.2.1 i).2 ⟨⟨o, ho, decide_eq_true he⟩, fun j b hj hb => hno j b hj hb⟩
        clear hno he ho
        generalize o.1 = ov at *
        go_wp2
        go_ret
        exact ⟨by rw [Hr.out]; rfl, hB0⟩
      · have he' : (o.1 == n) = false := by simp [he]
        have Hr : Hid (∀ j o, j < i + 1 → g.2.1[j]? = some o → decide (o.1 = n) = false) := fun j p hj hp => by
          by_cases hji : j < i
          · exact hno j p hji hp
          · obtain rfl : j = i := by omega
            rw [ho] at hp
            injection hp with hp
            subst hp
            exact decide_eq_false he
        clear hno he ho
        generalize o.1 = ov at *
        go_wp2
        go_round
        case rel => exact ⟨i + 1, by omega, by go_num, Hr.out⟩
        case measure => simp [intOf]; omega
    · obtain rfl : i = M := by omega
      have Hr : Hid (findG g.2.1 n = -1) := (idxP_none _ g.2.1).2 fun o ho => by
        obtain ⟨j, hj⟩ := List.getElem?_of_mem ho
        have := (List.getElem?_eq_some_iff.1 hj).1
        exact hno j o (by omega) hj
      clear hno
      go_wp2
      go_ret
      exact ⟨by rw [Hr.out]; rfl, hB0⟩
end Go.Proofs.Yteafbdebmhpffaa
