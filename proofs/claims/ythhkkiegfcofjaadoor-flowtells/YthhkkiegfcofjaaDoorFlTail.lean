/- The contracts of the reader's head and tail: what they make of a frame's body. Condition: the reader lies in a block of its own, the body is at most 255 bytes that lie elsewhere. -/
import Derived.Test.YthhkkiegfcofjaaDoorFlReader
namespace Go.Proofs.YthhkkiegfcofjaaDoor
open Go.RowKit

theorem vall_form (A : Option Addr) (c n : Nat) (bs : List Nat) (w : World) (hn : bs.length = n) (hc : n ≤ c) (hb : ∀ x ∈ bs, x < 256) (hlen : n ≤ 1048576) (hr : Rd w A (u8s bs)) :
    Calls Tryd.prog 65 #[.slice A n c] w fun e w' => ∃ A' m' c' ns, e = .returned (.tuple #[.slice A' m' c', .bool (vallL bs).isSome]) ∧ (vallL bs).getD [] = ns ∧ ns.length = m' ∧ m' ≤ c' ∧ c' ≤ maxLen ∧ Rd w' A' (u64s ns) ∧ Below w.heap.size w w' := by
  subst hn
  refine (vall_any A c bs w hc hb hlen hr).mono fun e w' ⟨v, he, hown, hB⟩ => ?_
  obtain ⟨A', c', rfl, h1, h2, h3⟩ := own_in hown
  exact ⟨A', _, c', _, he, rfl, rfl, h1, h2, h3.keeps (Keeps.mono fun x hx => hx.2), hB⟩

set_option maxRecDepth 100000 in
set_option maxHeartbeats 1000000 in
theorem tail_says (B g : Nat) (s : RSt) (Ab : Option Addr) (n cb : Nat) (bs : List Nat) (w : World) (h : Reads B g s w) (hn : bs.length = n) (hn255 : n ≤ 255) (hc : n ≤ cb) (hb : ∀ x ∈ bs, x < 256) (hr : Rd w Ab (u8s bs)) :
    Calls Tryd.prog 58 #[.pointer (some ⟨g, 0, none⟩), .slice Ab n cb] w fun e w' => StepSays B g w (tailS s bs) e w' := by
  obtain ⟨A, c, xs, h⟩ := h
  have hlow := h.low
  have hglt := h.blk.lt
  have V1 := Lib.hid (vall_form Ab cb n bs w hn hc hb (by omega) hr)
  have hts : tailS s bs = match vallL bs with | some [c] => if c = s.count then some ⟨s.base, s.parts, s.count, -1⟩ else none | _ => none := rfl
  have Hts := Lib.hid hts
  clear hts
  generalize vallL bs = va at *
  go_enter Tryd.func58, Tryd.ntmps58
  go_wp2_with fail
  refine V1.out.mono ?_
  rintro e w1 ⟨A1, m1, c1, ns, rfl, hns, hm1, hmc1, hcm1, hr1, hB1⟩
  have h1 := h.below hB1
  have hBB : Below B w w1 := hB1.mono (by omega)
  clear V1 hr
  have hx2 := h1.blk.cell (j := 2) rfl
  have hx3 := h1.blk.cell (j := 3) rfl
  have hfz := h1.blk.frozen 3
  cases va with
  | none =>
    simp only [Option.getD_none] at hns
    subst hns
    obtain rfl : m1 = 0 := by simpa using hm1.symm
    go_wp2_with fail
    go_quiet (fail)
    go_wp2
    go_ret
    exact ⟨below_drewN hBB nq, KT.below (below_drewN hB1 nq), .inl ⟨Hts.out, rfl⟩⟩
  | some l =>
    simp only [Option.getD_some] at hns
    subst hns
    by_cases hl1 : m1 = 1
    · obtain ⟨x, rfl⟩ : ∃ x, l = [x] := by
        match l, hm1 with
        | [x], _ => exact ⟨x, rfl⟩
        | [], h => simp at h; omega
        | _ :: _ :: _, h => simp at h; omega
      subst hl1
      obtain ⟨b1, off1, rfl, hb1, hcx⟩ := hr1.at (k := 0) (by simp)
      have hc0 := hcx 0 (.int .u64 (x : Int)) rfl
      rw [Nat.add_zero] at hc0
      simp only at Hts
      by_cases hx : x = s.count
      · subst hx
        rw [if_pos rfl] at Hts
        go_wp2_with fail
        go_quiet (fail)
        go_wp2
        go_ret
        have h2 := h1.below (below_drewN (Below.refl _ w1) nq)
        have hO := Only.set g (w1.drewN nq) 3 (.int .i64 (-1))
        have hs := h2.blk.set 3 (.int .i64 (-1))
        simp only [List.set_cons_succ, List.set_cons_zero] at hs
        have h3 := h2.only hO (b := s.base) (cnt := s.count) (d := -1) ⟨h2.inv.base, h2.inv.most, h2.inv.few, fun e => by simp at e, fun e => by simp at e, by simp⟩ hs
        exact ⟨(below_drewN hBB nq).trans (hO.bel.mono hlow), (KT.below (below_drewN hB1 nq)).trans (KT.only hO h2.blk), .inr ⟨_, Hts.out, rfl, _, _, _, h3⟩⟩
      · rw [if_neg hx] at Hts
        have hxc : ((x : Int) != (s.count : Int)) = true := by rw [bne_iff_ne]; omega
        go_wp2_with fail
        go_quiet (fail)
        go_wp2
        go_ret
        exact ⟨below_drewN hBB nq, KT.below (below_drewN hB1 nq), .inl ⟨Hts.out, rfl⟩⟩
    · have hm' : ((m1 : Int) != 1) = true := by rw [bne_iff_ne]; omega
      have ht : tailS s bs = none := by
        rw [Hts.out]
        match l, hm1 with
        | [], _ => rfl
        | [x], h => simp at h; omega
        | _ :: _ :: _, _ => rfl
      have Ht := Lib.hid ht
      clear ht
      go_wp2_with fail
      go_quiet (fail)
      go_wp2
      go_ret
      exact ⟨below_drewN hBB nq, KT.below (below_drewN hB1 nq), .inl ⟨Ht.out, rfl⟩⟩

set_option maxRecDepth 100000 in
set_option maxHeartbeats 1000000 in
theorem head_says (B g : Nat) (s : RSt) (Ab : Option Addr) (n cb : Nat) (bs : List Nat) (w : World) (h : Reads B g s w) (hdue : s.due = 1) (hn : bs.length = n) (hn255 : n ≤ 255) (hc : n ≤ cb) (hb : ∀ x ∈ bs, x < 256) (hr : Rd w Ab (u8s bs)) :
    Calls Tryd.prog 56 #[.pointer (some ⟨g, 0, none⟩), .slice Ab n cb] w fun e w' => StepSays B g w (headS s bs) e w' := by
  obtain ⟨A, c, xs, h⟩ := h
  have hlow := h.low
  have hglt := h.blk.lt
  have hpz := h.inv.one hdue
  have V1 := Lib.hid (vall_form Ab cb n bs w hn hc hb (by omega) hr)
  have hts : headS s bs = match vallL bs with | some [v, b, c] => if v = 1 ∧ b ≤ 4294967295 ∧ c ≤ 40 then some ⟨b, s.parts, c, dueOf s.parts.length c⟩ else none | _ => none := rfl
  have hvl := vall_back n bs (by omega) hb
  have Hts := Lib.hid hts
  have Hvl := Lib.hid hvl
  clear hts hvl hdue
  generalize vallL bs = va at *
  go_enter Tryd.func56, Tryd.ntmps56
  go_wp2_with fail
  refine V1.out.mono ?_
  rintro e w1 ⟨A1, m1, c1, ns, rfl, hns, hm1, hmc1, hcm1, hr1, hB1⟩
  have h1 := h.below hB1
  have hBB : Below B w w1 := hB1.mono (by omega)
  clear V1 hr
  cases va with
  | none =>
    simp only [Option.getD_none] at hns
    subst hns
    obtain rfl : m1 = 0 := by simpa using hm1.symm
    go_wp2
    go_ret
    exact ⟨hBB, KT.below hB1, .inl ⟨Hts.out, rfl⟩⟩
  | some l =>
    simp only [Option.getD_some] at hns
    subst hns
    by_cases hl1 : m1 = 3
    · obtain ⟨x, y, z, rfl⟩ : ∃ x y z, l = [x, y, z] := by
        match l, hm1 with
        | [x, y, z], _ => exact ⟨x, y, z, rfl⟩
        | [], h => simp at h; omega
        | [_], h => simp at h; omega
        | [_, _], h => simp at h; omega
        | _ :: _ :: _ :: _ :: _, h => simp at h; omega
      subst hl1
      obtain ⟨b1, off1, rfl, hb1, hcx⟩ := hr1.at (k := 0) (by simp)
      have hc0 := hcx 0 (.int .u64 (x : Int)) rfl
      have hc1 := hcx 1 (.int .u64 (y : Int)) rfl
      have hc2 := hcx 2 (.int .u64 (z : Int)) rfl
      rw [Nat.add_zero] at hc0
      simp only at Hts
      have hlt := (Hvl.out _ rfl).2
      have hxl := hlt x (by simp)
      have hyl := hlt y (by simp)
      have hzl := hlt z (by simp)
      clear hlt Hvl hcx hr1
      by_cases hx : x = 1 ∧ y ≤ 4294967295 ∧ z ≤ 40
      · rw [if_pos hx] at Hts
        obtain ⟨rfl, hy, hz⟩ := hx
        have hy' : decide ((4294967295 : Int) < (y : Int)) = false := by simp; omega
        have hz' : decide ((40 : Int) < (z : Int)) = false := by simp; omega
        have hym : (y : Int) % 4294967296 = (y : Int) := by omega
        go_wp2_with fail
        go_quiet (fail)
        have h2 := h1.below (below_drewN (Below.refl _ w1) nq)
        have hBd := below_drewN hBB nq
        have hKd := KT.below (below_drewN hB1 nq)
        generalize w1.drewN nq = wd at *
        have hx0 := h2.blk.cell (j := 0) rfl
        have hf0 := h2.blk.frozen 0
        have hO1 := Only.set g wd 0 (.int .u32 (y : Int))
        have hb3 := h2.blk.set 0 (.int .u32 (y : Int))
        simp only [List.set_cons_zero] at hb3
        generalize hw3 : wd.setCell ⟨g, 0, none⟩ (.int .u32 (y : Int)) = w3 at *
        have hx2 := hb3.cell (j := 2) rfl
        have hf2 := hb3.frozen 2
        have hO2 := hO1.trans (Only.set g w3 2 (.int .u64 (z : Int)))
        have hb4 := hb3.set 2 (.int .u64 (z : Int))
        simp only [List.set_cons_succ, List.set_cons_zero] at hb4
        have G1 := Lib.hid (goOn_any g _ _ A s.parts.length c z _ hb4 (by rw [hpz]; simp))
        clear hb3 hb4
        go_wp2_with fail
        refine G1.out.mono ?_
        rintro e w5 ⟨rfl, hO5, hb5⟩
        have hO6 := hO2.trans hO5
        go_wp2
        go_ret
        have h6 := h2.only hO6 (b := y) (cnt := z) (d := dueOf s.parts.length z) ⟨by simp only; omega, hz, by simp only; rw [hpz]; simp, fun _ => hpz, fun e => by simp only [dueOf] at e ⊢; split at e; assumption; simp at e, by have := dueOf_cases s.parts.length z; simp only; omega⟩ hb5
        exact ⟨hBd.trans (hO6.bel.mono hlow), hKd.trans (KT.only hO6 h2.blk), .inr ⟨_, Hts.out, rfl, _, _, _, h6⟩⟩
      · rw [if_neg hx] at Hts
        have hor : ((x : Int) != 1) = true ∨ (((x : Int) != 1) = false ∧ decide ((4294967295 : Int) < (y : Int)) = true) ∨ (((x : Int) != 1) = false ∧ decide ((4294967295 : Int) < (y : Int)) = false ∧ decide ((40 : Int) < (z : Int)) = true) := by
          simp only [bne_iff_ne, bne_eq_false_iff_eq, decide_eq_true_eq, decide_eq_false_iff_not]; omega
        rcases hor with h0 | ⟨h0, h3⟩ | ⟨h0, h3, h4⟩
        all_goals
          go_wp2_with fail
          go_quiet (fail)
          go_wp2
          go_ret
          exact ⟨below_drewN hBB nq, KT.below (below_drewN hB1 nq), .inl ⟨Hts.out, rfl⟩⟩
    · have hm' : ((m1 : Int) != 3) = true := by rw [bne_iff_ne]; omega
      have ht : headS s bs = none := by
        rw [Hts.out]
        match l, hm1 with
        | [], _ => rfl
        | [x], _ => rfl
        | [x, y], _ => rfl
        | [x, y, z], h => simp at h; omega
        | _ :: _ :: _ :: _ :: _, _ => rfl
      have Ht := Lib.hid ht
      clear ht
      go_wp2
      go_ret
      exact ⟨hBB, KT.below hB1, .inl ⟨Ht.out, rfl⟩⟩
end Go.Proofs.YthhkkiegfcofjaaDoor
