/- The contracts of the laws' own Few and awake: are there few parts, of few bytes each; and that the chapter's example, and one with a part, are as they are. Condition: the variable errors.errorType holds the handle of the type 'error'. -/
import Derived.Test.YthhkkiegfcofjaaDoorFlPut
import Derived.Test.YthhkkiegfcofjaaDoorFlSame
import Derived.Test.YthhkkiegfcofjaaDoorFlGet
import Derived.Test.YthhkkiegfcofjaaDoorFlCuts
namespace Go.Proofs.YthhkkiegfcofjaaDoor
open Go.RowKit

def fewB (f : Flo) (most : Nat) : Bool := decide (f.2.length ≤ most) && f.2.all fun p => decide (p.length ≤ 300)
theorem fewB_len {f : Flo} {most : Nat} (h : fewB f most = true) : f.2.length ≤ most := by simp [fewB] at h; exact h.1

set_option maxRecDepth 100000 in
set_option maxHeartbeats 400000 in
theorem few_any (A : Option Addr) (n c most : Nat) (f : Flo) (w : World) (h : rPts (All w) w [.slice A n c] f.2) :
    Calls Tryd.prog 11 #[.agg #[.int .u32 f.1, .slice A n c], .int .i64 (most : Int)] w fun e w' => e = .returned (.bool (fewB f most)) ∧ Below w.heap.size w w' := by
  obtain ⟨hn, hnc, hcm⟩ := pts_len h
  have hcm2 := hcm
  simp only [maxLen] at hcm2
  have hB : Below w.heap.size w (w.alloc (.cells #[.int .u32 f.1, .slice A n c] 25)) := (Below.refl _ w).alloc (Nat.le_refl _) _
  have hbox := Blk.new w 25 [.int .u32 f.1, .slice A n c]
  have hm : fewB f most = (decide (n ≤ most) && f.2.all fun p => decide (p.length ≤ 300)) := by rw [fewB, hn]
  have Hm := Lib.hid hm
  clear hm
  by_cases h40 : n ≤ most
  · have hd : decide ((most : Int) < (n : Int)) = false := by simp; omega
    have hd2 : decide (n ≤ most) = true := by simpa using h40
    rw [hd2, Bool.true_and] at Hm
    go_enter Tryd.func11, Tryd.ntmps11
    go_wp2
    have hW : ∀ W : World, W = w.alloc (.cells #[.int .u32 f.1, .slice A n c] 25) → Blk W w.heap.size 25 [.int .u32 f.1, .slice A n c] ∧ Below w.heap.size w W := fun W e => by rw [e]; exact ⟨hbox, hB⟩
    generalize hWW : w.alloc (.cells #[.int .u32 f.1, .slice A n c] 25) = wb at *
    have hx1 := hbox.cell (j := 1) rfl
    clear hW
    go_loop [5] (fun iv => ∃ i : Nat, i ≤ n ∧ iv = .int .i64 (i : Int) ∧ ∀ p ∈ f.2.take i, p.length ≤ 300) (fun iv => n - (intOf iv).toNat)
    case atStart => exact ⟨0, by omega, rfl, by simp⟩
    case round =>
      obtain ⟨i, hi, rfl, hall⟩ := hrel
      by_cases hin : i < n
      · obtain ⟨p, hli⟩ : ∃ p, f.2[i]? = some p := ⟨f.2[i], List.getElem?_eq_getElem (by omega)⟩
        obtain ⟨b, off, A1, c1, rfl, hb, hx, _, _, _, _⟩ := pts_at h hli
        have hx' := (hB.cell (p := ⟨b, off + i, none⟩) hb).trans hx
        have hmem : p ∈ f.2 := List.mem_of_getElem? hli
        have htk : f.2.take (i + 1) = f.2.take i ++ [p] := by rw [List.take_add_one, hli]; rfl
        have Hmem := Lib.hid hmem
        have Htk := Lib.hid htk
        have Hall := Lib.hid hall
        clear hmem htk hall hli
        have hil : (i : Int) < (n : Int) := by omega
        have hi0 : (0 : Int) ≤ (i : Int) := by omega
        by_cases hp : 300 < p.length
        · have hp' : decide ((300 : Int) < (p.length : Int)) = true := by simp; omega
          have hr : fewB f most = false := by
            rw [Hm.out, List.all_eq_false]
            exact ⟨p, Hmem.out, by simpa using hp⟩
          have Hr := Lib.hid hr
          clear hr
          go_wp2
          go_ret
          exact ⟨by rw [Hr.out]; rfl, hB⟩
        · have hp' : decide ((300 : Int) < (p.length : Int)) = false := by simp; omega
          go_wp2
          go_round
          case rel =>
            refine ⟨i + 1, by omega, by go_num, fun q hq => ?_⟩
            rw [Htk.out] at hq
            rcases List.mem_append.1 hq with hq | hq
            · exact Hall.out q hq
            · simp at hq; subst hq; omega
          case measure => simp [intOf]; omega
      · obtain rfl : i = n := by omega
        have hl : fewB f most = true := by
          rw [Hm.out, List.all_eq_true]
          intro p hp
          rw [decide_eq_true_iff]
          exact hall p (by rw [List.take_of_length_le (by omega)]; exact hp)
        have Hl := Lib.hid hl
        clear hl hall
        go_wp2
        go_ret
        exact ⟨by rw [Hl.out]; rfl, hB⟩
  · have hd : decide ((most : Int) < (n : Int)) = true := by simp; omega
    have hd2 : decide (n ≤ most) = false := by simpa using h40
    rw [hd2, Bool.false_and] at Hm
    go_enter Tryd.func11, Tryd.ntmps11
    go_wp2
    go_ret
    exact ⟨by rw [Hm.out]; rfl, hB⟩

/-- flow.Put at a flow that may be. -/
theorem fput_ok {f : Flo} (hok : OkF f) (A : Option Addr) (n c : Nat) (w : World) (h : rPts (All w) w [.slice A n c] f.2) :
    Calls Tryd.prog 12 #[.agg #[.int .u32 f.1, .slice A n c]] w fun e w' => ∃ B cap, e = .returned (.tuple #[.slice B (flowB f).length cap, .int .i64 0]) ∧ (flowB f).length ≤ cap ∧ cap ≤ maxLen ∧ Rd w' B (u8s (flowB f)) ∧ Below w.heap.size w w' := by
  have hb := hok.base
  have P := fput_any A n c f.1.toNat f.2 w hb.1 h hok.byte
  rw [hb.2] at P
  refine P.mono fun e w' ⟨B, m, cap, E, he, hs, hB⟩ => ?_
  rcases hs with ⟨_, rfl, rfl, h1, h2, h3⟩ | ⟨h1, _⟩
  · exact ⟨B, cap, he, h1, h2, h3, hB⟩
  · have := hok.may
    rw [h1] at this
    cases this
/-- flow.Put at a flow that may not be. -/
theorem fput_bad {f : Flo} (hlo : 0 ≤ f.1) (hhi : f.1 ≤ 4294967295) (hby : ∀ p ∈ f.2, ∀ x ∈ p, x < 256) (hm : mayB f = false) (A : Option Addr) (n c : Nat) (w : World) (h : rPts (All w) w [.slice A n c] f.2) :
    Calls Tryd.prog 12 #[.agg #[.int .u32 f.1, .slice A n c]] w fun e w' => e = .returned (.tuple #[.slice none 0 0, .int .i64 1]) ∧ Below w.heap.size w w' := by
  have hb : ((f.1.toNat : Nat) : Int) = f.1 := Int.toNat_of_nonneg hlo
  have P := fput_any A n c f.1.toNat f.2 w (by omega) h hby
  rw [hb] at P
  refine P.mono fun e w' ⟨B, m, cap, E, he, hs, hB⟩ => ?_
  rcases hs with ⟨h1, _⟩ | ⟨_, rfl, rfl, rfl, rfl⟩
  · rw [hm] at h1; cases h1
  · exact ⟨he, hB⟩
/-- flow.Get at the bytes of a flow. -/
theorem fget_ok {f : Flo} (hok : OkF f) (A : Option Addr) (n c : Nat) (w : World) (hn : (flowB f).length = n) (hc : n ≤ c) (hr : Rd w A (u8s (flowB f))) (hg : Han w) :
    Calls Tryd.prog 14 #[.slice A n c] w fun e w' => ∃ A' c', e = .returned (.tuple #[.agg #[.int .u32 f.1, .slice A' f.2.length c'], .int .i64 0]) ∧ rPts (All w') w' [.slice A' f.2.length c'] f.2 ∧ Below w.heap.size w w' := by
  have G := fget_any A c n (flowB f) w hn hc (flowB_byte hok) hr (by have := flowB_len hok; omega) hg
  rw [getFl_put hok] at G
  exact G
/-- flow.Cuts at the bytes of a flow. -/
theorem fcuts_ok {f : Flo} (hok : OkF f) (A : Option Addr) (n c : Nat) (w : World) (hn : (flowB f).length = n) (hc : n ≤ c) (hr : Rd w A (u8s (flowB f))) :
    Calls Tryd.prog 16 #[.slice A n c] w fun e w' => ∃ A' c', e = .returned (.tuple #[.slice A' (f.2.length + 3) c', .bool true]) ∧ f.2.length + 3 ≤ c' ∧ c' ≤ maxLen ∧ Rd w' A' (i64s (cutsL (framesF f))) ∧ Below w.heap.size w w' := by
  refine (fcuts_any A c n (flowB f) w hn hc (flowB_byte hok) hr (by have := flowB_len hok; omega)).mono fun e w' ⟨A', m, c', ok, he, hs, hB⟩ => ?_
  simp only [CutSays, getFl_put hok] at hs
  rcases hs with ⟨h, _⟩ | ⟨_, rfl, rfl, h1, h2, h3⟩
  · exact absurd rfl h
  · exact ⟨A', c', he, h1, h2, h3, hB⟩
theorem ok_none : OkF (0, []) := ⟨by decide, by decide, by decide, by simp⟩
theorem ok_one : OkF (300, [[5]]) := ⟨by decide, by decide, by decide, by simp⟩
theorem len_none : (flowB (0, [])).length = 24 := by
  simp [flowB, framesF, partsF, catL, putL_length, headL, putL_small (show 1 < 128 by omega), putL_small (show 0 < 128 by omega)]
theorem len_one : (flowB (300, [[5]])).length = 37 := by
  have h : vputL 300 = [172, 2] := by rw [putL_big (by omega), putL_small (by omega)]
  simp [flowB, framesF, partsF, catL, putL_length, headL, h, putL_small (show 1 < 128 by omega), putL_small (show 0 < 128 by omega)]
theorem rPts_nil (w : World) : rPts (All w) w [.slice none 0 0] [] := ⟨none, 0, [], rfl, Nat.le_refl _, Nat.zero_le _, .inl rfl, Chunks.nil⟩
theorem cuts_one : (cutsL (framesF (300, [[5]])))[3]? = some 37 := by
  have hl := framesF_length (300, [[5]])
  simp only [List.length_cons, List.length_nil] at hl
  have h := cutsL_get (fr := framesF (300, [[5]])) (i := 3) (by omega)
  have h2 := cutAt_all (fr := framesF (300, [[5]]))
  rw [hl] at h2
  rw [h, show (3 : Nat) = 0 + 1 + 2 by rfl, h2]
  exact congrArg some len_one

set_option maxRecDepth 100000 in
set_option maxHeartbeats 1000000 in
theorem awake_any (w : World) (hg : Han w) : Calls Tryd.prog 10 #[] w fun e w' => e = .returned (.bool true) ∧ Below w.heap.size w w' := by
  have P1 := fput_ok ok_none none 0 0 w (rPts_nil w)
  rw [len_none] at P1
  have HP1 := Lib.hid P1
  clear P1
  have HP2 := Lib.hid (fun A n c W h => fput_ok ok_one A n c W h)
  have HG := Lib.hid (fun A c W h1 h2 h3 => fget_ok ok_one A 37 c W len_one h1 h2 h3)
  have HC := Lib.hid (fun A c W h1 h2 => fcuts_ok ok_one A 37 c W len_one h1 h2)
  rw [len_one] at HP2
  have hcut := cuts_one
  have hone := ok_one.may
  generalize cutsL (framesF (300, [[5]])) = cl at *
  generalize flowB (300, [[5]]) = fb at *
  generalize flowB (0, []) = fb0 at *
  have Hcut := Lib.hid hcut
  clear hcut
  go_enter Tryd.func10, Tryd.ntmps10
  go_wp2_with fail
  refine HP1.out.mono ?_
  rintro e w1 ⟨B1, cap1, rfl, _, _, _, hB1⟩
  have hg1 := hg.below hB1
  clear HP1
  have hlit : rPts (All ((w1.alloc (.cells #[.int .u8 5] 5)).alloc (.cells #[.slice (some ⟨w1.heap.size, 0, none⟩) 1 1] 26))) ((w1.alloc (.cells #[.int .u8 5] 5)).alloc (.cells #[.slice (some ⟨w1.heap.size, 0, none⟩) 1 1] 26)) [.slice (some ⟨w1.heap.size + 1, 0, none⟩) 1 1] [[5]] := by
    have b1 := ((Blk.new w1 5 [.int .u8 5]).alloc (.cells #[.slice (some ⟨w1.heap.size, 0, none⟩) 1 1] 26)).rd
    have b2 := (Blk.new (w1.alloc (.cells #[.int .u8 5] 5)) 26 [.slice (some ⟨w1.heap.size, 0, none⟩) 1 1]).rd
    rw [World.size_alloc] at b2
    exact ⟨_, 1, [.slice (some ⟨w1.heap.size, 0, none⟩) 1 1], rfl, Nat.le_refl _, by simp [maxLen], b2, Chunks.one (size := 1) rfl ⟨_, 1, rfl, Nat.le_refl _, by simp [maxLen], by simp, b1⟩⟩
  have hBl : Below w1.heap.size w1 ((w1.alloc (.cells #[.int .u8 5] 5)).alloc (.cells #[.slice (some ⟨w1.heap.size, 0, none⟩) 1 1] 26)) := ((Below.refl _ w1).alloc (Nat.le_refl _) _).alloc (by simp) _
  have HP3 := Lib.hid (HP2.out _ _ _ _ hlit)
  clear hlit HP2
  go_wp2_with fail
  refine HP3.out.mono ?_
  rintro e w2 ⟨B2, cap2, rfl, hc2, hm2, hr2, hB2⟩
  have hg2 := hg1.below (hBl.trans (hB2.mono hBl.size))
  have hBw2 := hB1.trans ((hBl.trans (hB2.mono hBl.size)).mono hB1.size)
  clear HP3 hBl hB2
  have HG2 := Lib.hid (HG.out B2 cap2 w2 hc2 hr2 hg2)
  clear HG
  go_wp2_with fail
  refine HG2.out.mono ?_
  rintro e w3 ⟨A3, c3, rfl, hp3, hB3⟩
  simp only [List.length_cons, List.length_nil, Nat.zero_add] at hp3 ⊢
  have hBa : Below w3.heap.size w3 (w3.alloc (.cells #[.int .u32 300, .slice A3 1 c3] 25)) := (Below.refl _ w3).alloc (Nat.le_refl _) _
  have hBx := hB3.trans (hBa.mono hB3.size)
  have HC2 := Lib.hid (HC.out B2 cap2 _ hc2 (hr2.below hBx))
  have hbox := Blk.new w3 25 [.int .u32 300, .slice A3 1 c3]
  have hp4 := rPts_stays.to (Keeps.below hBa) hp3
  have hBw3 := hBw2.trans (hBx.mono hBw2.size)
  clear HG2 HC
  go_wp2_with fail
  refine HC2.out.mono ?_
  rintro e w4 ⟨A4, c4, rfl, hc4, hm4, hr4, hB4⟩
  have hb4 := hbox.below hbox.lt hB4
  have hp5 := rPts_stays.to (Keeps.below hB4) hp4
  have hBw4 := hBw3.trans (hB4.mono hBw3.size)
  clear HC2 hbox hp4 hp3 hBw3 hBa hBx
  have hx0 := hb4.cell (j := 0) rfl
  have hx1 := hb4.cell (j := 1) rfl
  obtain ⟨b4, off4, rfl, hb4l, hcx4⟩ := hr4.at (k := 3) (by have := (List.getElem?_eq_some_iff.1 Hcut.out).1; simpa using this)
  have hc37 := hcx4 3 (.int .i64 37) (i64s_get Hcut.out)
  have M1 := Lib.hid (may_any A3 1 c3 (300, [[5]]) w4 hp5)
  have S1 := Lib.hid (fun W h => fsame_any A3 A3 1 c3 1 c3 (300, [[5]]) (300, [[5]]) W h h)
  rw [hone] at M1
  clear hcx4 hr4 Hcut
  have hd : decide (((300, [[5]]) : Flo) = (300, [[5]])) = true := by simp
  rw [hd] at S1
  simp only [List.length_cons, List.length_nil, Nat.zero_add] at hc4
  go_wp2_with (first
    | (go_at_call 21; refine M1.out.mono ?_; rintro e w5 ⟨rfl, hB5⟩; have hb5 := hb4.below hb4.lt hB5; have hy0 := hb5.cell (j := 0) rfl; have hy1 := hb5.cell (j := 1) rfl; have hp6 := rPts_stays.to (Keeps.below hB5) hp5)
    | (go_at_call 22; refine (S1.out _ hp6).mono ?_; rintro e w6 ⟨rfl, hB6⟩)
    | fail)
  go_ret
  exact ⟨rfl, (hBw4.trans (hB5.mono hBw4.size)).trans (hB6.mono (Nat.le_trans hBw4.size hB5.size))⟩
end Go.Proofs.YthhkkiegfcofjaaDoor
