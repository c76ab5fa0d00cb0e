/- flow's contracts at flows that may be, and that may not be; the chapter's example, on plain data. Condition: where it is named, the variable errors.errorType holds the handle of the type 'error'. -/
import Derived.Test.YtnmgdaaddfdffaaGreatDoorGFlow
namespace Go.Proofs.YtnmgdaaddfdffaaGreatDoor
open Go.RowKit

/-- flow.Put at a flow that may be. -/
theorem fput_ok {f : Flo} (hok : OkF f) (A : Option Addr) (n c : Nat) (w : World) (h : rPts (All w) w [.slice A n c] f.2) :
    Calls Tryz.prog 78 #[.agg #[.int .u32 f.1, .slice A n c]] w fun e w' => ∃ B cap, e = .returned (.tuple #[.slice B (flowB f).length cap, .int .i64 0]) ∧ (flowB f).length ≤ cap ∧ cap ≤ maxLen ∧ Rd w' B (u8s (flowB f)) ∧ Below w.heap.size w w' := by
  have hb := hok.base
  have P := fput_any A n c f.1.toNat f.2 w hb.1 h hok.byte
  rw [hb.2] at P
  refine P.mono fun e w' ⟨B, m, cap, E, he, hs, hB⟩ => ?_
  rcases hs with ⟨_, rfl, rfl, h1, h2, h3⟩ | ⟨h1, _⟩
  · exact ⟨B, cap, he, h1, h2, h3, hB⟩
  · have := hok.may
    rw [h1] at this
    cases this
/-- flow.Put at a flow that may not be. -/
theorem fput_bad {f : Flo} (hlo : 0 ≤ f.1) (hhi : f.1 ≤ 4294967295) (hby : ∀ p ∈ f.2, ∀ x ∈ p, x < 256) (hm : mayB f = false) (A : Option Addr) (n c : Nat) (w : World) (h : rPts (All w) w [.slice A n c] f.2) :
    Calls Tryz.prog 78 #[.agg #[.int .u32 f.1, .slice A n c]] w fun e w' => e = .returned (.tuple #[.slice none 0 0, .int .i64 1]) ∧ Below w.heap.size w w' := by
  have hb : ((f.1.toNat : Nat) : Int) = f.1 := Int.toNat_of_nonneg hlo
  have P := fput_any A n c f.1.toNat f.2 w (by omega) h hby
  rw [hb] at P
  refine P.mono fun e w' ⟨B, m, cap, E, he, hs, hB⟩ => ?_
  rcases hs with ⟨h1, _⟩ | ⟨_, rfl, rfl, rfl, rfl⟩
  · rw [hm] at h1; cases h1
  · exact ⟨he, hB⟩
/-- flow.Get at the bytes of a flow. -/
theorem fget_ok {f : Flo} (hok : OkF f) (A : Option Addr) (n c : Nat) (w : World) (hn : (flowB f).length = n) (hc : n ≤ c) (hr : Rd w A (u8s (flowB f))) (hg : Han w) :
    Calls Tryz.prog 25 #[.slice A n c] w fun e w' => ∃ A' c', e = .returned (.tuple #[.agg #[.int .u32 f.1, .slice A' f.2.length c'], .int .i64 0]) ∧ rPts (All w') w' [.slice A' f.2.length c'] f.2 ∧ Below w.heap.size w w' := by
  have G := fget_any A c n (flowB f) w hn hc (flowB_byte hok) hr (by have := flowB_len hok; omega) hg
  rw [getFl_put hok] at G
  exact G
/-- flow.Cuts at the bytes of a flow. -/
theorem fcuts_ok {f : Flo} (hok : OkF f) (A : Option Addr) (n c : Nat) (w : World) (hn : (flowB f).length = n) (hc : n ≤ c) (hr : Rd w A (u8s (flowB f))) :
    Calls Tryz.prog 23 #[.slice A n c] w fun e w' => ∃ A' c', e = .returned (.tuple #[.slice A' (f.2.length + 3) c', .bool true]) ∧ f.2.length + 3 ≤ c' ∧ c' ≤ maxLen ∧ Rd w' A' (i64s (cutsL (framesF f))) ∧ Below w.heap.size w w' := by
  refine (fcuts_any A c n (flowB f) w hn hc (flowB_byte hok) hr (by have := flowB_len hok; omega)).mono fun e w' ⟨A', m, c', ok, he, hs, hB⟩ => ?_
  simp only [CutSays, getFl_put hok] at hs
  rcases hs with ⟨h, _⟩ | ⟨_, rfl, rfl, h1, h2, h3⟩
  · exact absurd rfl h
  · exact ⟨A', c', he, h1, h2, h3, hB⟩
theorem ok_none : OkF (0, []) := ⟨by decide, by decide, by decide, by simp⟩
theorem ok_one : OkF (300, [[5]]) := ⟨by decide, by decide, by decide, by simp⟩
theorem len_none : (flowB (0, [])).length = 24 := by
  simp [flowB, framesF, partsF, catL, putL_length, headL, putL_small (show 1 < 128 by omega), putL_small (show 0 < 128 by omega)]
theorem len_one : (flowB (300, [[5]])).length = 37 := by
  have h : vputL 300 = [172, 2] := by rw [putL_big (by omega), putL_small (by omega)]
  simp [flowB, framesF, partsF, catL, putL_length, headL, h, putL_small (show 1 < 128 by omega), putL_small (show 0 < 128 by omega)]
theorem rPts_nil (w : World) : rPts (All w) w [.slice none 0 0] [] := ⟨none, 0, [], rfl, Nat.le_refl _, Nat.zero_le _, .inl rfl, Chunks.nil⟩
theorem cuts_one : (cutsL (framesF (300, [[5]])))[3]? = some 37 := by
  have hl := framesF_length (300, [[5]])
  simp only [List.length_cons, List.length_nil] at hl
  have h := cutsL_get (fr := framesF (300, [[5]])) (i := 3) (by omega)
  have h2 := cutAt_all (fr := framesF (300, [[5]]))
  rw [hl] at h2
  rw [h, show (3 : Nat) = 0 + 1 + 2 by rfl, h2]
  exact congrArg some len_one
end Go.Proofs.YtnmgdaaddfdffaaGreatDoor
