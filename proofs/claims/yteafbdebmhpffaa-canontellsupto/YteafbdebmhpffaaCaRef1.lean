/- The contracts of the document's own met, At and Order. Condition of Order: short names. -/
import Derived.Test.YteafbdebmhpffaaCaMeetAll
import Derived.Test.YteafbdebmhpffaaCaOrder
import Derived.Test.YteafbdebmhpffaaGrRefS
import Derived.Test.YteafbdebmhpffaaGrRef2
import Derived.Test.YteafbdebmhpffaaGrRows3
namespace Go.Proofs.Yteafbdebmhpffaa
open Go.RowKit

set_option maxRecDepth 100000 in
set_option maxHeartbeats 2000000 in
theorem rat_any (A : Option Addr) (n c : Nat) (l : List Int) (x : Int) (w : World) (h : rIds (All w) w [.slice A n c] l) :
    Calls Try.prog 38 #[.slice A n c, .int .i64 x] w fun e w' => e = .returned (.int .i64 (atL l x)) ∧ w' = w := by
  obtain ⟨hn, hnc, hcm⟩ := slice_len h
  simp only [maxLen] at hcm
  go_enter Try.func38, Try.ntmps38
  go_wp2
  go_loopw [5] (fun iv w' => ∃ i : Nat, i ≤ n ∧ iv = .int .i64 (i : Int) ∧ w' = w ∧ ∀ j, j < i → l[j]? ≠ some x) (fun iv _ => n - (intOf iv).toNat)
  case atStart => exact ⟨0, by omega, rfl, rfl, fun j hj => by omega⟩
  case round =>
    obtain ⟨i, hi, rfl, rfl, hno⟩ := hrel
    by_cases hin : i < n
    · obtain ⟨y, hy⟩ : ∃ y, l[i]? = some y := ⟨_, List.getElem?_eq_getElem (by omega)⟩
      obtain ⟨b, off, rfl, hb, hc, -⟩ := id_at h hy
      have hil : (i : Int) < (n : Int) := by omega
      have hi0 : (0 : Int) ≤ (i : Int) := by omega
      by_cases he : y = x
      · have he' : (y == x) = true := by simp [he]
        have Hr : Hid (atL l x = (i : Int)) := Lib.hid ((idxP_iff _ _ i).2 ⟨⟨y, hy, by simp [he]⟩, fun j b hj hb => decide_eq_false fun e => hno j hj (by rw [hb, e])⟩)
        clear hno he hy
        go_wp2
        go_ret
        exact ⟨by rw [Hr.out]; rfl, rfl⟩
      · have he' : (y == x) = false := by simp [he]
        have Hr : Hid (∀ j, j < i + 1 → l[j]? ≠ some x) := Lib.hid fun j hj => by
          by_cases hji : j < i
          · exact hno j hji
          · obtain rfl : j = i := by omega
            rw [hy]
            simpa using he
        clear hno he hy
        go_wp2
        go_roundw
        case rel => exact ⟨i + 1, by omega, by go_num, by trivial, Hr.out⟩
        case measure => simp [intOf]; omega
    · obtain rfl : i = n := by omega
      have Hr : Hid (atL l x = -1) := Lib.hid (atL_none.2 fun hx => by
        obtain ⟨j, hj⟩ := List.getElem?_of_mem hx
        exact hno j (by have := (List.getElem?_eq_some_iff.1 hj).1; omega) hj)
      clear hno
      go_wp2
      go_ret
      exact ⟨by rw [Hr.out]; rfl, rfl⟩

/-- What a row of the call's own becomes: another block, or the same; all others stay. -/
structure RowGo (base : Nat) (w : World) (v : Value) (w' : World) (v' : Value) : Prop where
  bel : Below base w w'
  kept : ∀ b, b < w.heap.size → some b ≠ v.ownBlock → w'.heap[b]? = w.heap[b]?
  new : v'.ownBlock = v.ownBlock ∨ ∃ k, v'.ownBlock = some k ∧ w.heap.size ≤ k
set_option maxRecDepth 100000 in
set_option maxHeartbeats 1000000 in
theorem rmet_any (base : Nat) (v : Value) (l : List Int) (x : Int) (w : World) (hown : w.ownsRow base 3 1 v l.length (ints l)) (hb : base ≤ w.heap.size) (hl : l.length ≤ 1000) (hw : ∀ y ∈ l, (Lit.int .i64 y).wf = true) :
    Calls Try.prog 34 #[v, .int .i64 x] w fun e w' => ∃ v', e = .returned v' ∧ w'.ownsRow base 3 1 v' (metL l x).length (ints (metL l x)) ∧ RowGo base w v w' v' := by
  obtain ⟨j0, hj, hy0, hy1, hy2⟩ := info_parts info_int
  obtain ⟨A, c, rfl⟩ := own_slice3 hown
  have T1 := Lib.hid (rhas_any A l.length c l x w (rIds_stays.to (S' := All w) (w' := w) (Keeps.mono fun b hb => hb.2) (ids_own hown rfl hw)))
  have Hm : Hid (metL l x = if x < 0 ∨ x ∈ l then l else l ++ [x]) := Lib.hid rfl
  have Ho := Lib.hid hown
  have hlen : Hid ((l ++ [x]).length = l.length + [x].length) := Lib.hid List.length_append
  have Hla := Lib.hid (ints_append l [x])
  clear hown hw
  go_enter Try.func34, Try.ntmps34
  go_wp2_with fail
  refine T1.out.mono ?_
  rintro e wz ⟨rfl, hwz⟩
  replace hwz := hwz.symm
  subst hwz
  by_cases h0 : x < 0
  · have h0' : decide (x < 0) = true := decide_eq_true h0
    have Hr : Hid (metL l x = l) := Lib.hid (by rw [Hm.out, if_pos (.inl h0)])
    generalize decide (x ∈ l) = bb at *
    clear Hm h0
    go_wp2
    go_ret
    rw [Hr.out]
    exact ⟨_, rfl, Ho.out, Below.refl _ _, fun _ _ _ => rfl, .inl rfl⟩
  · have h0' : decide (x < 0) = false := decide_eq_false h0
    by_cases h1 : x ∈ l
    · have Hr : Hid (metL l x = l) := Lib.hid (by rw [Hm.out, if_pos (.inr h1)])
      rw [decide_eq_true h1]
      clear Hm h0 h1
      go_wp2
      go_ret
      rw [Hr.out]
      exact ⟨_, rfl, Ho.out, Below.refl _ _, fun _ _ _ => rfl, .inl rfl⟩
    · have Hr : Hid (metL l x = l ++ [x]) := Lib.hid (by rw [Hm.out, if_neg (fun e => e.elim h0 h1)])
      rw [decide_eq_false h1]
      clear Hm h0 h1
      have t3 : base ≤ (w.alloc (.cells #[.int .i64 x] 3)).heap.size := by simp only [World.size_alloc]; omega
      have t5 := Ho.out.alloc (.cells #[.int .i64 x] 3)
      generalize hll : l.length = n at *
      go_wp2_with (first
        | (at_builtin; refine wpList_app rfl (.tmp 15) (.tmp 17) 26 rfl base 3 j0 (.int .i64 0) 8 Try.underlying26 hj hy0 hy1 hy2 rfl (.slice A n c) n (ints l) rfl t5 (some ⟨w.heap.size, 0, none⟩) 1 1 (ints [x]) rfl rfl (lit_ints _ [x]) (ints_one _) (by simp only [maxLen]; omega) (by omega) t3 ?_; intro v4 w4 hown4 hg4 hv4)
        | fail)
      go_ret
      subst hll
      rw [Hr.out]
      refine ⟨_, rfl, by rw [hlen.out, Hla.out]; exact hown4, ?_, fun b hb1 hb2 => ?_, ?_⟩
      · exact ((Below.refl base w).alloc hb _).grown hg4 (by simp only [World.size_alloc]; omega) (fun k hk => (Ho.out.lt k hk).1)
      · rw [hg4.block b (by simp only [World.size_alloc]; omega) hb2, Below.heap_alloc _ _ _ hb1]
      · exact hv4.imp id fun e => ⟨_, e, by rw [World.size_alloc]; omega⟩
end Go.Proofs.Yteafbdebmhpffaa
