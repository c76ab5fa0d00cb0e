/- The contracts of schema's cut, and of strings.CutPrefix: what the plain functions tell; nothing that was there is changed. Condition: a sign of one byte; a text's own bound. -/
import Derived.Test.YtomndfeifjiljaaDoorScParse
import Derived.Test.YtomndfeifjiljaaDoorNaLen
import Derived.BigQuiet
import Derived.OwnWalk
namespace Go.Proofs.YtomndfeifjiljaaDoor
open Go.RowKit

theorem sig_mark {l : List Nat} {m : Nat} (hl : l ≠ []) (hm : m < 128) (h : (sig l).1 = m) : ∃ t, l = m :: t := by
  have := sig_back hl (by omega)
  rw [h, encS, if_pos hm] at this
  exact ⟨_, this⟩
theorem mark_next {l : List Nat} {m pos : Nat} (hm : m < 128) (h : m ∉ l.take pos) (hc : (sig (l.drop pos)).1 ≠ m) : m ∉ l.take (pos + (sig (l.drop pos)).2) := by
  intro hi
  rw [List.take_add, List.mem_append] at hi
  rcases hi with hi | hi
  · exact h hi
  · generalize l.drop pos = q at *
    obtain ⟨k, hk, he⟩ := List.getElem_of_mem hi
    rw [List.length_take] at hk
    rw [List.getElem_take] at he
    have hg : q.getD k 0 = m := by rw [List.getD_eq_getElem?_getD, List.getElem?_eq_getElem (by omega), he]; rfl
    by_cases hk0 : k = 0
    · subst hk0
      apply hc
      rw [sig, hg, sig_1 (by omega)]
    · have := mid_of ((sig_wide q).2.2 k (by omega) (by omega))
      omega
theorem cut_here {l t : List Nat} {m pos : Nat} (h : m ∉ l.take pos) (ht : l.drop pos = m :: t) : cutL m l = (l.take pos, t, true) ∧ l.drop (pos + 1) = t := by
  have e : l = l.take pos ++ m :: t := by rw [← ht, List.take_append_drop]
  refine ⟨?_, by rw [← List.drop_drop, ht]; rfl⟩
  have := cutL_yes t h
  rw [← e] at this
  exact this

set_option maxRecDepth 100000 in
set_option maxHeartbeats 2000000 in
theorem cut_any (s : ByteArray) (m : Nat) (w : World) (hm : m < 128) (hs : s.size ≤ maxLen) : Calls Tryd.prog 46 #[.string s, .int .i32 (m : Int)] w fun e w' => ∃ x y, e = .returned (.tuple #[.string x, .string y, .bool (cutL m (byt s)).2.2]) ∧
    byt x = (cutL m (byt s)).1 ∧ byt y = (cutL m (byt s)).2.1 ∧ Below w.heap.size w w' := by
  simp only [maxLen] at hs
  have HN := Lib.hid (fun h => cutL_no (m := m) (a := byt s) h)
  have HS := Lib.hid (fun pos t => cut_here (l := byt s) (m := m) (pos := pos) (t := t))
  have hm' : m ≤ 2147483647 := by omega
  generalize cutL m (byt s) = r at *
  go_enter Tryd.func46, Tryd.ntmps46
  go_wp2
  go_loopw [11] (fun _ w' => ∃ pos : Nat, w' = w.iter s pos ∧ Hid (m ∉ (byt s).take pos)) (fun _ w' => s.size - w'.iterPos w.heap.size)
  case atStart => exact ⟨0, rfl, Lib.hid (by simp)⟩
  case round =>
    obtain ⟨pos, rfl, hno⟩ := hrel
    by_cases hp : pos < s.size
    · obtain ⟨c, n, hdec, hsig, _, hcl, hn1, hn2⟩ := sgn_at hp
      have hnx : ∀ ty, (Instr.next (.pointer (some ⟨w.heap.size, 0, none⟩)) true ty).run Tryd.prog (w.iter s pos) = _ := fun ty => run_next_any w s pos ty hp
      rw [hdec] at hnx
      clear hdec
      by_cases hcm : c = m
      · subst hcm
        obtain ⟨t, ht⟩ := sig_mark (drop_ne hp) hm (by rw [hsig])
        obtain ⟨rfl, h3⟩ := HS.out pos t hno.out ht
        have hx : byt (s.extract 0 pos) = (byt s).take pos := by rw [byt_extract, List.drop_zero]
        have hy : byt (s.extract (pos + 1) s.size) = t := by rw [byt_extract, List.take_of_length_le (by simp), h3]
        have Hx := Lib.hid hx
        have Hy := Lib.hid hy
        clear HN HS hno hsig ht h3 hx hy
        have hq1 : (0 : Int) ≤ (pos : Int) := by omega
        have hq2 : (pos : Int) ≤ (s.size : Int) := by omega
        have hq3 : IntKind.i64.wrap ((pos : Int) + 1) = (pos : Int) + 1 := IntWalk.i64_in _ (by omega)
        have hq4 : (pos : Int) + 1 ≤ (s.size : Int) := by omega
        have hq5 : (0 : Int) ≤ (pos : Int) + 1 := by omega
        go_wp2
        go_quiet (fail)
        go_wp2
        go_ret3
        exact ⟨_, _, rfl, Hx.out, Hy.out, below_drewN (below_iter _ _ _) _⟩
      · have hcm' : ((c : Int) == (m : Int)) = false := by simp; omega
        have hno2 := mark_next hm hno.out (by rw [hsig]; exact hcm)
        rw [hsig] at hno2
        have Hno2 := Lib.hid hno2
        clear hno2 hsig HN HS hno
        go_wp2
        go_roundw
        case rel => exact ⟨pos + n, rfl, Hno2⟩
        case measure => simp; omega
    · have hnx : ∀ ty, (Instr.next (.pointer (some ⟨w.heap.size, 0, none⟩)) true ty).run Tryd.prog (w.iter s pos) = _ := fun ty => run_next_end w s pos ty hp
      have hno2 := hno.out
      rw [List.take_of_length_le (by simp; omega)] at hno2
      obtain rfl := HN.out hno2
      clear HN HS hno hno2
      go_wp2
      go_ret3
      exact ⟨_, _, rfl, rfl, rfl, below_iter _ _ _⟩

theorem prefix_take {p l : List Nat} : p.isPrefixOf l = decide (p.length ≤ l.length ∧ l.take p.length = p) := by
  rw [Bool.eq_iff_iff, decide_eq_true_iff, List.isPrefixOf_iff_prefix]
  constructor
  · rintro ⟨r, rfl⟩; simp
  · rintro ⟨_, h⟩; exact ⟨l.drop p.length, by have := List.take_append_drop p.length l; rw [h] at this; exact this⟩

set_option maxRecDepth 100000 in
set_option maxHeartbeats 1000000 in
theorem hasPrefix_any (s p : ByteArray) (w : World) : Calls Tryd.prog 57 #[.string s, .string p] w fun e w' => e = .returned (.bool ((byt p).isPrefixOf (byt s))) ∧ w' = w := by
  have hb := str_beq (s.extract 0 p.size) p
  rw [byt_extract, List.drop_zero] at hb
  have hr : (byt p).isPrefixOf (byt s) = (decide (p.size ≤ s.size) && decide ((byt s).take p.size = byt p)) := by
    rw [prefix_take, byt_length, byt_length]
    by_cases h1 : p.size ≤ s.size <;> simp [h1]
  by_cases h1 : p.size ≤ s.size
  · have h1' : decide ((p.size : Int) ≤ (s.size : Int)) = true := decide_eq_true (by omega)
    have h2 : (p.size : Int) ≤ (s.size : Int) := by omega
    have h3 : (0 : Int) ≤ (p.size : Int) := by omega
    rw [decide_eq_true h1, Bool.true_and, ← hb] at hr
    have HR := Lib.hid hr
    clear hr hb h1
    go_enter Tryd.func57, Tryd.ntmps57
    go_wp2
    go_ret
    exact ⟨by rw [HR.out]; rfl, rfl⟩
  · have h1' : decide ((p.size : Int) ≤ (s.size : Int)) = false := decide_eq_false (by omega)
    rw [decide_eq_false h1, Bool.false_and] at hr
    rw [hr]
    clear hr hb
    go_enter Tryd.func57, Tryd.ntmps57
    go_wp2
    go_ret
    exact ⟨rfl, rfl⟩

set_option maxRecDepth 100000 in
set_option maxHeartbeats 1000000 in
theorem lcutPrefix_any (s p : ByteArray) (w : World) : Calls Tryd.prog 56 #[.string s, .string p] w fun e w' => ∃ x, e = .returned (.tuple #[.string x, .bool ((byt p).isPrefixOf (byt s))]) ∧
    ((byt p).isPrefixOf (byt s) = true → byt x = (byt s).drop (byt p).length) ∧ x.size ≤ s.size ∧ w' = w := by
  have T1 := Lib.hid (hasPrefix_any s p w)
  have hl : (byt p).isPrefixOf (byt s) = true → p.size ≤ s.size ∧ byt (s.extract p.size s.size) = (byt s).drop (byt p).length := fun h => by
    rw [prefix_take, decide_eq_true_iff, byt_length, byt_length] at h
    exact ⟨h.1, by rw [byt_extract, List.take_of_length_le (by simp), byt_length]⟩
  have Hl := Lib.hid hl
  clear hl
  generalize (byt p).isPrefixOf (byt s) = r at *
  go_enter Tryd.func56, Tryd.ntmps56
  go_wp2_with fail
  refine T1.out.mono ?_
  rintro e w1 ⟨rfl, rfl⟩
  cases r
  · go_wp2
    go_ret2
    exact ⟨s, rfl, (fun h => by cases h), Nat.le_refl _, rfl⟩
  · obtain ⟨h1, h2⟩ := Hl.out (by simp)
    have H2 := Lib.hid h2
    clear h2 Hl
    have h3 : (0 : Int) ≤ (p.size : Int) := by omega
    have h4 : (p.size : Int) ≤ (s.size : Int) := by omega
    go_wp2
    go_ret2
    exact ⟨_, rfl, (by simpa using H2.out), (by simp), rfl⟩
set_option maxRecDepth 100000 in
theorem cutPrefix_any (s p : ByteArray) (w : World) : Calls Tryd.prog 55 #[.string s, .string p] w fun e w' => ∃ x, e = .returned (.tuple #[.string x, .bool ((byt p).isPrefixOf (byt s))]) ∧
    ((byt p).isPrefixOf (byt s) = true → byt x = (byt s).drop (byt p).length) ∧ x.size ≤ s.size ∧ w' = w := by
  have T1 := Lib.hid (lcutPrefix_any s p w)
  generalize (byt p).isPrefixOf (byt s) = r at *
  generalize (byt s).drop (byt p).length = q at *
  go_enter Tryd.func55, Tryd.ntmps55
  go_wp2_with fail
  refine T1.out.mono ?_
  rintro e w1 ⟨x, rfl, h1, h2, rfl⟩
  have H1 := Lib.hid h1
  clear h1
  go_wp2
  go_ret2
  exact ⟨_, rfl, H1.out, h2, rfl⟩
end Go.Proofs.YtomndfeifjiljaaDoor
