/- The contracts of name's first and Less: the first sign and what stands behind it; the order of texts by their signs. Nothing that was there is changed. No condition but a text's own bound. -/
import Derived.Test.YteejinngkjgifaaNaLen
import Derived.Lib.OthersKept
import Derived.WalkSmall
import Derived.BigQuiet
namespace Go.Proofs.Yteejinngkjgifaa
open Go.RowKit

def headS (l : List Nat) : Int := if l = [] then -1 else ((sig l).1 : Int)
theorem size_0 {s : ByteArray} (h : s.size = 0) : s = ⟨#[]⟩ := by
  apply ByteArray.ext
  exact Array.eq_empty_of_size_eq_zero h

set_option maxRecDepth 100000 in
set_option maxHeartbeats 1000000 in
theorem first_any (s : ByteArray) (w : World) (hs : s.size ≤ maxLen) : Calls Try.prog 25 #[.string s] w fun e w' => ∃ t, e = .returned (.tuple #[.int .i32 (headS (byt s)), .string t]) ∧ byt t = (byt s).drop (sig (byt s)).2 ∧ Below w.heap.size w w' := by
  by_cases h0 : s.size = 0
  · obtain rfl := size_0 h0
    go_enter Try.func25, Try.ntmps25
    go_wp2
    go_loopw [4] (fun v w' => w' = w.iter ⟨#[]⟩ 0 ∧ v = .int .i32 (-1)) (fun _ _ => 0)
    case atStart => exact ⟨rfl, rfl⟩
    case round =>
      obtain ⟨rfl, rfl⟩ := hrel
      have hnx : ∀ ty, (Instr.next (.pointer (some ⟨w.heap.size, 0, none⟩)) true ty).run Try.prog (w.iter ⟨#[]⟩ 0) = _ := fun ty => run_next_end w ⟨#[]⟩ 0 ty (Nat.lt_irrefl 0)
      go_wp2
      go_ret2
      exact ⟨_, rfl, rfl, below_iter _ _ _⟩
  · obtain ⟨c, n, hdec, hsig, hsg, hcl, hn1, hn2⟩ := sgn_at (s := s) (pos := 0) (by omega)
    rw [List.drop_zero] at hsig hsg
    rw [Nat.zero_add] at hsg hn2
    have hh : headS (byt s) = (c : Int) := by
      rw [headS, if_neg (fun e => h0 (by rw [← byt_length, e]; rfl)), hsig]
    have hex : byt (s.extract n s.size) = (byt s).drop n := by rw [byt_extract, List.take_of_length_le (by simp)]
    rw [hh, hsig]
    have Hex := Lib.hid hex
    clear hsig hsg hh hex
    simp only [maxLen] at hs
    go_enter Try.func25, Try.ntmps25
    go_wp2
    go_loopw [4] (fun v w' => ∃ pos : Nat, w' = w.iter s pos ∧ ((pos = 0 ∧ v = .int .i32 (-1)) ∨ (pos = n ∧ v = .int .i32 (c : Int)))) (fun _ w' => s.size - w'.iterPos w.heap.size)
    case atStart => exact ⟨0, rfl, .inl ⟨rfl, rfl⟩⟩
    case round =>
      obtain ⟨pos, rfl, ⟨rfl, rfl⟩ | ⟨rfl, rfl⟩⟩ := hrel
      · have hnx : ∀ ty, (Instr.next (.pointer (some ⟨w.heap.size, 0, none⟩)) true ty).run Try.prog (w.iter s 0) = _ := fun ty => run_next_any w s 0 ty (by omega)
        rw [hdec] at hnx
        simp only [Nat.zero_add] at hnx
        go_wp2
        go_roundw
        case rel => exact ⟨n, rfl, .inr ⟨rfl, rfl⟩⟩
        case measure => simp; omega
      · by_cases hp : pos < s.size
        · have hnx : ∀ ty, (Instr.next (.pointer (some ⟨w.heap.size, 0, none⟩)) true ty).run Try.prog (w.iter s pos) = _ := fun ty => run_next_any w s pos ty hp
          have hp0 : decide ((0 : Int) < (pos : Int)) = true := by simp; omega
          generalize hd2 : Utf8.decode s pos = d2 at hnx
          obtain ⟨c2, n2⟩ := d2
          dsimp only at hnx
          clear hd2 hdec
          go_wp2
          go_quiet (fail)
          go_wp2
          go_ret2
          exact ⟨_, rfl, Hex.out, below_drewN (below_iter _ _ _) _⟩
        · have hnx : ∀ ty, (Instr.next (.pointer (some ⟨w.heap.size, 0, none⟩)) true ty).run Try.prog (w.iter s pos) = _ := fun ty => run_next_end w s pos ty hp
          go_wp2
          go_ret2
          refine ⟨_, rfl, ?_, below_iter _ _ _⟩
          rw [List.drop_of_length_le (by rw [byt_length]; omega)]; rfl

theorem lex_head {c : Nat} {x l : List Nat} (h : (c : Int) ≠ headS l) : lexN (c :: x) (sgn l) = decide ((c : Int) < headS l) := by
  rw [headS] at h ⊢
  by_cases hl : l = []
  · subst hl
    rw [if_pos rfl, sgn_nil, lex_nil]
    exact (decide_eq_false (by omega)).symm
  · rw [if_neg hl] at h ⊢
    rw [sgn_cons hl, lexN, if_neg (by omega), Bool.eq_iff_iff, decide_eq_true_iff, decide_eq_true_iff]
    omega
theorem lex_tail {c : Nat} {x l : List Nat} (h : (c : Int) = headS l) : lexN (c :: x) (sgn l) = lexN x (sgn (l.drop (sig l).2)) := by
  rw [headS] at h
  by_cases hl : l = []
  · rw [if_pos hl] at h; omega
  · rw [if_neg hl] at h
    rw [sgn_cons hl, lexN, if_pos (by omega)]
theorem lex_none (l : List Nat) : lexN [] (sgn l) = !l.isEmpty := by
  cases l with
  | nil => rfl
  | cons a l => rw [sgn_cons (by simp)]; rfl
theorem byt_toList (s : ByteArray) : byt s = s.toList.map UInt8.toNat := by rw [byt, ByteArray.toList_eq]
theorem str_beq (s t : ByteArray) : (s.toList == t.toList) = decide (byt s = byt t) := by
  by_cases h : byt s = byt t
  · rw [byt_inj h]; simp
  · rw [decide_eq_false h, beq_eq_false_iff_ne]
    intro e
    exact h (by rw [byt_toList, byt_toList, e])
theorem str_empty (t : ByteArray) : t.toList.isEmpty = (byt t).isEmpty := by
  rw [byt_toList]; cases t.toList <;> rfl

set_option maxRecDepth 100000 in
set_option maxHeartbeats 2000000 in
theorem less_any (a b : ByteArray) (w : World) (hb : b.size ≤ maxLen) : Calls Try.prog 17 #[.string a, .string b] w fun e w' => e = .returned (.bool (lexN (sgn (byt a)) (sgn (byt b)))) ∧ Below w.heap.size w w' := by
  have Hs : Hid (lexN (sgn ((byt a).drop 0)) (sgn (byt b)) = lexN (sgn (byt a)) (sgn (byt b))) := by rw [List.drop_zero]; exact rfl
  generalize lexN (sgn (byt a)) (sgn (byt b)) = r at *
  go_enter Try.func17, Try.ntmps17
  go_wp2
  go_loopw [1] (fun v W => ∃ (pos : Nat) (t : ByteArray), v = .string t ∧ t.size ≤ maxLen ∧ Hid (W.heap[w.heap.size]? = some (.stringIter a pos)) ∧ Hid (Below w.heap.size w W) ∧ Hid (lexN (sgn ((byt a).drop pos)) (sgn (byt t)) = r)) (fun _ W => a.size - W.iterPos w.heap.size)
  case atStart => exact ⟨0, b, rfl, hb, World.iter_heap _ _ _, below_iter _ _ _, Hs⟩
  case round =>
    obtain ⟨pos, t, rfl, ht, hit, hB, hc⟩ := hrel
    clear Hs
    by_cases hp : pos < a.size
    · obtain ⟨c, n, hdec, _, hsg, hcl, hn1, hn2⟩ := sgn_at hp
      have hnx : ∀ ty, (Instr.next (.pointer (some ⟨w.heap.size, 0, none⟩)) true ty).run Try.prog wr = _ := fun ty => Lib.run_next_any_at wr w.heap.size a pos ty hit.out hp
      rw [hdec] at hnx
      have hsz : w.heap.size < wr.heap.size := (Array.getElem?_eq_some_iff.1 hit.out).1
      have hit1 := Lib.iterAt_heap wr w.heap.size a pos (pos + n) hit.out
      have hB1 : Below w.heap.size w (wr.iterAt w.heap.size a (pos + n)) := Lib.below_iterAt hB.out (Nat.le_refl _) a (pos + n)
      have hsz1 : (wr.iterAt w.heap.size a (pos + n)).heap.size = wr.heap.size := Lib.iterAt_size _ _ _ _
      have hm : wr.iterPos w.heap.size = pos := iterPos_of hit.out
      dsimp only at hnx
      generalize wr.iterAt w.heap.size a (pos + n) = w1 at *
      have hit1 := Lib.hid hit1
      have hB1 := Lib.hid hB1
      have hc' := hc.out
      rw [hsg] at hc'
      have hc1 := Lib.hid hc'
      have HH := Lib.hid (lex_head (c := c) (x := sgn ((byt a).drop (pos + n))) (l := byt t))
      have HT := Lib.hid (lex_tail (c := c) (x := sgn ((byt a).drop (pos + n))) (l := byt t))
      clear hc' hc hsg hdec
      have HF := Lib.hid (first_any t w1 ht)
      generalize headS (byt t) = h at *
      have htl : ((byt t).drop (sig (byt t)).2).length ≤ t.size := by rw [List.length_drop, byt_length]; omega
      generalize (byt t).drop (sig (byt t)).2 = l2 at *
      go_wp2_with fail
      refine HF.out.mono ?_
      rintro e w2 ⟨t2, rfl, ht2, hB2⟩
      have hB2' : Below w.heap.size w w2 := hB1.out.trans (hB2.mono hB1.out.size)
      have hit2 : w2.heap[w.heap.size]? = some (.stringIter a (pos + n)) := (hB2.block _ (by omega)).trans hit1.out
      have hit2 := Lib.hid hit2
      have hB2' := Lib.hid hB2'
      clear hB2 hit1 hB1 hnx
      by_cases he : (c : Int) = h
      · subst he
        go_wp2
        go_roundw
        case rel =>
          refine ⟨pos + n, t2, rfl, ?_, hit2, hB2', ?_⟩
          · rw [← byt_length, ht2]; omega
          · show _ = _
            rw [ht2, ← hc1.out, HT.out trivial]
        case measure =>
          rw [iterPos_of hit2.out, hm]
          omega
      · have hne : ((c : Int) != h) = true := by simpa using he
        go_wp2
        go_ret
        refine ⟨?_, hB2'.out⟩
        rw [← hc1.out, HH.out he]
        rfl
    · have hnx : ∀ ty, (Instr.next (.pointer (some ⟨w.heap.size, 0, none⟩)) true ty).run Try.prog wr = _ := fun ty => Lib.run_next_end_at wr w.heap.size a pos ty hit.out hp
      go_wp2
      go_ret
      refine ⟨?_, hB.out⟩
      rw [← hc.out, sgn_end hp, lex_none, ← str_empty]
      rfl
end Go.Proofs.Yteejinngkjgifaa
