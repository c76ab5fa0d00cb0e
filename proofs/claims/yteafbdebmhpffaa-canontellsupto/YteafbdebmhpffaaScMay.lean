/- The contracts of schema's mayLead, mayFields and May: what the plain functions tell; nothing that was there is changed. No condition. -/
import Derived.Test.YteafbdebmhpffaaScFind
import Derived.Test.YteafbdebmhpffaaNaLen
namespace Go.Proofs.Yteafbdebmhpffaa
open Go.RowKit

theorem byt_nil_iff (t : ByteArray) : t.toList.isEmpty = decide (byt t = []) := by
  rw [str_empty]
  cases byt t <;> simp

set_option maxRecDepth 100000 in
set_option maxHeartbeats 1000000 in
theorem mayLead_any (A : Option Addr) (N c : Nat) (l : Sch) (s t : ByteArray) (k : Int) (f : Fld) (w : World) (h : rSch (All w) w [.slice A N c] l) (hk : f.2.1 = k) (ht : byt t = f.2.2) (hk0 : -9223372036854775808 ≤ k) (hk1 : k ≤ 9223372036854775807) :
    Calls Try.prog 87 #[.agg #[.slice A N c], .agg #[.string s, .int .i64 k, .string t]] w fun e w' => e = .returned (.bool (leadS l f)) ∧ Below w.heap.size w w' := by
  have hB : ∀ u v, Below w.heap.size w ((w.alloc (.cells u 24)).alloc (.cells v 48)) := fun u v => ((Below.refl _ w).alloc (Nat.le_refl _) _).alloc (by simp) _
  have T1 := Lib.hid (fun u v => find_any A N c l t ((w.alloc (.cells u 24)).alloc (.cells v 48)) (sch_below (hB _ _) h))
  rw [ht] at T1
  clear h
  by_cases h5 : k = 5
  · have Hr : Hid (leadS l f = decide (0 ≤ findS l f.2.2)) := by show _ = _; rw [leadS, if_pos (by omega)]
    subst h5
    generalize findS l f.2.2 = r at *
    go_enter Try.func87, Try.ntmps87
    go_wp2_with (first | (go_at_call 62; refine (T1.out _ _).mono ?_; rintro e w1 ⟨rfl, hB1⟩) | fail)
    go_ret
    exact ⟨by rw [Hr.out]; rfl, (hB _ _).trans (hB1.mono (hB _ _).size)⟩
  · have h5' : (k == 5) = false := by simpa using h5
    have Hr : Hid (leadS l f = (decide (0 ≤ k) && decide (k < 6) && t.toList.isEmpty)) := by
      show _ = _
      rw [leadS, if_neg (by omega), hk, byt_nil_iff, ht]
    clear T1 h5
    by_cases h0 : 0 ≤ k
    · have h0' : decide (0 ≤ k) = true := decide_eq_true h0
      by_cases h6 : k < 6
      · have h6' : decide (k < 6) = true := decide_eq_true h6
        rw [h0', h6'] at Hr
        go_enter Try.func87, Try.ntmps87
        go_wp2
        go_ret
        exact ⟨by rw [Hr.out]; simp, hB _ _⟩
      · have h6' : decide (k < 6) = false := decide_eq_false h6
        rw [h0', h6'] at Hr
        go_enter Try.func87, Try.ntmps87
        go_wp2
        go_ret
        exact ⟨by rw [Hr.out]; simp, hB _ _⟩
    · have h0' : decide (0 ≤ k) = false := decide_eq_false h0
      rw [h0'] at Hr
      go_enter Try.func87, Try.ntmps87
      go_wp2
      go_ret
      exact ⟨by rw [Hr.out]; simp, hB _ _⟩

/-- Of a list, gone through up to i: all that may be so far. -/
theorem allI_at {α : Type} {p : Nat → α → Bool} {l : List α} {i : Nat} {a : α} (hi : l[i]? = some a) : allI p i (l.drop i) = (p i a && allI p (i + 1) (l.drop (i + 1))) := by
  have hlt := (List.getElem?_eq_some_iff.1 hi).1
  have : l.drop i = a :: l.drop (i + 1) := by
    rw [List.drop_eq_getElem_cons hlt]
    congr 1
    exact (List.getElem?_eq_some_iff.1 hi).2
  rw [this, allI]
theorem allI_end {α : Type} {p : Nat → α → Bool} {l : List α} {i : Nat} (hi : l.length ≤ i) : allI p i (l.drop i) = true := by
  rw [List.drop_of_length_le hi]; rfl

theorem Blk.to {w w' : World} {g : Nat} {t : TypeId} {cs : List Value} (h : Blk w g t cs) (hB : Below w.heap.size w w') : Blk w' g t cs := h.below h.lt hB

set_option maxRecDepth 100000 in
set_option maxHeartbeats 2000000 in
theorem mayFields_any (A : Option Addr) (N c : Nat) (l : Sch) (s : ByteArray) (B : Option Addr) (M d : Nat) (fs : List Fld) (w : World) (h : rSch (All w) w [.slice A N c] l) (hf : rFlds (All w) w [.slice B M d] fs) :
    Calls Try.prog 63 #[.agg #[.slice A N c], .agg #[.string s, .slice B M d]] w fun e w' => e = .returned (.bool (mayFs l fs)) ∧ Below w.heap.size w w' := by
  obtain ⟨hM, hMd, hdm⟩ := flds_len hf
  simp only [maxLen] at hdm
  have hB0 : Below w.heap.size w ((w.alloc (.cells #[.slice A N c] 24)).alloc (.cells #[.string s, .slice B M d] 51)) := ((Below.refl _ w).alloc (Nat.le_refl _) _).alloc (by simp) _
  by_cases h5 : M ≤ 5
  · have Hm : Hid (mayFs l fs = allI (mayF l fs) 0 (fs.drop 0)) := by show _ = _; rw [mayFs, decide_eq_true (by omega), Bool.true_and, List.drop_zero]
    have h5' : decide ((5 : Int) < (M : Int)) = false := by simp; omega
    generalize mayFs l fs = r at *
    go_enter Try.func63, Try.ntmps63
    go_wp2
    go_loopw [14] (fun iv w' => ∃ i : Nat, i ≤ M ∧ iv = .int .i64 (i : Int) ∧ Below w.heap.size w w' ∧ Blk w' w.heap.size 24 [.slice A N c] ∧ Blk w' (w.heap.size + 1) 51 [.string s, .slice B M d] ∧ Hid (r = allI (mayF l fs) i (fs.drop i))) (fun iv _ => M - (intOf iv).toNat)
    case atStart => exact ⟨0, by omega, rfl, hB0, (Blk.new w _ [.slice A N c]).alloc _, by have := Blk.new (w.alloc (.cells #[.slice A N c] 24)) 51 [.string s, .slice B M d]; simpa using this, Hm⟩
    case round =>
      rename_i iv wr
      obtain ⟨i, hi, rfl, hB, b1, b2, hr⟩ := hrel
      clear Hm hB0
      by_cases hin : i < M
      · have hfi : fs[i]? = some fs[i] := List.getElem?_eq_getElem (by omega)
        have hf' := flds_below hB hf
        obtain ⟨b, off, x, y, rfl, hb, hx1, hx2, hx3, hx, hy, hxs, hys, hk0, hk1⟩ := fld_at hf' hfi
        have hil : (i : Int) < (M : Int) := by omega
        have hi0 : (0 : Int) ≤ (i : Int) := by omega
        have hr' := hr.out
        rw [allI_at hfi, mayF] at hr'
        have Hr := Lib.hid hr'
        clear hr' hr hfi
        generalize fs[i] = f at *
        have hB1 : Below wr.heap.size wr (wr.alloc (.cells #[.string x, .int .i64 f.2.1, .string y] 48)) := (Below.refl _ wr).alloc (Nat.le_refl _) _
        have b3 := Blk.new wr 48 [.string x, .int .i64 f.2.1, .string y]
        have T1 := Lib.hid (fun W => nmay_any x W)
        have T2 := Lib.hid (fun W (hW : Below w.heap.size w W) => field_any s (some ⟨b, off, none⟩) M d fs x W (flds_below hW hf))
        have T3 := Lib.hid (fun W (hW : Below w.heap.size w W) => mayLead_any A N c l x y f.2.1 f W (sch_below hW h) rfl hy hk0 hk1)
        rw [hx] at T1 T2
        have H0 := Lib.hid (hB.trans (hB1.mono hB.size))
        have b1' := b1.to hB1
        have b2' := b2.to hB1
        clear hB b1 b2 hx hy hf' h hf
        generalize mayN f.1 = m1 at *
        generalize hd : decide (fieldS fs f.1 = (i : Int)) = m2 at *
        have hd2 : (fieldS fs f.1 != (i : Int)) = !m2 := by rw [← hd]; by_cases e : fieldS fs f.1 = (i : Int) <;> simp [e]
        clear hd
        generalize fieldS fs f.1 = r2 at *
        generalize leadS l f = m3 at *
        go_wp2_with fail
        refine (T1.out _).mono ?_
        rintro e w1 ⟨rfl, hB2⟩
        have H1 := Lib.hid (H0.out.trans (hB2.mono H0.out.size))
        cases m1
        · go_wp2
          go_ret
          exact ⟨by rw [Hr.out]; rfl, H1.out⟩
        · have b1w := b1'.to hB2
          have b2w := b2'.to hB2
          have b3w : Blk w1 wr.heap.size 48 [.string x, .int .i64 f.2.1, .string y] := b3.to hB2
          have c1 := b2w.cell (j := 0) rfl
          have c2 := b2w.cell (j := 1) rfl
          have c3 := b3w.cell (j := 0) rfl
          clear hB2
          go_wp2_with fail
          refine (T2.out _ H1.out).mono ?_
          rintro e w2 ⟨rfl, hB3⟩
          have H2 := Lib.hid (H1.out.trans (hB3.mono H1.out.size))
          cases m2
          · simp only [Bool.not_false] at hd2
            go_wp2
            go_ret
            exact ⟨by rw [Hr.out]; simp, H2.out⟩
          · simp only [Bool.not_true] at hd2
            have b1x := b1w.to hB3
            have b2x := b2w.to hB3
            have b3x := b3w.to hB3
            have d1 := b1x.cell (j := 0) rfl
            have d2 := b3x.cell (j := 0) rfl
            have d3 := b3x.cell (j := 1) rfl
            have d4 := b3x.cell (j := 2) rfl
            clear hB3
            go_wp2_with fail
            refine (T3.out _ H2.out).mono ?_
            rintro e w3 ⟨rfl, hB4⟩
            have H3 := Lib.hid (H2.out.trans (hB4.mono H2.out.size))
            have b1y := b1x.to hB4
            have b2y := b2x.to hB4
            clear hB4
            cases m3
            · go_wp2
              go_ret
              exact ⟨by rw [Hr.out]; simp, H3.out⟩
            · go_wp2
              go_roundw
              case rel => exact ⟨i + 1, by omega, by go_num, H3.out, b1y, b2y, Lib.hid (by have := Hr.out; simpa using this)⟩
              case measure => simp [intOf]; omega
      · obtain rfl : i = M := by omega
        have hr' := hr.out
        rw [allI_end (by omega)] at hr'
        clear hr
        go_wp2
        go_ret
        exact ⟨by rw [hr']; rfl, hB⟩
  · have Hm : Hid (mayFs l fs = false) := by show _ = _; rw [mayFs, decide_eq_false (by omega), Bool.false_and]
    have h5' : decide ((5 : Int) < (M : Int)) = true := by simp; omega
    go_enter Try.func63, Try.ntmps63
    go_wp2
    go_ret
    exact ⟨by rw [Hm.out]; rfl, hB0⟩

set_option maxRecDepth 100000 in
set_option maxHeartbeats 2000000 in
theorem may_any (A : Option Addr) (N c : Nat) (l : Sch) (w : World) (h : rSch (All w) w [.slice A N c] l) :
    Calls Try.prog 39 #[.agg #[.slice A N c]] w fun e w' => e = .returned (.bool (mayS l)) ∧ Below w.heap.size w w' := by
  obtain ⟨hN, hNc, hcm⟩ := sch_len h
  simp only [maxLen] at hcm
  have hB0 : Below w.heap.size w (w.alloc (.cells #[.slice A N c] 24)) := (Below.refl _ w).alloc (Nat.le_refl _) _
  by_cases h0 : N = 0
  · have Hm : Hid (mayS l = false) := by show _ = _; rw [mayS, decide_eq_false (by omega), Bool.false_and, Bool.false_and]
    subst h0
    go_enter Try.func39, Try.ntmps39
    go_wp2
    go_ret
    exact ⟨by rw [Hm.out]; rfl, hB0⟩
  by_cases h4 : N ≤ 4
  · have Hm : Hid (mayS l = allI (mayT l) 0 (l.drop 0)) := by show _ = _; rw [mayS, decide_eq_true (by omega), decide_eq_true (by omega), Bool.true_and, Bool.true_and, List.drop_zero]
    have h0' : ((N : Int) == 0) = false := by simp; omega
    have h4' : decide ((4 : Int) < (N : Int)) = false := by simp; omega
    generalize mayS l = r at *
    go_enter Try.func39, Try.ntmps39
    go_wp2
    go_loopw [18] (fun iv w' => ∃ i : Nat, i ≤ N ∧ iv = .int .i64 (i : Int) ∧ Below w.heap.size w w' ∧ Blk w' w.heap.size 24 [.slice A N c] ∧ Hid (r = allI (mayT l) i (l.drop i))) (fun iv _ => N - (intOf iv).toNat)
    case atStart => exact ⟨0, by omega, rfl, hB0, Blk.new w _ [.slice A N c], Hm⟩
    case round =>
      rename_i iv wr
      obtain ⟨i, hi, rfl, hB, b1, hr⟩ := hrel
      clear Hm hB0
      by_cases hin : i < N
      · have hfi : l[i]? = some l[i] := List.getElem?_eq_getElem (by omega)
        have h' := sch_below hB h
        obtain ⟨b, off, x, A2, c2, rfl, hb, hx1, hx2, hx, hxs, hfs⟩ := typ_at h' hfi
        have hil : (i : Int) < (N : Int) := by omega
        have hi0 : (0 : Int) ≤ (i : Int) := by omega
        have hr' := hr.out
        rw [allI_at hfi, mayT] at hr'
        have Hr := Lib.hid hr'
        clear hr' hr hfi
        generalize l[i] = t at *
        have hB1 : Below wr.heap.size wr (wr.alloc (.cells #[.string x, .slice A2 t.2.length c2] 51)) := (Below.refl _ wr).alloc (Nat.le_refl _) _
        have b3 := Blk.new wr 51 [.string x, .slice A2 t.2.length c2]
        have hfs1 := flds_below hB1 hfs
        have T1 := Lib.hid (fun W => nmay_any x W)
        have T2 := Lib.hid (fun W (hW : Below w.heap.size w W) => find_any (some ⟨b, off, none⟩) N c l x W (sch_below hW h))
        have T3 := Lib.hid (fun W (hW : Below w.heap.size w W) hq => mayFields_any (some ⟨b, off, none⟩) N c l x A2 t.2.length c2 t.2 W (sch_below hW h) hq)
        rw [hx] at T1 T2
        have H0 := Lib.hid (hB.trans (hB1.mono hB.size))
        have b1' := b1.to hB1
        clear hB b1 hx h' h hfs
        generalize mayN t.1 = m1 at *
        generalize hd : decide (findS l t.1 = (i : Int)) = m2 at *
        have hd2 : (findS l t.1 != (i : Int)) = !m2 := by rw [← hd]; by_cases e : findS l t.1 = (i : Int) <;> simp [e]
        clear hd
        generalize findS l t.1 = r2 at *
        generalize mayFs l t.2 = m3 at *
        go_wp2_with fail
        refine (T1.out _).mono ?_
        rintro e w1 ⟨rfl, hB2⟩
        have H1 := Lib.hid (H0.out.trans (hB2.mono H0.out.size))
        cases m1
        · go_wp2
          go_ret
          exact ⟨by rw [Hr.out]; rfl, H1.out⟩
        · have b1w := b1'.to hB2
          have b3w : Blk w1 wr.heap.size 51 [.string x, .slice A2 t.2.length c2] := b3.to hB2
          have hfs2 := flds_below hB2 hfs1
          have c1 := b1w.cell (j := 0) rfl
          have c3 := b3w.cell (j := 0) rfl
          clear hB2
          go_wp2_with fail
          refine (T2.out _ H1.out).mono ?_
          rintro e w2 ⟨rfl, hB3⟩
          have H2 := Lib.hid (H1.out.trans (hB3.mono H1.out.size))
          cases m2
          · simp only [Bool.not_false] at hd2
            go_wp2
            go_ret
            exact ⟨by rw [Hr.out]; simp, H2.out⟩
          · simp only [Bool.not_true] at hd2
            have b1x := b1w.to hB3
            have b3x := b3w.to hB3
            have hfs3 := flds_below hB3 hfs2
            have d1 := b1x.cell (j := 0) rfl
            have d2 := b3x.cell (j := 0) rfl
            have d3 := b3x.cell (j := 1) rfl
            clear hB3
            go_wp2_with fail
            refine (T3.out _ H2.out hfs3).mono ?_
            rintro e w3 ⟨rfl, hB4⟩
            have H3 := Lib.hid (H2.out.trans (hB4.mono H2.out.size))
            have b1y := b1x.to hB4
            clear hB4
            cases m3
            · go_wp2
              go_ret
              exact ⟨by rw [Hr.out]; simp, H3.out⟩
            · go_wp2
              go_roundw
              case rel => exact ⟨i + 1, by omega, by go_num, H3.out, b1y, Lib.hid (by have := Hr.out; simpa using this)⟩
              case measure => simp [intOf]; omega
      · obtain rfl : i = N := by omega
        have hr' := hr.out
        rw [allI_end (by omega)] at hr'
        clear hr
        go_wp2
        go_ret
        exact ⟨by rw [hr']; rfl, hB⟩
  · have Hm : Hid (mayS l = false) := by show _ = _; rw [mayS, decide_eq_false (p := l.length ≤ 4) (by omega), Bool.and_false, Bool.false_and]
    have h0' : ((N : Int) == 0) = false := by simp; omega
    have h4' : decide ((4 : Int) < (N : Int)) = true := by simp; omega
    go_enter Try.func39, Try.ntmps39
    go_wp2
    go_ret
    exact ⟨by rw [Hm.out]; rfl, hB0⟩
end Go.Proofs.Yteafbdebmhpffaa
