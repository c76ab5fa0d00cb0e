/- The contracts of what Sweep strikes out, of slices.IndexFunc with it, and of slices.DeleteFunc. No condition. -/
import Derived.Test.YtembafogbfcajaaGrDelRow
import Derived.Test.YtembafogbfcajaaGrComeTo
namespace Go.Proofs.Ytembafogbfcajaa
open Go.RowKit Go.Maps

set_option maxRecDepth 100000 in
theorem del_any (x y : Int) (A2 : Option Addr) (n2 c2 : Nat) (L : List Int) (Mb g : Nat) (w : World) (hn : w.cell? ⟨g, 0, none⟩ = some (.map (some Mb))) (hg : g < w.heap.size) (hS : SetM w Mb L) (hw : (Lit.int .i64 x).wf = true) :
    Calls Try.prog 46 #[.agg #[.int .i64 x, .int .i64 y, .slice A2 n2 c2], .pointer (some ⟨g, 0, none⟩)] w fun e w' => e = .returned (.bool (!decide (x ∈ L))) ∧ Below w.heap.size w w' := by
  have hB : Below w.heap.size w (w.alloc (.cells #[.int .i64 x, .int .i64 y, .slice A2 n2 c2] 49)) := (Below.refl _ w).alloc (Nat.le_refl _) _
  have hn' := (hB.cell (p := ⟨g, 0, none⟩) hg).trans hn
  obtain ⟨D, hown, hhas⟩ := hS.below hB
  have hkey : keyOf Try.prog 3 (.int .i64 x) = some (.int .i64 x) := keyOf_int_mk Try.underlying3 hw
  have hh := hhas x hw
  clear hhas hS
  go_enter Try.func46, Try.ntmps46
  go_wp2_with (first | (at_lookup; refine wpList_lookup_own_unit _ rfl _ _ 71 rfl 3 74 come_law rfl (come_zero _) Mb L.length D rfl hown _ _ rfl hkey ?_; rw [hh]) | fail)
  go_ret
  exact ⟨rfl, hB.alloc hB.size _⟩

set_option maxRecDepth 100000 in
set_option maxHeartbeats 1000000 in
theorem indexD_any (A : Option Addr) (N c : Nat) (l : List Ob) (L : List Int) (Mb g : Nat) (w : World) (h : rObs (All w) w [.slice A N c] l) (hn : w.cell? ⟨g, 0, none⟩ = some (.map (some Mb))) (hg : g < w.heap.size) (hS : SetM w Mb L) :
    Calls Try.prog 57 #[.slice A N c, .func (.func 46) #[] #[.pointer (some ⟨g, 0, none⟩)]] w fun e w' => e = .returned (.int .i64 (idxP (fun o => !decide (o.1 ∈ L)) l)) ∧ Below w.heap.size w w' := by
  obtain ⟨hN, hNc, hcm⟩ := slice_len h
  simp only [maxLen] at hcm
  go_enter Try.func57, Try.ntmps57
  go_wp2
  go_loopw [8] (fun iv w' => ∃ i : Nat, i ≤ N ∧ iv = .int .i64 (i : Int) ∧ Below w.heap.size w w' ∧ ∀ j o, j < i → l[j]? = some o → (!decide (o.1 ∈ L)) = false) (fun iv _ => N - (intOf iv).toNat)
  case atStart => exact ⟨0, by omega, rfl, Below.refl _ _, fun j t hj => by omega⟩
  case round =>
    rename_i iv wr
    obtain ⟨i, hi, rfl, hB, hno⟩ := hrel
    have h := obs_below hB h
    have hn : wr.cell? ⟨g, 0, none⟩ = some (.map (some Mb)) := (hB.cell (p := ⟨g, 0, none⟩) hg).trans hn
    have hg : g < wr.heap.size := Nat.lt_of_lt_of_le hg hB.size
    have hS := hS.kept (below_grown hB none) (by simp)
    by_cases hin : i < N
    · have hli : l[i]? = some l[i] := List.getElem?_eq_getElem (by omega)
      obtain ⟨b, off, A2, c2, rfl, hb, hx1, hx2, hx3, -, hid, -⟩ := ob_at h hli
      have T1 := Lib.hid (del_any l[i].1 l[i].2.1 A2 l[i].2.2.length c2 L Mb g wr hn hg hS (WalkArith.wf_i64 hid))
      have hil : (i : Int) < (N : Int) := by omega
      have hi0 : (0 : Int) ≤ (i : Int) := by omega
      have Hno := Lib.hid hno
      have Hli := Lib.hid hli
      have HB := Lib.hid hB
      clear hno hli h hB hS
      by_cases he : (!decide (l[i].1 ∈ L)) = true
      · have Hr : Hid (idxP (fun o => !decide (o.1 ∈ L)) l = (i : Int)) := (idxP_iff _ l i).2 ⟨⟨l[i], Hli.out, he⟩, fun j b hj hb => Hno.out j b hj hb⟩
        rw [he] at T1
        clear he
        generalize l[i].1 = x1 at *
        generalize l[i].2.1 = x2 at *
        generalize l[i].2.2.length = x3 at *
        go_wp2_with (first | (go_at_call 46; refine T1.out.mono ?_; rintro e w1 ⟨rfl, hB1⟩) | fail)
        go_ret
        exact ⟨by rw [Hr.out]; rfl, HB.out.trans (hB1.mono HB.out.size)⟩
      · replace he : (!decide (l[i].1 ∈ L)) = false := by simpa using he
        have Hr : Hid (∀ j o, j < i + 1 → l[j]? = some o → (!decide (o.1 ∈ L)) = false) := fun j t hj ht => by
          by_cases hji : j < i
          · exact Hno.out j t hji ht
          · obtain rfl : j = i := by omega
            rw [Hli.out] at ht
            injection ht with ht
            subst ht
            exact he
        rw [he] at T1
        clear he
        generalize l[i].1 = x1 at *
        generalize l[i].2.1 = x2 at *
        generalize l[i].2.2.length = x3 at *
        go_wp2_with (first | (go_at_call 46; refine T1.out.mono ?_; rintro e w1 ⟨rfl, hB1⟩) | fail)
        go_roundw
        case rel => exact ⟨i + 1, by omega, by go_num, HB.out.trans (hB1.mono HB.out.size), Hr.out⟩
        case measure => simp [intOf]; omega
    · obtain rfl : i = N := by omega
      have Hr : Hid (idxP (fun o => !decide (o.1 ∈ L)) l = -1) := (idxP_none _ l).2 fun t ht => by
        obtain ⟨j, hj⟩ := List.getElem?_of_mem ht
        have := (List.getElem?_eq_some_iff.1 hj).1
        exact hno j t (by omega) hj
      clear hno
      go_wp2
      go_ret
      exact ⟨by rw [Hr.out]; rfl, hB⟩

set_option maxRecDepth 100000 in
set_option maxHeartbeats 2000000 in
theorem deleteFunc_any (b2 n : Nat) (z : List (Ob × Nat)) (L : List Int) (lo hi Mb g : Nat) (w : World) (hz : z.length = n) (hnm : n ≤ 8) (hb : Blk w b2 49 (cellsZ z)) (hI : InZ lo hi w z) (hhi : hi ≤ w.heap.size) (hn : w.cell? ⟨g, 0, none⟩ = some (.map (some Mb))) (hg : g < w.heap.size) (hS : SetM w Mb L) (hgb : g ≠ b2) (hmb : Mb ≠ b2) :
    Calls Try.prog 45 #[.slice (some ⟨b2, 0, none⟩) n n, .func (.func 46) #[] #[.pointer (some ⟨g, 0, none⟩)]] w fun e w' =>
      ∃ (k : Nat) (rest : List Value), e = .returned (.slice (some ⟨b2, 0, none⟩) k n) ∧ k = (z.filter fun p => decide (p.1.1 ∈ L)).length ∧ Blk w' b2 49 (cellsZ (z.filter fun p => decide (p.1.1 ∈ L)) ++ rest) ∧ w.grownBy w' (some b2) := by
  have hr : rObs (All w) w [.slice (some ⟨b2, 0, none⟩) n n] (z.map (·.1)) := blk_slice hb (hI.ob.chunks.imp fun cs a hq => rOb_stays.to (Keeps.mono fun b hb => by show b < _; omega) hq) hb.lt (by simp [hz, maxLen]; omega) (by simpa using hz)
  have T1 := Lib.hid (indexD_any (some ⟨b2, 0, none⟩) n n (z.map (·.1)) L Mb g w hr hn hg hS)
  have hwf : ∀ p ∈ z, (Lit.int .i64 p.1.1).wf = true := fun p hp => (hI.1 p hp).2.2.1
  have Hix := Lib.hid (fun i => (idxP_iff (fun o : Ob => !decide (o.1 ∈ L)) (z.map (·.1)) i).1)
  have Hno := Lib.hid (idxP_none (fun o : Ob => !decide (o.1 ∈ L)) (z.map (·.1))).1
  have Hlo := Lib.hid (idxP_low (fun o : Ob => !decide (o.1 ∈ L)) (z.map (·.1)))
  clear hr hI
  generalize idxP (fun o : Ob => !decide (o.1 ∈ L)) (z.map (·.1)) = q at *
  by_cases hq : q = -1
  · subst hq
    have hall : (z.filter fun p => decide (p.1.1 ∈ L)) = z := List.filter_eq_self.2 fun p hp => by
      have := Hno.out rfl p.1 (List.mem_map_of_mem hp)
      simpa using this
    have Hall := Lib.hid hall
    clear hall
    go_enter Try.func45, Try.ntmps45
    go_wp2_with (first | (go_at_call 57; refine T1.out.mono ?_; rintro e w1 ⟨rfl, hB1⟩) | fail)
    go_ret
    refine ⟨n, [], rfl, by rw [Hall.out, hz], ?_, below_grown hB1 _⟩
    rw [Hall.out, List.append_nil]
    exact hb.to hB1
  · obtain ⟨i0, hi0⟩ : ∃ i0 : Nat, q = (i0 : Int) := ⟨q.toNat, by have := Hlo.out; omega⟩
    subst hi0
    obtain ⟨⟨o0, ho0, hp0⟩, hbefore⟩ := Hix.out i0 rfl
    rw [List.getElem?_map, Option.map_eq_some_iff] at ho0
    obtain ⟨p0, hz0, rfl⟩ := ho0
    have hi0n : i0 < n := by have := (List.getElem?_eq_some_iff.1 hz0).1; omega
    have hpre : (z.take (i0 + 1)).filter (fun p => decide (p.1.1 ∈ L)) = z.take i0 := by
      rw [take_at hz0, List.filter_append, List.filter_cons_of_neg (by simpa using hp0), List.filter_nil, List.append_nil]
      refine List.filter_eq_self.2 fun p hp => ?_
      obtain ⟨j, hj⟩ := List.getElem?_of_mem hp
      rw [List.getElem?_take] at hj
      split at hj
      · have := hbefore j p.1 (by assumption) (by rw [List.getElem?_map, hj]; rfl)
        simpa using this
      · cases hj
    have hcut : cellsZ z = cellsZ ((z.take (i0 + 1)).filter (fun p => decide (p.1.1 ∈ L))) ++ (cellsZ [p0] ++ cellsZ (z.drop (i0 + 1))) := by
      rw [hpre, ← cellsZ_append, ← cellsZ_append]
      congr 1
      rw [List.singleton_append, ← (List.getElem?_eq_some_iff.1 hz0).2, ← List.drop_eq_getElem_cons, List.take_append_drop]
    have hq' : ((i0 : Int) == -1) = false := by rw [beq_eq_false_iff_ne]; omega
    have hlen0 : ((z.take (i0 + 1)).filter (fun p => decide (p.1.1 ∈ L))).length = i0 := by rw [hpre, List.length_take]; omega
    rw [hcut] at hb
    have Hlen0 := Lib.hid hlen0
    have Hb := Lib.hid hb
    clear hbefore hp0 hpre hcut Hix Hno Hlo hz0 hlen0 hb
    go_enter Try.func45, Try.ntmps45
    go_wp2_with (first | (go_at_call 57; refine T1.out.mono ?_; rintro e w1 ⟨rfl, hB1⟩) | fail)
    go_loopw [5, 6] (fun iv jv w' => ∃ (i j : Nat) (mid : List Value), i < j ∧ j ≤ n ∧ iv = .int .i64 (i : Int) ∧ jv = .int .i64 (j : Int) ∧ Hid (mid.length = (j - i) * 3 ∧ ((z.take j).filter (fun p => decide (p.1.1 ∈ L))).length = i ∧ Blk w' b2 49 (cellsZ ((z.take j).filter (fun p => decide (p.1.1 ∈ L))) ++ (mid ++ cellsZ (z.drop j))) ∧ w.grownBy w' (some b2))) (fun _ jv _ => n - (intOf jv).toNat)
    case atStart => exact ⟨i0, i0 + 1, cellsZ [p0], by omega, by omega, rfl, by go_num, Lib.hid ⟨by rw [cellsZ_len, List.length_singleton]; omega, Hlen0.out, Hb.out.to hB1, below_grown hB1 _⟩⟩
    case round =>
      rename_i iv jv wr
      obtain ⟨i, j, mid, hij, hjn, rfl, rfl, hr⟩ := hrel
      clear Hlen0 Hb T1 hB1
      by_cases hin : j < n
      · obtain ⟨p, hzj⟩ : ∃ p, z[j]? = some p := ⟨_, List.getElem?_eq_getElem (by omega)⟩
        have hil : (j : Int) < (n : Int) := by omega
        have hj0 : (0 : Int) ≤ (j : Int) := by omega
        have hin2 : (i : Int) < (n : Int) := by omega
        have hii0 : (0 : Int) ≤ (i : Int) := by omega
        obtain ⟨r1, r2, r3, r4⟩ := hr.out
        have hdj : z.drop j = p :: z.drop (j + 1) := by rw [List.drop_eq_getElem_cons (by omega), (List.getElem?_eq_some_iff.1 hzj).2]
        rw [hdj, cellsZ_cons] at r3
        have hlen : (cellsZ ((z.take j).filter (fun p => decide (p.1.1 ∈ L))) ++ mid).length = j * 3 := by rw [List.length_append, cellsZ_len, r2, r1]; omega
        have hlen1 : (cellsZ ((z.take j).filter (fun p => decide (p.1.1 ∈ L)))).length = i * 3 := by rw [cellsZ_len, r2]
        have r3' := r3
        rw [← List.append_assoc] at r3'
        have x0 := r3'.cell (j := j * 3) (at_end0 hlen)
        have x1 := r3'.cell (j := j * 3 + 1) (at_end hlen 1)
        have x2 := r3'.cell (j := j * 3 + 2) (at_end hlen 2)
        have hpz := List.mem_of_getElem? hzj
        have hnr := r4.cell hn (by simpa using hgb)
        have hSr := hS.kept r4 (by simpa using hmb)
        have hgr : g < wr.heap.size := Nat.lt_of_lt_of_le hg r4.size
        have hB2 : Below wr.heap.size wr (wr.alloc (.cells #[.int .i64 p.1.1, .int .i64 p.1.2.1, .slice (some ⟨p.2, 0, none⟩) p.1.2.2.length p.1.2.2.length] 49)) := (Below.refl _ wr).alloc (Nat.le_refl _) _
        have T2 := Lib.hid (del_any p.1.1 p.1.2.1 (some ⟨p.2, 0, none⟩) p.1.2.2.length p.1.2.2.length L Mb g _ ((hB2.cell (p := ⟨g, 0, none⟩) hgr).trans hnr) (Nat.lt_of_lt_of_le hgr hB2.size) (hSr.below hB2) (hwf p hpz))
        have htk := take_at hzj
        have b3 := Blk.new wr 49 [.int .i64 p.1.1, .int .i64 p.1.2.1, .slice (some ⟨p.2, 0, none⟩) p.1.2.2.length p.1.2.2.length]
        by_cases hk : p.1.1 ∈ L
        · rw [decide_eq_true hk] at T2
          obtain ⟨z0, z1, z2, tl, hmid, htl⟩ := cons3 (n := j - i) (t := mid ++ [.int .i64 p.1.1, .int .i64 p.1.2.1, .slice (some ⟨p.2, 0, none⟩) p.1.2.2.length p.1.2.2.length]) (by rw [List.length_append, r1]; simp; omega)
          have hf' : (z.take (j + 1)).filter (fun p => decide (p.1.1 ∈ L)) = (z.take j).filter (fun p => decide (p.1.1 ∈ L)) ++ [p] := by rw [htk, List.filter_append, List.filter_cons_of_pos (by simpa using hk), List.filter_nil]
          have r3c : Blk wr b2 49 (cellsZ ((z.take j).filter (fun p => decide (p.1.1 ∈ L))) ++ (z0 :: z1 :: z2 :: (tl ++ cellsZ (z.drop (j + 1))))) := by
            have e : mid ++ Value.int .i64 p.1.1 :: .int .i64 p.1.2.1 :: .slice (some ⟨p.2, 0, none⟩) p.1.2.2.length p.1.2.2.length :: cellsZ (z.drop (j + 1)) = z0 :: z1 :: z2 :: (tl ++ cellsZ (z.drop (j + 1))) := by
              have := congrArg (· ++ cellsZ (z.drop (j + 1))) hmid
              simpa using this
            rw [e] at r3
            exact r3
          have Hf := Lib.hid hf'
          have R3 := Lib.hid r3c
          have H1 := Lib.hid hlen1
          have Hr2 := Lib.hid r2
          have Hr4 := Lib.hid r4
          have Htl := Lib.hid htl
          clear r3 r3' r3c r1 r2 r4 hdj hlen hlen1 hmid htl hf' htk hzj hr hSr hnr
          go_wp2_with fail
          refine T2.out.mono ?_
          rintro e w2 ⟨rfl, hB3⟩
          have hC : Below wr.heap.size wr w2 := hB2.trans (hB3.mono hB2.size)
          have c3 := b3.to hB3
          have r5 := R3.out.to hC
          have f0 := r5.frozen (i * 3)
          have f1 := r5.frozen (i * 3 + 1)
          have f2 := r5.frozen (i * 3 + 2)
          have e0 := r5.cell (j := i * 3) (u := z0) (at_end0 H1.out)
          have e1 := r5.cell (j := i * 3 + 1) (u := z1) (at_end H1.out 1)
          have e2 := r5.cell (j := i * 3 + 2) (u := z2) (at_end H1.out 2)
          have d0 := c3.cell (j := 0) rfl
          have d1 := c3.cell (j := 1) rfl
          have d2 := c3.cell (j := 2) rfl
          go_wp2
          go_roundw
          case rel =>
            have P4 := ((r5.set (i * 3) (.int .i64 p.1.1)).set (i * 3 + 1) (.int .i64 p.1.2.1)).set (i * 3 + 2) (.slice (some ⟨p.2, 0, none⟩) p.1.2.2.length p.1.2.2.length)
            rw [set_mid3 H1.out] at P4
            refine ⟨i + 1, j + 1, tl, by omega, by omega, by go_num, by go_num, Lib.hid ⟨by rw [Htl.out]; congr 1; omega, by rw [Hf.out, List.length_append, Hr2.out]; rfl, ?_, ?_⟩⟩
            · rw [Hf.out, cellsZ_append]
              exact P4
            · have hq := (((Below.refl b2 w2).setCell (p := ⟨b2, i * 3, none⟩) (Nat.le_refl _) (.int .i64 p.1.1)).setCell (p := ⟨b2, i * 3 + 1, none⟩) (Nat.le_refl _) (.int .i64 p.1.2.1)).setCell (p := ⟨b2, i * 3 + 2, none⟩) (Nat.le_refl _) (.slice (some ⟨p.2, 0, none⟩) p.1.2.2.length p.1.2.2.length)
              refine (Hr4.out.trans (below_grown hC _)).trans ⟨hq.os, hq.tape, hq.output, hq.size, fun k hk hne => ?_⟩
              have hne' : k ≠ b2 := by simpa using hne
              rw [Below.heap_setCell _ _ _ _ hne', Below.heap_setCell _ _ _ _ hne', Below.heap_setCell _ _ _ _ hne']
          case measure => simp [intOf]; omega
        · rw [decide_eq_false hk] at T2
          have hf' : (z.take (j + 1)).filter (fun p => decide (p.1.1 ∈ L)) = (z.take j).filter (fun p => decide (p.1.1 ∈ L)) := by rw [htk, List.filter_append, List.filter_cons_of_neg (by simpa using hk), List.filter_nil, List.append_nil]
          have Hf := Lib.hid hf'
          have R3 := Lib.hid r3
          have Hr1 := Lib.hid r1
          have Hr2 := Lib.hid r2
          have Hr4 := Lib.hid r4
          clear r3 r3' r1 r2 r4 hdj hlen hlen1 hf' htk hzj hr hSr hnr b3
          go_wp2_with fail
          refine T2.out.mono ?_
          rintro e w2 ⟨rfl, hB3⟩
          have hC : Below wr.heap.size wr w2 := hB2.trans (hB3.mono hB2.size)
          go_wp2
          go_roundw
          case rel =>
            refine ⟨i, j + 1, mid ++ cellsZ [p], by omega, by omega, rfl, by go_num, Lib.hid ⟨by rw [List.length_append, Hr1.out, cellsZ_len]; simp; omega, by rw [Hf.out, Hr2.out], ?_, Hr4.out.trans (below_grown hC _)⟩⟩
            rw [Hf.out]
            have := R3.out.to hC
            rw [List.append_assoc]
            exact this
          case measure => simp [intOf]; omega
      · obtain rfl : j = n := by omega
        obtain ⟨r1, r2, r3, r4⟩ := hr.out
        rw [List.take_of_length_le (by omega)] at r2 r3
        rw [List.drop_of_length_le (by omega)] at r3
        have s1 := fun W => run_rest b2 j i (by omega) W
        have s2 := fun W => run_first b2 j i (by omega) W
        obtain ⟨w3, ds, hcl, p3, q3, t3, g3⟩ := run_clear r3 (i * 3) (j - i) (j - i) (by omega) (by rw [List.length_append, cellsZ_len, r2, List.length_append, r1]; omega)
        have Hfin : Hid (∃ rest, Blk w3 b2 49 (cellsZ (z.filter fun p => decide (p.1.1 ∈ L)) ++ rest)) := Lib.hid ⟨ds.drop (i * 3), by
          have : cellsZ (z.filter fun p => decide (p.1.1 ∈ L)) = ds.take (i * 3) := by
            rw [t3, List.take_append_of_le_length (by rw [cellsZ_len, r2]; exact Nat.le_refl _), List.take_of_length_le (by rw [cellsZ_len, r2]; exact Nat.le_refl _)]
          rw [this, List.take_append_drop]
          exact p3⟩
        have Hr2 := Lib.hid r2
        have Hg := Lib.hid (r4.trans g3)
        clear r1 r2 r3 r4 p3 q3 t3 g3 hr
        go_wp2
        go_ret
        obtain ⟨rest, hfin⟩ := Hfin.out
        exact ⟨i, rest, rfl, Hr2.out.symm, hfin, Hg.out⟩
end Go.Proofs.Ytembafogbfcajaa
