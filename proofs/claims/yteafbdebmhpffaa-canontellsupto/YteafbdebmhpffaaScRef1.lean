/- The contracts of the document's own Find, Field and May (layer 6): what the plain functions tell; nothing that was there is changed. Condition of May: names of at most 1048576 bytes. -/
import Derived.Test.YteafbdebmhpffaaScMay
import Derived.Test.YteafbdebmhpffaaNaRef2
namespace Go.Proofs.Yteafbdebmhpffaa
open Go.RowKit

set_option maxRecDepth 100000 in
set_option maxHeartbeats 1000000 in
theorem rfind_any (A : Option Addr) (N c : Nat) (l : Sch) (n : ByteArray) (w : World) (h : rSch (All w) w [.slice A N c] l) :
    Calls Try.prog 80 #[.agg #[.slice A N c], .string n] w fun e w' => e = .returned (.int .i64 (findS l (byt n))) ∧ Below w.heap.size w w' := by
  obtain ⟨hN, hNc, hcm⟩ := sch_len h
  simp only [maxLen] at hcm
  have hB0 : Below w.heap.size w (w.alloc (.cells #[.slice A N c] 24)) := (Below.refl _ w).alloc (Nat.le_refl _) _
  have h0 := sch_below hB0 h
  have c0 := (Blk.new w 24 [.slice A N c]).cell (j := 0) rfl
  clear h
  go_enter Try.func80, Try.ntmps80
  go_wp2
  generalize w.alloc (.cells #[.slice A N c] 24) = w1 at *
  go_loop [5] (fun iv => ∃ i : Nat, i ≤ N ∧ iv = .int .i64 (i : Int) ∧ ∀ j t, j < i → l[j]? = some t → decide (t.1 = byt n) = false) (fun iv => N - (intOf iv).toNat)
  case atStart => exact ⟨0, by omega, rfl, fun j t hj => by omega⟩
  case round =>
    obtain ⟨i, hi, rfl, hno⟩ := hrel
    by_cases hin : i < N
    · have hli : l[i]? = some l[i] := List.getElem?_eq_getElem (by omega)
      obtain ⟨b, off, sx, A2, c2, rfl, hb, hx1, hx2, hs, hsz, -⟩ := typ_at h0 hli
      have hil : (i : Int) < (N : Int) := by omega
      have hi0 : (0 : Int) ≤ (i : Int) := by omega
      have hbq := str_beq sx n
      rw [hs] at hbq
      have Hno := Lib.hid hno
      have Hli := Lib.hid hli
      clear hno hli hs
      by_cases he : l[i].1 = byt n
      · have Hr : Hid (findS l (byt n) = (i : Int)) := (idxP_iff _ l i).2 ⟨⟨l[i], Hli.out, decide_eq_true he⟩, fun j b hj hb => Hno.out j b hj hb⟩
        rw [decide_eq_true he] at hbq
        clear he
        generalize l[i] = t at *
        go_wp2
        go_ret
        exact ⟨by rw [Hr.out]; rfl, hB0⟩
      · have Hr : Hid (∀ j t, j < i + 1 → l[j]? = some t → decide (t.1 = byt n) = false) := fun j t hj ht => by
          by_cases hji : j < i
          · exact Hno.out j t hji ht
          · obtain rfl : j = i := by omega
            rw [Hli.out] at ht
            injection ht with ht
            subst ht
            exact decide_eq_false he
        rw [decide_eq_false he] at hbq
        clear he
        generalize l[i] = t at *
        go_wp2
        go_round
        case rel => exact ⟨i + 1, by omega, by go_num, Hr.out⟩
        case measure => simp [intOf]; omega
    · obtain rfl : i = N := by omega
      have Hr : Hid (findS l (byt n) = -1) := (idxP_none _ l).2 fun t ht => by
        obtain ⟨j, hj⟩ := List.getElem?_of_mem ht
        have := (List.getElem?_eq_some_iff.1 hj).1
        exact hno j t (by omega) hj
      clear hno
      go_wp2
      go_ret
      exact ⟨by rw [Hr.out]; rfl, hB0⟩

set_option maxRecDepth 100000 in
set_option maxHeartbeats 1000000 in
theorem rfield_any (s : ByteArray) (A : Option Addr) (N c : Nat) (l : List Fld) (n : ByteArray) (w : World) (h : rFlds (All w) w [.slice A N c] l) :
    Calls Try.prog 81 #[.agg #[.string s, .slice A N c], .string n] w fun e w' => e = .returned (.int .i64 (fieldS l (byt n))) ∧ Below w.heap.size w w' := by
  obtain ⟨hN, hNc, hcm⟩ := flds_len h
  simp only [maxLen] at hcm
  have hB0 : Below w.heap.size w (w.alloc (.cells #[.string s, .slice A N c] 51)) := (Below.refl _ w).alloc (Nat.le_refl _) _
  have h0 := flds_below hB0 h
  have c0 := (Blk.new w 51 [.string s, .slice A N c]).cell (j := 1) rfl
  clear h
  go_enter Try.func81, Try.ntmps81
  go_wp2
  generalize w.alloc (.cells #[.string s, .slice A N c] 51) = w1 at *
  go_loop [5] (fun iv => ∃ i : Nat, i ≤ N ∧ iv = .int .i64 (i : Int) ∧ ∀ j t, j < i → l[j]? = some t → decide (t.1 = byt n) = false) (fun iv => N - (intOf iv).toNat)
  case atStart => exact ⟨0, by omega, rfl, fun j t hj => by omega⟩
  case round =>
    obtain ⟨i, hi, rfl, hno⟩ := hrel
    by_cases hin : i < N
    · have hli : l[i]? = some l[i] := List.getElem?_eq_getElem (by omega)
      obtain ⟨b, off, sx, s2, rfl, hb, hx1, hx2, hx3, hs, hs2, hsz, hsz2, hkk⟩ := fld_at h0 hli
      have hil : (i : Int) < (N : Int) := by omega
      have hi0 : (0 : Int) ≤ (i : Int) := by omega
      have hbq := str_beq sx n
      rw [hs] at hbq
      have Hno := Lib.hid hno
      have Hli := Lib.hid hli
      clear hno hli hs
      by_cases he : l[i].1 = byt n
      · have Hr : Hid (fieldS l (byt n) = (i : Int)) := (idxP_iff _ l i).2 ⟨⟨l[i], Hli.out, decide_eq_true he⟩, fun j b hj hb => Hno.out j b hj hb⟩
        rw [decide_eq_true he] at hbq
        clear he
        generalize l[i] = t at *
        go_wp2
        go_ret
        exact ⟨by rw [Hr.out]; rfl, hB0⟩
      · have Hr : Hid (∀ j t, j < i + 1 → l[j]? = some t → decide (t.1 = byt n) = false) := fun j t hj ht => by
          by_cases hji : j < i
          · exact Hno.out j t hji ht
          · obtain rfl : j = i := by omega
            rw [Hli.out] at ht
            injection ht with ht
            subst ht
            exact decide_eq_false he
        rw [decide_eq_false he] at hbq
        clear he
        generalize l[i] = t at *
        go_wp2
        go_round
        case rel => exact ⟨i + 1, by omega, by go_num, Hr.out⟩
        case measure => simp [intOf]; omega
    · obtain rfl : i = N := by omega
      have Hr : Hid (fieldS l (byt n) = -1) := (idxP_none _ l).2 fun t ht => by
        obtain ⟨j, hj⟩ := List.getElem?_of_mem ht
        have := (List.getElem?_eq_some_iff.1 hj).1
        exact hno j t (by omega) hj
      clear hno
      go_wp2
      go_ret
      exact ⟨by rw [Hr.out]; rfl, hB0⟩

/-- Names that the document's own May can take. -/
def tame (n : List Nat) : Prop := n.length ≤ 1048576
def tameS (s : Sch) : Prop := ∀ t ∈ s, tame t.1 ∧ ∀ f ∈ t.2, tame f.1
theorem rnm_any {n : List Nat} (s : ByteArray) (h : byt s = n) (hn : tame n) (w : World) : Calls Try.prog 79 #[.string s] w fun e w' => e = .returned (.bool (mayN n)) ∧ Below w.heap.size w w' := by
  subst h
  exact rnmay_any s w (by unfold tame at hn; rwa [byt_length] at hn)

set_option maxRecDepth 100000 in
set_option maxHeartbeats 8000000 in
theorem rsmay_any (A : Option Addr) (N c : Nat) (l : Sch) (w : World) (h : rSch (All w) w [.slice A N c] l) (htame : tameS l) :
    Calls Try.prog 56 #[.agg #[.slice A N c]] w fun e w' => e = .returned (.bool (mayS l)) ∧ Below w.heap.size w w' := by
  obtain ⟨hN, hNc, hcm⟩ := sch_len h
  simp only [maxLen] at hcm
  have hB0 : Below w.heap.size w (w.alloc (.cells #[.slice A N c] 24)) := (Below.refl _ w).alloc (Nat.le_refl _) _
  have Hm : Hid (mayS l = ((decide (1 ≤ N) && decide (N ≤ 4)) && allI (mayT l) 0 (l.drop 0))) := by show _ = _; rw [mayS, List.drop_zero, hN]
  generalize mayS l = r at *
  go_enter Try.func56, Try.ntmps56
  go_wp2
  go_loopw [3] (fun iv w' => ∃ i : Nat, i ≤ N ∧ iv = .int .i64 (i : Int) ∧ Below w.heap.size w w' ∧ Blk w' w.heap.size 24 [.slice A N c] ∧ Hid (r = ((decide (1 ≤ N) && decide (N ≤ 4)) && allI (mayT l) i (l.drop i)))) (fun iv _ => N - (intOf iv).toNat)
  case atStart => exact ⟨0, by omega, rfl, hB0, Blk.new w _ [.slice A N c], Hm⟩
  case round =>
    rename_i iv wr
    obtain ⟨i, hi, rfl, hB, b1, hr⟩ := hrel
    clear Hm hB0
    have c0 := b1.cell (j := 0) rfl
    by_cases hin : i < N
    · have hfi : l[i]? = some l[i] := List.getElem?_eq_getElem (by omega)
      obtain ⟨b, off, x, A2, c2, rfl, hb, hx1, hx2, hx, hxs, hfs⟩ := typ_at (sch_below hB h) hfi
      have hil : (i : Int) < (N : Int) := by omega
      have hi0 : (0 : Int) ≤ (i : Int) := by omega
      have hr' := hr.out
      rw [allI_at hfi, mayT] at hr'
      have Hr := Lib.hid hr'
      have htm := htame l[i] (List.getElem_mem _)
      clear hr' hr hfi
      generalize l[i] = t at *
      have hB1 : Below wr.heap.size wr (wr.alloc (.cells #[.string x, .slice A2 t.2.length c2] 51)) := (Below.refl _ wr).alloc (Nat.le_refl _) _
      have b3 := Blk.new wr 51 [.string x, .slice A2 t.2.length c2]
      have hfs1 := flds_below hB1 hfs
      have hfl := flds_len hfs
      simp only [maxLen] at hfl
      have hfl2 : t.2.length ≤ 9223372036854775807 := by omega
      have T1 := Lib.hid (fun W => rnm_any x hx htm.1 W)
      have T2 := Lib.hid (fun W (hW : Below w.heap.size w W) => rfind_any (some ⟨b, off, none⟩) N c l x W (sch_below hW h))
      rw [hx] at T2
      have H0 := Lib.hid (hB.trans (hB1.mono hB.size))
      have b1' := b1.to hB1
      clear hB b1 hx hfs hfl hB1
      generalize mayN t.1 = m1 at *
      generalize hd : decide (findS l t.1 = (i : Int)) = m2 at *
      have hd2 : (findS l t.1 != (i : Int)) = !m2 := by rw [← hd]; by_cases e : findS l t.1 = (i : Int) <;> simp [e]
      clear hd
      generalize findS l t.1 = r2 at *
      go_wp2_with fail
      refine (T1.out _).mono ?_
      rintro e w1 ⟨rfl, hB2⟩
      have H1 := Lib.hid (H0.out.trans (hB2.mono H0.out.size))
      cases m1
      · go_wp2
        go_ret
        exact ⟨by rw [Hr.out]; simp, H1.out⟩
      have b1w := b1'.to hB2
      have b3w : Blk w1 wr.heap.size 51 [.string x, .slice A2 t.2.length c2] := b3.to hB2
      have hfs2 := flds_below hB2 hfs1
      have c1 := b1w.cell (j := 0) rfl
      have c3 := b3w.cell (j := 0) rfl
      clear hB2 hfs1 b3 b1' c0
      go_wp2_with fail
      refine (T2.out _ H1.out).mono ?_
      rintro e w2 ⟨rfl, hB3⟩
      have H2 := Lib.hid (H1.out.trans (hB3.mono H1.out.size))
      cases m2
      · simp only [Bool.not_false] at hd2
        go_wp2
        go_ret
        exact ⟨by rw [Hr.out]; simp, H2.out⟩
      simp only [Bool.not_true] at hd2
      have b1x := b1w.to hB3
      have b3x := b3w.to hB3
      have hfs3 := flds_below hB3 hfs2
      have d3 := b3x.cell (j := 1) rfl
      clear hB3 b1w b3w hfs2 c1 c3 H1 H0 T1
      have Hr2 : Hid (r = ((decide (1 ≤ N) && decide (N ≤ 4)) && (mayFs l t.2 && allI (mayT l) (i + 1) (l.drop (i + 1))))) := Lib.hid (by have := Hr.out; simpa using this)
      clear Hr
      by_cases h5 : t.2.length ≤ 5
      · have h5' : decide ((5 : Int) < (t.2.length : Int)) = false := decide_eq_false (by omega)
        have Hr3 : Hid (r = ((decide (1 ≤ N) && decide (N ≤ 4)) && (allI (mayF l t.2) 0 (t.2.drop 0) && allI (mayT l) (i + 1) (l.drop (i + 1))))) := Lib.hid (by rw [Hr2.out, mayFs, decide_eq_true h5, Bool.true_and, List.drop_zero])
        clear Hr2
        have hgl := b3x.lt
        go_wp2
        go_loopw [6] (fun kv w' => ∃ k : Nat, k ≤ t.2.length ∧ kv = .int .i64 (k : Int) ∧ Below w2.heap.size w2 w' ∧ Hid (r = ((decide (1 ≤ N) && decide (N ≤ 4)) && (allI (mayF l t.2) k (t.2.drop k) && allI (mayT l) (i + 1) (l.drop (i + 1)))))) (fun kv _ => t.2.length - (intOf kv).toNat)
        case atStart => exact ⟨0, by omega, rfl, Below.refl _ _, Hr3⟩
        case round =>
          rename World => v0
          obtain ⟨k, hk, rfl, hC, hr⟩ := hrel
          clear Hr3
          have HC := Lib.hid (H2.out.trans (hC.mono H2.out.size))
          have e1 := b1x.to hC
          have e3 := b3x.to hC
          have g0 := e3.cell (j := 0) rfl
          have g1 := e3.cell (j := 1) rfl
          by_cases hkl : k < t.2.length
          · have hfk : t.2[k]? = some t.2[k] := List.getElem?_eq_getElem (by omega)
            have hfs4 := flds_below hC hfs3
            obtain ⟨bf, of, u, v, rfl, hbf, q1, q2, q3, hu, hv, hus, hvs, hk0, hk1⟩ := fld_at hfs4 hfk
            have hkl2 : (k : Int) < (t.2.length : Int) := by omega
            have hkl3 : (0 : Int) ≤ (k : Int) := by omega
            have hr' := hr.out
            rw [allI_at hfk, mayF, leadS] at hr'
            have Hq := Lib.hid hr'
            have hfm := htm.2 t.2[k] (List.getElem_mem _)
            clear hr' hr hfk
            generalize t.2[k] = f at *
            have hD : Below v0.heap.size v0 (v0.alloc (.cells #[.string u, .int .i64 f.2.1, .string v] 48)) := (Below.refl _ v0).alloc (Nat.le_refl _) _
            have n3 := Blk.new v0 48 [.string u, .int .i64 f.2.1, .string v]
            have U1 := Lib.hid (fun W => rnm_any u hu hfm W)
            have U2 := Lib.hid (fun W (hW : Below v0.heap.size v0 W) => rfield_any x (some ⟨bf, of, none⟩) t.2.length c2 t.2 u W (flds_below hW hfs4))
            have U3 := Lib.hid (fun W (hW : Below w.heap.size w W) => rfind_any (some ⟨b, off, none⟩) N c l v W (sch_below hW h))
            rw [hu] at U2
            rw [hv] at U3
            have e1' := e1.to hD
            have e3' := e3.to hD
            have hvn := byt_nil_iff v
            rw [hv] at hvn
            have HD := Lib.hid (hC.trans (hD.mono hC.size))
            clear hu hv hfs4
            generalize mayN f.1 = n1 at *
            generalize hd : decide (fieldS t.2 f.1 = (k : Int)) = n2 at *
            have hd3 : (fieldS t.2 f.1 != (k : Int)) = !n2 := by rw [← hd]; by_cases e : fieldS t.2 f.1 = (k : Int) <;> simp [e]
            clear hd
            generalize fieldS t.2 f.1 = s2 at *
            generalize f.2.1 = kd at *
            generalize decide (f.2.2 = []) = em at *
            generalize findS l f.2.2 = fl at *
            go_wp2_with fail
            refine (U1.out _).mono ?_
            rintro e v1 ⟨rfl, hE1⟩
            have HE1 := Lib.hid (HD.out.trans (hE1.mono HD.out.size))
            cases n1
            · go_wp2
              go_ret
              exact ⟨by rw [Hq.out]; simp, H2.out.trans (HE1.out.mono H2.out.size)⟩
            have x1 := e1'.to hE1
            have x3 := e3'.to hE1
            have y3 : Blk v1 v0.heap.size 48 [.string u, .int .i64 kd, .string v] := n3.to hE1
            have hE1' := hD.trans (hE1.mono hD.size)
            have z0 := x3.cell (j := 0) rfl
            have z1 := x3.cell (j := 1) rfl
            have z2 := y3.cell (j := 0) rfl
            clear hE1 e1' e3' n3
            go_wp2_with fail
            refine (U2.out _ hE1').mono ?_
            rintro e v2 ⟨rfl, hE2⟩
            have HE2 := Lib.hid (HE1.out.trans (hE2.mono HE1.out.size))
            cases n2
            · simp only [Bool.not_false] at hd3
              go_wp2
              go_ret
              exact ⟨by rw [Hq.out]; simp, H2.out.trans (HE2.out.mono H2.out.size)⟩
            simp only [Bool.not_true] at hd3
            have x1a := x1.to hE2
            have x3a := x3.to hE2
            have y3a := y3.to hE2
            have z3 := x1a.cell (j := 0) rfl
            have z4 := y3a.cell (j := 1) rfl
            have z5 := y3a.cell (j := 2) rfl
            have HW2 := Lib.hid (H2.out.trans (HE2.out.mono H2.out.size))
            clear hE2 x1 x3 y3 z0 z1 z2 HE1 U1 U2
            by_cases hd0 : kd < 0
            · have hd0' : decide (kd < 0) = true := decide_eq_true hd0
              have Hf : Hid (r = false) := Lib.hid (by rw [Hq.out, if_neg (by omega), decide_eq_false (p := 0 ≤ kd) (by omega)]; simp)
              go_wp2
              go_ret
              exact ⟨by rw [Hf.out]; rfl, HW2.out⟩
            have hd0' : decide (kd < 0) = false := decide_eq_false hd0
            by_cases hd6 : 6 ≤ kd
            · have hd6' : decide (6 ≤ kd) = true := decide_eq_true hd6
              have Hf : Hid (r = false) := Lib.hid (by rw [Hq.out, if_neg (by omega), decide_eq_false (p := kd < 6) (by omega)]; simp)
              go_wp2
              go_ret
              exact ⟨by rw [Hf.out]; rfl, HW2.out⟩
            have hd6' : decide (6 ≤ kd) = false := decide_eq_false hd6
            by_cases h5k : kd = 5
            · subst h5k
              have hq := Hq.out
              rw [if_pos rfl] at hq
              have Hq2 := Lib.hid hq
              clear hq Hq
              go_wp2_with fail
              refine (U3.out _ HW2.out).mono ?_
              rintro e v3 ⟨rfl, hE3⟩
              have HE3 := Lib.hid (HE2.out.trans (hE3.mono HE2.out.size))
              by_cases hfl : fl < 0
              · have hfl' : decide (fl < 0) = true := decide_eq_true hfl
                have Hf : Hid (r = false) := Lib.hid (by rw [Hq2.out, decide_eq_false (p := 0 ≤ fl) (by omega)]; simp)
                go_wp2
                go_ret
                exact ⟨by rw [Hf.out]; rfl, H2.out.trans (HE3.out.mono H2.out.size)⟩
              · have hfl' : decide (fl < 0) = false := decide_eq_false hfl
                have z6 := (y3a.to hE3).cell (j := 1) rfl
                have Hn : Hid (r = ((decide (1 ≤ N) && decide (N ≤ 4)) && (allI (mayF l t.2) (k + 1) (t.2.drop (k + 1)) && allI (mayT l) (i + 1) (l.drop (i + 1))))) := Lib.hid (by rw [Hq2.out, decide_eq_true (p := 0 ≤ fl) (by omega)]; simp)
                go_wp2
                go_roundw
                case rel => exact ⟨k + 1, by omega, by go_num, HE3.out, Hn⟩
                case measure => simp [intOf]; omega
            · have h5k' : (kd == 5) = false := by simpa using h5k
              have h5k2 : (kd != 5) = true := by simpa using h5k
              have hq := Hq.out
              rw [if_neg h5k, decide_eq_true (p := 0 ≤ kd) (by omega), decide_eq_true (p := kd < 6) (by omega)] at hq
              have Hq2 := Lib.hid hq
              clear hq Hq
              cases em
              · have Hf : Hid (r = false) := Lib.hid (by rw [Hq2.out]; simp)
                go_wp2
                go_ret
                exact ⟨by rw [Hf.out]; rfl, HW2.out⟩
              · have Hn : Hid (r = ((decide (1 ≤ N) && decide (N ≤ 4)) && (allI (mayF l t.2) (k + 1) (t.2.drop (k + 1)) && allI (mayT l) (i + 1) (l.drop (i + 1))))) := Lib.hid (by rw [Hq2.out]; simp)
                go_wp2
                go_roundw
                case rel => exact ⟨k + 1, by omega, by go_num, HE2.out, Hn⟩
                case measure => simp [intOf]; omega
          · obtain rfl : k = t.2.length := by omega
            have hr' := hr.out
            rw [allI_end (l := t.2) (by omega), Bool.true_and] at hr'
            have Hn := Lib.hid hr'
            clear hr hr'
            go_wp2
            go_roundw
            case rel => exact ⟨i + 1, by omega, by go_num, HC.out, e1, Hn⟩
            case measure => simp [intOf]; omega
      · have h5' : decide ((5 : Int) < (t.2.length : Int)) = true := decide_eq_true (by omega)
        have Hf : Hid (r = false) := Lib.hid (by rw [Hr2.out, mayFs, decide_eq_false h5]; simp)
        go_wp2
        go_ret
        exact ⟨by rw [Hf.out]; rfl, H2.out⟩
    · obtain rfl : i = N := by omega
      have hr' := hr.out
      rw [allI_end (by omega), Bool.and_true] at hr'
      have Hr := Lib.hid hr'
      clear hr hr'
      by_cases h1 : 1 ≤ i
      · have h1' : decide ((1 : Int) ≤ (i : Int)) = true := decide_eq_true (by omega)
        have Hr2 : Hid (r = decide (i ≤ 4)) := Lib.hid (by rw [Hr.out, decide_eq_true h1, Bool.true_and])
        go_wp2
        go_ret
        exact ⟨by rw [Hr2.out]; simp; omega, hB⟩
      · obtain rfl : i = 0 := by omega
        have Hr2 : Hid (r = false) := Lib.hid (by rw [Hr.out]; rfl)
        go_wp2
        go_ret
        exact ⟨by rw [Hr2.out]; rfl, hB⟩
end Go.Proofs.Yteafbdebmhpffaa
