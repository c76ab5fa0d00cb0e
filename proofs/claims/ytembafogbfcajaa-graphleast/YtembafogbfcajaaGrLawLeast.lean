/- GraphLeast: nothing is come to but roots, and what leads from them: of any objects of which are all roots, and where their Refs lead, all that is come to is one. No condition. -/
import Derived.Test.YtembafogbfcajaaGrAwake
import Derived.Test.YtembafogbfcajaaGrRefS
import Derived.Test.YtembafogbfcajaaGrLeastPlain
import Derived.Test.YtembafogbfcajaaSched
import Derived.BigQuiet
namespace Go.Proofs.Ytembafogbfcajaa
open Go.RowKit

theorem bool_at {S : Nat → Prop} {w : World} {A0 : Option Addr} {n c : Nat} {l : List Bool} {i : Nat} {x : Bool} (h : rSlice 1 rBool S w [.slice A0 n c] l) (hi : l[i]? = some x) :
    ∃ b off, A0 = some ⟨b, off, none⟩ ∧ S b ∧ w.cell? ⟨b, off + i, none⟩ = some (.bool x) := by
  obtain ⟨b, off, cs, hA, hb, rfl, hl, hc⟩ := slice_at h hi (by omega)
  have := hc 0 _ rfl
  rw [Nat.mul_one, Nat.add_zero] at this
  exact ⟨b, off, hA, hb, this⟩
theorem root_at {g : Gr} (hm : mayG g = true) {r : Int} (hr : r ∈ g.2.2) (h0 : 0 ≤ r) : ∃ I : Nat, findG g.2.1 r = (I : Int) ∧ I < g.2.1.length := by
  have := (mayG_parts hm).2.2.2.2 r hr
  rw [rootG, Bool.or_eq_true, decide_eq_true_eq, decide_eq_true_eq] at this
  obtain ⟨I, o, h1, h2, -, -⟩ := findG_at (this.resolve_left (by omega))
  exact ⟨I, h1, (List.getElem?_eq_some_iff.1 h2).1⟩
theorem ref_at {g : Gr} (hm : mayG g = true) {o : Ob} (ho : o ∈ g.2.1) {k : Nat} {f : Fld} {v : Vl} (hf : (fldsG g.1 o.2.1)[k]? = some f) (hv : o.2.2[k]? = some v) (h5 : f.2.1 = 5) (h0 : 0 ≤ v.2.2) : ∃ I : Nat, findG g.2.1 v.2.2 = (I : Int) ∧ I < g.2.1.length := by
  obtain ⟨I, o, h1, h2, -, -⟩ := findG_at (haveG_ref ((mayG_obj hm ho).have' k f v hf hv) h5 (by omega)).1
  exact ⟨I, h1, (List.getElem?_eq_some_iff.1 h2).1⟩
theorem least_at {g : Gr} {sm : List Bool} (hm : mayG g = true) (hr : ∀ (j : Nat) r, j < g.2.2.length → g.2.2[j]? = some r → 0 ≤ r → sm[(findG g.2.1 r).toNat]? = some true)
    (hs : ∀ (i : Nat) o (k : Nat) f v, i < g.2.1.length → g.2.1[i]? = some o → sm[i]? = some true → (fldsG g.1 o.2.1)[k]? = some f → o.2.2[k]? = some v → f.2.1 = 5 → 0 ≤ v.2.2 → sm[(findG g.2.1 v.2.2).toNat]? = some true)
    {x : Int} (hx : x ∈ reachG g) : ∃ I : Nat, findG g.2.1 x = (I : Int) ∧ sm[I]? = some true := by
  obtain ⟨h1, h2⟩ := (reach_mem hm).1 hx
  obtain ⟨I, o, h3, -, -, -⟩ := findG_at (findG_mem.2 h2)
  have := least_come hm (some := sm) (fun r hr' h0 => by
    obtain ⟨j, hj⟩ := List.getElem?_of_mem hr'
    exact hr j r (List.getElem?_eq_some_iff.1 hj).1 hj h0) (fun i o k f v a b c d e f' => hs i o k f v (List.getElem?_eq_some_iff.1 a).1 a b c d e f') h1
  rw [h3, Int.toNat_natCast] at this
  exact ⟨I, h3, this⟩

set_option maxRecDepth 100000 in
set_option maxHeartbeats 4000000 in
theorem graphLeast_walk (w : World) (cs : Array Value) (g : Gr) (h : rGr (All w) w cs.toList g) (Z : Option Addr) (n z : Nat) (sm : List Bool) (hs : rSlice 1 rBool (All w) w [.slice Z n z] sm) :
    Calls Try.prog 6 #[.agg cs, .slice Z n z] w fun e w' => e = .returned (.bool true) ∧ Below w.heap.size w w' := by
  obtain ⟨A, c, B, d, C, e, rfl, h⟩ := gr_arg h
  have hB0 : Below w.heap.size w (w.alloc (.cells #[.slice A g.1.length c, .slice B g.2.1.length d, .slice C g.2.2.length e] 28)) := (Below.refl _ w).alloc (Nat.le_refl _) _
  have p1 := Blk.new w 28 [.slice A g.1.length c, .slice B g.2.1.length d, .slice C g.2.2.length e]
  have TF := Lib.hid (fun W (hW : Below w.heap.size w W) => gfew_any A B C g.1.length c g.2.1.length d g.2.2.length e g W (gr_below hW h))
  have TM := Lib.hid (fun W (hW : Below w.heap.size w W) => gmay_any A B C g.1.length c g.2.1.length d g.2.2.length e g W (gr_below hW h))
  have TC := Lib.hid (fun W (hW : Below w.heap.size w W) => greach_any A B C g.1.length c g.2.1.length d g.2.2.length e g W (gr_below hW h))
  have TG := Lib.hid (fun W (hW : Below w.heap.size w W) x => rgfind_any A B C g.1.length c g.2.1.length d g.2.2.length e g x W (gr_below hW h))
  have Hg := Lib.hid (fun W (hW : Below w.heap.size w W) => gr_below hW h)
  have Hs := Lib.hid (fun W (hW : Below w.heap.size w W) => (rSlice_stays rBool_stays).to (Keeps.below hW) hs)
  obtain ⟨hsl, hnz, hzm⟩ := slice_len hs
  simp only [maxLen] at hzm
  have HB0 := Lib.hid hB0
  have hMn : g.2.1.length ≤ 9223372036854775807 := by have := (slice_len (rGr_open h).2.1).2; simp only [maxLen] at this; omega
  have hKn : g.2.2.length ≤ 9223372036854775807 := by have := (slice_len (rGr_open h).2.2).2; simp only [maxLen] at this; omega
  clear hB0 h hs
  generalize hN : g.1.length = N at *
  generalize hM : g.2.1.length = M at *
  generalize hK : g.2.2.length = K at *
  have HN := Lib.hid hN
  have HM := Lib.hid hM
  have HK := Lib.hid hK
  have Hsl := Lib.hid hsl
  clear hN hM hK hsl
  generalize fewG g = few at *
  generalize hm : mayG g = may at *
  go_enter Try.func6, Try.ntmps6
  go_wp2_with fail
  refine (gawake_any _).mono ?_
  rintro e w1 ⟨rfl, hB1⟩
  have H1 := Lib.hid (HB0.out.trans (hB1.mono HB0.out.size))
  replace p1 := p1.to hB1
  clear hB1 HB0
  have c0 := p1.cell (j := 0) rfl
  have c1 := p1.cell (j := 1) rfl
  have c2 := p1.cell (j := 2) rfl
  go_wp2_with fail
  refine (TF.out _ H1.out).mono ?_
  rintro e w2 ⟨rfl, hB2⟩
  have H2 := Lib.hid (H1.out.trans (hB2.mono H1.out.size))
  replace p1 := p1.to hB2
  clear hB2 H1 c0 c1 c2 TF
  cases few
  · go_wp2
    go_ret
    exact ⟨rfl, H2.out⟩
  have c0 := p1.cell (j := 0) rfl
  have c1 := p1.cell (j := 1) rfl
  have c2 := p1.cell (j := 2) rfl
  go_wp2_with fail
  refine (TM.out _ H2.out).mono ?_
  rintro e w3 ⟨rfl, hB3⟩
  have H3 := Lib.hid (H2.out.trans (hB3.mono H2.out.size))
  replace p1 := p1.to hB3
  clear hB3 H2 c0 c1 c2 TM
  have c0 := p1.cell (j := 0) rfl
  have c1 := p1.cell (j := 1) rfl
  have c2 := p1.cell (j := 2) rfl
  cases may
  · go_wp2
    go_ret
    exact ⟨rfl, H3.out⟩
  by_cases hnM : n = M
  case neg =>
    have hne : ((n : Int) != (M : Int)) = true := by rw [bne_iff_ne]; omega
    clear hnM
    go_wp2
    go_ret
    exact ⟨rfl, H3.out⟩
  subst hnM
  have hnn : ((n : Int) != (n : Int)) = false := by simp
  have Hroot := Lib.hid (fun r h1 h2 => root_at (g := g) (r := r) hm h1 h2)
  have Href := Lib.hid (fun o ho k f v h1 h2 h3 h4 => ref_at (g := g) (o := o) hm ho (k := k) (f := f) (v := v) h1 h2 h3 h4)
  have Hobj := Lib.hid (fun o ho => mayG_obj (g := g) hm (o := o) ho)
  have Hlst := Lib.hid (fun h1 h2 x hx => least_at (g := g) (sm := sm) hm h1 h2 (x := x) hx)
  clear hm
  go_wp2
  go_loopw [7] (fun iv W => ∃ q : Nat, q ≤ K ∧ iv = .int .i64 (q : Int) ∧ Hid (Below w3.heap.size w3 W) ∧ Hid (∀ (j : Nat) r, j < q → g.2.2[j]? = some r → 0 ≤ r → sm[(findG g.2.1 r).toNat]? = some true)) (fun iv _ => K - (intOf iv).toNat)
  case atStart => exact ⟨0, by omega, rfl, Lib.hid (Below.refl _ _), Lib.hid fun j r hj => by omega⟩
  case round =>
    rename World => wr
    obtain ⟨q, hq, rfl, hD, hdone⟩ := hrel
    have Hr := Lib.hid (H3.out.trans (hD.out.mono H3.out.size))
    have P1 := Lib.hid (p1.to hD.out)
    have c0 := P1.out.cell (j := 0) rfl
    have c1 := P1.out.cell (j := 1) rfl
    have c2 := P1.out.cell (j := 2) rfl
    by_cases hqK : q < K
    · obtain ⟨r, hr⟩ : ∃ r, g.2.2[q]? = some r := ⟨_, List.getElem?_eq_getElem (by have := HK.out; omega)⟩
      obtain ⟨b, off, rfl, hb, hrc, -⟩ := id_at (rGr_open (Hg.out _ Hr.out)).2.2 hr
      have hql : (q : Int) < (K : Int) := by omega
      have hq0 : (0 : Int) ≤ (q : Int) := by omega
      by_cases hr0 : 0 ≤ r
      · have hr0' : decide (0 ≤ r) = true := decide_eq_true hr0
        obtain ⟨I, hI, hIl⟩ := Hroot.out r (List.mem_of_getElem? hr) hr0
        have T1 := Lib.hid (fun W hW => TG.out W hW r)
        rw [hI] at T1
        have HI : I < n := by have := HM.out; omega
        obtain ⟨x, hx⟩ : ∃ x, sm[I]? = some x := ⟨_, List.getElem?_eq_getElem (by have := Hsl.out; omega)⟩
        obtain ⟨bz, oz, rfl, hbz, hz⟩ := bool_at (Hs.out _ Hr.out) hx
        have Hnx := Lib.hid (fun (e : x = true) (j : Nat) r' (hj : j < q + 1) (hr' : g.2.2[j]? = some r') (h0 : 0 ≤ r') => (show sm[(findG g.2.1 r').toNat]? = some true by
          by_cases hjq : j < q
          · exact hdone.out j r' hjq hr' h0
          · obtain rfl : j = q := by omega
            rw [hr] at hr'
            injection hr' with hr'
            subst hr'
            rw [hI, Int.toNat_natCast, hx, e]))
        have hI0 : (0 : Int) ≤ (I : Int) := by omega
        have hIn : (I : Int) < (n : Int) := by omega
        have HS := Lib.hid (fun (W : World) (hW : Below wr.heap.size wr W) => And.intro ((P1.out.to hW).cell (j := 0) rfl) (And.intro ((P1.out.to hW).cell (j := 1) rfl) (And.intro ((P1.out.to hW).cell (j := 2) rfl) (And.intro ((hW.cell (p := ⟨b, off + q, none⟩) hb).trans hrc) ((hW.cell (p := ⟨bz, oz + I, none⟩) hbz).trans hz)))))
        clear hr hr0 hI hIl hx hdone
        go_wp2
        refine sch_start [(0, true), (1, true), (2, true), (3, true), (4, true), (5, true), (6, true), (7, true), (8, true), (9, true), (10, true), (11, true), (12, true), (13, true), (14, false), (15, true), (16, true), (17, true), (18, true)] (fun W => Below wr.heap.size wr W) (by kernel_rfl) rfl (by kernel_rfl) (fun _ _ _ _ _ h => h) (Below.refl _ wr).drew (fun hH => ?_)
        repeat (first | (refine sch_yes (v := ?_) rfl rfl ?_ hH ?_; rotate_left; (focus ((intro W hW; obtain ⟨x0, x1, x2, x3, x4⟩ := HS.out W hW; go_simp) <;> with_reducible rfl)); simp only [Act.put, List.setIfInBounds_toArray, List.set_cons_zero, List.set_cons_succ]) | (refine sch_no rfl rfl hH ?_; simp only [Act.put, List.setIfInBounds_toArray, List.set_cons_zero, List.set_cons_succ]))
        refine sch_call rfl rfl (fun K' hK' => ?_)
        go_wp2_with (go_at_call 28; refine (T1.out _ (Hr.out.trans (hH.mono Hr.out.size))).mono ?_; rintro e w4 ⟨rfl, hB4⟩)
        have hD4 := hH.trans (hB4.mono hH.size)
        refine hK'.out _ _ hD4 ?_
        clear hK' hB4 hH
        have hH := hD4
        repeat (first | (refine sch_yes (v := ?_) rfl rfl ?_ hH ?_; rotate_left; (focus ((intro W hW; obtain ⟨x0, x1, x2, x3, x4⟩ := HS.out W hW; go_simp) <;> with_reducible rfl)); simp only [Act.put, List.setIfInBounds_toArray, List.set_cons_zero, List.set_cons_succ]) | (refine sch_no rfl rfl hH ?_; simp only [Act.put, List.setIfInBounds_toArray, List.set_cons_zero, List.set_cons_succ]))
        refine sch_done ?_
        have H4 := Lib.hid (Hr.out.trans (hD4.mono Hr.out.size))
        have HD4 := Lib.hid (hD.out.trans (hD4.mono hD.out.size))
        clear hH hD4 HS T1 Hr
        cases x
        · go_wp2
          go_ret
          exact ⟨rfl, H4.out⟩
        · have Hn2 := Lib.hid (Hnx.out rfl)
          clear Hnx
          go_wp2
          go_roundw
          case rel => exact ⟨q + 1, by omega, by go_num, HD4, Hn2⟩
          case measure => simp [intOf]; omega
      · have hr0' : decide (0 ≤ r) = false := decide_eq_false hr0
        have Hn2 : Hid (∀ (j : Nat) r, j < q + 1 → g.2.2[j]? = some r → 0 ≤ r → sm[(findG g.2.1 r).toNat]? = some true) := Lib.hid fun j r' hj hr' h0 => by
          by_cases hjq : j < q
          · exact hdone.out j r' hjq hr' h0
          · obtain rfl : j = q := by omega
            rw [hr] at hr'
            injection hr' with hr'
            subst hr'
            exact absurd h0 hr0
        have HS := Lib.hid (fun (W : World) (hW : Below wr.heap.size wr W) => And.intro ((P1.out.to hW).cell (j := 2) rfl) ((hW.cell (p := ⟨b, off + q, none⟩) hb).trans hrc))
        clear hr hr0 hdone
        go_wp2
        refine sch_start [(0, true), (1, true), (2, true), (3, true), (4, true), (5, true), (6, true), (7, true), (8, true), (9, true), (10, true), (11, true), (12, true), (13, true), (14, false), (15, true), (16, true), (17, true), (18, true)] (fun W => Below wr.heap.size wr W) (by kernel_rfl) rfl (by kernel_rfl) (fun _ _ _ _ _ h => h) (Below.refl _ wr).drew (fun hH => ?_)
        repeat (first | (refine sch_yes (v := ?_) rfl rfl ?_ hH ?_; rotate_left; (focus ((intro W hW; obtain ⟨x2, x3⟩ := HS.out W hW; go_simp) <;> with_reducible rfl)); simp only [Act.put, List.setIfInBounds_toArray, List.set_cons_zero, List.set_cons_succ]) | (refine sch_no rfl rfl hH ?_; simp only [Act.put, List.setIfInBounds_toArray, List.set_cons_zero, List.set_cons_succ]))
        refine sch_call_no rfl rfl hH ?_
        repeat (first | (refine sch_yes (v := ?_) rfl rfl ?_ hH ?_; rotate_left; (focus ((intro W hW; obtain ⟨x2, x3⟩ := HS.out W hW; go_simp) <;> with_reducible rfl)); simp only [Act.put, List.setIfInBounds_toArray, List.set_cons_zero, List.set_cons_succ]) | (refine sch_no rfl rfl hH ?_; simp only [Act.put, List.setIfInBounds_toArray, List.set_cons_zero, List.set_cons_succ]))
        refine sch_done ?_
        have HD4 := Lib.hid (hD.out.trans (hH.mono hD.out.size))
        clear hH HS
        go_wp2
        go_roundw
        case rel => exact ⟨q + 1, by omega, by go_num, HD4, Hn2⟩
        case measure => simp [intOf]; omega
    · obtain rfl : q = K := by omega
      clear hqK hq
      go_wp2
      go_loopw [8] (fun iv W => ∃ i : Nat, i ≤ n ∧ iv = .int .i64 (i : Int) ∧ Hid (Below wr.heap.size wr W) ∧ Hid (∀ (j : Nat) o (k : Nat) f v, j < i → g.2.1[j]? = some o → sm[j]? = some true → (fldsG g.1 o.2.1)[k]? = some f → o.2.2[k]? = some v → f.2.1 = 5 → 0 ≤ v.2.2 → sm[(findG g.2.1 v.2.2).toNat]? = some true)) (fun iv _ => n - (intOf iv).toNat)
      case atStart => exact ⟨0, by omega, rfl, Lib.hid (Below.refl _ _), Lib.hid fun j o k f v hj => by omega⟩
      case round =>
        rename World => ws
        obtain ⟨i, hi, rfl, hE, hcl⟩ := hrel
        have Hi := Lib.hid (Hr.out.trans (hE.out.mono Hr.out.size))
        have P2 := Lib.hid (P1.out.to hE.out)
        clear c0 c1 c2
        have c0 := P2.out.cell (j := 0) rfl
        have c1 := P2.out.cell (j := 1) rfl
        have c2 := P2.out.cell (j := 2) rfl
        by_cases hin : i < n
        · obtain ⟨o, ho⟩ : ∃ o, g.2.1[i]? = some o := ⟨_, List.getElem?_eq_getElem (by have := HM.out; omega)⟩
          obtain ⟨b, off, A2, cv, rfl, hb, x0, x1, x2, hvs, -, -⟩ := ob_at (rGr_open (Hg.out _ Hi.out)).2.1 ho
          have hil : (i : Int) < (n : Int) := by omega
          have hi0 : (0 : Int) ≤ (i : Int) := by omega
          have hom := List.mem_of_getElem? ho
          have mo := Hobj.out o hom
          have hvn : o.2.2.length ≤ 9223372036854775807 := by have := (slice_len hvs).2; simp only [maxLen] at this; omega
          have Hvs := Lib.hid hvs
          obtain ⟨y, hy⟩ : ∃ y, sm[i]? = some y := ⟨_, List.getElem?_eq_getElem (by have := Hsl.out; omega)⟩
          obtain ⟨bz, oz, rfl, hbz, hz⟩ := bool_at (Hs.out _ Hi.out) hy
          obtain ⟨t, ht⟩ : ∃ t : Nat, o.2.1 = (t : Int) := ⟨o.2.1.toNat, by have := mo.t0; omega⟩
          have htN : t < N := by have := mo.t1; have := HN.out; omega
          obtain ⟨ty, hty⟩ : ∃ ty, g.1[t]? = some ty := ⟨_, List.getElem?_eq_getElem (by have := HN.out; omega)⟩
          have hfe := fldsG_at ht hty
          obtain ⟨bt, offt, st, AF, cF, rfl, hbt, -, y1, -, -, hfs⟩ := typ_at (rGr_open (Hg.out _ Hi.out)).1 hty
          have hlen := mo.len
          rw [hfe] at hlen
          have Hfs := Lib.hid hfs
          have htl : (t : Int) < (N : Int) := by omega
          have ht00 : (0 : Int) ≤ (t : Int) := by omega
          rw [ht] at x1
          have Hrf := Lib.hid (fun k f v => Href.out o hom k f v)
          rw [hfe] at Hrf
          have Hnext := Lib.hid (fun (hall : ∀ (k : Nat) f v, k < o.2.2.length → y = true → ty.2[k]? = some f → o.2.2[k]? = some v → f.2.1 = 5 → 0 ≤ v.2.2 → sm[(findG g.2.1 v.2.2).toNat]? = some true) (j : Nat) o' (k : Nat) f v (hj : j < i + 1) (ho' : g.2.1[j]? = some o') (hsj : sm[j]? = some true) (hf : (fldsG g.1 o'.2.1)[k]? = some f) (hv : o'.2.2[k]? = some v) (h5 : f.2.1 = 5) (h0 : 0 ≤ v.2.2) => (show sm[(findG g.2.1 v.2.2).toNat]? = some true by
            by_cases hji : j < i
            · exact hcl.out j o' k f v hji ho' hsj hf hv h5 h0
            · obtain rfl : j = i := by omega
              rw [ho] at ho'
              injection ho' with ho'
              subst ho'
              rw [hy] at hsj
              injection hsj with hsj
              rw [hfe] at hf
              exact hall k f v (List.getElem?_eq_some_iff.1 hv).1 hsj hf hv h5 h0))
          have Hlen := Lib.hid hlen
          clear hcl mo hom ho hy hty hfe hvs hfs hlen ht
          generalize hol : o.2.2.length = ol at *
          have Hol := Lib.hid hol
          clear hol
          go_wp2
          go_loopw [9] (fun kv W => ∃ k : Nat, k ≤ ol ∧ kv = .int .i64 (k : Int) ∧ Hid (Below ws.heap.size ws W) ∧ Hid (∀ (j : Nat) f v, j < k → y = true → ty.2[j]? = some f → o.2.2[j]? = some v → f.2.1 = 5 → 0 ≤ v.2.2 → sm[(findG g.2.1 v.2.2).toNat]? = some true)) (fun kv _ => ol - (intOf kv).toNat)
          case atStart => exact ⟨0, by omega, rfl, Lib.hid (Below.refl _ _), Lib.hid fun j f v hj => by omega⟩
          case round =>
            rename World => wt
            obtain ⟨k, hk, rfl, hF, hal⟩ := hrel
            have Hk := Lib.hid (Hi.out.trans (hF.out.mono Hi.out.size))
            have hEF := Lib.hid (hE.out.trans (hF.out.mono hE.out.size))
            have P3 := Lib.hid (P2.out.to hF.out)
            clear c0 c1 c2
            have u1 := (hF.out.cell (p := ⟨b, off + i * 3 + 1, none⟩) hb).trans x1
            have u2 := (hF.out.cell (p := ⟨b, off + i * 3 + 2, none⟩) hb).trans x2
            have u3 := (hF.out.cell (p := ⟨bz, oz + i, none⟩) hbz).trans hz
            have u4 := (hF.out.cell (p := ⟨bt, offt + t * 2 + 1, none⟩) hbt).trans y1
            have HSa := Lib.hid (fun (W : World) (hW : Below wt.heap.size wt W) => And.intro ((P3.out.to hW).cell (j := 0) rfl) (And.intro ((P3.out.to hW).cell (j := 1) rfl) (And.intro ((P3.out.to hW).cell (j := 2) rfl) (And.intro ((hW.cell (p := ⟨b, off + i * 3 + 1, none⟩) (Nat.lt_of_lt_of_le hb hF.out.size)).trans u1) (And.intro ((hW.cell (p := ⟨b, off + i * 3 + 2, none⟩) (Nat.lt_of_lt_of_le hb hF.out.size)).trans u2)
              (And.intro ((hW.cell (p := ⟨bz, oz + i, none⟩) (Nat.lt_of_lt_of_le hbz hF.out.size)).trans u3) ((hW.cell (p := ⟨bt, offt + t * 2 + 1, none⟩) (Nat.lt_of_lt_of_le hbt hF.out.size)).trans u4)))))))
            clear u1 u3 u4 x0 x1 x2 hz y1
            have c0 := P3.out.cell (j := 0) rfl
            have c1 := P3.out.cell (j := 1) rfl
            have c2 := P3.out.cell (j := 2) rfl
            by_cases hkl : k < ol
            · obtain ⟨f, hfk⟩ : ∃ f, ty.2[k]? = some f := ⟨_, List.getElem?_eq_getElem (by have := Hlen.out; omega)⟩
              obtain ⟨bf, offf, sx, tx, rfl, hbf, -, z1, -, -, -, -, -, -⟩ := fld_at (flds_below hF.out Hfs.out) hfk
              obtain ⟨v, hvk⟩ : ∃ v, o.2.2[k]? = some v := ⟨_, List.getElem?_eq_getElem (by have := Hol.out; omega)⟩
              obtain ⟨bv, offv, sv, rfl, hbv, -, -, v2, -, -, -, -⟩ := val_at (vals_below hF.out Hvs.out) hvk
              have hk0 : (0 : Int) ≤ (k : Int) := by omega
              have hkf : (k : Int) < (ty.2.length : Int) := by have := Hlen.out; omega
              have hkv : (k : Int) < (ol : Int) := by omega
              have Hnk := Lib.hid (fun (e : y = true → f.2.1 = 5 → 0 ≤ v.2.2 → sm[(findG g.2.1 v.2.2).toNat]? = some true) (j : Nat) f' v' (hj : j < k + 1) (hy : y = true) (hf' : ty.2[j]? = some f') (hv' : o.2.2[j]? = some v') (h5 : f'.2.1 = 5) (h0 : 0 ≤ v'.2.2) => (show sm[(findG g.2.1 v'.2.2).toNat]? = some true by
                by_cases hjk : j < k
                · exact hal.out j f' v' hjk hy hf' hv' h5 h0
                · obtain rfl : j = k := by omega
                  rw [hfk] at hf'
                  rw [hvk] at hv'
                  injection hf' with hf'
                  injection hv' with hv'
                  subst hf' hv'
                  exact e hy h5 h0))
              have Hr3 := Lib.hid (Hrf.out k f v hfk hvk)
              have HS := Lib.hid (fun (W : World) (hW : Below wt.heap.size wt W) => And.intro (HSa.out W hW) (And.intro ((hW.cell (p := ⟨bf, offf + k * 3 + 1, none⟩) hbf).trans z1) ((hW.cell (p := ⟨bv, offv + k * 3 + 2, none⟩) hbv).trans v2)))
              clear hfk hvk hal HSa z1 v2
              have Hnil := Lib.hid (fun (hh : ¬ (y = true ∧ f.2.1 = 5 ∧ 0 ≤ v.2.2)) => Hnk.out (fun a b c => absurd ⟨a, b, c⟩ hh))
              generalize hfl : ty.2.length = fl at *
              by_cases hcc : y = true ∧ f.2.1 = 5 ∧ 0 ≤ v.2.2
              case neg =>
                have Hn3 := Lib.hid (Hnil.out hcc)
                clear Hnil Hnk Hr3
                have hyk : y = false ∨ (y = true ∧ f.2.1 ≠ 5) ∨ (y = true ∧ f.2.1 = 5 ∧ ¬ 0 ≤ v.2.2) := by
                  cases y
                  · exact .inl rfl
                  · by_cases h5 : f.2.1 = 5
                    · exact .inr (.inr ⟨rfl, h5, fun h0 => hcc ⟨rfl, h5, h0⟩⟩)
                    · exact .inr (.inl ⟨rfl, h5⟩)
                clear hcc
                generalize f.2.1 = kk at *
                generalize v.2.2 = rr at *
                rcases hyk with rfl | ⟨rfl, h5⟩ | ⟨rfl, rfl, h0⟩
                · go_wp2
                  refine sch_start [(0, true), (1, true), (2, true), (3, true), (4, true), (5, true), (6, true), (7, true), (8, true), (9, true), (10, true), (11, true), (12, true), (13, true), (14, true), (15, true), (16, true), (17, true), (18, true), (19, true), (20, true), (21, true), (22, true), (23, true), (24, true), (25, true), (26, true), (27, true), (28, true), (29, true), (30, true), (31, true), (32, true), (33, true), (34, true), (35, true), (36, true), (37, true), (38, true), (39, true), (40, true), (41, true), (42, true), (43, true), (44, true), (45, true), (46, true), (47, true), (48, true), (49, false), (50, true), (51, true), (52, true), (53, true)] (fun W => Below wt.heap.size wt W) (by kernel_rfl) rfl (by kernel_rfl) (fun _ _ _ _ _ h => h) (Below.refl _ wt).drew (fun hH => ?_)
                  repeat (first | (refine sch_yes (v := ?_) rfl rfl ?_ hH ?_; rotate_left; (focus ((intro W hW; obtain ⟨⟨x0, x1, x2, x3, x4, x5, x6⟩, x7, x8⟩ := HS.out W hW; go_simp) <;> with_reducible rfl)); simp only [Act.put, List.setIfInBounds_toArray, List.set_cons_zero, List.set_cons_succ]) | (refine sch_no rfl rfl hH ?_; simp only [Act.put, List.setIfInBounds_toArray, List.set_cons_zero, List.set_cons_succ]))
                  refine sch_call_no rfl rfl hH ?_
                  repeat (first | (refine sch_yes (v := ?_) rfl rfl ?_ hH ?_; rotate_left; (focus ((intro W hW; obtain ⟨⟨x0, x1, x2, x3, x4, x5, x6⟩, x7, x8⟩ := HS.out W hW; go_simp) <;> with_reducible rfl)); simp only [Act.put, List.setIfInBounds_toArray, List.set_cons_zero, List.set_cons_succ]) | (refine sch_no rfl rfl hH ?_; simp only [Act.put, List.setIfInBounds_toArray, List.set_cons_zero, List.set_cons_succ]))
                  refine sch_done ?_
                  have HD4 := Lib.hid (hF.out.trans (hH.mono hF.out.size))
                  clear hH HS
                  go_wp2
                  go_roundw
                  case rel => exact ⟨k + 1, by omega, by go_num, HD4, Hn3⟩
                  case measure => simp [intOf]; omega
                · have h5' : (kk == 5) = false := by simp [h5]
                  clear h5
                  go_wp2
                  refine sch_start [(0, true), (1, true), (2, true), (3, true), (4, true), (5, true), (6, true), (7, true), (8, true), (9, true), (10, true), (11, true), (12, true), (13, true), (14, true), (15, true), (16, true), (17, true), (18, true), (19, true), (20, true), (21, true), (22, true), (23, true), (24, true), (25, true), (26, true), (27, true), (28, true), (29, true), (30, true), (31, true), (32, true), (33, true), (34, true), (35, true), (36, true), (37, true), (38, true), (39, true), (40, true), (41, true), (42, true), (43, true), (44, true), (45, true), (46, true), (47, true), (48, true), (49, false), (50, true), (51, true), (52, true), (53, true)] (fun W => Below wt.heap.size wt W) (by kernel_rfl) rfl (by kernel_rfl) (fun _ _ _ _ _ h => h) (Below.refl _ wt).drew (fun hH => ?_)
                  repeat (first | (refine sch_yes (v := ?_) rfl rfl ?_ hH ?_; rotate_left; (focus ((intro W hW; obtain ⟨⟨x0, x1, x2, x3, x4, x5, x6⟩, x7, x8⟩ := HS.out W hW; go_simp) <;> with_reducible rfl)); simp only [Act.put, List.setIfInBounds_toArray, List.set_cons_zero, List.set_cons_succ]) | (refine sch_no rfl rfl hH ?_; simp only [Act.put, List.setIfInBounds_toArray, List.set_cons_zero, List.set_cons_succ]))
                  refine sch_call_no rfl rfl hH ?_
                  repeat (first | (refine sch_yes (v := ?_) rfl rfl ?_ hH ?_; rotate_left; (focus ((intro W hW; obtain ⟨⟨x0, x1, x2, x3, x4, x5, x6⟩, x7, x8⟩ := HS.out W hW; go_simp) <;> with_reducible rfl)); simp only [Act.put, List.setIfInBounds_toArray, List.set_cons_zero, List.set_cons_succ]) | (refine sch_no rfl rfl hH ?_; simp only [Act.put, List.setIfInBounds_toArray, List.set_cons_zero, List.set_cons_succ]))
                  refine sch_done ?_
                  have HD4 := Lib.hid (hF.out.trans (hH.mono hF.out.size))
                  clear hH HS
                  go_wp2
                  go_roundw
                  case rel => exact ⟨k + 1, by omega, by go_num, HD4, Hn3⟩
                  case measure => simp [intOf]; omega
                · have h0' : decide (0 ≤ rr) = false := decide_eq_false h0
                  clear h0
                  go_wp2
                  refine sch_start [(0, true), (1, true), (2, true), (3, true), (4, true), (5, true), (6, true), (7, true), (8, true), (9, true), (10, true), (11, true), (12, true), (13, true), (14, true), (15, true), (16, true), (17, true), (18, true), (19, true), (20, true), (21, true), (22, true), (23, true), (24, true), (25, true), (26, true), (27, true), (28, true), (29, true), (30, true), (31, true), (32, true), (33, true), (34, true), (35, true), (36, true), (37, true), (38, true), (39, true), (40, true), (41, true), (42, true), (43, true), (44, true), (45, true), (46, true), (47, true), (48, true), (49, false), (50, true), (51, true), (52, true), (53, true)] (fun W => Below wt.heap.size wt W) (by kernel_rfl) rfl (by kernel_rfl) (fun _ _ _ _ _ h => h) (Below.refl _ wt).drew (fun hH => ?_)
                  repeat (first | (refine sch_yes (v := ?_) rfl rfl ?_ hH ?_; rotate_left; (focus ((intro W hW; obtain ⟨⟨x0, x1, x2, x3, x4, x5, x6⟩, x7, x8⟩ := HS.out W hW; go_simp) <;> with_reducible rfl)); simp only [Act.put, List.setIfInBounds_toArray, List.set_cons_zero, List.set_cons_succ]) | (refine sch_no rfl rfl hH ?_; simp only [Act.put, List.setIfInBounds_toArray, List.set_cons_zero, List.set_cons_succ]))
                  refine sch_call_no rfl rfl hH ?_
                  repeat (first | (refine sch_yes (v := ?_) rfl rfl ?_ hH ?_; rotate_left; (focus ((intro W hW; obtain ⟨⟨x0, x1, x2, x3, x4, x5, x6⟩, x7, x8⟩ := HS.out W hW; go_simp) <;> with_reducible rfl)); simp only [Act.put, List.setIfInBounds_toArray, List.set_cons_zero, List.set_cons_succ]) | (refine sch_no rfl rfl hH ?_; simp only [Act.put, List.setIfInBounds_toArray, List.set_cons_zero, List.set_cons_succ]))
                  refine sch_done ?_
                  have HD4 := Lib.hid (hF.out.trans (hH.mono hF.out.size))
                  clear hH HS
                  go_wp2
                  go_roundw
                  case rel => exact ⟨k + 1, by omega, by go_num, HD4, Hn3⟩
                  case measure => simp [intOf]; omega
              obtain ⟨rfl, h5, h0⟩ := hcc
              obtain ⟨I, hI, hIl⟩ := Hr3.out h5 h0
              have T1 := Lib.hid (fun W hW => TG.out W hW v.2.2)
              rw [hI] at T1
              have HI : I < n := by have := HM.out; omega
              obtain ⟨x, hx⟩ : ∃ x, sm[I]? = some x := ⟨_, List.getElem?_eq_getElem (by have := Hsl.out; omega)⟩
              obtain ⟨bz2, oz2, hzz, hbz2, hz2⟩ := bool_at (Hs.out _ Hk.out) hx
              injection hzz with hzz
              injection hzz with hz3 hz4
              subst hz3 hz4
              have Hn3 := Lib.hid (fun (ex : x = true) => Hnk.out (fun _ _ _ => by rw [hI, Int.toNat_natCast, hx, ex]))
              have hI0 : (0 : Int) ≤ (I : Int) := by omega
              have hIn : (I : Int) < (n : Int) := by omega
              have HS2 := Lib.hid (fun (W : World) (hW : Below wt.heap.size wt W) => And.intro (HS.out W hW) ((hW.cell (p := ⟨bz, oz + I, none⟩) hbz2).trans hz2))
              have h0' : decide (0 ≤ v.2.2) = true := decide_eq_true h0
              have h5' : (f.2.1 == 5) = true := by simp [h5]
              clear Hnk Hr3 h5 h0 hI hIl hx HS hz2 Hnil
              generalize f.2.1 = kk at *
              generalize v.2.2 = rr at *
              go_wp2
              refine sch_start [(0, true), (1, true), (2, true), (3, true), (4, true), (5, true), (6, true), (7, true), (8, true), (9, true), (10, true), (11, true), (12, true), (13, true), (14, true), (15, true), (16, true), (17, true), (18, true), (19, true), (20, true), (21, true), (22, true), (23, true), (24, true), (25, true), (26, true), (27, true), (28, true), (29, true), (30, true), (31, true), (32, true), (33, true), (34, true), (35, true), (36, true), (37, true), (38, true), (39, true), (40, true), (41, true), (42, true), (43, true), (44, true), (45, true), (46, true), (47, true), (48, true), (49, false), (50, true), (51, true), (52, true), (53, true)] (fun W => Below wt.heap.size wt W) (by kernel_rfl) rfl (by kernel_rfl) (fun _ _ _ _ _ h => h) (Below.refl _ wt).drew (fun hH => ?_)
              repeat (first | (refine sch_yes (v := ?_) rfl rfl ?_ hH ?_; rotate_left; (focus ((intro W hW; obtain ⟨⟨⟨x0, x1, x2, x3, x4, x5, x6⟩, x7, x8⟩, x9⟩ := HS2.out W hW; go_simp) <;> with_reducible rfl)); simp only [Act.put, List.setIfInBounds_toArray, List.set_cons_zero, List.set_cons_succ]) | (refine sch_no rfl rfl hH ?_; simp only [Act.put, List.setIfInBounds_toArray, List.set_cons_zero, List.set_cons_succ]))
              refine sch_call rfl rfl (fun K' hK' => ?_)
              go_wp2_with (go_at_call 28; refine (T1.out _ (Hk.out.trans (hH.mono Hk.out.size))).mono ?_; rintro e w4 ⟨rfl, hB4⟩)
              have hD4 := hH.trans (hB4.mono hH.size)
              refine hK'.out _ _ hD4 ?_
              clear hK' hB4 hH
              have hH := hD4
              repeat (first | (refine sch_yes (v := ?_) rfl rfl ?_ hH ?_; rotate_left; (focus ((intro W hW; obtain ⟨⟨⟨x0, x1, x2, x3, x4, x5, x6⟩, x7, x8⟩, x9⟩ := HS2.out W hW; go_simp) <;> with_reducible rfl)); simp only [Act.put, List.setIfInBounds_toArray, List.set_cons_zero, List.set_cons_succ]) | (refine sch_no rfl rfl hH ?_; simp only [Act.put, List.setIfInBounds_toArray, List.set_cons_zero, List.set_cons_succ]))
              refine sch_done ?_
              have H4 := Lib.hid (Hk.out.trans (hD4.mono Hk.out.size))
              have HD4 := Lib.hid (hF.out.trans (hD4.mono hF.out.size))
              clear hH hD4 HS2 T1
              cases x
              · go_wp2
                go_ret
                exact ⟨rfl, H4.out⟩
              · have Hn4 := Lib.hid (Hn3.out rfl)
                clear Hn3
                go_wp2
                go_roundw
                case rel => exact ⟨k + 1, by omega, by go_num, HD4, Hn4⟩
                case measure => simp [intOf]; omega
            · obtain rfl : k = ol := by omega
              have Hn5 := Lib.hid (Hnext.out hal.out)
              clear Hnext hal
              go_wp2
              go_roundw
              case rel => exact ⟨i + 1, by omega, by go_num, hEF, Hn5⟩
              case measure => simp [intOf]; omega
        · obtain rfl : i = n := by omega
          have HL := Lib.hid (Hlst.out (fun j r hj => hdone.out j r (by have := HK.out; omega)) (fun j o k f v hj => hcl.out j o k f v (by have := HM.out; omega)))
          clear Hlst hcl hdone
          go_wp2_with fail
          refine (TC.out _ Hi.out).mono ?_
          rintro e w5 ⟨Al, cl, rfl, hl, hlw, hB5⟩
          have H5 := Lib.hid (Hi.out.trans (hB5.mono Hi.out.size))
          have P3 := Lib.hid (P2.out.to hB5)
          have hRl := rIds_stays.to (S' := All w5) (w' := w5) (Keeps.mono fun b hb => hb.2) (ids_own hl rfl hlw)
          have HR := Lib.hid hRl
          have hRn : (reachG g).length ≤ 9223372036854775807 := by have := (slice_len hRl).2; simp only [maxLen] at this; omega
          clear hl hlw hB5 c0 c1 c2 hRl
          generalize reachG g = R at *
          generalize hLn : R.length = L at *
          have HLn := Lib.hid hLn
          clear hLn
          go_wp2
          go_loopw [11] (fun iv W => ∃ q : Nat, q ≤ L ∧ iv = .int .i64 (q : Int) ∧ Hid (Below w5.heap.size w5 W)) (fun iv _ => L - (intOf iv).toNat)
          case atStart => exact ⟨0, by omega, rfl, Lib.hid (Below.refl _ _)⟩
          case round =>
            rename World => wt
            obtain ⟨q, hq, rfl, hF⟩ := hrel
            by_cases hqL : q < L
            · obtain ⟨r, hr⟩ : ∃ r, R[q]? = some r := ⟨_, List.getElem?_eq_getElem (by have := HLn.out; omega)⟩
              obtain ⟨I, hI, hx⟩ := HL.out r (List.mem_of_getElem? hr)
              have Ht := Lib.hid (H5.out.trans (hF.out.mono H5.out.size))
              obtain ⟨b, off, rfl, hb, hrc, -⟩ := id_at (ids_below hF.out HR.out) hr
              obtain ⟨bz, oz, rfl, hbz, hz⟩ := bool_at (Hs.out _ Ht.out) hx
              have T1 := Lib.hid (fun W hW => TG.out W hW r)
              rw [hI] at T1
              have HI : I < i := by have := Hsl.out; have := (List.getElem?_eq_some_iff.1 hx).1; omega
              have hql : (q : Int) < (L : Int) := by omega
              have hq0 : (0 : Int) ≤ (q : Int) := by omega
              have hI0 : (0 : Int) ≤ (I : Int) := by omega
              have hIn : (I : Int) < (i : Int) := by omega
              have hIn' : decide ((I : Int) < 0) = false := decide_eq_false (by omega)
              have P4 := Lib.hid (P3.out.to hF.out)
              have HS := Lib.hid (fun (W : World) (hW : Below wt.heap.size wt W) => And.intro ((P4.out.to hW).cell (j := 0) rfl) (And.intro ((P4.out.to hW).cell (j := 1) rfl) (And.intro ((P4.out.to hW).cell (j := 2) rfl) (And.intro ((hW.cell (p := ⟨b, off + q, none⟩) hb).trans hrc) ((hW.cell (p := ⟨bz, oz + I, none⟩) hbz).trans hz)))))
              clear hr hI hx hz
              go_wp2
              refine sch_start [(0, true), (1, true), (2, true), (3, true), (4, true), (5, false), (6, true)] (fun W => Below wt.heap.size wt W) (by kernel_rfl) rfl (by kernel_rfl) (fun _ _ _ _ _ h => h) (Below.refl _ wt).drew (fun hH => ?_)
              repeat (first | (refine sch_yes (v := ?_) rfl rfl ?_ hH ?_; rotate_left; (focus ((intro W hW; obtain ⟨x0, x1, x2, x3, x4⟩ := HS.out W hW; go_simp) <;> with_reducible rfl)); simp only [Act.put, List.setIfInBounds_toArray, List.set_cons_zero, List.set_cons_succ]) | (refine sch_no rfl rfl hH ?_; simp only [Act.put, List.setIfInBounds_toArray, List.set_cons_zero, List.set_cons_succ]))
              refine sch_call rfl rfl (fun K' hK' => ?_)
              go_wp2_with (go_at_call 28; refine (T1.out _ (Ht.out.trans (hH.mono Ht.out.size))).mono ?_; rintro e w6 ⟨rfl, hB6⟩)
              have hD6 := hH.trans (hB6.mono hH.size)
              refine hK'.out _ _ hD6 ?_
              clear hK' hB6 hH
              have hH := hD6
              repeat (first | (refine sch_yes (v := ?_) rfl rfl ?_ hH ?_; rotate_left; (focus ((intro W hW; obtain ⟨x0, x1, x2, x3, x4⟩ := HS.out W hW; go_simp) <;> with_reducible rfl)); simp only [Act.put, List.setIfInBounds_toArray, List.set_cons_zero, List.set_cons_succ]) | (refine sch_no rfl rfl hH ?_; simp only [Act.put, List.setIfInBounds_toArray, List.set_cons_zero, List.set_cons_succ]))
              refine sch_done ?_
              obtain ⟨-, -, -, -, x4⟩ := HS.out _ hD6
              have HD6 := Lib.hid (hF.out.trans (hD6.mono hF.out.size))
              clear hH hD6 HS T1
              go_wp2
              go_roundw
              case rel => exact ⟨q + 1, by omega, by go_num, HD6⟩
              case measure => simp [intOf]; omega
            · obtain rfl : q = L := by omega
              go_wp2
              go_ret
              exact ⟨rfl, H5.out.trans (hF.out.mono H5.out.size)⟩
end Go.Proofs.Ytembafogbfcajaa
