/- The contract of the document's own May (layer 8): just what the plain function tells. Nothing that was there is changed. Condition: names of at most 1048576 bytes. -/
import Derived.Test.YteafbdebmhpffaaGrMayPlain
namespace Go.Proofs.Yteafbdebmhpffaa
open Go.RowKit

set_option maxRecDepth 100000 in
set_option maxHeartbeats 4000000 in
theorem rgmay_any (A B C : Option Addr) (N c M d K e : Nat) (g : Gr) (w : World) (h : rGr (All w) w [.slice A N c, .slice B M d, .slice C K e] g) (htame : tameS g.1) :
    Calls Try.prog 33 #[.agg #[.slice A N c, .slice B M d, .slice C K e]] w fun e w' => e = .returned (.bool (mayG g)) ∧ Below w.heap.size w w' := by
  obtain ⟨hN, -, -⟩ := slice_len (rGr_open h).1
  obtain ⟨hM, hMd, hdm⟩ := slice_len (rGr_open h).2.1
  obtain ⟨hK, hKe, hem⟩ := slice_len (rGr_open h).2.2
  simp only [maxLen] at hdm hem
  have hB0 : Below w.heap.size w (w.alloc (.cells #[.slice A N c, .slice B M d, .slice C K e] 28)) := (Below.refl _ w).alloc (Nat.le_refl _) _
  have p1 := Blk.new w 28 [.slice A N c, .slice B M d, .slice C K e]
  have TS := Lib.hid (fun W (hW : Below w.heap.size w W) => rsmay_any A N c g.1 W (sch_below hW (rGr_open h).1) htame)
  have TO := Lib.hid (fun W (hW : Below w.heap.size w W) I o ho => robject_any A B C N c M d K e g I o W (gr_below hW h) ho)
  have TL := Lib.hid (fun W (hW : Below w.heap.size w W) x y s f v hy hs => rleads_any A B C N c M d K e g x y s f v W (gr_below hW h) hy hs)
  have TG := Lib.hid (fun W (hW : Below w.heap.size w W) x => rgfind_any A B C N c M d K e g x W (gr_below hW h))
  have Hg := Lib.hid (fun W (hW : Below w.heap.size w W) => gr_below hW h)
  have Hobj := Lib.hid (fun I o ho (hf : objB g (lstG g.2.1 I) o = false) => (show mayG g = false by
    cases hm : mayG g
    · rfl
    · rw [objB_may hm (I := I) (o := o) ho] at hf; cases hf))
  have Hlead := Lib.hid (fun o (ho : o ∈ g.2.1) k f v h1 h2 (hf : haveG g f v = false) => (show mayG g = false by
    cases hm : mayG g
    · rfl
    · rw [(mayG_obj hm ho).have' k f v h1 h2] at hf; cases hf))
  have Hroot := Lib.hid (fun r (hr : r ∈ g.2.2) (hf : rootG g.2.1 r = false) => (show mayG g = false by
    cases hm : mayG g
    · rfl
    · rw [(mayG_parts hm).2.2.2.2 r hr] at hf; cases hf))
  have Hs : Hid (mayS g.1 = false → mayG g = false) := Lib.hid fun hf => by
    cases hm : mayG g
    · rfl
    · rw [(mayG_parts hm).1] at hf; cases hf
  have H8 : Hid (8 < M → mayG g = false) := Lib.hid fun hf => by
    cases hm : mayG g
    · rfl
    · have := (mayG_parts hm).2.1; omega
  have H3 : Hid (3 < K → mayG g = false) := Lib.hid fun hf => by
    cases hm : mayG g
    · rfl
    · have := (mayG_parts hm).2.2.2.1; omega
  have Hall := Lib.hid (fun h1 h2 h3 h4 h5 h6 => may_all (g := g) h1 h2 h3 h4 h5 h6)
  rw [hM, hK] at Hall
  have HN := Lib.hid hN
  have HM := Lib.hid hM
  have HK := Lib.hid hK
  have HB0 := Lib.hid hB0
  clear hB0 h htame hN hM hK
  generalize hmg : mayG g = r at *
  clear hmg
  generalize hms : mayS g.1 = ms at *
  have Hms := Lib.hid hms
  clear hms
  have c0 := p1.cell (j := 0) rfl
  go_enter Try.func33, Try.ntmps33
  go_wp2_with fail
  refine (TS.out _ HB0.out).mono ?_
  rintro e w1 ⟨rfl, hB1⟩
  have H1 := Lib.hid (HB0.out.trans (hB1.mono HB0.out.size))
  replace p1 := p1.to hB1
  clear hB1 HB0 c0 TS
  have c1 := p1.cell (j := 1) rfl
  have c2 := p1.cell (j := 2) rfl
  cases ms
  · have Hr := Lib.hid (Hs.out rfl)
    clear Hs Hall
    go_wp2
    go_ret
    exact ⟨by rw [Hr.out]; rfl, H1.out⟩
  by_cases hM8 : 8 < M
  · have k1 : decide ((8 : Int) < (M : Int)) = true := decide_eq_true (by omega)
    have Hr := Lib.hid (H8.out hM8)
    clear Hs Hall hM8
    go_wp2
    go_ret
    exact ⟨by rw [Hr.out]; rfl, H1.out⟩
  have k1 : decide ((8 : Int) < (M : Int)) = false := decide_eq_false (by omega)
  by_cases hK3 : 3 < K
  · have k2 : decide ((3 : Int) < (K : Int)) = true := decide_eq_true (by omega)
    have Hr := Lib.hid (H3.out hK3)
    clear Hs Hall hK3
    go_wp2
    go_ret
    exact ⟨by rw [Hr.out]; rfl, H1.out⟩
  have k2 : decide ((3 : Int) < (K : Int)) = false := decide_eq_false (by omega)
  have Hall2 := Lib.hid (Hall.out rfl (by omega) (by omega))
  clear Hall Hs H8 H3
  go_wp2
  have P1 := Lib.hid p1
  clear p1 c1 c2
  go_loopw [4] (fun iv W => ∃ i : Nat, i ≤ M ∧ iv = .int .i64 (i : Int) ∧ Hid (Below w1.heap.size w1 W) ∧ Hid (∀ (I : Nat) o, I < i → g.2.1[I]? = some o → objB g (lstG g.2.1 I) o = true)) (fun iv _ => M - (intOf iv).toNat)
  case atStart => exact ⟨0, by omega, rfl, Lib.hid (Below.refl _ _), Lib.hid fun I o hI => by omega⟩
  case round =>
    rename World => wr
    obtain ⟨i, hi, rfl, hD, hdone⟩ := hrel
    have Hr := Lib.hid (H1.out.trans (hD.out.mono H1.out.size))
    have P2 := Lib.hid (P1.out.to hD.out)
    have c0 := P2.out.cell (j := 0) rfl
    have c1 := P2.out.cell (j := 1) rfl
    have c2 := P2.out.cell (j := 2) rfl
    by_cases hin : i < M
    · obtain ⟨o, ho⟩ : ∃ o, g.2.1[i]? = some o := ⟨_, List.getElem?_eq_getElem (by have := HM.out; omega)⟩
      have T1 := Lib.hid (TO.out _ Hr.out i o ho)
      have Hbad := Lib.hid (Hobj.out i o ho)
      have Hgood : Hid (objB g (lstG g.2.1 i) o = true → ∀ (I : Nat) o, I < i + 1 → g.2.1[I]? = some o → objB g (lstG g.2.1 I) o = true) := Lib.hid fun e I o' hI ho' => by
        by_cases hIi : I < i
        · exact hdone.out I o' hIi ho'
        · obtain rfl : I = i := by omega
          rw [ho] at ho'
          injection ho' with ho'
          subst ho'
          exact e
      clear hdone ho
      generalize objB g (lstG g.2.1 i) o = bb at *
      go_wp2_with fail
      refine T1.out.mono ?_
      rintro e w2 ⟨rfl, hB2⟩
      have HD := Lib.hid (hD.out.trans (hB2.mono hD.out.size))
      have HE := Lib.hid (Hr.out.trans (hB2.mono Hr.out.size))
      clear hB2 T1
      cases bb
      · have Hq := Lib.hid (Hbad.out rfl)
        clear Hbad Hgood
        go_wp2
        go_ret
        exact ⟨by rw [Hq.out]; rfl, HE.out⟩
      · have Hq := Lib.hid (Hgood.out rfl)
        clear Hbad Hgood
        go_wp2
        go_roundw
        case rel => exact ⟨i + 1, by omega, by go_num, HD, Hq⟩
        case measure => simp [intOf]; omega
    · obtain rfl : i = M := by omega
      have Hall3 := Lib.hid (Hall2.out hdone.out)
      clear Hall2 hin hi
      go_wp2
      clear c0 c1 c2
      go_loopw [6] (fun iv W => ∃ q : Nat, q ≤ i ∧ iv = .int .i64 (q : Int) ∧ Hid (Below wr.heap.size wr W) ∧ Hid (∀ (I : Nat) o (k : Nat) f v, I < q → g.2.1[I]? = some o → (fldsG g.1 o.2.1)[k]? = some f → o.2.2[k]? = some v → haveG g f v = true)) (fun iv _ => i - (intOf iv).toNat)
      case atStart => exact ⟨0, by omega, rfl, Lib.hid (Below.refl _ _), Lib.hid fun I o k f v hI => by omega⟩
      case round =>
        rename World => ws
        obtain ⟨q, hq, rfl, hE, hld⟩ := hrel
        have Hi := Lib.hid (Hr.out.trans (hE.out.mono Hr.out.size))
        have P3 := Lib.hid (P2.out.to hE.out)
        have c0 := P3.out.cell (j := 0) rfl
        have c1 := P3.out.cell (j := 1) rfl
        have c2 := P3.out.cell (j := 2) rfl
        by_cases hqn : q < i
        · obtain ⟨o, ho⟩ : ∃ o, g.2.1[q]? = some o := ⟨_, List.getElem?_eq_getElem (by have := HM.out; omega)⟩
          obtain ⟨a1, a2, a3, a4, a5, hlen⟩ := objB_parts (hdone.out q o hqn ho)
          obtain ⟨b, off, A2, cv, rfl, hb, x0, x1, x2, hvs, -, -⟩ := ob_at (rGr_open (Hg.out _ Hi.out)).2.1 ho
          have hil : (q : Int) < (i : Int) := by omega
          have hi0 : (0 : Int) ≤ (q : Int) := Int.natCast_nonneg q
          have hom := List.mem_of_getElem? ho
          have hvn : o.2.2.length ≤ 9223372036854775807 := by have := (slice_len hvs).2; simp only [maxLen] at this; omega
          have Hvs := Lib.hid hvs
          obtain ⟨t, ht⟩ : ∃ t : Nat, o.2.1 = (t : Int) := ⟨o.2.1.toNat, by omega⟩
          have htN : t < N := by have := HN.out; omega
          obtain ⟨ty, hty⟩ : ∃ ty, g.1[t]? = some ty := ⟨_, List.getElem?_eq_getElem (by have := HN.out; omega)⟩
          have hfe := fldsG_at ht hty
          obtain ⟨bt, offt, st, AF, cF, rfl, hbt, -, y1, -, -, hfs⟩ := typ_at (rGr_open (Hg.out _ Hi.out)).1 hty
          rw [hfe] at hlen
          have Hfs := Lib.hid hfs
          have htl : (t : Int) < (N : Int) := by omega
          have ht00 : (0 : Int) ≤ (t : Int) := Int.natCast_nonneg t
          rw [ht] at x1
          have Hlk := Lib.hid (fun k f v => Hlead.out o hom k f v)
          rw [hfe] at Hlk
          have Hnext := Lib.hid (fun (hallk : ∀ (k : Nat) f v, k < o.2.2.length → ty.2[k]? = some f → o.2.2[k]? = some v → haveG g f v = true) (I : Nat) o' (k : Nat) f v (hI : I < q + 1) (ho' : g.2.1[I]? = some o') (hf : (fldsG g.1 o'.2.1)[k]? = some f) (hv : o'.2.2[k]? = some v) => (show haveG g f v = true by
            by_cases hIq : I < q
            · exact hld.out I o' k f v hIq ho' hf hv
            · obtain rfl : I = q := by omega
              rw [ho] at ho'
              injection ho' with ho'
              subst ho'
              rw [hfe] at hf
              exact hallk k f v (List.getElem?_eq_some_iff.1 hv).1 hf hv))
          have Hlen := Lib.hid hlen
          clear hld hom ho hty hfe hvs hfs hlen ht a1 a2 a3 a4 a5
          generalize hol : o.2.2.length = ol at *
          have Hol := Lib.hid hol
          clear hol
          generalize hfl : ty.2.length = fl at *
          have Hfl := Lib.hid hfl
          clear hfl
          go_wp2
          clear c0 c1 c2
          go_loopw [7] (fun kv W => ∃ k : Nat, k ≤ ol ∧ kv = .int .i64 (k : Int) ∧ Hid (Below ws.heap.size ws W) ∧ Hid (∀ (j : Nat) f v, j < k → ty.2[j]? = some f → o.2.2[j]? = some v → haveG g f v = true)) (fun kv _ => ol - (intOf kv).toNat)
          case atStart => exact ⟨0, by omega, rfl, Lib.hid (Below.refl _ _), Lib.hid fun j f v hj => by omega⟩
          case round =>
            rename World => wt
            obtain ⟨k, hk, rfl, hF, hal⟩ := hrel
            have Hk := Lib.hid (Hi.out.trans (hF.out.mono Hi.out.size))
            have hEF := Lib.hid (hE.out.trans (hF.out.mono hE.out.size))
            have P4 := Lib.hid (P3.out.to hF.out)
            have u1 := (hF.out.cell (p := ⟨b, off + q * 3 + 1, none⟩) hb).trans x1
            have u2 := (hF.out.cell (p := ⟨b, off + q * 3 + 2, none⟩) hb).trans x2
            have u4 := (hF.out.cell (p := ⟨bt, offt + t * 2 + 1, none⟩) hbt).trans y1
            have c1 := P4.out.cell (j := 1) rfl
            by_cases hkl : k < ol
            · obtain ⟨f, hfk⟩ : ∃ f, ty.2[k]? = some f := ⟨_, List.getElem?_eq_getElem (by have := Hfl.out; have := Hlen.out; omega)⟩
              obtain ⟨bf, offf, sx, tx, rfl, hbf, z0, z1, z2, -, htx, -, -, -⟩ := fld_at (flds_below hF.out Hfs.out) hfk
              obtain ⟨v, hvk⟩ : ∃ v, o.2.2[k]? = some v := ⟨_, List.getElem?_eq_getElem (by have := Hol.out; omega)⟩
              obtain ⟨bv, offv, sv, rfl, hbv, v0, v1, v2, hsv, -, -, -⟩ := val_at (vals_below hF.out Hvs.out) hvk
              have hk0 : (0 : Int) ≤ (k : Int) := Int.natCast_nonneg k
              have hkf : (k : Int) < (fl : Int) := by have := Hlen.out; omega
              have hkv : (k : Int) < (ol : Int) := by omega
              have T1 := Lib.hid (fun W (hW : Below w.heap.size w W) => TL.out W hW sx tx sv f v htx hsv)
              have Hbad := Lib.hid (Hlk.out k f v hfk hvk)
              have Hgood : Hid (haveG g f v = true → ∀ (j : Nat) f v, j < k + 1 → ty.2[j]? = some f → o.2.2[j]? = some v → haveG g f v = true) := Lib.hid fun e j f' v' hj hf' hv' => by
                by_cases hjk : j < k
                · exact hal.out j f' v' hjk hf' hv'
                · obtain rfl : j = k := by omega
                  rw [hfk] at hf'
                  rw [hvk] at hv'
                  injection hf' with hf'
                  injection hv' with hv'
                  subst hf' hv'
                  exact e
              have HS := Lib.hid (fun (W : World) (hW : Below wt.heap.size wt W) => And.intro (And.intro ((P4.out.to hW).cell (j := 0) rfl) (And.intro ((P4.out.to hW).cell (j := 1) rfl) ((P4.out.to hW).cell (j := 2) rfl)))
                (And.intro (And.intro ((hW.cell (p := ⟨b, off + q * 3 + 1, none⟩) (Nat.lt_of_lt_of_le hb hF.out.size)).trans u1) (And.intro ((hW.cell (p := ⟨b, off + q * 3 + 2, none⟩) (Nat.lt_of_lt_of_le hb hF.out.size)).trans u2) ((hW.cell (p := ⟨bt, offt + t * 2 + 1, none⟩) (Nat.lt_of_lt_of_le hbt hF.out.size)).trans u4)))
                (And.intro (And.intro ((hW.cell (p := ⟨bf, offf + k * 3, none⟩) hbf).trans z0) (And.intro ((hW.cell (p := ⟨bf, offf + k * 3 + 1, none⟩) hbf).trans z1) ((hW.cell (p := ⟨bf, offf + k * 3 + 2, none⟩) hbf).trans z2)))
                (And.intro ((hW.cell (p := ⟨bv, offv + k * 3, none⟩) hbv).trans v0) (And.intro ((hW.cell (p := ⟨bv, offv + k * 3 + 1, none⟩) hbv).trans v1) ((hW.cell (p := ⟨bv, offv + k * 3 + 2, none⟩) hbv).trans v2))))))
              clear hfk hvk hal z0 z1 z2 v0 v1 v2 u1 u4 htx hsv
              generalize haveG g f v = bb at *
              generalize f.2.1 = kk at *
              generalize v.1 = n1 at *
              generalize v.2.2 = n2 at *
              go_wp2
              refine sch_start [(0, true), (1, true), (2, true), (3, true), (4, true), (5, true), (6, true), (7, true), (8, true), (9, true), (10, true), (11, true), (12, true), (13, true), (14, true), (15, true), (16, true), (17, true), (18, true), (19, true), (20, true), (21, true), (22, true), (23, true), (24, true), (25, false), (26, true)] (fun W => Below wt.heap.size wt W) (by kernel_rfl) rfl (by kernel_rfl) (fun _ _ _ _ _ h => h) (Below.refl _ wt).drew (fun hH => ?_)
              repeat (first | (refine sch_yes (v := ?_) rfl rfl ?_ hH ?_; rotate_left; (focus ((intro W hW; obtain ⟨⟨x0, x1, x2⟩, ⟨y0, y1, y2⟩, ⟨z0, z1, z2⟩, v0, v1, v2⟩ := HS.out W hW; go_simp) <;> with_reducible rfl)); simp only [Act.put, List.setIfInBounds_toArray, List.set_cons_zero, List.set_cons_succ]) | (refine sch_no rfl rfl hH ?_; simp only [Act.put, List.setIfInBounds_toArray, List.set_cons_zero, List.set_cons_succ]))
              refine sch_call rfl rfl (fun K' hK' => ?_)
              go_wp2_with (go_at_call 58; refine (T1.out _ (Hk.out.trans (hH.mono Hk.out.size))).mono ?_; rintro e w4 ⟨rfl, hB4⟩)
              have hD4 := hH.trans (hB4.mono hH.size)
              refine hK'.out _ _ hD4 ?_
              clear hK' hB4 hH
              have hH := hD4
              repeat (first | (refine sch_yes (v := ?_) rfl rfl ?_ hH ?_; rotate_left; (focus ((intro W hW; obtain ⟨⟨x0, x1, x2⟩, ⟨y0, y1, y2⟩, ⟨z0, z1, z2⟩, v0, v1, v2⟩ := HS.out W hW; go_simp) <;> with_reducible rfl)); simp only [Act.put, List.setIfInBounds_toArray, List.set_cons_zero, List.set_cons_succ]) | (refine sch_no rfl rfl hH ?_; simp only [Act.put, List.setIfInBounds_toArray, List.set_cons_zero, List.set_cons_succ]))
              refine sch_done ?_
              have H4 := Lib.hid (Hk.out.trans (hD4.mono Hk.out.size))
              have HD4 := Lib.hid (hF.out.trans (hD4.mono hF.out.size))
              clear hH hD4 HS T1
              cases bb
              · have Hq := Lib.hid (Hbad.out rfl)
                clear Hbad Hgood
                go_wp2
                go_ret
                exact ⟨by rw [Hq.out]; rfl, H4.out⟩
              · have Hq := Lib.hid (Hgood.out rfl)
                clear Hbad Hgood
                go_wp2
                go_roundw
                case rel => exact ⟨k + 1, by omega, by go_num, HD4, Hq⟩
                case measure => simp [intOf]; omega
            · obtain rfl : k = ol := by omega
              have Hn5 := Lib.hid (Hnext.out hal.out)
              clear Hnext hal
              go_wp2
              go_roundw
              case rel => exact ⟨q + 1, by omega, by go_num, hEF, Hn5⟩
              case measure => simp [intOf]; omega
        · obtain rfl : q = i := by omega
          have Hall4 := Lib.hid (Hall3.out hld.out)
          clear Hall3 hld hqn hq
          go_wp2
          clear c0 c1 c2
          go_loopw [9] (fun iv W => ∃ j : Nat, j ≤ K ∧ iv = .int .i64 (j : Int) ∧ Hid (Below ws.heap.size ws W) ∧ Hid (∀ (p : Nat) r, p < j → g.2.2[p]? = some r → rootG g.2.1 r = true)) (fun iv _ => K - (intOf iv).toNat)
          case atStart => exact ⟨0, by omega, rfl, Lib.hid (Below.refl _ _), Lib.hid fun p r hp => by omega⟩
          case round =>
            rename World => wt
            obtain ⟨j, hj, rfl, hF, hrt⟩ := hrel
            have Hk := Lib.hid (Hi.out.trans (hF.out.mono Hi.out.size))
            have P4 := Lib.hid (P3.out.to hF.out)
            have c2 := P4.out.cell (j := 2) rfl
            by_cases hjK : j < K
            · obtain ⟨x, hx⟩ : ∃ x, g.2.2[j]? = some x := ⟨_, List.getElem?_eq_getElem (by have := HK.out; omega)⟩
              obtain ⟨b, off, rfl, hb, hrc, -⟩ := id_at (rGr_open (Hg.out _ Hk.out)).2.2 hx
              have hjl : (j : Int) < (K : Int) := by omega
              have hj0 : (0 : Int) ≤ (j : Int) := Int.natCast_nonneg j
              have Hbad := Lib.hid (Hroot.out x (List.mem_of_getElem? hx))
              have Hgood : Hid (rootG g.2.1 x = true → ∀ (p : Nat) r, p < j + 1 → g.2.2[p]? = some r → rootG g.2.1 r = true) := Lib.hid fun e p r' hp hr' => by
                by_cases hpj : p < j
                · exact hrt.out p r' hpj hr'
                · obtain rfl : p = j := by omega
                  rw [hx] at hr'
                  injection hr' with hr'
                  subst hr'
                  exact e
              have HS := Lib.hid (fun (W : World) (hW : Below wt.heap.size wt W) => And.intro ((P4.out.to hW).cell (j := 0) rfl) (And.intro ((P4.out.to hW).cell (j := 1) rfl) (And.intro ((P4.out.to hW).cell (j := 2) rfl) ((hW.cell (p := ⟨b, off + j, none⟩) hb).trans hrc))))
              have T1 := Lib.hid (fun W hW => TG.out W hW x)
              have hlow := findG_low g.2.1 x
              have Hrx : Hid (rootG g.2.1 x = (decide (x = -1) || decide (findG g.2.1 x ≠ -1))) := Lib.hid rfl
              clear hrt hx hrc
              generalize rootG g.2.1 x = bb at *
              generalize findG g.2.1 x = fx at *
              by_cases hx1 : x = -1
              · have hx1' : (x != -1) = false := by simp [hx1]
                have Hq := Lib.hid (Hgood.out (by rw [Hrx.out, decide_eq_true hx1]; rfl))
                clear Hbad Hgood hx1 hlow
                go_wp2
                refine sch_start [(0, true), (1, true), (2, true), (3, true), (4, true), (5, true), (6, true), (7, true), (8, true), (9, true), (10, true), (11, true), (12, true), (13, false), (14, true), (15, true)] (fun W => Below wt.heap.size wt W) (by kernel_rfl) rfl (by kernel_rfl) (fun _ _ _ _ _ h => h) (Below.refl _ wt).drew (fun hH => ?_)
                repeat (first | (refine sch_yes (v := ?_) rfl rfl ?_ hH ?_; rotate_left; (focus ((intro W hW; obtain ⟨x0, x1, x2, x3⟩ := HS.out W hW; go_simp) <;> with_reducible rfl)); simp only [Act.put, List.setIfInBounds_toArray, List.set_cons_zero, List.set_cons_succ]) | (refine sch_no rfl rfl hH ?_; simp only [Act.put, List.setIfInBounds_toArray, List.set_cons_zero, List.set_cons_succ]))
                refine sch_call_no rfl rfl hH ?_
                repeat (first | (refine sch_yes (v := ?_) rfl rfl ?_ hH ?_; rotate_left; (focus ((intro W hW; obtain ⟨x0, x1, x2, x3⟩ := HS.out W hW; go_simp) <;> with_reducible rfl)); simp only [Act.put, List.setIfInBounds_toArray, List.set_cons_zero, List.set_cons_succ]) | (refine sch_no rfl rfl hH ?_; simp only [Act.put, List.setIfInBounds_toArray, List.set_cons_zero, List.set_cons_succ]))
                refine sch_done ?_
                have HD4 := Lib.hid (hF.out.trans (hH.mono hF.out.size))
                clear hH HS T1
                go_wp2
                go_roundw
                case rel => exact ⟨j + 1, by omega, by go_num, HD4, Hq⟩
                case measure => simp [intOf]; omega
              · have hx1' : (x != -1) = true := by simp [hx1]
                have Hfx : Hid (bb = decide (¬ fx < 0)) := Lib.hid (by
                  rw [Hrx.out, decide_eq_false hx1, Bool.false_or]
                  by_cases hh : fx = -1
                  · rw [hh]; decide
                  · rw [decide_eq_true hh, decide_eq_true (by omega)])
                clear hx1 hlow Hrx
                by_cases hf0 : fx < 0
                · have hf0' : decide (fx < 0) = true := decide_eq_true hf0
                  have Hq := Lib.hid (Hbad.out (by rw [Hfx.out]; exact decide_eq_false (by omega)))
                  clear Hbad Hgood hf0 Hfx
                  go_wp2
                  refine sch_start [(0, true), (1, true), (2, true), (3, true), (4, true), (5, true), (6, true), (7, true), (8, true), (9, true), (10, true), (11, true), (12, true), (13, false), (14, true), (15, true)] (fun W => Below wt.heap.size wt W) (by kernel_rfl) rfl (by kernel_rfl) (fun _ _ _ _ _ h => h) (Below.refl _ wt).drew (fun hH => ?_)
                  repeat (first | (refine sch_yes (v := ?_) rfl rfl ?_ hH ?_; rotate_left; (focus ((intro W hW; obtain ⟨x0, x1, x2, x3⟩ := HS.out W hW; go_simp) <;> with_reducible rfl)); simp only [Act.put, List.setIfInBounds_toArray, List.set_cons_zero, List.set_cons_succ]) | (refine sch_no rfl rfl hH ?_; simp only [Act.put, List.setIfInBounds_toArray, List.set_cons_zero, List.set_cons_succ]))
                  refine sch_call rfl rfl (fun K' hK' => ?_)
                  go_wp2_with (go_at_call 28; refine (T1.out _ (Hk.out.trans (hH.mono Hk.out.size))).mono ?_; rintro e w4 ⟨rfl, hB4⟩)
                  have hD4 := hH.trans (hB4.mono hH.size)
                  refine hK'.out _ _ hD4 ?_
                  clear hK' hB4 hH
                  have hH := hD4
                  repeat (first | (refine sch_yes (v := ?_) rfl rfl ?_ hH ?_; rotate_left; (focus ((intro W hW; obtain ⟨x0, x1, x2, x3⟩ := HS.out W hW; go_simp) <;> with_reducible rfl)); simp only [Act.put, List.setIfInBounds_toArray, List.set_cons_zero, List.set_cons_succ]) | (refine sch_no rfl rfl hH ?_; simp only [Act.put, List.setIfInBounds_toArray, List.set_cons_zero, List.set_cons_succ]))
                  refine sch_done ?_
                  have H4 := Lib.hid (Hk.out.trans (hD4.mono Hk.out.size))
                  clear hH HS T1 hD4
                  go_wp2
                  go_ret
                  exact ⟨by rw [Hq.out]; rfl, H4.out⟩
                · have hf0' : decide (fx < 0) = false := decide_eq_false hf0
                  have Hq := Lib.hid (Hgood.out (by rw [Hfx.out]; exact decide_eq_true (by omega)))
                  clear Hbad Hgood hf0 Hfx
                  go_wp2
                  refine sch_start [(0, true), (1, true), (2, true), (3, true), (4, true), (5, true), (6, true), (7, true), (8, true), (9, true), (10, true), (11, true), (12, true), (13, false), (14, true), (15, true)] (fun W => Below wt.heap.size wt W) (by kernel_rfl) rfl (by kernel_rfl) (fun _ _ _ _ _ h => h) (Below.refl _ wt).drew (fun hH => ?_)
                  repeat (first | (refine sch_yes (v := ?_) rfl rfl ?_ hH ?_; rotate_left; (focus ((intro W hW; obtain ⟨x0, x1, x2, x3⟩ := HS.out W hW; go_simp) <;> with_reducible rfl)); simp only [Act.put, List.setIfInBounds_toArray, List.set_cons_zero, List.set_cons_succ]) | (refine sch_no rfl rfl hH ?_; simp only [Act.put, List.setIfInBounds_toArray, List.set_cons_zero, List.set_cons_succ]))
                  refine sch_call rfl rfl (fun K' hK' => ?_)
                  go_wp2_with (go_at_call 28; refine (T1.out _ (Hk.out.trans (hH.mono Hk.out.size))).mono ?_; rintro e w4 ⟨rfl, hB4⟩)
                  have hD4 := hH.trans (hB4.mono hH.size)
                  refine hK'.out _ _ hD4 ?_
                  clear hK' hB4 hH
                  have hH := hD4
                  repeat (first | (refine sch_yes (v := ?_) rfl rfl ?_ hH ?_; rotate_left; (focus ((intro W hW; obtain ⟨x0, x1, x2, x3⟩ := HS.out W hW; go_simp) <;> with_reducible rfl)); simp only [Act.put, List.setIfInBounds_toArray, List.set_cons_zero, List.set_cons_succ]) | (refine sch_no rfl rfl hH ?_; simp only [Act.put, List.setIfInBounds_toArray, List.set_cons_zero, List.set_cons_succ]))
                  refine sch_done ?_
                  have HD4 := Lib.hid (hF.out.trans (hD4.mono hF.out.size))
                  clear hH HS T1 hD4
                  go_wp2
                  go_roundw
                  case rel => exact ⟨j + 1, by omega, by go_num, HD4, Hq⟩
                  case measure => simp [intOf]; omega
            · obtain rfl : j = K := by omega
              have Hq := Lib.hid (Hall4.out hrt.out)
              clear Hall4 hrt
              go_wp2
              go_ret
              exact ⟨by rw [Hq.out]; rfl, Hk.out⟩
end Go.Proofs.Yteafbdebmhpffaa
