/- GraphStays: what may be stays so, with a new object, another value, another root, and swept; with an error nothing changes. No condition. (Written by a program: by which of the three calls answers an error.) -/
import Derived.Test.YtembafogbfcajaaGrAwake
import Derived.Test.YtembafogbfcajaaGrSet
import Derived.Test.YtembafogbfcajaaGrStayPlain
namespace Go.Proofs.Ytembafogbfcajaa
open Go.RowKit

/-- A value that came in, written out. -/
theorem val_arg {w : World} {cs : Array Value} {v : Vl} (h : rVal (All w) w cs.toList v) : ∃ s : ByteArray, cs = #[.int .i64 v.1, .string s, .int .i64 v.2.2] ∧ byt s = v.2.1 ∧ s.size ≤ maxLen ∧ (-9223372036854775808 ≤ v.1 ∧ v.1 ≤ 9223372036854775807) ∧ (-9223372036854775808 ≤ v.2.2 ∧ v.2.2 ≤ 9223372036854775807) := by
  obtain ⟨s, h1, h2, h3, h4, h5⟩ := rVal_open h
  exact ⟨s, by cases cs; simpa using h1, h2, h3, h4, h5⟩
theorem newG_no {g : Gr} {t : Int} (h : newE g t ≠ 0) : newG g t = g ∧ newI g t = -1 := ⟨if_neg h, if_neg h⟩
theorem setN_no {g : Gr} {id k : Int} {v : Vl} (h : setE g id k v ≠ 0) : setN g id k v = g := if_neg h
theorem rootN_no {g : Gr} {i id : Int} (h : rootE g i id ≠ 0) : rootN g i id = g := if_neg h
theorem newG_stays {g : Gr} (t : Int) (h : mayG g = true) : mayG (newG g t) = true := by
  by_cases he : newE g t = 0
  · exact newG_may he
  · rw [(newG_no he).1]; exact h
theorem setN_stays {g : Gr} (id k : Int) (v : Vl) (h : mayG g = true) : mayG (setN g id k v) = true := by
  by_cases he : setE g id k v = 0
  · exact setN_may he
  · rw [setN_no he]; exact h
theorem rootN_stays {g : Gr} (i id : Int) (h : mayG g = true) : mayG (rootN g i id) = true := by
  by_cases he : rootE g i id = 0
  · exact rootN_may he
  · rw [rootN_no he]; exact h

set_option maxRecDepth 100000 in
set_option maxHeartbeats 4000000 in
theorem graphStays_walk (w : World) (cs : Array Value) (g : Gr) (h : rGr (All w) w cs.toList g) (id : Int) (hd0 : -9223372036854775808 ≤ id) (hd1 : id ≤ 9223372036854775807) (k : Int) (hk0 : -9223372036854775808 ≤ k) (hk1 : k ≤ 9223372036854775807) (vs : Array Value) (v : Vl) (hvv : rVal (All w) w vs.toList v) :
    Calls Try.prog 4 #[.agg cs, .int .i64 id, .int .i64 k, .agg vs] w fun e w' => e = .returned (.bool true) ∧ Below w.heap.size w w' := by
  obtain ⟨A, c, B, d, C, e, rfl, h⟩ := gr_arg h
  obtain ⟨s, rfl, hs, hsm, hv1, hv2⟩ := val_arg hvv
  have hid : (Lit.int .i64 id).wf = true := WalkArith.wf_i64 ⟨hd0, hd1⟩
  have hkk : (Lit.int .i64 k).wf = true := WalkArith.wf_i64 ⟨hk0, hk1⟩
  have hB0 : Below w.heap.size w ((w.alloc (.cells #[.slice A g.1.length c, .slice B g.2.1.length d, .slice C g.2.2.length e] 28)).alloc (.cells #[.int .i64 v.1, .string s, .int .i64 v.2.2] 30)) := ((Below.refl _ w).alloc (Nat.le_refl _) _).alloc (by simp) _
  obtain ⟨p1, pv⟩ := blk_two w 28 30 [.slice A g.1.length c, .slice B g.2.1.length d, .slice C g.2.2.length e] [.int .i64 v.1, .string s, .int .i64 v.2.2]
  have TF := Lib.hid (fun W (hW : Below w.heap.size w W) => gfew_any A B C g.1.length c g.2.1.length d g.2.2.length e g W (gr_below hW h))
  have TM := Lib.hid (fun W (hW : Below w.heap.size w W) => gmay_any A B C g.1.length c g.2.1.length d g.2.2.length e g W (gr_below hW h))
  have TN := Lib.hid (fun W (hW : Below w.heap.size w W) hm => gnew_any A B C g.1.length c g.2.1.length d g.2.2.length e g k W (gr_below hW h) (tame_may h hm) hkk)
  have TS := Lib.hid (fun W (hW : Below w.heap.size w W) hm => gset_any A B C g.1.length c g.2.1.length d g.2.2.length e g id k s v W (gr_below hW h) (tame_may h hm) hs (WalkArith.wf_i64 hv1) (WalkArith.wf_i64 hv2))
  have TR := Lib.hid (fun W (hW : Below w.heap.size w W) hm => groot_any A B C g.1.length c g.2.1.length d g.2.2.length e g k id W (gr_below hW h) (tame_may h hm) hid)
  have TW := Lib.hid (fun W (hW : Below w.heap.size w W) => gsweep_any A B C g.1.length c g.2.1.length d g.2.2.length e g W (gr_below hW h))
  have Hg := Lib.hid (fun W (hW : Below w.heap.size w W) => gr_below hW h)
  have HB0 := Lib.hid hB0
  clear hB0 h hvv
  have hs48 := hsm
  generalize g.1.length = N at *
  generalize g.2.1.length = M at *
  generalize g.2.2.length = K at *
  generalize fewG g = few at *
  generalize hm : mayG g = may at *
  generalize v.1 = n1 at *
  generalize v.2.2 = n2 at *
  go_enter Try.func4, Try.ntmps4
  go_wp2_with fail
  refine (gawake_any _).mono ?_
  rintro e w1 ⟨rfl, hB1⟩
  have H1 := Lib.hid (HB0.out.trans (hB1.mono HB0.out.size))
  replace p1 := p1.to hB1
  replace pv := pv.to hB1
  clear hB1 HB0
  have c0 := p1.cell (j := 0) rfl
  have c1 := p1.cell (j := 1) rfl
  have c2 := p1.cell (j := 2) rfl
  go_wp2_with fail
  refine (TF.out _ H1.out).mono ?_
  rintro e w2 ⟨rfl, hB2⟩
  have H2 := Lib.hid (H1.out.trans (hB2.mono H1.out.size))
  replace p1 := p1.to hB2
  replace pv := pv.to hB2
  clear hB2 H1 c0 c1 c2 TF
  cases few
  · go_wp2
    go_ret
    exact ⟨rfl, H2.out⟩
  have c0 := p1.cell (j := 0) rfl
  have c1 := p1.cell (j := 1) rfl
  have c2 := p1.cell (j := 2) rfl
  go_wp2_with fail
  refine (TM.out _ H2.out).mono ?_
  rintro e w3 ⟨rfl, hB3⟩
  have H3 := Lib.hid (H2.out.trans (hB3.mono H2.out.size))
  replace p1 := p1.to hB3
  replace pv := pv.to hB3
  clear hB3 H2 c0 c1 c2 TM
  cases may
  · go_wp2
    go_ret
    exact ⟨rfl, H3.out⟩
  have c0 := p1.cell (j := 0) rfl
  have c1 := p1.cell (j := 1) rfl
  have c2 := p1.cell (j := 2) rfl
  go_wp2_with fail
  refine (TN.out _ H3.out (by trivial)).mono ?_
  rintro e wa ⟨Aa, ca, Ba, da, Ca, ea, rfl, ha, hBa⟩
  have hBa' : Below wa.heap.size wa (wa.alloc (.cells #[.slice Aa (newG g k).1.length ca, .slice Ba (newG g k).2.1.length da, .slice Ca (newG g k).2.2.length ea] 28)) := (Below.refl _ wa).alloc (Nat.le_refl _) _
  have pa := Blk.new wa 28 [.slice Aa (newG g k).1.length ca, .slice Ba (newG g k).2.1.length da, .slice Ca (newG g k).2.2.length ea]
  have hX := hBa.trans (hBa'.mono hBa.size)
  have H4 := Lib.hid (H3.out.trans (hX.mono H3.out.size))
  replace p1 := p1.to hX
  replace pv := pv.to hX
  have Ha := Lib.hid (gr_below hBa' ha)
  clear hBa hBa' hX ha c0 c1 c2 TN H3
  generalize (newG g k).1.length = Na at *
  generalize (newG g k).2.1.length = Ma at *
  generalize (newG g k).2.2.length = Ka at *
  have c0 := p1.cell (j := 0) rfl
  have c1 := p1.cell (j := 1) rfl
  have c2 := p1.cell (j := 2) rfl
  have v0 := pv.cell (j := 0) rfl
  have v1 := pv.cell (j := 1) rfl
  have v2 := pv.cell (j := 2) rfl
  go_wp2_with fail
  refine (TS.out _ H4.out (by trivial)).mono ?_
  rintro e wb ⟨Ab, cb, Bb, db, Cb, eb, rfl, hb, hBb⟩
  have hBb' : Below wb.heap.size wb (wb.alloc (.cells #[.slice Ab (setN g id k v).1.length cb, .slice Bb (setN g id k v).2.1.length db, .slice Cb (setN g id k v).2.2.length eb] 28)) := (Below.refl _ wb).alloc (Nat.le_refl _) _
  have pb := Blk.new wb 28 [.slice Ab (setN g id k v).1.length cb, .slice Bb (setN g id k v).2.1.length db, .slice Cb (setN g id k v).2.2.length eb]
  have hX := hBb.trans (hBb'.mono hBb.size)
  have H5 := Lib.hid (H4.out.trans (hX.mono H4.out.size))
  replace p1 := p1.to hX
  replace pv := pv.to hX
  replace pa := pa.to hX
  have Ha2 := Lib.hid (gr_below hX Ha.out)
  clear Ha
  have Ha := Lib.hid Ha2.out
  clear Ha2
  have Hb := Lib.hid (gr_below hBb' hb)
  clear hBb hBb' hX hb c0 c1 c2 v0 v1 v2 H4
  generalize (setN g id k v).1.length = Nb at *
  generalize (setN g id k v).2.1.length = Mb at *
  generalize (setN g id k v).2.2.length = Kb at *
  have c0 := p1.cell (j := 0) rfl
  have c1 := p1.cell (j := 1) rfl
  have c2 := p1.cell (j := 2) rfl
  go_wp2_with fail
  refine (TR.out _ H5.out (by trivial)).mono ?_
  rintro e wk ⟨Ak, ck, Bk, dk, Ck, ek, rfl, hk, hBk⟩
  have hBk' : Below wk.heap.size wk (wk.alloc (.cells #[.slice Ak (rootN g k id).1.length ck, .slice Bk (rootN g k id).2.1.length dk, .slice Ck (rootN g k id).2.2.length ek] 28)) := (Below.refl _ wk).alloc (Nat.le_refl _) _
  have pk := Blk.new wk 28 [.slice Ak (rootN g k id).1.length ck, .slice Bk (rootN g k id).2.1.length dk, .slice Ck (rootN g k id).2.2.length ek]
  have hX := hBk.trans (hBk'.mono hBk.size)
  have H6 := Lib.hid (H5.out.trans (hX.mono H5.out.size))
  replace p1 := p1.to hX
  replace pv := pv.to hX
  replace pa := pa.to hX
  have Ha2 := Lib.hid (gr_below hX Ha.out)
  clear Ha
  have Ha := Lib.hid Ha2.out
  clear Ha2
  replace pb := pb.to hX
  have Hb2 := Lib.hid (gr_below hX Hb.out)
  clear Hb
  have Hb := Lib.hid Hb2.out
  clear Hb2
  have Hk := Lib.hid (gr_below hBk' hk)
  clear hBk hBk' hX hk c0 c1 c2 H5
  generalize (rootN g k id).1.length = Nk at *
  generalize (rootN g k id).2.1.length = Mk at *
  generalize (rootN g k id).2.2.length = Kk at *
  have c0 := p1.cell (j := 0) rfl
  have c1 := p1.cell (j := 1) rfl
  have c2 := p1.cell (j := 2) rfl
  have Na' := Lib.hid (fun h => newG_no (g := g) (t := k) h)
  have Nb' := Lib.hid (fun h => setN_no (g := g) (id := id) (k := k) (v := v) h)
  have Nk' := Lib.hid (fun h => rootN_no (g := g) (i := k) (id := id) h)
  have Ya := newG_stays (g := g) k hm
  have Yb := setN_stays (g := g) id k v hm
  have Yk := rootN_stays (g := g) k id hm
  have Yw := sweepG_may hm
  clear c0 c1 c2 TS TR
  generalize newE g k = ea' at *
  generalize newI g k = ni at *
  generalize setE g id k v = eb' at *
  generalize rootE g k id = ek' at *
  generalize newG g k = ga at *
  generalize setN g id k v = gb at *
  generalize rootN g k id = gk at *
  by_cases hza : ea' = 0
  · subst hza
    by_cases hzb : eb' = 0
    · subst hzb
      by_cases hzk : ek' = 0
      · subst hzk
        have T09 := Lib.hid (fun W hq => gmay_any Aa Ba Ca Na ca Ma da Ka ea ga W hq)
        rw [Ya] at T09
        have c0 := p1.cell (j := 0) rfl
        have c1 := p1.cell (j := 1) rfl
        have c2 := p1.cell (j := 2) rfl
        have a0 := pa.cell (j := 0) rfl
        have a1 := pa.cell (j := 1) rfl
        have a2 := pa.cell (j := 2) rfl
        have b0 := pb.cell (j := 0) rfl
        have b1 := pb.cell (j := 1) rfl
        have b2 := pb.cell (j := 2) rfl
        have k0 := pk.cell (j := 0) rfl
        have k1 := pk.cell (j := 1) rfl
        have k2 := pk.cell (j := 2) rfl
        go_wp2_with fail
        refine (T09.out _ Ha.out).mono ?_
        rintro e wz0 ⟨rfl, hZ0⟩
        have G0 := Lib.hid (H6.out.trans (hZ0.mono H6.out.size))
        replace p1 := p1.to hZ0
        replace pa := pa.to hZ0
        replace pb := pb.to hZ0
        replace pk := pk.to hZ0
        replace Ha := Lib.hid (gr_below hZ0 Ha.out)
        replace Hb := Lib.hid (gr_below hZ0 Hb.out)
        replace Hk := Lib.hid (gr_below hZ0 Hk.out)
        clear c0 c1 c2 a0 a1 a2 b0 b1 b2 k0 k1 k2 hZ0
        have T19 := Lib.hid (fun W hq => gmay_any Ab Bb Cb Nb cb Mb db Kb eb gb W hq)
        rw [Yb] at T19
        have c0 := p1.cell (j := 0) rfl
        have c1 := p1.cell (j := 1) rfl
        have c2 := p1.cell (j := 2) rfl
        have a0 := pa.cell (j := 0) rfl
        have a1 := pa.cell (j := 1) rfl
        have a2 := pa.cell (j := 2) rfl
        have b0 := pb.cell (j := 0) rfl
        have b1 := pb.cell (j := 1) rfl
        have b2 := pb.cell (j := 2) rfl
        have k0 := pk.cell (j := 0) rfl
        have k1 := pk.cell (j := 1) rfl
        have k2 := pk.cell (j := 2) rfl
        go_wp2_with fail
        refine (T19.out _ Hb.out).mono ?_
        rintro e wz1 ⟨rfl, hZ1⟩
        have G1 := Lib.hid (G0.out.trans (hZ1.mono G0.out.size))
        replace p1 := p1.to hZ1
        replace pa := pa.to hZ1
        replace pb := pb.to hZ1
        replace pk := pk.to hZ1
        replace Ha := Lib.hid (gr_below hZ1 Ha.out)
        replace Hb := Lib.hid (gr_below hZ1 Hb.out)
        replace Hk := Lib.hid (gr_below hZ1 Hk.out)
        clear c0 c1 c2 a0 a1 a2 b0 b1 b2 k0 k1 k2 hZ1
        have T29 := Lib.hid (fun W hq => gmay_any Ak Bk Ck Nk ck Mk dk Kk ek gk W hq)
        rw [Yk] at T29
        have c0 := p1.cell (j := 0) rfl
        have c1 := p1.cell (j := 1) rfl
        have c2 := p1.cell (j := 2) rfl
        have a0 := pa.cell (j := 0) rfl
        have a1 := pa.cell (j := 1) rfl
        have a2 := pa.cell (j := 2) rfl
        have b0 := pb.cell (j := 0) rfl
        have b1 := pb.cell (j := 1) rfl
        have b2 := pb.cell (j := 2) rfl
        have k0 := pk.cell (j := 0) rfl
        have k1 := pk.cell (j := 1) rfl
        have k2 := pk.cell (j := 2) rfl
        go_wp2_with fail
        refine (T29.out _ Hk.out).mono ?_
        rintro e wz2 ⟨rfl, hZ2⟩
        have G2 := Lib.hid (G1.out.trans (hZ2.mono G1.out.size))
        replace p1 := p1.to hZ2
        replace pa := pa.to hZ2
        replace pb := pb.to hZ2
        replace pk := pk.to hZ2
        replace Ha := Lib.hid (gr_below hZ2 Ha.out)
        replace Hb := Lib.hid (gr_below hZ2 Hb.out)
        replace Hk := Lib.hid (gr_below hZ2 Hk.out)
        clear c0 c1 c2 a0 a1 a2 b0 b1 b2 k0 k1 k2 hZ2
        have c0 := p1.cell (j := 0) rfl
        have c1 := p1.cell (j := 1) rfl
        have c2 := p1.cell (j := 2) rfl
        go_wp2_with fail
        refine (TW.out _ G2.out).mono ?_
        rintro e ww ⟨Aw, cw, Bw, dw, Cw, ew, rfl, hw, hBw⟩
        have Gw := Lib.hid (G2.out.trans (hBw.mono G2.out.size))
        have Tw := Lib.hid (gmay_any Aw Bw Cw (sweepG g).1.length cw (sweepG g).2.1.length dw (sweepG g).2.2.length ew (sweepG g) ww hw)
        rw [Yw] at Tw
        clear hw hBw
        go_wp2_with fail
        refine Tw.out.mono ?_
        rintro e wy ⟨rfl, hBy⟩
        go_wp2
        go_ret
        exact ⟨rfl, Gw.out.trans (hBy.mono Gw.out.size)⟩
      · have hzk' : (ek' != 0) = true := by simp [hzk]
        have Qk := Nk'.out hzk
        clear hzk
        have T09 := Lib.hid (fun W hq (hW : Below w.heap.size w W) => gsame_any Ak Bk Ck Nk ck Mk dk Kk ek A B C N c M d K e gk g W hq (Hg.out W hW))
        rw [decide_eq_true Qk] at T09
        have c0 := p1.cell (j := 0) rfl
        have c1 := p1.cell (j := 1) rfl
        have c2 := p1.cell (j := 2) rfl
        have a0 := pa.cell (j := 0) rfl
        have a1 := pa.cell (j := 1) rfl
        have a2 := pa.cell (j := 2) rfl
        have b0 := pb.cell (j := 0) rfl
        have b1 := pb.cell (j := 1) rfl
        have b2 := pb.cell (j := 2) rfl
        have k0 := pk.cell (j := 0) rfl
        have k1 := pk.cell (j := 1) rfl
        have k2 := pk.cell (j := 2) rfl
        go_wp2_with fail
        refine (T09.out _ Hk.out H6.out).mono ?_
        rintro e wz0 ⟨rfl, hZ0⟩
        have G0 := Lib.hid (H6.out.trans (hZ0.mono H6.out.size))
        replace p1 := p1.to hZ0
        replace pa := pa.to hZ0
        replace pb := pb.to hZ0
        replace pk := pk.to hZ0
        replace Ha := Lib.hid (gr_below hZ0 Ha.out)
        replace Hb := Lib.hid (gr_below hZ0 Hb.out)
        replace Hk := Lib.hid (gr_below hZ0 Hk.out)
        clear c0 c1 c2 a0 a1 a2 b0 b1 b2 k0 k1 k2 hZ0
        have T19 := Lib.hid (fun W hq => gmay_any Aa Ba Ca Na ca Ma da Ka ea ga W hq)
        rw [Ya] at T19
        have c0 := p1.cell (j := 0) rfl
        have c1 := p1.cell (j := 1) rfl
        have c2 := p1.cell (j := 2) rfl
        have a0 := pa.cell (j := 0) rfl
        have a1 := pa.cell (j := 1) rfl
        have a2 := pa.cell (j := 2) rfl
        have b0 := pb.cell (j := 0) rfl
        have b1 := pb.cell (j := 1) rfl
        have b2 := pb.cell (j := 2) rfl
        have k0 := pk.cell (j := 0) rfl
        have k1 := pk.cell (j := 1) rfl
        have k2 := pk.cell (j := 2) rfl
        go_wp2_with fail
        refine (T19.out _ Ha.out).mono ?_
        rintro e wz1 ⟨rfl, hZ1⟩
        have G1 := Lib.hid (G0.out.trans (hZ1.mono G0.out.size))
        replace p1 := p1.to hZ1
        replace pa := pa.to hZ1
        replace pb := pb.to hZ1
        replace pk := pk.to hZ1
        replace Ha := Lib.hid (gr_below hZ1 Ha.out)
        replace Hb := Lib.hid (gr_below hZ1 Hb.out)
        replace Hk := Lib.hid (gr_below hZ1 Hk.out)
        clear c0 c1 c2 a0 a1 a2 b0 b1 b2 k0 k1 k2 hZ1
        have T29 := Lib.hid (fun W hq => gmay_any Ab Bb Cb Nb cb Mb db Kb eb gb W hq)
        rw [Yb] at T29
        have c0 := p1.cell (j := 0) rfl
        have c1 := p1.cell (j := 1) rfl
        have c2 := p1.cell (j := 2) rfl
        have a0 := pa.cell (j := 0) rfl
        have a1 := pa.cell (j := 1) rfl
        have a2 := pa.cell (j := 2) rfl
        have b0 := pb.cell (j := 0) rfl
        have b1 := pb.cell (j := 1) rfl
        have b2 := pb.cell (j := 2) rfl
        have k0 := pk.cell (j := 0) rfl
        have k1 := pk.cell (j := 1) rfl
        have k2 := pk.cell (j := 2) rfl
        go_wp2_with fail
        refine (T29.out _ Hb.out).mono ?_
        rintro e wz2 ⟨rfl, hZ2⟩
        have G2 := Lib.hid (G1.out.trans (hZ2.mono G1.out.size))
        replace p1 := p1.to hZ2
        replace pa := pa.to hZ2
        replace pb := pb.to hZ2
        replace pk := pk.to hZ2
        replace Ha := Lib.hid (gr_below hZ2 Ha.out)
        replace Hb := Lib.hid (gr_below hZ2 Hb.out)
        replace Hk := Lib.hid (gr_below hZ2 Hk.out)
        clear c0 c1 c2 a0 a1 a2 b0 b1 b2 k0 k1 k2 hZ2
        have T39 := Lib.hid (fun W hq => gmay_any Ak Bk Ck Nk ck Mk dk Kk ek gk W hq)
        rw [Yk] at T39
        have c0 := p1.cell (j := 0) rfl
        have c1 := p1.cell (j := 1) rfl
        have c2 := p1.cell (j := 2) rfl
        have a0 := pa.cell (j := 0) rfl
        have a1 := pa.cell (j := 1) rfl
        have a2 := pa.cell (j := 2) rfl
        have b0 := pb.cell (j := 0) rfl
        have b1 := pb.cell (j := 1) rfl
        have b2 := pb.cell (j := 2) rfl
        have k0 := pk.cell (j := 0) rfl
        have k1 := pk.cell (j := 1) rfl
        have k2 := pk.cell (j := 2) rfl
        go_wp2_with fail
        refine (T39.out _ Hk.out).mono ?_
        rintro e wz3 ⟨rfl, hZ3⟩
        have G3 := Lib.hid (G2.out.trans (hZ3.mono G2.out.size))
        replace p1 := p1.to hZ3
        replace pa := pa.to hZ3
        replace pb := pb.to hZ3
        replace pk := pk.to hZ3
        replace Ha := Lib.hid (gr_below hZ3 Ha.out)
        replace Hb := Lib.hid (gr_below hZ3 Hb.out)
        replace Hk := Lib.hid (gr_below hZ3 Hk.out)
        clear c0 c1 c2 a0 a1 a2 b0 b1 b2 k0 k1 k2 hZ3
        have c0 := p1.cell (j := 0) rfl
        have c1 := p1.cell (j := 1) rfl
        have c2 := p1.cell (j := 2) rfl
        go_wp2_with fail
        refine (TW.out _ G3.out).mono ?_
        rintro e ww ⟨Aw, cw, Bw, dw, Cw, ew, rfl, hw, hBw⟩
        have Gw := Lib.hid (G3.out.trans (hBw.mono G3.out.size))
        have Tw := Lib.hid (gmay_any Aw Bw Cw (sweepG g).1.length cw (sweepG g).2.1.length dw (sweepG g).2.2.length ew (sweepG g) ww hw)
        rw [Yw] at Tw
        clear hw hBw
        go_wp2_with fail
        refine Tw.out.mono ?_
        rintro e wy ⟨rfl, hBy⟩
        go_wp2
        go_ret
        exact ⟨rfl, Gw.out.trans (hBy.mono Gw.out.size)⟩
    · have hzb' : (eb' != 0) = true := by simp [hzb]
      have Qb := Nb'.out hzb
      clear hzb
      by_cases hzk : ek' = 0
      · subst hzk
        have T09 := Lib.hid (fun W hq (hW : Below w.heap.size w W) => gsame_any Ab Bb Cb Nb cb Mb db Kb eb A B C N c M d K e gb g W hq (Hg.out W hW))
        rw [decide_eq_true Qb] at T09
        have c0 := p1.cell (j := 0) rfl
        have c1 := p1.cell (j := 1) rfl
        have c2 := p1.cell (j := 2) rfl
        have a0 := pa.cell (j := 0) rfl
        have a1 := pa.cell (j := 1) rfl
        have a2 := pa.cell (j := 2) rfl
        have b0 := pb.cell (j := 0) rfl
        have b1 := pb.cell (j := 1) rfl
        have b2 := pb.cell (j := 2) rfl
        have k0 := pk.cell (j := 0) rfl
        have k1 := pk.cell (j := 1) rfl
        have k2 := pk.cell (j := 2) rfl
        go_wp2_with fail
        refine (T09.out _ Hb.out H6.out).mono ?_
        rintro e wz0 ⟨rfl, hZ0⟩
        have G0 := Lib.hid (H6.out.trans (hZ0.mono H6.out.size))
        replace p1 := p1.to hZ0
        replace pa := pa.to hZ0
        replace pb := pb.to hZ0
        replace pk := pk.to hZ0
        replace Ha := Lib.hid (gr_below hZ0 Ha.out)
        replace Hb := Lib.hid (gr_below hZ0 Hb.out)
        replace Hk := Lib.hid (gr_below hZ0 Hk.out)
        clear c0 c1 c2 a0 a1 a2 b0 b1 b2 k0 k1 k2 hZ0
        have T19 := Lib.hid (fun W hq => gmay_any Aa Ba Ca Na ca Ma da Ka ea ga W hq)
        rw [Ya] at T19
        have c0 := p1.cell (j := 0) rfl
        have c1 := p1.cell (j := 1) rfl
        have c2 := p1.cell (j := 2) rfl
        have a0 := pa.cell (j := 0) rfl
        have a1 := pa.cell (j := 1) rfl
        have a2 := pa.cell (j := 2) rfl
        have b0 := pb.cell (j := 0) rfl
        have b1 := pb.cell (j := 1) rfl
        have b2 := pb.cell (j := 2) rfl
        have k0 := pk.cell (j := 0) rfl
        have k1 := pk.cell (j := 1) rfl
        have k2 := pk.cell (j := 2) rfl
        go_wp2_with fail
        refine (T19.out _ Ha.out).mono ?_
        rintro e wz1 ⟨rfl, hZ1⟩
        have G1 := Lib.hid (G0.out.trans (hZ1.mono G0.out.size))
        replace p1 := p1.to hZ1
        replace pa := pa.to hZ1
        replace pb := pb.to hZ1
        replace pk := pk.to hZ1
        replace Ha := Lib.hid (gr_below hZ1 Ha.out)
        replace Hb := Lib.hid (gr_below hZ1 Hb.out)
        replace Hk := Lib.hid (gr_below hZ1 Hk.out)
        clear c0 c1 c2 a0 a1 a2 b0 b1 b2 k0 k1 k2 hZ1
        have T29 := Lib.hid (fun W hq => gmay_any Ab Bb Cb Nb cb Mb db Kb eb gb W hq)
        rw [Yb] at T29
        have c0 := p1.cell (j := 0) rfl
        have c1 := p1.cell (j := 1) rfl
        have c2 := p1.cell (j := 2) rfl
        have a0 := pa.cell (j := 0) rfl
        have a1 := pa.cell (j := 1) rfl
        have a2 := pa.cell (j := 2) rfl
        have b0 := pb.cell (j := 0) rfl
        have b1 := pb.cell (j := 1) rfl
        have b2 := pb.cell (j := 2) rfl
        have k0 := pk.cell (j := 0) rfl
        have k1 := pk.cell (j := 1) rfl
        have k2 := pk.cell (j := 2) rfl
        go_wp2_with fail
        refine (T29.out _ Hb.out).mono ?_
        rintro e wz2 ⟨rfl, hZ2⟩
        have G2 := Lib.hid (G1.out.trans (hZ2.mono G1.out.size))
        replace p1 := p1.to hZ2
        replace pa := pa.to hZ2
        replace pb := pb.to hZ2
        replace pk := pk.to hZ2
        replace Ha := Lib.hid (gr_below hZ2 Ha.out)
        replace Hb := Lib.hid (gr_below hZ2 Hb.out)
        replace Hk := Lib.hid (gr_below hZ2 Hk.out)
        clear c0 c1 c2 a0 a1 a2 b0 b1 b2 k0 k1 k2 hZ2
        have T39 := Lib.hid (fun W hq => gmay_any Ak Bk Ck Nk ck Mk dk Kk ek gk W hq)
        rw [Yk] at T39
        have c0 := p1.cell (j := 0) rfl
        have c1 := p1.cell (j := 1) rfl
        have c2 := p1.cell (j := 2) rfl
        have a0 := pa.cell (j := 0) rfl
        have a1 := pa.cell (j := 1) rfl
        have a2 := pa.cell (j := 2) rfl
        have b0 := pb.cell (j := 0) rfl
        have b1 := pb.cell (j := 1) rfl
        have b2 := pb.cell (j := 2) rfl
        have k0 := pk.cell (j := 0) rfl
        have k1 := pk.cell (j := 1) rfl
        have k2 := pk.cell (j := 2) rfl
        go_wp2_with fail
        refine (T39.out _ Hk.out).mono ?_
        rintro e wz3 ⟨rfl, hZ3⟩
        have G3 := Lib.hid (G2.out.trans (hZ3.mono G2.out.size))
        replace p1 := p1.to hZ3
        replace pa := pa.to hZ3
        replace pb := pb.to hZ3
        replace pk := pk.to hZ3
        replace Ha := Lib.hid (gr_below hZ3 Ha.out)
        replace Hb := Lib.hid (gr_below hZ3 Hb.out)
        replace Hk := Lib.hid (gr_below hZ3 Hk.out)
        clear c0 c1 c2 a0 a1 a2 b0 b1 b2 k0 k1 k2 hZ3
        have c0 := p1.cell (j := 0) rfl
        have c1 := p1.cell (j := 1) rfl
        have c2 := p1.cell (j := 2) rfl
        go_wp2_with fail
        refine (TW.out _ G3.out).mono ?_
        rintro e ww ⟨Aw, cw, Bw, dw, Cw, ew, rfl, hw, hBw⟩
        have Gw := Lib.hid (G3.out.trans (hBw.mono G3.out.size))
        have Tw := Lib.hid (gmay_any Aw Bw Cw (sweepG g).1.length cw (sweepG g).2.1.length dw (sweepG g).2.2.length ew (sweepG g) ww hw)
        rw [Yw] at Tw
        clear hw hBw
        go_wp2_with fail
        refine Tw.out.mono ?_
        rintro e wy ⟨rfl, hBy⟩
        go_wp2
        go_ret
        exact ⟨rfl, Gw.out.trans (hBy.mono Gw.out.size)⟩
      · have hzk' : (ek' != 0) = true := by simp [hzk]
        have Qk := Nk'.out hzk
        clear hzk
        have T09 := Lib.hid (fun W hq (hW : Below w.heap.size w W) => gsame_any Ab Bb Cb Nb cb Mb db Kb eb A B C N c M d K e gb g W hq (Hg.out W hW))
        rw [decide_eq_true Qb] at T09
        have c0 := p1.cell (j := 0) rfl
        have c1 := p1.cell (j := 1) rfl
        have c2 := p1.cell (j := 2) rfl
        have a0 := pa.cell (j := 0) rfl
        have a1 := pa.cell (j := 1) rfl
        have a2 := pa.cell (j := 2) rfl
        have b0 := pb.cell (j := 0) rfl
        have b1 := pb.cell (j := 1) rfl
        have b2 := pb.cell (j := 2) rfl
        have k0 := pk.cell (j := 0) rfl
        have k1 := pk.cell (j := 1) rfl
        have k2 := pk.cell (j := 2) rfl
        go_wp2_with fail
        refine (T09.out _ Hb.out H6.out).mono ?_
        rintro e wz0 ⟨rfl, hZ0⟩
        have G0 := Lib.hid (H6.out.trans (hZ0.mono H6.out.size))
        replace p1 := p1.to hZ0
        replace pa := pa.to hZ0
        replace pb := pb.to hZ0
        replace pk := pk.to hZ0
        replace Ha := Lib.hid (gr_below hZ0 Ha.out)
        replace Hb := Lib.hid (gr_below hZ0 Hb.out)
        replace Hk := Lib.hid (gr_below hZ0 Hk.out)
        clear c0 c1 c2 a0 a1 a2 b0 b1 b2 k0 k1 k2 hZ0
        have T19 := Lib.hid (fun W hq (hW : Below w.heap.size w W) => gsame_any Ak Bk Ck Nk ck Mk dk Kk ek A B C N c M d K e gk g W hq (Hg.out W hW))
        rw [decide_eq_true Qk] at T19
        have c0 := p1.cell (j := 0) rfl
        have c1 := p1.cell (j := 1) rfl
        have c2 := p1.cell (j := 2) rfl
        have a0 := pa.cell (j := 0) rfl
        have a1 := pa.cell (j := 1) rfl
        have a2 := pa.cell (j := 2) rfl
        have b0 := pb.cell (j := 0) rfl
        have b1 := pb.cell (j := 1) rfl
        have b2 := pb.cell (j := 2) rfl
        have k0 := pk.cell (j := 0) rfl
        have k1 := pk.cell (j := 1) rfl
        have k2 := pk.cell (j := 2) rfl
        go_wp2_with fail
        refine (T19.out _ Hk.out G0.out).mono ?_
        rintro e wz1 ⟨rfl, hZ1⟩
        have G1 := Lib.hid (G0.out.trans (hZ1.mono G0.out.size))
        replace p1 := p1.to hZ1
        replace pa := pa.to hZ1
        replace pb := pb.to hZ1
        replace pk := pk.to hZ1
        replace Ha := Lib.hid (gr_below hZ1 Ha.out)
        replace Hb := Lib.hid (gr_below hZ1 Hb.out)
        replace Hk := Lib.hid (gr_below hZ1 Hk.out)
        clear c0 c1 c2 a0 a1 a2 b0 b1 b2 k0 k1 k2 hZ1
        have T29 := Lib.hid (fun W hq => gmay_any Aa Ba Ca Na ca Ma da Ka ea ga W hq)
        rw [Ya] at T29
        have c0 := p1.cell (j := 0) rfl
        have c1 := p1.cell (j := 1) rfl
        have c2 := p1.cell (j := 2) rfl
        have a0 := pa.cell (j := 0) rfl
        have a1 := pa.cell (j := 1) rfl
        have a2 := pa.cell (j := 2) rfl
        have b0 := pb.cell (j := 0) rfl
        have b1 := pb.cell (j := 1) rfl
        have b2 := pb.cell (j := 2) rfl
        have k0 := pk.cell (j := 0) rfl
        have k1 := pk.cell (j := 1) rfl
        have k2 := pk.cell (j := 2) rfl
        go_wp2_with fail
        refine (T29.out _ Ha.out).mono ?_
        rintro e wz2 ⟨rfl, hZ2⟩
        have G2 := Lib.hid (G1.out.trans (hZ2.mono G1.out.size))
        replace p1 := p1.to hZ2
        replace pa := pa.to hZ2
        replace pb := pb.to hZ2
        replace pk := pk.to hZ2
        replace Ha := Lib.hid (gr_below hZ2 Ha.out)
        replace Hb := Lib.hid (gr_below hZ2 Hb.out)
        replace Hk := Lib.hid (gr_below hZ2 Hk.out)
        clear c0 c1 c2 a0 a1 a2 b0 b1 b2 k0 k1 k2 hZ2
        have T39 := Lib.hid (fun W hq => gmay_any Ab Bb Cb Nb cb Mb db Kb eb gb W hq)
        rw [Yb] at T39
        have c0 := p1.cell (j := 0) rfl
        have c1 := p1.cell (j := 1) rfl
        have c2 := p1.cell (j := 2) rfl
        have a0 := pa.cell (j := 0) rfl
        have a1 := pa.cell (j := 1) rfl
        have a2 := pa.cell (j := 2) rfl
        have b0 := pb.cell (j := 0) rfl
        have b1 := pb.cell (j := 1) rfl
        have b2 := pb.cell (j := 2) rfl
        have k0 := pk.cell (j := 0) rfl
        have k1 := pk.cell (j := 1) rfl
        have k2 := pk.cell (j := 2) rfl
        go_wp2_with fail
        refine (T39.out _ Hb.out).mono ?_
        rintro e wz3 ⟨rfl, hZ3⟩
        have G3 := Lib.hid (G2.out.trans (hZ3.mono G2.out.size))
        replace p1 := p1.to hZ3
        replace pa := pa.to hZ3
        replace pb := pb.to hZ3
        replace pk := pk.to hZ3
        replace Ha := Lib.hid (gr_below hZ3 Ha.out)
        replace Hb := Lib.hid (gr_below hZ3 Hb.out)
        replace Hk := Lib.hid (gr_below hZ3 Hk.out)
        clear c0 c1 c2 a0 a1 a2 b0 b1 b2 k0 k1 k2 hZ3
        have T49 := Lib.hid (fun W hq => gmay_any Ak Bk Ck Nk ck Mk dk Kk ek gk W hq)
        rw [Yk] at T49
        have c0 := p1.cell (j := 0) rfl
        have c1 := p1.cell (j := 1) rfl
        have c2 := p1.cell (j := 2) rfl
        have a0 := pa.cell (j := 0) rfl
        have a1 := pa.cell (j := 1) rfl
        have a2 := pa.cell (j := 2) rfl
        have b0 := pb.cell (j := 0) rfl
        have b1 := pb.cell (j := 1) rfl
        have b2 := pb.cell (j := 2) rfl
        have k0 := pk.cell (j := 0) rfl
        have k1 := pk.cell (j := 1) rfl
        have k2 := pk.cell (j := 2) rfl
        go_wp2_with fail
        refine (T49.out _ Hk.out).mono ?_
        rintro e wz4 ⟨rfl, hZ4⟩
        have G4 := Lib.hid (G3.out.trans (hZ4.mono G3.out.size))
        replace p1 := p1.to hZ4
        replace pa := pa.to hZ4
        replace pb := pb.to hZ4
        replace pk := pk.to hZ4
        replace Ha := Lib.hid (gr_below hZ4 Ha.out)
        replace Hb := Lib.hid (gr_below hZ4 Hb.out)
        replace Hk := Lib.hid (gr_below hZ4 Hk.out)
        clear c0 c1 c2 a0 a1 a2 b0 b1 b2 k0 k1 k2 hZ4
        have c0 := p1.cell (j := 0) rfl
        have c1 := p1.cell (j := 1) rfl
        have c2 := p1.cell (j := 2) rfl
        go_wp2_with fail
        refine (TW.out _ G4.out).mono ?_
        rintro e ww ⟨Aw, cw, Bw, dw, Cw, ew, rfl, hw, hBw⟩
        have Gw := Lib.hid (G4.out.trans (hBw.mono G4.out.size))
        have Tw := Lib.hid (gmay_any Aw Bw Cw (sweepG g).1.length cw (sweepG g).2.1.length dw (sweepG g).2.2.length ew (sweepG g) ww hw)
        rw [Yw] at Tw
        clear hw hBw
        go_wp2_with fail
        refine Tw.out.mono ?_
        rintro e wy ⟨rfl, hBy⟩
        go_wp2
        go_ret
        exact ⟨rfl, Gw.out.trans (hBy.mono Gw.out.size)⟩
  · have hza' : (ea' != 0) = true := by simp [hza]
    have Qa := (Na'.out hza).1
    have QI := (Na'.out hza).2
    subst QI
    clear hza
    by_cases hzb : eb' = 0
    · subst hzb
      by_cases hzk : ek' = 0
      · subst hzk
        have T09 := Lib.hid (fun W hq (hW : Below w.heap.size w W) => gsame_any Aa Ba Ca Na ca Ma da Ka ea A B C N c M d K e ga g W hq (Hg.out W hW))
        rw [decide_eq_true Qa] at T09
        have c0 := p1.cell (j := 0) rfl
        have c1 := p1.cell (j := 1) rfl
        have c2 := p1.cell (j := 2) rfl
        have a0 := pa.cell (j := 0) rfl
        have a1 := pa.cell (j := 1) rfl
        have a2 := pa.cell (j := 2) rfl
        have b0 := pb.cell (j := 0) rfl
        have b1 := pb.cell (j := 1) rfl
        have b2 := pb.cell (j := 2) rfl
        have k0 := pk.cell (j := 0) rfl
        have k1 := pk.cell (j := 1) rfl
        have k2 := pk.cell (j := 2) rfl
        go_wp2_with fail
        refine (T09.out _ Ha.out H6.out).mono ?_
        rintro e wz0 ⟨rfl, hZ0⟩
        have G0 := Lib.hid (H6.out.trans (hZ0.mono H6.out.size))
        replace p1 := p1.to hZ0
        replace pa := pa.to hZ0
        replace pb := pb.to hZ0
        replace pk := pk.to hZ0
        replace Ha := Lib.hid (gr_below hZ0 Ha.out)
        replace Hb := Lib.hid (gr_below hZ0 Hb.out)
        replace Hk := Lib.hid (gr_below hZ0 Hk.out)
        clear c0 c1 c2 a0 a1 a2 b0 b1 b2 k0 k1 k2 hZ0
        have T19 := Lib.hid (fun W hq => gmay_any Aa Ba Ca Na ca Ma da Ka ea ga W hq)
        rw [Ya] at T19
        have c0 := p1.cell (j := 0) rfl
        have c1 := p1.cell (j := 1) rfl
        have c2 := p1.cell (j := 2) rfl
        have a0 := pa.cell (j := 0) rfl
        have a1 := pa.cell (j := 1) rfl
        have a2 := pa.cell (j := 2) rfl
        have b0 := pb.cell (j := 0) rfl
        have b1 := pb.cell (j := 1) rfl
        have b2 := pb.cell (j := 2) rfl
        have k0 := pk.cell (j := 0) rfl
        have k1 := pk.cell (j := 1) rfl
        have k2 := pk.cell (j := 2) rfl
        go_wp2_with fail
        refine (T19.out _ Ha.out).mono ?_
        rintro e wz1 ⟨rfl, hZ1⟩
        have G1 := Lib.hid (G0.out.trans (hZ1.mono G0.out.size))
        replace p1 := p1.to hZ1
        replace pa := pa.to hZ1
        replace pb := pb.to hZ1
        replace pk := pk.to hZ1
        replace Ha := Lib.hid (gr_below hZ1 Ha.out)
        replace Hb := Lib.hid (gr_below hZ1 Hb.out)
        replace Hk := Lib.hid (gr_below hZ1 Hk.out)
        clear c0 c1 c2 a0 a1 a2 b0 b1 b2 k0 k1 k2 hZ1
        have T29 := Lib.hid (fun W hq => gmay_any Ab Bb Cb Nb cb Mb db Kb eb gb W hq)
        rw [Yb] at T29
        have c0 := p1.cell (j := 0) rfl
        have c1 := p1.cell (j := 1) rfl
        have c2 := p1.cell (j := 2) rfl
        have a0 := pa.cell (j := 0) rfl
        have a1 := pa.cell (j := 1) rfl
        have a2 := pa.cell (j := 2) rfl
        have b0 := pb.cell (j := 0) rfl
        have b1 := pb.cell (j := 1) rfl
        have b2 := pb.cell (j := 2) rfl
        have k0 := pk.cell (j := 0) rfl
        have k1 := pk.cell (j := 1) rfl
        have k2 := pk.cell (j := 2) rfl
        go_wp2_with fail
        refine (T29.out _ Hb.out).mono ?_
        rintro e wz2 ⟨rfl, hZ2⟩
        have G2 := Lib.hid (G1.out.trans (hZ2.mono G1.out.size))
        replace p1 := p1.to hZ2
        replace pa := pa.to hZ2
        replace pb := pb.to hZ2
        replace pk := pk.to hZ2
        replace Ha := Lib.hid (gr_below hZ2 Ha.out)
        replace Hb := Lib.hid (gr_below hZ2 Hb.out)
        replace Hk := Lib.hid (gr_below hZ2 Hk.out)
        clear c0 c1 c2 a0 a1 a2 b0 b1 b2 k0 k1 k2 hZ2
        have T39 := Lib.hid (fun W hq => gmay_any Ak Bk Ck Nk ck Mk dk Kk ek gk W hq)
        rw [Yk] at T39
        have c0 := p1.cell (j := 0) rfl
        have c1 := p1.cell (j := 1) rfl
        have c2 := p1.cell (j := 2) rfl
        have a0 := pa.cell (j := 0) rfl
        have a1 := pa.cell (j := 1) rfl
        have a2 := pa.cell (j := 2) rfl
        have b0 := pb.cell (j := 0) rfl
        have b1 := pb.cell (j := 1) rfl
        have b2 := pb.cell (j := 2) rfl
        have k0 := pk.cell (j := 0) rfl
        have k1 := pk.cell (j := 1) rfl
        have k2 := pk.cell (j := 2) rfl
        go_wp2_with fail
        refine (T39.out _ Hk.out).mono ?_
        rintro e wz3 ⟨rfl, hZ3⟩
        have G3 := Lib.hid (G2.out.trans (hZ3.mono G2.out.size))
        replace p1 := p1.to hZ3
        replace pa := pa.to hZ3
        replace pb := pb.to hZ3
        replace pk := pk.to hZ3
        replace Ha := Lib.hid (gr_below hZ3 Ha.out)
        replace Hb := Lib.hid (gr_below hZ3 Hb.out)
        replace Hk := Lib.hid (gr_below hZ3 Hk.out)
        clear c0 c1 c2 a0 a1 a2 b0 b1 b2 k0 k1 k2 hZ3
        have c0 := p1.cell (j := 0) rfl
        have c1 := p1.cell (j := 1) rfl
        have c2 := p1.cell (j := 2) rfl
        go_wp2_with fail
        refine (TW.out _ G3.out).mono ?_
        rintro e ww ⟨Aw, cw, Bw, dw, Cw, ew, rfl, hw, hBw⟩
        have Gw := Lib.hid (G3.out.trans (hBw.mono G3.out.size))
        have Tw := Lib.hid (gmay_any Aw Bw Cw (sweepG g).1.length cw (sweepG g).2.1.length dw (sweepG g).2.2.length ew (sweepG g) ww hw)
        rw [Yw] at Tw
        clear hw hBw
        go_wp2_with fail
        refine Tw.out.mono ?_
        rintro e wy ⟨rfl, hBy⟩
        go_wp2
        go_ret
        exact ⟨rfl, Gw.out.trans (hBy.mono Gw.out.size)⟩
      · have hzk' : (ek' != 0) = true := by simp [hzk]
        have Qk := Nk'.out hzk
        clear hzk
        have T09 := Lib.hid (fun W hq (hW : Below w.heap.size w W) => gsame_any Aa Ba Ca Na ca Ma da Ka ea A B C N c M d K e ga g W hq (Hg.out W hW))
        rw [decide_eq_true Qa] at T09
        have c0 := p1.cell (j := 0) rfl
        have c1 := p1.cell (j := 1) rfl
        have c2 := p1.cell (j := 2) rfl
        have a0 := pa.cell (j := 0) rfl
        have a1 := pa.cell (j := 1) rfl
        have a2 := pa.cell (j := 2) rfl
        have b0 := pb.cell (j := 0) rfl
        have b1 := pb.cell (j := 1) rfl
        have b2 := pb.cell (j := 2) rfl
        have k0 := pk.cell (j := 0) rfl
        have k1 := pk.cell (j := 1) rfl
        have k2 := pk.cell (j := 2) rfl
        go_wp2_with fail
        refine (T09.out _ Ha.out H6.out).mono ?_
        rintro e wz0 ⟨rfl, hZ0⟩
        have G0 := Lib.hid (H6.out.trans (hZ0.mono H6.out.size))
        replace p1 := p1.to hZ0
        replace pa := pa.to hZ0
        replace pb := pb.to hZ0
        replace pk := pk.to hZ0
        replace Ha := Lib.hid (gr_below hZ0 Ha.out)
        replace Hb := Lib.hid (gr_below hZ0 Hb.out)
        replace Hk := Lib.hid (gr_below hZ0 Hk.out)
        clear c0 c1 c2 a0 a1 a2 b0 b1 b2 k0 k1 k2 hZ0
        have T19 := Lib.hid (fun W hq (hW : Below w.heap.size w W) => gsame_any Ak Bk Ck Nk ck Mk dk Kk ek A B C N c M d K e gk g W hq (Hg.out W hW))
        rw [decide_eq_true Qk] at T19
        have c0 := p1.cell (j := 0) rfl
        have c1 := p1.cell (j := 1) rfl
        have c2 := p1.cell (j := 2) rfl
        have a0 := pa.cell (j := 0) rfl
        have a1 := pa.cell (j := 1) rfl
        have a2 := pa.cell (j := 2) rfl
        have b0 := pb.cell (j := 0) rfl
        have b1 := pb.cell (j := 1) rfl
        have b2 := pb.cell (j := 2) rfl
        have k0 := pk.cell (j := 0) rfl
        have k1 := pk.cell (j := 1) rfl
        have k2 := pk.cell (j := 2) rfl
        go_wp2_with fail
        refine (T19.out _ Hk.out G0.out).mono ?_
        rintro e wz1 ⟨rfl, hZ1⟩
        have G1 := Lib.hid (G0.out.trans (hZ1.mono G0.out.size))
        replace p1 := p1.to hZ1
        replace pa := pa.to hZ1
        replace pb := pb.to hZ1
        replace pk := pk.to hZ1
        replace Ha := Lib.hid (gr_below hZ1 Ha.out)
        replace Hb := Lib.hid (gr_below hZ1 Hb.out)
        replace Hk := Lib.hid (gr_below hZ1 Hk.out)
        clear c0 c1 c2 a0 a1 a2 b0 b1 b2 k0 k1 k2 hZ1
        have T29 := Lib.hid (fun W hq => gmay_any Aa Ba Ca Na ca Ma da Ka ea ga W hq)
        rw [Ya] at T29
        have c0 := p1.cell (j := 0) rfl
        have c1 := p1.cell (j := 1) rfl
        have c2 := p1.cell (j := 2) rfl
        have a0 := pa.cell (j := 0) rfl
        have a1 := pa.cell (j := 1) rfl
        have a2 := pa.cell (j := 2) rfl
        have b0 := pb.cell (j := 0) rfl
        have b1 := pb.cell (j := 1) rfl
        have b2 := pb.cell (j := 2) rfl
        have k0 := pk.cell (j := 0) rfl
        have k1 := pk.cell (j := 1) rfl
        have k2 := pk.cell (j := 2) rfl
        go_wp2_with fail
        refine (T29.out _ Ha.out).mono ?_
        rintro e wz2 ⟨rfl, hZ2⟩
        have G2 := Lib.hid (G1.out.trans (hZ2.mono G1.out.size))
        replace p1 := p1.to hZ2
        replace pa := pa.to hZ2
        replace pb := pb.to hZ2
        replace pk := pk.to hZ2
        replace Ha := Lib.hid (gr_below hZ2 Ha.out)
        replace Hb := Lib.hid (gr_below hZ2 Hb.out)
        replace Hk := Lib.hid (gr_below hZ2 Hk.out)
        clear c0 c1 c2 a0 a1 a2 b0 b1 b2 k0 k1 k2 hZ2
        have T39 := Lib.hid (fun W hq => gmay_any Ab Bb Cb Nb cb Mb db Kb eb gb W hq)
        rw [Yb] at T39
        have c0 := p1.cell (j := 0) rfl
        have c1 := p1.cell (j := 1) rfl
        have c2 := p1.cell (j := 2) rfl
        have a0 := pa.cell (j := 0) rfl
        have a1 := pa.cell (j := 1) rfl
        have a2 := pa.cell (j := 2) rfl
        have b0 := pb.cell (j := 0) rfl
        have b1 := pb.cell (j := 1) rfl
        have b2 := pb.cell (j := 2) rfl
        have k0 := pk.cell (j := 0) rfl
        have k1 := pk.cell (j := 1) rfl
        have k2 := pk.cell (j := 2) rfl
        go_wp2_with fail
        refine (T39.out _ Hb.out).mono ?_
        rintro e wz3 ⟨rfl, hZ3⟩
        have G3 := Lib.hid (G2.out.trans (hZ3.mono G2.out.size))
        replace p1 := p1.to hZ3
        replace pa := pa.to hZ3
        replace pb := pb.to hZ3
        replace pk := pk.to hZ3
        replace Ha := Lib.hid (gr_below hZ3 Ha.out)
        replace Hb := Lib.hid (gr_below hZ3 Hb.out)
        replace Hk := Lib.hid (gr_below hZ3 Hk.out)
        clear c0 c1 c2 a0 a1 a2 b0 b1 b2 k0 k1 k2 hZ3
        have T49 := Lib.hid (fun W hq => gmay_any Ak Bk Ck Nk ck Mk dk Kk ek gk W hq)
        rw [Yk] at T49
        have c0 := p1.cell (j := 0) rfl
        have c1 := p1.cell (j := 1) rfl
        have c2 := p1.cell (j := 2) rfl
        have a0 := pa.cell (j := 0) rfl
        have a1 := pa.cell (j := 1) rfl
        have a2 := pa.cell (j := 2) rfl
        have b0 := pb.cell (j := 0) rfl
        have b1 := pb.cell (j := 1) rfl
        have b2 := pb.cell (j := 2) rfl
        have k0 := pk.cell (j := 0) rfl
        have k1 := pk.cell (j := 1) rfl
        have k2 := pk.cell (j := 2) rfl
        go_wp2_with fail
        refine (T49.out _ Hk.out).mono ?_
        rintro e wz4 ⟨rfl, hZ4⟩
        have G4 := Lib.hid (G3.out.trans (hZ4.mono G3.out.size))
        replace p1 := p1.to hZ4
        replace pa := pa.to hZ4
        replace pb := pb.to hZ4
        replace pk := pk.to hZ4
        replace Ha := Lib.hid (gr_below hZ4 Ha.out)
        replace Hb := Lib.hid (gr_below hZ4 Hb.out)
        replace Hk := Lib.hid (gr_below hZ4 Hk.out)
        clear c0 c1 c2 a0 a1 a2 b0 b1 b2 k0 k1 k2 hZ4
        have c0 := p1.cell (j := 0) rfl
        have c1 := p1.cell (j := 1) rfl
        have c2 := p1.cell (j := 2) rfl
        go_wp2_with fail
        refine (TW.out _ G4.out).mono ?_
        rintro e ww ⟨Aw, cw, Bw, dw, Cw, ew, rfl, hw, hBw⟩
        have Gw := Lib.hid (G4.out.trans (hBw.mono G4.out.size))
        have Tw := Lib.hid (gmay_any Aw Bw Cw (sweepG g).1.length cw (sweepG g).2.1.length dw (sweepG g).2.2.length ew (sweepG g) ww hw)
        rw [Yw] at Tw
        clear hw hBw
        go_wp2_with fail
        refine Tw.out.mono ?_
        rintro e wy ⟨rfl, hBy⟩
        go_wp2
        go_ret
        exact ⟨rfl, Gw.out.trans (hBy.mono Gw.out.size)⟩
    · have hzb' : (eb' != 0) = true := by simp [hzb]
      have Qb := Nb'.out hzb
      clear hzb
      by_cases hzk : ek' = 0
      · subst hzk
        have T09 := Lib.hid (fun W hq (hW : Below w.heap.size w W) => gsame_any Aa Ba Ca Na ca Ma da Ka ea A B C N c M d K e ga g W hq (Hg.out W hW))
        rw [decide_eq_true Qa] at T09
        have c0 := p1.cell (j := 0) rfl
        have c1 := p1.cell (j := 1) rfl
        have c2 := p1.cell (j := 2) rfl
        have a0 := pa.cell (j := 0) rfl
        have a1 := pa.cell (j := 1) rfl
        have a2 := pa.cell (j := 2) rfl
        have b0 := pb.cell (j := 0) rfl
        have b1 := pb.cell (j := 1) rfl
        have b2 := pb.cell (j := 2) rfl
        have k0 := pk.cell (j := 0) rfl
        have k1 := pk.cell (j := 1) rfl
        have k2 := pk.cell (j := 2) rfl
        go_wp2_with fail
        refine (T09.out _ Ha.out H6.out).mono ?_
        rintro e wz0 ⟨rfl, hZ0⟩
        have G0 := Lib.hid (H6.out.trans (hZ0.mono H6.out.size))
        replace p1 := p1.to hZ0
        replace pa := pa.to hZ0
        replace pb := pb.to hZ0
        replace pk := pk.to hZ0
        replace Ha := Lib.hid (gr_below hZ0 Ha.out)
        replace Hb := Lib.hid (gr_below hZ0 Hb.out)
        replace Hk := Lib.hid (gr_below hZ0 Hk.out)
        clear c0 c1 c2 a0 a1 a2 b0 b1 b2 k0 k1 k2 hZ0
        have T19 := Lib.hid (fun W hq (hW : Below w.heap.size w W) => gsame_any Ab Bb Cb Nb cb Mb db Kb eb A B C N c M d K e gb g W hq (Hg.out W hW))
        rw [decide_eq_true Qb] at T19
        have c0 := p1.cell (j := 0) rfl
        have c1 := p1.cell (j := 1) rfl
        have c2 := p1.cell (j := 2) rfl
        have a0 := pa.cell (j := 0) rfl
        have a1 := pa.cell (j := 1) rfl
        have a2 := pa.cell (j := 2) rfl
        have b0 := pb.cell (j := 0) rfl
        have b1 := pb.cell (j := 1) rfl
        have b2 := pb.cell (j := 2) rfl
        have k0 := pk.cell (j := 0) rfl
        have k1 := pk.cell (j := 1) rfl
        have k2 := pk.cell (j := 2) rfl
        go_wp2_with fail
        refine (T19.out _ Hb.out G0.out).mono ?_
        rintro e wz1 ⟨rfl, hZ1⟩
        have G1 := Lib.hid (G0.out.trans (hZ1.mono G0.out.size))
        replace p1 := p1.to hZ1
        replace pa := pa.to hZ1
        replace pb := pb.to hZ1
        replace pk := pk.to hZ1
        replace Ha := Lib.hid (gr_below hZ1 Ha.out)
        replace Hb := Lib.hid (gr_below hZ1 Hb.out)
        replace Hk := Lib.hid (gr_below hZ1 Hk.out)
        clear c0 c1 c2 a0 a1 a2 b0 b1 b2 k0 k1 k2 hZ1
        have T29 := Lib.hid (fun W hq => gmay_any Aa Ba Ca Na ca Ma da Ka ea ga W hq)
        rw [Ya] at T29
        have c0 := p1.cell (j := 0) rfl
        have c1 := p1.cell (j := 1) rfl
        have c2 := p1.cell (j := 2) rfl
        have a0 := pa.cell (j := 0) rfl
        have a1 := pa.cell (j := 1) rfl
        have a2 := pa.cell (j := 2) rfl
        have b0 := pb.cell (j := 0) rfl
        have b1 := pb.cell (j := 1) rfl
        have b2 := pb.cell (j := 2) rfl
        have k0 := pk.cell (j := 0) rfl
        have k1 := pk.cell (j := 1) rfl
        have k2 := pk.cell (j := 2) rfl
        go_wp2_with fail
        refine (T29.out _ Ha.out).mono ?_
        rintro e wz2 ⟨rfl, hZ2⟩
        have G2 := Lib.hid (G1.out.trans (hZ2.mono G1.out.size))
        replace p1 := p1.to hZ2
        replace pa := pa.to hZ2
        replace pb := pb.to hZ2
        replace pk := pk.to hZ2
        replace Ha := Lib.hid (gr_below hZ2 Ha.out)
        replace Hb := Lib.hid (gr_below hZ2 Hb.out)
        replace Hk := Lib.hid (gr_below hZ2 Hk.out)
        clear c0 c1 c2 a0 a1 a2 b0 b1 b2 k0 k1 k2 hZ2
        have T39 := Lib.hid (fun W hq => gmay_any Ab Bb Cb Nb cb Mb db Kb eb gb W hq)
        rw [Yb] at T39
        have c0 := p1.cell (j := 0) rfl
        have c1 := p1.cell (j := 1) rfl
        have c2 := p1.cell (j := 2) rfl
        have a0 := pa.cell (j := 0) rfl
        have a1 := pa.cell (j := 1) rfl
        have a2 := pa.cell (j := 2) rfl
        have b0 := pb.cell (j := 0) rfl
        have b1 := pb.cell (j := 1) rfl
        have b2 := pb.cell (j := 2) rfl
        have k0 := pk.cell (j := 0) rfl
        have k1 := pk.cell (j := 1) rfl
        have k2 := pk.cell (j := 2) rfl
        go_wp2_with fail
        refine (T39.out _ Hb.out).mono ?_
        rintro e wz3 ⟨rfl, hZ3⟩
        have G3 := Lib.hid (G2.out.trans (hZ3.mono G2.out.size))
        replace p1 := p1.to hZ3
        replace pa := pa.to hZ3
        replace pb := pb.to hZ3
        replace pk := pk.to hZ3
        replace Ha := Lib.hid (gr_below hZ3 Ha.out)
        replace Hb := Lib.hid (gr_below hZ3 Hb.out)
        replace Hk := Lib.hid (gr_below hZ3 Hk.out)
        clear c0 c1 c2 a0 a1 a2 b0 b1 b2 k0 k1 k2 hZ3
        have T49 := Lib.hid (fun W hq => gmay_any Ak Bk Ck Nk ck Mk dk Kk ek gk W hq)
        rw [Yk] at T49
        have c0 := p1.cell (j := 0) rfl
        have c1 := p1.cell (j := 1) rfl
        have c2 := p1.cell (j := 2) rfl
        have a0 := pa.cell (j := 0) rfl
        have a1 := pa.cell (j := 1) rfl
        have a2 := pa.cell (j := 2) rfl
        have b0 := pb.cell (j := 0) rfl
        have b1 := pb.cell (j := 1) rfl
        have b2 := pb.cell (j := 2) rfl
        have k0 := pk.cell (j := 0) rfl
        have k1 := pk.cell (j := 1) rfl
        have k2 := pk.cell (j := 2) rfl
        go_wp2_with fail
        refine (T49.out _ Hk.out).mono ?_
        rintro e wz4 ⟨rfl, hZ4⟩
        have G4 := Lib.hid (G3.out.trans (hZ4.mono G3.out.size))
        replace p1 := p1.to hZ4
        replace pa := pa.to hZ4
        replace pb := pb.to hZ4
        replace pk := pk.to hZ4
        replace Ha := Lib.hid (gr_below hZ4 Ha.out)
        replace Hb := Lib.hid (gr_below hZ4 Hb.out)
        replace Hk := Lib.hid (gr_below hZ4 Hk.out)
        clear c0 c1 c2 a0 a1 a2 b0 b1 b2 k0 k1 k2 hZ4
        have c0 := p1.cell (j := 0) rfl
        have c1 := p1.cell (j := 1) rfl
        have c2 := p1.cell (j := 2) rfl
        go_wp2_with fail
        refine (TW.out _ G4.out).mono ?_
        rintro e ww ⟨Aw, cw, Bw, dw, Cw, ew, rfl, hw, hBw⟩
        have Gw := Lib.hid (G4.out.trans (hBw.mono G4.out.size))
        have Tw := Lib.hid (gmay_any Aw Bw Cw (sweepG g).1.length cw (sweepG g).2.1.length dw (sweepG g).2.2.length ew (sweepG g) ww hw)
        rw [Yw] at Tw
        clear hw hBw
        go_wp2_with fail
        refine Tw.out.mono ?_
        rintro e wy ⟨rfl, hBy⟩
        go_wp2
        go_ret
        exact ⟨rfl, Gw.out.trans (hBy.mono Gw.out.size)⟩
      · have hzk' : (ek' != 0) = true := by simp [hzk]
        have Qk := Nk'.out hzk
        clear hzk
        have T09 := Lib.hid (fun W hq (hW : Below w.heap.size w W) => gsame_any Aa Ba Ca Na ca Ma da Ka ea A B C N c M d K e ga g W hq (Hg.out W hW))
        rw [decide_eq_true Qa] at T09
        have c0 := p1.cell (j := 0) rfl
        have c1 := p1.cell (j := 1) rfl
        have c2 := p1.cell (j := 2) rfl
        have a0 := pa.cell (j := 0) rfl
        have a1 := pa.cell (j := 1) rfl
        have a2 := pa.cell (j := 2) rfl
        have b0 := pb.cell (j := 0) rfl
        have b1 := pb.cell (j := 1) rfl
        have b2 := pb.cell (j := 2) rfl
        have k0 := pk.cell (j := 0) rfl
        have k1 := pk.cell (j := 1) rfl
        have k2 := pk.cell (j := 2) rfl
        go_wp2_with fail
        refine (T09.out _ Ha.out H6.out).mono ?_
        rintro e wz0 ⟨rfl, hZ0⟩
        have G0 := Lib.hid (H6.out.trans (hZ0.mono H6.out.size))
        replace p1 := p1.to hZ0
        replace pa := pa.to hZ0
        replace pb := pb.to hZ0
        replace pk := pk.to hZ0
        replace Ha := Lib.hid (gr_below hZ0 Ha.out)
        replace Hb := Lib.hid (gr_below hZ0 Hb.out)
        replace Hk := Lib.hid (gr_below hZ0 Hk.out)
        clear c0 c1 c2 a0 a1 a2 b0 b1 b2 k0 k1 k2 hZ0
        have T19 := Lib.hid (fun W hq (hW : Below w.heap.size w W) => gsame_any Ab Bb Cb Nb cb Mb db Kb eb A B C N c M d K e gb g W hq (Hg.out W hW))
        rw [decide_eq_true Qb] at T19
        have c0 := p1.cell (j := 0) rfl
        have c1 := p1.cell (j := 1) rfl
        have c2 := p1.cell (j := 2) rfl
        have a0 := pa.cell (j := 0) rfl
        have a1 := pa.cell (j := 1) rfl
        have a2 := pa.cell (j := 2) rfl
        have b0 := pb.cell (j := 0) rfl
        have b1 := pb.cell (j := 1) rfl
        have b2 := pb.cell (j := 2) rfl
        have k0 := pk.cell (j := 0) rfl
        have k1 := pk.cell (j := 1) rfl
        have k2 := pk.cell (j := 2) rfl
        go_wp2_with fail
        refine (T19.out _ Hb.out G0.out).mono ?_
        rintro e wz1 ⟨rfl, hZ1⟩
        have G1 := Lib.hid (G0.out.trans (hZ1.mono G0.out.size))
        replace p1 := p1.to hZ1
        replace pa := pa.to hZ1
        replace pb := pb.to hZ1
        replace pk := pk.to hZ1
        replace Ha := Lib.hid (gr_below hZ1 Ha.out)
        replace Hb := Lib.hid (gr_below hZ1 Hb.out)
        replace Hk := Lib.hid (gr_below hZ1 Hk.out)
        clear c0 c1 c2 a0 a1 a2 b0 b1 b2 k0 k1 k2 hZ1
        have T29 := Lib.hid (fun W hq (hW : Below w.heap.size w W) => gsame_any Ak Bk Ck Nk ck Mk dk Kk ek A B C N c M d K e gk g W hq (Hg.out W hW))
        rw [decide_eq_true Qk] at T29
        have c0 := p1.cell (j := 0) rfl
        have c1 := p1.cell (j := 1) rfl
        have c2 := p1.cell (j := 2) rfl
        have a0 := pa.cell (j := 0) rfl
        have a1 := pa.cell (j := 1) rfl
        have a2 := pa.cell (j := 2) rfl
        have b0 := pb.cell (j := 0) rfl
        have b1 := pb.cell (j := 1) rfl
        have b2 := pb.cell (j := 2) rfl
        have k0 := pk.cell (j := 0) rfl
        have k1 := pk.cell (j := 1) rfl
        have k2 := pk.cell (j := 2) rfl
        go_wp2_with fail
        refine (T29.out _ Hk.out G1.out).mono ?_
        rintro e wz2 ⟨rfl, hZ2⟩
        have G2 := Lib.hid (G1.out.trans (hZ2.mono G1.out.size))
        replace p1 := p1.to hZ2
        replace pa := pa.to hZ2
        replace pb := pb.to hZ2
        replace pk := pk.to hZ2
        replace Ha := Lib.hid (gr_below hZ2 Ha.out)
        replace Hb := Lib.hid (gr_below hZ2 Hb.out)
        replace Hk := Lib.hid (gr_below hZ2 Hk.out)
        clear c0 c1 c2 a0 a1 a2 b0 b1 b2 k0 k1 k2 hZ2
        have T39 := Lib.hid (fun W hq => gmay_any Aa Ba Ca Na ca Ma da Ka ea ga W hq)
        rw [Ya] at T39
        have c0 := p1.cell (j := 0) rfl
        have c1 := p1.cell (j := 1) rfl
        have c2 := p1.cell (j := 2) rfl
        have a0 := pa.cell (j := 0) rfl
        have a1 := pa.cell (j := 1) rfl
        have a2 := pa.cell (j := 2) rfl
        have b0 := pb.cell (j := 0) rfl
        have b1 := pb.cell (j := 1) rfl
        have b2 := pb.cell (j := 2) rfl
        have k0 := pk.cell (j := 0) rfl
        have k1 := pk.cell (j := 1) rfl
        have k2 := pk.cell (j := 2) rfl
        go_wp2_with fail
        refine (T39.out _ Ha.out).mono ?_
        rintro e wz3 ⟨rfl, hZ3⟩
        have G3 := Lib.hid (G2.out.trans (hZ3.mono G2.out.size))
        replace p1 := p1.to hZ3
        replace pa := pa.to hZ3
        replace pb := pb.to hZ3
        replace pk := pk.to hZ3
        replace Ha := Lib.hid (gr_below hZ3 Ha.out)
        replace Hb := Lib.hid (gr_below hZ3 Hb.out)
        replace Hk := Lib.hid (gr_below hZ3 Hk.out)
        clear c0 c1 c2 a0 a1 a2 b0 b1 b2 k0 k1 k2 hZ3
        have T49 := Lib.hid (fun W hq => gmay_any Ab Bb Cb Nb cb Mb db Kb eb gb W hq)
        rw [Yb] at T49
        have c0 := p1.cell (j := 0) rfl
        have c1 := p1.cell (j := 1) rfl
        have c2 := p1.cell (j := 2) rfl
        have a0 := pa.cell (j := 0) rfl
        have a1 := pa.cell (j := 1) rfl
        have a2 := pa.cell (j := 2) rfl
        have b0 := pb.cell (j := 0) rfl
        have b1 := pb.cell (j := 1) rfl
        have b2 := pb.cell (j := 2) rfl
        have k0 := pk.cell (j := 0) rfl
        have k1 := pk.cell (j := 1) rfl
        have k2 := pk.cell (j := 2) rfl
        go_wp2_with fail
        refine (T49.out _ Hb.out).mono ?_
        rintro e wz4 ⟨rfl, hZ4⟩
        have G4 := Lib.hid (G3.out.trans (hZ4.mono G3.out.size))
        replace p1 := p1.to hZ4
        replace pa := pa.to hZ4
        replace pb := pb.to hZ4
        replace pk := pk.to hZ4
        replace Ha := Lib.hid (gr_below hZ4 Ha.out)
        replace Hb := Lib.hid (gr_below hZ4 Hb.out)
        replace Hk := Lib.hid (gr_below hZ4 Hk.out)
        clear c0 c1 c2 a0 a1 a2 b0 b1 b2 k0 k1 k2 hZ4
        have T59 := Lib.hid (fun W hq => gmay_any Ak Bk Ck Nk ck Mk dk Kk ek gk W hq)
        rw [Yk] at T59
        have c0 := p1.cell (j := 0) rfl
        have c1 := p1.cell (j := 1) rfl
        have c2 := p1.cell (j := 2) rfl
        have a0 := pa.cell (j := 0) rfl
        have a1 := pa.cell (j := 1) rfl
        have a2 := pa.cell (j := 2) rfl
        have b0 := pb.cell (j := 0) rfl
        have b1 := pb.cell (j := 1) rfl
        have b2 := pb.cell (j := 2) rfl
        have k0 := pk.cell (j := 0) rfl
        have k1 := pk.cell (j := 1) rfl
        have k2 := pk.cell (j := 2) rfl
        go_wp2_with fail
        refine (T59.out _ Hk.out).mono ?_
        rintro e wz5 ⟨rfl, hZ5⟩
        have G5 := Lib.hid (G4.out.trans (hZ5.mono G4.out.size))
        replace p1 := p1.to hZ5
        replace pa := pa.to hZ5
        replace pb := pb.to hZ5
        replace pk := pk.to hZ5
        replace Ha := Lib.hid (gr_below hZ5 Ha.out)
        replace Hb := Lib.hid (gr_below hZ5 Hb.out)
        replace Hk := Lib.hid (gr_below hZ5 Hk.out)
        clear c0 c1 c2 a0 a1 a2 b0 b1 b2 k0 k1 k2 hZ5
        have c0 := p1.cell (j := 0) rfl
        have c1 := p1.cell (j := 1) rfl
        have c2 := p1.cell (j := 2) rfl
        go_wp2_with fail
        refine (TW.out _ G5.out).mono ?_
        rintro e ww ⟨Aw, cw, Bw, dw, Cw, ew, rfl, hw, hBw⟩
        have Gw := Lib.hid (G5.out.trans (hBw.mono G5.out.size))
        have Tw := Lib.hid (gmay_any Aw Bw Cw (sweepG g).1.length cw (sweepG g).2.1.length dw (sweepG g).2.2.length ew (sweepG g) ww hw)
        rw [Yw] at Tw
        clear hw hBw
        go_wp2_with fail
        refine Tw.out.mono ?_
        rintro e wy ⟨rfl, hBy⟩
        go_wp2
        go_ret
        exact ⟨rfl, Gw.out.trans (hBy.mono Gw.out.size)⟩
end Go.Proofs.Ytembafogbfcajaa
