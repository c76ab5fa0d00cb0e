/- CanonAlike: what is alike is so either way round, and as what is alike it; another value of what is come to makes it none. No condition. -/
import Derived.Test.YteafbdebmhpffaaCaAwake
import Derived.Test.YteafbdebmhpffaaGrFew
import Derived.Test.YteafbdebmhpffaaGrSet
import Derived.Deep.DeepCutAuto
namespace Go.Proofs.Yteafbdebmhpffaa
open Go.RowKit

theorem iso_symm (a b : Gr) : isoG b a = isoG a b := by
  rw [isoG, isoG, Bool.and_comm (mayG b)]
  congr 1
  exact decide_eq_decide.2 ⟨Eq.symm, Eq.symm⟩
theorem iso_refl {a : Gr} (hm : mayG a = true) : isoG a a = true := by rw [isoG_may hm hm]; simp
theorem iso_trans {a b c : Gr} (h1 : isoG a b = true) (h2 : isoG b c = true) : isoG a c = true := by
  simp only [isoG, Bool.and_eq_true, decide_eq_true_eq] at *
  exact ⟨⟨h1.1.1, h2.1.2⟩, h1.2.trans h2.2⟩
theorem iso_set {g : Gr} {id : Int} {k : Nat} {v v0 : Vl} {I : Nat} {o : Ob} {f : Fld} (he : setE g id (k : Int) v = 0) (hI : findG g.2.1 id = (I : Int)) (ho : g.2.1[I]? = some o) (hv0 : o.2.2[k]? = some v0) (hf : (fldsG g.1 o.2.1)[k]? = some f) (h5 : f.2.1 ≠ 5) (hid : id ∈ ordG g) (hm : mayG g = true) (hm2 : mayG (setN g id (k : Int) v) = true) :
    isoG g (setN g id (k : Int) v) = decide (v0 = v) := by
  rw [isoG_may hm hm2]
  exact decide_eq_decide.2 ⟨fun e => (canon_set he hI ho hv0 hf h5 hid).1 e.symm, fun e => ((canon_set he hI ho hv0 hf h5 hid).2 e).symm⟩
theorem val_argc {w : World} {cs : Array Value} {v : Vl} (h : rVal (All w) w cs.toList v) : ∃ s : ByteArray, cs = #[.int .i64 v.1, .string s, .int .i64 v.2.2] ∧ byt s = v.2.1 ∧ (-9223372036854775808 ≤ v.1 ∧ v.1 ≤ 9223372036854775807) ∧ (-9223372036854775808 ≤ v.2.2 ∧ v.2.2 ≤ 9223372036854775807) := by
  obtain ⟨s, h1, h2, h3, h4, h5⟩ := rVal_open h
  exact ⟨s, by cases cs; simpa using h1, h2, h4, h5⟩

set_option maxRecDepth 100000 in
set_option maxHeartbeats 8000000 in
theorem canonAlike_walk (w : World) (cs : Array Value) (g : Gr) (h0 : rGr (All w) w cs.toList g) (cs1 : Array Value) (h : Gr) (h1 : rGr (All w) w cs1.toList h) (cs2 : Array Value) (m : Gr) (h2 : rGr (All w) w cs2.toList m) (id : Int) (_hd0 : -9223372036854775808 ≤ id) (_hd1 : id ≤ 9223372036854775807) (k : Int) (_hk0 : -9223372036854775808 ≤ k) (_hk1 : k ≤ 9223372036854775807) (vs : Array Value) (v : Vl) (hvv : rVal (All w) w vs.toList v) :
    Calls Try.prog 7 #[.agg cs, .agg cs1, .agg cs2, .int .i64 id, .int .i64 k, .agg vs] w fun e w' => e = .returned (.bool true) ∧ Below w.heap.size w w' := by
  obtain ⟨A, c, B, d, C, e, rfl, h0⟩ := gr_arg h0
  obtain ⟨A1, c1, B1, d1, C1, e1, rfl, h1⟩ := gr_arg h1
  obtain ⟨A2, c2, B2, d2, C2, e2, rfl, h2⟩ := gr_arg h2
  obtain ⟨s, rfl, hs, hv1, hv2⟩ := val_argc hvv
  have hB0 : Below w.heap.size w ((((w.alloc (.cells #[.slice A g.1.length c, .slice B g.2.1.length d, .slice C g.2.2.length e] 28)).alloc (.cells #[.slice A1 h.1.length c1, .slice B1 h.2.1.length d1, .slice C1 h.2.2.length e1] 28)).alloc (.cells #[.slice A2 m.1.length c2, .slice B2 m.2.1.length d2, .slice C2 m.2.2.length e2] 28)).alloc (.cells #[.int .i64 v.1, .string s, .int .i64 v.2.2] 42)) := ((((Below.refl w.heap.size w).alloc (Nat.le_refl _) _).alloc (by simp) _).alloc (by simp; omega) _).alloc (by simp; omega) _
  obtain ⟨z1, z2, z3, z4⟩ := four_boxes w (.cells #[.slice A g.1.length c, .slice B g.2.1.length d, .slice C g.2.2.length e] 28) (.cells #[.slice A1 h.1.length c1, .slice B1 h.2.1.length d1, .slice C1 h.2.2.length e1] 28) (.cells #[.slice A2 m.1.length c2, .slice B2 m.2.1.length d2, .slice C2 m.2.2.length e2] 28) (.cells #[.int .i64 v.1, .string s, .int .i64 v.2.2] 42)
  have pa : Blk ((((w.alloc (.cells #[.slice A g.1.length c, .slice B g.2.1.length d, .slice C g.2.2.length e] 28)).alloc (.cells #[.slice A1 h.1.length c1, .slice B1 h.2.1.length d1, .slice C1 h.2.2.length e1] 28)).alloc (.cells #[.slice A2 m.1.length c2, .slice B2 m.2.1.length d2, .slice C2 m.2.2.length e2] 28)).alloc (.cells #[.int .i64 v.1, .string s, .int .i64 v.2.2] 42)) (w.heap.size) 28 [.slice A g.1.length c, .slice B g.2.1.length d, .slice C g.2.2.length e] := z1
  have pb : Blk ((((w.alloc (.cells #[.slice A g.1.length c, .slice B g.2.1.length d, .slice C g.2.2.length e] 28)).alloc (.cells #[.slice A1 h.1.length c1, .slice B1 h.2.1.length d1, .slice C1 h.2.2.length e1] 28)).alloc (.cells #[.slice A2 m.1.length c2, .slice B2 m.2.1.length d2, .slice C2 m.2.2.length e2] 28)).alloc (.cells #[.int .i64 v.1, .string s, .int .i64 v.2.2] 42)) (w.heap.size + 1) 28 [.slice A1 h.1.length c1, .slice B1 h.2.1.length d1, .slice C1 h.2.2.length e1] := z2
  have pc : Blk ((((w.alloc (.cells #[.slice A g.1.length c, .slice B g.2.1.length d, .slice C g.2.2.length e] 28)).alloc (.cells #[.slice A1 h.1.length c1, .slice B1 h.2.1.length d1, .slice C1 h.2.2.length e1] 28)).alloc (.cells #[.slice A2 m.1.length c2, .slice B2 m.2.1.length d2, .slice C2 m.2.2.length e2] 28)).alloc (.cells #[.int .i64 v.1, .string s, .int .i64 v.2.2] 42)) (w.heap.size + 1 + 1) 28 [.slice A2 m.1.length c2, .slice B2 m.2.1.length d2, .slice C2 m.2.2.length e2] := z3
  have pv : Blk ((((w.alloc (.cells #[.slice A g.1.length c, .slice B g.2.1.length d, .slice C g.2.2.length e] 28)).alloc (.cells #[.slice A1 h.1.length c1, .slice B1 h.2.1.length d1, .slice C1 h.2.2.length e1] 28)).alloc (.cells #[.slice A2 m.1.length c2, .slice B2 m.2.1.length d2, .slice C2 m.2.2.length e2] 28)).alloc (.cells #[.int .i64 v.1, .string s, .int .i64 v.2.2] 42)) (w.heap.size + 1 + 1 + 1) 42 [.int .i64 v.1, .string s, .int .i64 v.2.2] := z4
  clear z1 z2 z3 z4
  have Ha := Lib.hid (fun W (hW : Below w.heap.size w W) => gr_below hW h0)
  have Hb := Lib.hid (fun W (hW : Below w.heap.size w W) => gr_below hW h1)
  have Hc := Lib.hid (fun W (hW : Below w.heap.size w W) => gr_below hW h2)
  have Fa := Lib.hid (fun W (hW : Below w.heap.size w W) => gfew_any A B C g.1.length c g.2.1.length d g.2.2.length e g W (Ha.out W hW))
  have Fb := Lib.hid (fun W (hW : Below w.heap.size w W) => gfew_any A1 B1 C1 h.1.length c1 h.2.1.length d1 h.2.2.length e1 h W (Hb.out W hW))
  have Fc := Lib.hid (fun W (hW : Below w.heap.size w W) => gfew_any A2 B2 C2 m.1.length c2 m.2.1.length d2 m.2.2.length e2 m W (Hc.out W hW))
  have Ma := Lib.hid (fun W (hW : Below w.heap.size w W) => gmay_any A B C g.1.length c g.2.1.length d g.2.2.length e g W (Ha.out W hW))
  have Iab := Lib.hid (fun W (hW : Below w.heap.size w W) => iso_any A B C g.1.length c g.2.1.length d g.2.2.length e A1 B1 C1 h.1.length c1 h.2.1.length d1 h.2.2.length e1 g h W (Ha.out W hW) (Hb.out W hW))
  have Iba := Lib.hid (fun W (hW : Below w.heap.size w W) => iso_any A1 B1 C1 h.1.length c1 h.2.1.length d1 h.2.2.length e1 A B C g.1.length c g.2.1.length d g.2.2.length e h g W (Hb.out W hW) (Ha.out W hW))
  rw [iso_symm g h] at Iba
  have Iaa := Lib.hid (fun W (hW : Below w.heap.size w W) => iso_any A B C g.1.length c g.2.1.length d g.2.2.length e A B C g.1.length c g.2.1.length d g.2.2.length e g g W (Ha.out W hW) (Ha.out W hW))
  have Ibc := Lib.hid (fun W (hW : Below w.heap.size w W) => iso_any A1 B1 C1 h.1.length c1 h.2.1.length d1 h.2.2.length e1 A2 B2 C2 m.1.length c2 m.2.1.length d2 m.2.2.length e2 h m W (Hb.out W hW) (Hc.out W hW))
  have Iac := Lib.hid (fun W (hW : Below w.heap.size w W) => iso_any A B C g.1.length c g.2.1.length d g.2.2.length e A2 B2 C2 m.1.length c2 m.2.1.length d2 m.2.2.length e2 g m W (Ha.out W hW) (Hc.out W hW))
  have Sa := Lib.hid (fun W (hW : Below w.heap.size w W) hm => gset_any A B C g.1.length c g.2.1.length d g.2.2.length e g id k s v W (Ha.out W hW) (tame_may h0 hm) hs (WalkArith.wf_i64 hv1) (WalkArith.wf_i64 hv2))
  have Ra := Lib.hid (fun W (hW : Below w.heap.size w W) => greach_any A B C g.1.length c g.2.1.length d g.2.2.length e g W (Ha.out W hW))
  have Da := Lib.hid (fun W (hW : Below w.heap.size w W) => rgfind_any A B C g.1.length c g.2.1.length d g.2.2.length e g id W (Ha.out W hW))
  have Htr := Lib.hid (fun h1 h2 => iso_trans (a := g) (b := h) (c := m) h1 h2)
  have H0 := Lib.hid hB0
  have Hs := Lib.hid hs
  clear hB0 h0 h1 h2 hvv hs hv1 hv2
  generalize fewG g = fa at *
  generalize fewG h = fb at *
  generalize fewG m = fc at *
  generalize hN : g.1.length = N at *
  generalize hM : g.2.1.length = M at *
  generalize hK : g.2.2.length = K at *
  generalize h.1.length = N1 at *
  generalize h.2.1.length = M1 at *
  generalize h.2.2.length = K1 at *
  generalize m.1.length = N2 at *
  generalize m.2.1.length = M2 at *
  generalize m.2.2.length = K2 at *
  go_enter Try.func7, Try.ntmps7
  go_wp2_with fail
  refine (cawake_any _).mono ?_
  rintro e w1 ⟨rfl, hB1⟩
  have H1 := Lib.hid (H0.out.trans (hB1.mono H0.out.size))
  replace pa := pa.to hB1
  replace pb := pb.to hB1
  replace pc := pc.to hB1
  replace pv := pv.to hB1
  clear hB1 H0 
  have a0 := pa.cell (j := 0) rfl
  have a1 := pa.cell (j := 1) rfl
  have a2 := pa.cell (j := 2) rfl
  go_wp2_with fail
  refine (Fa.out _ H1.out).mono ?_
  rintro e w2 ⟨rfl, hB2⟩
  have H2 := Lib.hid (H1.out.trans (hB2.mono H1.out.size))
  replace pa := pa.to hB2
  replace pb := pb.to hB2
  replace pc := pc.to hB2
  replace pv := pv.to hB2
  clear hB2 H1 a0 a1 a2
  have b0 := pb.cell (j := 0) rfl
  have b1 := pb.cell (j := 1) rfl
  have b2 := pb.cell (j := 2) rfl
  go_wp2_with fail
  refine (Fb.out _ H2.out).mono ?_
  rintro e w3 ⟨rfl, hB3⟩
  have H3 := Lib.hid (H2.out.trans (hB3.mono H2.out.size))
  replace pa := pa.to hB3
  replace pb := pb.to hB3
  replace pc := pc.to hB3
  replace pv := pv.to hB3
  clear hB3 H2 b0 b1 b2
  have c0 := pc.cell (j := 0) rfl
  have c1 := pc.cell (j := 1) rfl
  have c2 := pc.cell (j := 2) rfl
  go_wp2_with fail
  refine (Fc.out _ H3.out).mono ?_
  rintro e w4 ⟨rfl, hB4⟩
  have H4 := Lib.hid (H3.out.trans (hB4.mono H3.out.size))
  replace pa := pa.to hB4
  replace pb := pb.to hB4
  replace pc := pc.to hB4
  replace pv := pv.to hB4
  clear hB4 H3 c0 c1 c2
  cases fa
  · go_wp2
    go_ret
    exact ⟨rfl, H4.out⟩
  cases fb
  · go_wp2
    go_ret
    exact ⟨rfl, H4.out⟩
  cases fc
  · go_wp2
    go_ret
    exact ⟨rfl, H4.out⟩
  have a0 := pa.cell (j := 0) rfl
  have a1 := pa.cell (j := 1) rfl
  have a2 := pa.cell (j := 2) rfl
  go_wp2_with fail
  refine (Ma.out _ H4.out).mono ?_
  rintro e w5 ⟨rfl, hB5⟩
  have H5 := Lib.hid (H4.out.trans (hB5.mono H4.out.size))
  replace pa := pa.to hB5
  replace pb := pb.to hB5
  replace pc := pc.to hB5
  replace pv := pv.to hB5
  clear hB5 H4 a0 a1 a2
  by_cases hm : mayG g = true
  rotate_left
  · replace hm : mayG g = false := by simpa using hm
    rw [hm]
    go_wp2
    go_ret
    exact ⟨rfl, H5.out⟩
  rw [hm]
  rw [iso_refl hm] at Iaa
  have Sa := Lib.hid (fun W hW => Sa.out W hW hm)
  clear Fa Fb Fc Ma
  generalize hp : isoG g h = p at *
  generalize hq : isoG h m = q at *
  generalize hr : isoG g m = r at *
  have a0 := pa.cell (j := 0) rfl
  have a1 := pa.cell (j := 1) rfl
  have a2 := pa.cell (j := 2) rfl
  have b0 := pb.cell (j := 0) rfl
  have b1 := pb.cell (j := 1) rfl
  have b2 := pb.cell (j := 2) rfl
  go_wp2_with fail
  refine (Iab.out _ H5.out).mono ?_
  rintro e w6 ⟨rfl, hB6⟩
  have H6 := Lib.hid (H5.out.trans (hB6.mono H5.out.size))
  replace pa := pa.to hB6
  replace pb := pb.to hB6
  replace pc := pc.to hB6
  replace pv := pv.to hB6
  clear hB6 H5 a0 a1 a2 b0 b1 b2
  go_upto_region 8 with fail
  go_cut [76] (fun v76 wx => v76 = .bool false ∧ Hid (Below w6.heap.size w6 wx))
  case first =>
    have HS := Lib.hid (fun (W : World) (hW : Below w6.heap.size w6 W) => And.intro (H6.out.trans (hW.mono H6.out.size)) (And.intro (pa.to hW) (And.intro (pb.to hW) (pc.to hW))))
    have X6 := Lib.hid (Below.refl w6.heap.size w6)
    clear pa pb pc pv
    cases p
    · obtain ⟨hW, ra, rb, rc⟩ := HS.out _ X6.out
      have ka0 := ra.cell (j := 0) rfl
      have ka1 := ra.cell (j := 1) rfl
      have ka2 := ra.cell (j := 2) rfl
      have kb0 := rb.cell (j := 0) rfl
      have kb1 := rb.cell (j := 1) rfl
      have kb2 := rb.cell (j := 2) rfl
      have kc0 := rc.cell (j := 0) rfl
      have kc1 := rc.cell (j := 1) rfl
      have kc2 := rc.cell (j := 2) rfl
      clear ra rb rc
      go_wp2_with fail
      refine (Iba.out _ hW).mono ?_
      rintro e x7 ⟨rfl, hB⟩
      have X7 := Lib.hid (X6.out.trans (hB.mono X6.out.size))
      clear hB hW ka0 ka1 ka2 kb0 kb1 kb2 kc0 kc1 kc2
      obtain ⟨hW, ra, rb, rc⟩ := HS.out _ X7.out
      have ka0 := ra.cell (j := 0) rfl
      have ka1 := ra.cell (j := 1) rfl
      have ka2 := ra.cell (j := 2) rfl
      have kb0 := rb.cell (j := 0) rfl
      have kb1 := rb.cell (j := 1) rfl
      have kb2 := rb.cell (j := 2) rfl
      have kc0 := rc.cell (j := 0) rfl
      have kc1 := rc.cell (j := 1) rfl
      have kc2 := rc.cell (j := 2) rfl
      clear ra rb rc
      go_wp2_with fail
      refine (Iaa.out _ hW).mono ?_
      rintro e x8 ⟨rfl, hB⟩
      have X8 := Lib.hid (X7.out.trans (hB.mono X7.out.size))
      clear hB hW ka0 ka1 ka2 kb0 kb1 kb2 kc0 kc1 kc2
      go_wp2
      go_meet
      case rel => exact ⟨rfl, X8⟩
    · obtain ⟨hW, ra, rb, rc⟩ := HS.out _ X6.out
      have ka0 := ra.cell (j := 0) rfl
      have ka1 := ra.cell (j := 1) rfl
      have ka2 := ra.cell (j := 2) rfl
      have kb0 := rb.cell (j := 0) rfl
      have kb1 := rb.cell (j := 1) rfl
      have kb2 := rb.cell (j := 2) rfl
      have kc0 := rc.cell (j := 0) rfl
      have kc1 := rc.cell (j := 1) rfl
      have kc2 := rc.cell (j := 2) rfl
      clear ra rb rc
      go_wp2_with fail
      refine (Iba.out _ hW).mono ?_
      rintro e x7 ⟨rfl, hB⟩
      have X7 := Lib.hid (X6.out.trans (hB.mono X6.out.size))
      clear hB hW ka0 ka1 ka2 kb0 kb1 kb2 kc0 kc1 kc2
      obtain ⟨hW, ra, rb, rc⟩ := HS.out _ X7.out
      have ka0 := ra.cell (j := 0) rfl
      have ka1 := ra.cell (j := 1) rfl
      have ka2 := ra.cell (j := 2) rfl
      have kb0 := rb.cell (j := 0) rfl
      have kb1 := rb.cell (j := 1) rfl
      have kb2 := rb.cell (j := 2) rfl
      have kc0 := rc.cell (j := 0) rfl
      have kc1 := rc.cell (j := 1) rfl
      have kc2 := rc.cell (j := 2) rfl
      clear ra rb rc
      go_wp2_with fail
      refine (Iaa.out _ hW).mono ?_
      rintro e x8 ⟨rfl, hB⟩
      have X8 := Lib.hid (X7.out.trans (hB.mono X7.out.size))
      clear hB hW ka0 ka1 ka2 kb0 kb1 kb2 kc0 kc1 kc2
      obtain ⟨hW, ra, rb, rc⟩ := HS.out _ X8.out
      have ka0 := ra.cell (j := 0) rfl
      have ka1 := ra.cell (j := 1) rfl
      have ka2 := ra.cell (j := 2) rfl
      have kb0 := rb.cell (j := 0) rfl
      have kb1 := rb.cell (j := 1) rfl
      have kb2 := rb.cell (j := 2) rfl
      have kc0 := rc.cell (j := 0) rfl
      have kc1 := rc.cell (j := 1) rfl
      have kc2 := rc.cell (j := 2) rfl
      clear ra rb rc
      go_wp2_with fail
      refine (Ibc.out _ hW).mono ?_
      rintro e x9 ⟨rfl, hB⟩
      have X9 := Lib.hid (X8.out.trans (hB.mono X8.out.size))
      clear hB hW ka0 ka1 ka2 kb0 kb1 kb2 kc0 kc1 kc2
      cases q
      · go_wp2
        go_meet
        case rel => exact ⟨rfl, X9⟩
      · have hrt : r = true := Htr.out (by trivial) (by trivial)
        rw [hrt] at Iac
        obtain ⟨hW, ra, rb, rc⟩ := HS.out _ X9.out
        have ka0 := ra.cell (j := 0) rfl
        have ka1 := ra.cell (j := 1) rfl
        have ka2 := ra.cell (j := 2) rfl
        have kb0 := rb.cell (j := 0) rfl
        have kb1 := rb.cell (j := 1) rfl
        have kb2 := rb.cell (j := 2) rfl
        have kc0 := rc.cell (j := 0) rfl
        have kc1 := rc.cell (j := 1) rfl
        have kc2 := rc.cell (j := 2) rfl
        clear ra rb rc
        go_wp2_with fail
        refine (Iac.out _ hW).mono ?_
        rintro e x10 ⟨rfl, hB⟩
        have X10 := Lib.hid (X9.out.trans (hB.mono X9.out.size))
        clear hB hW ka0 ka1 ka2 kb0 kb1 kb2 kc0 kc1 kc2
        go_wp2
        go_meet
        case rel => exact ⟨rfl, X10⟩
  case rest =>
    obtain ⟨rfl, hX⟩ := hcut
    clear Iab Iba Iaa Ibc Iac Hb Hc Htr hp hq hr
    replace pa := pa.to hX.out
    replace pv := pv.to hX.out
    have H7 := Lib.hid (H6.out.trans (hX.out.mono H6.out.size))
    clear hX H6 pb pc
    have a0 := pa.cell (j := 0) rfl
    have a1 := pa.cell (j := 1) rfl
    have a2 := pa.cell (j := 2) rfl
    have v0 := pv.cell (j := 0) rfl
    have v1 := pv.cell (j := 1) rfl
    have v2 := pv.cell (j := 2) rfl
    go_wp2_with fail
    refine (Sa.out _ H7.out).mono ?_
    rintro e w8 ⟨A4, c4, B4, d4, C4, e4, rfl, h4, hB8⟩
    have hB9 : Below w8.heap.size w8 (w8.alloc (.cells #[.slice A4 (setN g id k v).1.length c4, .slice B4 (setN g id k v).2.1.length d4, .slice C4 (setN g id k v).2.2.length e4] 28)) := (Below.refl _ w8).alloc (Nat.le_refl _) _
    have p9 := Blk.new w8 28 [.slice A4 (setN g id k v).1.length c4, .slice B4 (setN g id k v).2.1.length d4, .slice C4 (setN g id k v).2.2.length e4]
    have hX := hB8.trans (hB9.mono hB8.size)
    have H9 := Lib.hid (H7.out.trans (hX.mono H7.out.size))
    replace pa := pa.to hX
    replace pv := pv.to hX
    have Hh := Lib.hid (gr_below hB9 h4)
    clear a0 a1 a2 v0 v1 v2 hB8 hB9 hX h4 H7 Sa
    have a0 := pa.cell (j := 0) rfl
    have a1 := pa.cell (j := 1) rfl
    have a2 := pa.cell (j := 2) rfl
    have Hbk := Lib.hid (fun he => set_back (g := g) (id := id) (k := k) (v := v) he)
    have Hst : Hid (∀ (I kn : Nat) (o : Ob) (v0 : Vl) (f : Fld), k = (kn : Int) → setE g id k v = 0 → findG g.2.1 id = (I : Int) → g.2.1[I]? = some o → o.2.2[kn]? = some v0 → (fldsG g.1 o.2.1)[kn]? = some f → f.2.1 ≠ 5 → id ∈ ordG g → mayG (setN g id k v) = true → isoG g (setN g id k v) = decide (v0 = v)) := Lib.hid (fun I kn o v0 f e he hI ho hv0 hf h5 hid hm2 => by subst e; exact iso_set he hI ho hv0 hf h5 hid hm hm2)
    generalize hhN : setN g id k v = hh at *
    have Hia := Lib.hid (fun W (hW : Below w.heap.size w W) h4 => iso_any A B C N c M d K e A4 B4 C4 hh.1.length c4 hh.2.1.length d4 hh.2.2.length e4 g hh W (Ha.out W hW) h4)
    generalize hh.1.length = N4 at *
    generalize hh.2.1.length = M4 at *
    generalize hh.2.2.length = K4 at *
    generalize hee : setE g id k v = er at *
    go_wp2_with fail
    generalize w8.alloc (.cells #[.slice A4 N4 c4, .slice B4 M4 d4, .slice C4 K4 e4] 28) = w9 at *
    refine (Ra.out _ H9.out).mono ?_
    rintro e w10 ⟨AR, cR, rfl, hR, hRw, hB10⟩
    have H10 := Lib.hid (H9.out.trans (hB10.mono H9.out.size))
    replace pa := pa.to hB10
    replace pv := pv.to hB10
    replace p9 := p9.to hB10
    have Hh10 := Lib.hid (gr_below hB10 Hh.out)
    have TH := Lib.hid (rhas_any AR (reachG g).length cR (reachG g) id w10 (rIds_stays.to (S' := All w10) (w' := w10) (Keeps.mono fun b hb => hb.2) (ids_own hR rfl hRw)))
    have Hre := Lib.hid (fun (hx : id ∈ reachG g) => (ordG_mem hm).2 ((reach_mem hm).1 hx).1)
    clear a0 a1 a2 hR hRw hB10 H9 Hh Ra
    by_cases hhere : id ∈ reachG g
    rotate_left
    · rw [decide_eq_false hhere] at TH
      generalize reachG g = rg at *
      go_wp2_with fail
      refine TH.out.mono ?_
      rintro e wz ⟨rfl, hwz⟩
      replace hwz := hwz.symm
      subst hwz
      have a0 := pa.cell (j := 0) rfl
      have a1 := pa.cell (j := 1) rfl
      have a2 := pa.cell (j := 2) rfl
      go_wp2_with fail
      refine (Da.out _ H10.out).mono ?_
      rintro e w11 ⟨rfl, hB11⟩
      have H11 := Lib.hid (H10.out.trans (hB11.mono H10.out.size))
      clear a0 a1 a2 Da Hst Hbk Hre hhN hee
      generalize findG g.2.1 id = fi at *
      cases her : (er != 0)
      · go_wp2
        refine sch_start [(0, true), (1, true), (2, true), (3, true), (4, true), (5, true), (6, true), (7, true), (8, true), (9, true), (10, true), (11, true), (12, true), (13, true), (14, true), (15, true), (16, true), (17, true), (18, true), (19, true), (20, true), (21, true), (22, true), (23, true), (24, true), (25, true), (26, true), (27, true), (28, true), (29, true), (30, true), (31, true), (32, true), (33, true), (34, true), (35, true), (36, true), (37, true), (38, true), (39, true), (40, true), (41, true), (42, true), (43, true)] (fun _ => True) (by kernel_rfl) rfl (by kernel_rfl) (fun _ _ _ _ _ h => h) trivial (fun hH => ?_)
        repeat (first | (refine sch_yes (v := ?_) rfl rfl ?_ hH ?_; rotate_left; (focus ((intro W hW; go_simp) <;> with_reducible rfl)); simp only [Act.put, List.setIfInBounds_toArray, List.set_cons_zero, List.set_cons_succ]) | (refine sch_no rfl rfl hH ?_; simp only [Act.put, List.setIfInBounds_toArray, List.set_cons_zero, List.set_cons_succ]))
        refine sch_done ?_
        clear hH
        go_wp2
        go_ret
        exact ⟨rfl, H11.out.drew⟩
      · go_wp2
        refine sch_start [(0, true), (1, true), (2, true), (3, true), (4, true), (5, true), (6, true), (7, true), (8, true), (9, true), (10, true), (11, true), (12, true), (13, true), (14, true), (15, true), (16, true), (17, true), (18, true), (19, true), (20, true), (21, true), (22, true), (23, true), (24, true), (25, true), (26, true), (27, true), (28, true), (29, true), (30, true), (31, true), (32, true), (33, true), (34, true), (35, true), (36, true), (37, true), (38, true), (39, true), (40, true), (41, true), (42, true), (43, true)] (fun _ => True) (by kernel_rfl) rfl (by kernel_rfl) (fun _ _ _ _ _ h => h) trivial (fun hH => ?_)
        repeat (first | (refine sch_yes (v := ?_) rfl rfl ?_ hH ?_; rotate_left; (focus ((intro W hW; go_simp) <;> with_reducible rfl)); simp only [Act.put, List.setIfInBounds_toArray, List.set_cons_zero, List.set_cons_succ]) | (refine sch_no rfl rfl hH ?_; simp only [Act.put, List.setIfInBounds_toArray, List.set_cons_zero, List.set_cons_succ]))
        refine sch_done ?_
        clear hH
        go_wp2
        go_ret
        exact ⟨rfl, H11.out.drew⟩
    rw [decide_eq_true hhere] at TH
    have hord := Hre.out hhere
    clear hhere Hre
    generalize reachG g = rg at *
    go_wp2_with fail
    refine TH.out.mono ?_
    rintro e wz ⟨rfl, hwz⟩
    replace hwz := hwz.symm
    subst hwz
    have a0 := pa.cell (j := 0) rfl
    have a1 := pa.cell (j := 1) rfl
    have a2 := pa.cell (j := 2) rfl
    go_wp2_with fail
    refine (Da.out _ H10.out).mono ?_
    rintro e w11 ⟨rfl, hB11⟩
    have H11 := Lib.hid (H10.out.trans (hB11.mono H10.out.size))
    replace pa := pa.to hB11
    replace pv := pv.to hB11
    replace p9 := p9.to hB11
    have Hh11 := Lib.hid (gr_below hB11 Hh10.out)
    clear a0 a1 a2 Da hB11 H10 Hh10 TH
    by_cases her : er = 0
    rotate_left
    · have her' : (er != 0) = true := by simp [her]
      clear Hst Hbk hhN hee her
      generalize findG g.2.1 id = fi at *
      go_wp2
      refine sch_start [(0, true), (1, true), (2, true), (3, true), (4, true), (5, true), (6, true), (7, true), (8, true), (9, true), (10, true), (11, true), (12, true), (13, true), (14, true), (15, true), (16, true), (17, true), (18, true), (19, true), (20, true), (21, true), (22, true), (23, true), (24, true), (25, true), (26, true), (27, true), (28, true), (29, true), (30, true), (31, true), (32, true), (33, true), (34, true), (35, true), (36, true), (37, true), (38, true), (39, true), (40, true), (41, true), (42, true), (43, true)] (fun _ => True) (by kernel_rfl) rfl (by kernel_rfl) (fun _ _ _ _ _ h => h) trivial (fun hH => ?_)
      repeat (first | (refine sch_yes (v := ?_) rfl rfl ?_ hH ?_; rotate_left; (focus ((intro W hW; go_simp) <;> with_reducible rfl)); simp only [Act.put, List.setIfInBounds_toArray, List.set_cons_zero, List.set_cons_succ]) | (refine sch_no rfl rfl hH ?_; simp only [Act.put, List.setIfInBounds_toArray, List.set_cons_zero, List.set_cons_succ]))
      refine sch_done ?_
      clear hH
      go_wp2
      go_ret
      exact ⟨rfl, H11.out.drew⟩
    subst her
    obtain ⟨I, kn, o, v0, hI, ho, rfl, hkl, hv0, b1, b2, b3, hho, hhv, hmn, hE, hback⟩ := Hbk.out (by trivial)
    have hIM : I < M := by have := (List.getElem?_eq_some_iff.1 ho).1; omega
    have hmo := mayG_obj hm (List.mem_of_getElem? ho)
    have hlen := hmo.len
    obtain ⟨f, hf⟩ : ∃ f, (fldsG g.1 o.2.1)[kn]? = some f := ⟨_, List.getElem?_eq_getElem (by omega)⟩
    rw [hI]
    obtain ⟨t, ht⟩ : ∃ t : Nat, o.2.1 = (t : Int) := ⟨o.2.1.toNat, by have := hmo.t0; omega⟩
    have htN : t < N := by have := hmo.t1; omega
    have hgt : g.1[t]? = some g.1[t] := List.getElem?_eq_getElem (by omega)
    have Hg11 := Lib.hid (Ha.out _ H11.out)
    obtain ⟨bt, offt, st, AF, cF, hAt, hbt, -, y1, -, -, hfs⟩ := typ_at (rGr_open Hg11.out).1 hgt
    have hFe := fldsG_at ht hgt
    rw [← hFe] at y1 hfs
    obtain ⟨bf, offf, sx, tx, hAf, hbf, -, m1, -, -, -, -, -, -⟩ := fld_at hfs hf
    obtain ⟨b, off, Av, cv, hBe, hb, -, x1, x2, hvs, -, -⟩ := ob_at (rGr_open Hg11.out).2.1 ho
    obtain ⟨bv, offv, s0, hAe, hbv, u0, u1, u2, hs0, -, -, -⟩ := val_at hvs hv0
    subst hAt hAf hBe hAe
    rw [ht] at x1
    have hw2 : ∀ h5 : f.2.1 ≠ 5, isoG g hh = decide (v0 = v) := fun h5 => Hst.out I kn o v0 f rfl rfl hI ho hv0 hf h5 hord hmn
    have Hiso := Lib.hid hw2
    have hq : ∀ W, (binOp .eql 42 (.agg #[.int .i64 v0.1, .string s0, .int .i64 v0.2.2]) (.agg #[.int .i64 v.1, .string s, .int .i64 v.2.2])).run Try.prog W = .ok (.bool (decide (v0 = v))) W := fun W => by
      rw [vl_eql, vl_is, hs0, Hs.out]
    have hgd := sval_guard
    clear hw2 Hst Hbk hhN hee hho hhv hmn hE hback hvs hfs hFe hgt hmo hs0 hord hI ho hv0 hf b1 b2 b3
    generalize hol : o.2.2.length = ol at *
    generalize hfl : (fldsG g.1 o.2.1).length = fl at *
    generalize hdv : decide (v0 = v) = dv at *
    generalize v0.1 = m1' at *
    generalize v0.2.2 = m2' at *
    generalize v.1 = n1' at *
    generalize v.2.2 = n2' at *
    generalize f.2.1 = fk at *
    have q1 : decide ((I : Int) < 0) = false := decide_eq_false (by omega)
    have q4 : decide ((kn : Int) < 0) = false := decide_eq_false (by omega)
    have q5 : decide ((ol : Int) ≤ (kn : Int)) = false := decide_eq_false (by omega)
    have q5' : decide (ol ≤ kn) = false := decide_eq_false (by omega)
    have q7 : (I : Int) < (M : Int) := by omega
    have q8 : (0 : Int) ≤ (I : Int) := Int.natCast_nonneg I
    have q9 : (kn : Int) < (ol : Int) := by omega
    have q9' : (kn : Int) < (fl : Int) := by omega
    have q0 : (0 : Int) ≤ (kn : Int) := Int.natCast_nonneg kn
    have q6 : (t : Int) < (N : Int) := by omega
    have q6' : (0 : Int) ≤ (t : Int) := Int.natCast_nonneg t
    have HS := Lib.hid (fun (W : World) (hW : Below w11.heap.size w11 W) => And.intro (And.intro ((pa.to hW).cell (j := 0) rfl) (And.intro ((pa.to hW).cell (j := 1) rfl) ((pa.to hW).cell (j := 2) rfl)))
      (And.intro (And.intro ((pv.to hW).cell (j := 0) rfl) (And.intro ((pv.to hW).cell (j := 1) rfl) ((pv.to hW).cell (j := 2) rfl))) (And.intro (And.intro ((p9.to hW).cell (j := 0) rfl) (And.intro ((p9.to hW).cell (j := 1) rfl) ((p9.to hW).cell (j := 2) rfl)))
      (And.intro (And.intro ((hW.cell (p := ⟨b, off + I * 3 + 1, none⟩) hb).trans x1) ((hW.cell (p := ⟨b, off + I * 3 + 2, none⟩) hb).trans x2)) (And.intro (And.intro ((hW.cell (p := ⟨bt, offt + t * 2 + 1, none⟩) hbt).trans y1) ((hW.cell (p := ⟨bf, offf + kn * 3 + 1, none⟩) hbf).trans m1))
      (And.intro ((hW.cell (p := ⟨bv, offv + kn * 3, none⟩) hbv).trans u0) (And.intro ((hW.cell (p := ⟨bv, offv + kn * 3 + 1, none⟩) hbv).trans u1) ((hW.cell (p := ⟨bv, offv + kn * 3 + 2, none⟩) hbv).trans u2))))))))
    clear pa pv p9 x1 x2 y1 m1 u0 u1 u2
    by_cases h5 : fk = 5
    · subst h5
      clear Hiso hq
      go_wp2
      refine sch_start [(0, true), (1, true), (2, true), (3, true), (4, true), (5, true), (6, true), (7, true), (8, true), (9, true), (10, true), (11, true), (12, true), (13, true), (14, true), (15, true), (16, true), (17, true), (18, true), (19, true), (20, true), (21, true), (22, true), (23, true), (24, true), (25, true), (26, true), (27, true), (28, true), (29, true), (30, true), (31, true), (32, true), (33, true), (34, true), (35, true), (36, true), (37, true), (38, true), (39, true), (40, true), (41, true), (42, true), (43, true)] (fun W => Below w11.heap.size w11 W) (by kernel_rfl) rfl (by kernel_rfl) (fun _ _ _ _ _ h => h) (Below.refl _ w11).drew (fun hH => ?_)
      repeat (first | (refine sch_yes (v := ?_) rfl rfl ?_ hH ?_; rotate_left; (focus ((intro W hW; obtain ⟨⟨x0, x1, x2⟩, ⟨y0, y1, y2⟩, ⟨z0, z1, z2⟩, ⟨k1, k2⟩, ⟨m1, m2⟩, t0, t1, t2⟩ := HS.out W hW; go_simp) <;> with_reducible rfl)); simp only [Act.put, List.setIfInBounds_toArray, List.set_cons_zero, List.set_cons_succ]) | (refine sch_no rfl rfl hH ?_; simp only [Act.put, List.setIfInBounds_toArray, List.set_cons_zero, List.set_cons_succ]))
      refine sch_done ?_
      go_wp2
      go_ret
      exact ⟨rfl, H11.out.trans (hH.mono H11.out.size)⟩
    have hk5 : (fk == 5) = false := by simpa using h5
    have hi := Hiso.out h5
    have TI := Lib.hid (fun W (hW : Below w11.heap.size w11 W) => Hia.out W (H11.out.trans (hW.mono H11.out.size)) (gr_below hW Hh11.out))
    rw [hi] at TI
    clear h5 Hiso hi Hia Hh11 Hg11
    go_wp2
    refine sch_start [(0, true), (1, true), (2, true), (3, true), (4, true), (5, true), (6, true), (7, true), (8, true), (9, true), (10, true), (11, true), (12, true), (13, true), (14, true), (15, true), (16, true), (17, true), (18, true), (19, true), (20, true), (21, true), (22, true), (23, true), (24, true), (25, true), (26, true), (27, true), (28, true), (29, true), (30, true), (31, true), (32, true), (33, true), (34, true), (35, true), (36, true), (37, true), (38, true), (39, true), (40, true), (41, true), (42, true), (43, true)] (fun W => Below w11.heap.size w11 W) (by kernel_rfl) rfl (by kernel_rfl) (fun _ _ _ _ _ h => h) (Below.refl _ w11).drew (fun hH => ?_)
    repeat (first | (refine sch_yes (v := ?_) rfl rfl ?_ hH ?_; rotate_left; (focus ((intro W hW; obtain ⟨⟨x0, x1, x2⟩, ⟨y0, y1, y2⟩, ⟨z0, z1, z2⟩, ⟨k1, k2⟩, ⟨m1, m2⟩, t0, t1, t2⟩ := HS.out W hW; go_simp) <;> with_reducible rfl)); simp only [Act.put, List.setIfInBounds_toArray, List.set_cons_zero, List.set_cons_succ]) | (refine sch_no rfl rfl hH ?_; simp only [Act.put, List.setIfInBounds_toArray, List.set_cons_zero, List.set_cons_succ]))
    refine sch_done ?_
    have HD := Lib.hid hH
    clear hH
    generalize w11.drew = w12 at *
    go_wp2
    refine sch_start [(0, true), (1, true), (3, true), (4, true), (5, true), (6, true), (7, true), (8, true), (9, true), (10, true), (11, true), (12, true), (13, true), (2, false), (14, true), (15, true)] (fun W => Below w11.heap.size w11 W) (by kernel_rfl) rfl (by kernel_rfl) (fun _ _ _ _ _ h => h) HD.out.drew (fun hH => ?_)
    repeat (first | (refine sch_yes (v := ?_) rfl rfl ?_ hH ?_; rotate_left; (focus ((intro W hW; obtain ⟨⟨x0, x1, x2⟩, ⟨y0, y1, y2⟩, ⟨z0, z1, z2⟩, ⟨k1, k2⟩, ⟨m1, m2⟩, t0, t1, t2⟩ := HS.out W hW; go_simp) <;> with_reducible rfl)); simp only [Act.put, List.setIfInBounds_toArray, List.set_cons_zero, List.set_cons_succ]) | (refine sch_no rfl rfl hH ?_; simp only [Act.put, List.setIfInBounds_toArray, List.set_cons_zero, List.set_cons_succ]))
    refine sch_call rfl rfl (fun K' hK => ?_)
    go_wp2_with (go_at_call 19; refine (TI.out _ hH).mono ?_; rintro e wf ⟨rfl, hB⟩)
    have hD := hH.trans (hB.mono hH.size)
    refine hK.out _ _ hD ?_
    clear hK hH
    have hH := hD
    repeat (first | (refine sch_yes (v := ?_) rfl rfl ?_ hH ?_; rotate_left; (focus ((intro W hW; obtain ⟨⟨x0, x1, x2⟩, ⟨y0, y1, y2⟩, ⟨z0, z1, z2⟩, ⟨k1, k2⟩, ⟨m1, m2⟩, t0, t1, t2⟩ := HS.out W hW; go_simp) <;> with_reducible rfl)); simp only [Act.put, List.setIfInBounds_toArray, List.set_cons_zero, List.set_cons_succ]) | (refine sch_no rfl rfl hH ?_; simp only [Act.put, List.setIfInBounds_toArray, List.set_cons_zero, List.set_cons_succ]))
    refine sch_done ?_
    go_wp2
    go_ret
    exact ⟨rfl, H11.out.trans (hH.mono H11.out.size)⟩
end Go.Proofs.Yteafbdebmhpffaa
