/- The law FlowBack, walked: it returns true at every input. Condition: the variable errors.errorType holds the handle of the type 'error'. -/
import Derived.Test.YthhkkiegfcofjaaDoorFlHeld
namespace Go.Proofs.YthhkkiegfcofjaaDoor
open Go.RowKit

set_option maxRecDepth 100000 in
set_option maxHeartbeats 2000000 in
theorem flowBack_walk (w : World) (hg : Han w) (cs : Array Value) (f : Flo) (h : rFlo (All w) w cs.toList f) (A : Option Addr) (c : Nat) (bs : List Nat) (hl : bs.length ≤ c) (_ : c ≤ maxLen) (hb : ∀ x ∈ bs, x < 256) (hr : Rd w A (u8s bs)) :
    Calls Tryd.prog 4 #[.agg cs, .slice A bs.length c] w fun e w' => e = .returned (.bool true) ∧ Below w.heap.size w w' := by
  obtain ⟨Af, cf, rfl, hfl, hfm, hfb, hfby, hfp⟩ := flo_arg h
  clear h
  have H0 := Box.new (Below.refl _ w) hg hfp
  have W1 := Lib.hid (awake_any _ H0.han)
  have HO := Lib.hid hr
  clear hr
  go_enter Tryd.func4, Tryd.ntmps4
  go_wp2_with fail
  refine W1.out.mono ?_
  rintro e w1 ⟨rfl, hB1⟩
  have H1 := H0.below hB1
  clear W1 H0 hB1
  have W2 := Lib.hid (few_any Af f.2.length cf 40 f w1 H1.pts)
  have x0 := H1.c0
  have x1 := H1.c1
  go_wp2_with fail
  refine W2.out.mono ?_
  rintro e w2 ⟨rfl, hB2⟩
  have H2 := H1.below hB2
  clear W2 H1 hB2 x0 x1
  have x0 := H2.c0
  have x1 := H2.c1
  by_cases hgo : fewB f 40 = true ∧ bs.length ≤ 2000
  · obtain ⟨hfew, h2000⟩ := hgo
    rw [hfew]
    have hd : decide ((2000 : Int) < (bs.length : Int)) = false := by simp; omega
    have G2 := Lib.hid (fun W hr' hg' => fget_any A c bs.length bs W rfl hl hb hr' (by omega) hg')
    have hback := fun e => getFl_back (bs := bs) hb e
    have hbad := getFl_bad (bs := bs)
    generalize getFl bs = gf at *
    obtain ⟨y, E⟩ := gf
    simp only at G2 hback hbad
    have Hback := Lib.hid hback
    have Hbad := Lib.hid hbad
    clear hback hbad
    cases hmay : mayB f with
    | true =>
      have hok : OkF f := ⟨hfb.1, hfb.2, hmay, hfby⟩
      have P1 := Lib.hid (fput_ok hok Af f.2.length cf w2 H2.pts)
      go_wp2_with fail
      refine P1.out.mono ?_
      rintro e w3 ⟨B3, cap3, rfl, hc3, hm3, hr3, hB3⟩
      have H3 := H2.below hB3
      have G1 := Lib.hid (fget_ok hok B3 _ cap3 w3 rfl hc3 hr3 H3.han)
      clear P1 H2 hB3 x0 x1
      generalize (flowB f).length = fbl at *
      go_wp2_with fail
      refine G1.out.mono ?_
      rintro e w4 ⟨A4, c4, rfl, hp4, hB4⟩
      have H4 := (H3.below hB4).alloc (.cells #[.int .u32 f.1, .slice A4 f.2.length c4] 25)
      have K4 := (H3.below hB4).new' (g := f) hp4
      have x0 := H4.c0
      have x1 := H4.c1
      have M1 := may_any Af f.2.length cf f _ H4.pts
      rw [hmay] at M1
      have HM1 := Lib.hid M1
      clear M1 G1 H3 hB4
      go_wp2_with fail
      refine HM1.out.mono ?_
      rintro e w5 ⟨rfl, hB5⟩
      have H5 := H4.below hB5
      have K5 := K4.below hB5
      have S1 := fsame_any A4 Af f.2.length c4 f.2.length cf f f w5 K5.pts H5.pts
      rw [decide_eq_true rfl] at S1
      have HS1 := Lib.hid S1
      clear S1 HM1 H4 K4 hB5 x0 x1
      have x0 := H5.c0
      have x1 := H5.c1
      have y0 := K5.c0
      have y1 := K5.c1
      go_wp2_with fail
      refine HS1.out.mono ?_
      rintro e w6 ⟨rfl, hB6⟩
      have H6 := H5.below hB6
      clear HS1 H5 K5 hB6 x0 x1 y0 y1
      have HG2 := Lib.hid (G2.out w6 (HO.out.below H6.bel) H6.han)
      clear G2
      go_wp2_with fail
      refine HG2.out.mono ?_
      rintro e w7 ⟨A7, c7, rfl, hp7, hB7⟩
      have H7 := (H6.below hB7).alloc (.cells #[.int .u32 y.1, .slice A7 y.2.length c7] 25)
      have K7 := (H6.below hB7).new' (g := y) hp7
      have z0 := K7.c0
      have z1 := K7.c1
      have hbel := H7.bel
      clear HG2 hB7
      by_cases hE : E = 0
      · subst hE
        obtain ⟨hoky, hfly, _, _⟩ := Hback.out rfl
        have P7 := fput_ok hoky A7 y.2.length c7 _ K7.pts
        rw [hfly] at P7
        have HP7 := Lib.hid P7
        clear P7 Hback Hbad
        go_wp2_with fail
        refine HP7.out.mono ?_
        rintro e w8 ⟨B8, cap8, rfl, hc8, hm8, hr8, hB8⟩
        have H8 := H7.below hB8
        have t1 := conv_B B8 bs bs.length cap8 w8 rfl hr8
        have t2 := conv_B A bs bs.length c w8 rfl (HO.out.below H8.bel)
        have hbel8 := H8.bel
        clear HP7 z0 z1 hbel
        go_wp2
        go_ret
        exact ⟨by simp, hbel8⟩
      · obtain rfl := Hbad.out hE
        have hE' : ((E : Int) != 0) = true := by rw [bne_iff_ne]; omega
        go_wp2
        go_ret
        exact ⟨rfl, hbel⟩
    | false =>
      have P1 := Lib.hid (fput_bad hfb.1 hfb.2 hfby hmay Af f.2.length cf w2 H2.pts)
      go_wp2_with fail
      refine P1.out.mono ?_
      rintro e w3 ⟨rfl, hB3⟩
      have H3 := H2.below hB3
      have G1 := fget_any none 0 0 [] w3 rfl (Nat.le_refl _) (by simp) (.inl rfl) (by omega) H3.han
      rw [getFl_nil] at G1
      simp only [List.length_nil] at G1
      have HG1 := Lib.hid G1
      clear P1 H2 hB3 x0 x1 G1
      go_wp2_with fail
      refine HG1.out.mono ?_
      rintro e w4 ⟨A4, c4, rfl, hp4, hB4⟩
      have H4 := (H3.below hB4).alloc (.cells #[.int .u32 0, .slice A4 0 c4] 25)
      have x0 := H4.c0
      have x1 := H4.c1
      have M1 := may_any Af f.2.length cf f _ H4.pts
      rw [hmay] at M1
      have HM1 := Lib.hid M1
      clear M1 HG1 H3 hB4
      go_wp2_with fail
      refine HM1.out.mono ?_
      rintro e w6 ⟨rfl, hB5⟩
      have H6 := H4.below hB5
      clear HM1 H4 hB5 x0 x1
      have HG2 := Lib.hid (G2.out w6 (HO.out.below H6.bel) H6.han)
      clear G2
      go_wp2_with fail
      refine HG2.out.mono ?_
      rintro e w7 ⟨A7, c7, rfl, hp7, hB7⟩
      have H7 := (H6.below hB7).alloc (.cells #[.int .u32 y.1, .slice A7 y.2.length c7] 25)
      have K7 := (H6.below hB7).new' (g := y) hp7
      have z0 := K7.c0
      have z1 := K7.c1
      have hbel := H7.bel
      clear HG2 hB7
      by_cases hE : E = 0
      · subst hE
        obtain ⟨hoky, hfly, _, _⟩ := Hback.out rfl
        have P7 := fput_ok hoky A7 y.2.length c7 _ K7.pts
        rw [hfly] at P7
        have HP7 := Lib.hid P7
        clear P7 Hback Hbad
        go_wp2_with fail
        refine HP7.out.mono ?_
        rintro e w8 ⟨B8, cap8, rfl, hc8, hm8, hr8, hB8⟩
        have H8 := H7.below hB8
        have t1 := conv_B B8 bs bs.length cap8 w8 rfl hr8
        have t2 := conv_B A bs bs.length c w8 rfl (HO.out.below H8.bel)
        have hbel8 := H8.bel
        clear HP7 z0 z1 hbel
        go_wp2
        go_ret
        exact ⟨by simp, hbel8⟩
      · obtain rfl := Hbad.out hE
        have hE' : ((E : Int) != 0) = true := by rw [bne_iff_ne]; omega
        go_wp2
        go_ret
        exact ⟨rfl, hbel⟩
  · have hor : fewB f 40 = false ∨ (fewB f 40 = true ∧ decide ((2000 : Int) < (bs.length : Int)) = true) := by
      cases hf : fewB f 40 with
      | false => exact .inl rfl
      | true =>
        refine .inr ⟨rfl, ?_⟩
        rw [decide_eq_true_iff]
        have : ¬ bs.length ≤ 2000 := fun h => hgo ⟨hf, h⟩
        omega
    have hbel := H2.bel
    rcases hor with hf | ⟨hf, hd⟩
    all_goals
      rw [hf]
      go_wp2
      go_ret
      exact ⟨rfl, hbel⟩
end Go.Proofs.YthhkkiegfcofjaaDoor
