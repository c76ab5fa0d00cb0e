/- The law FlowCut, walked: it returns true at every input. Condition: the variable errors.errorType holds the handle of the type 'error'. -/
import Derived.Test.YthhkkiegfcofjaaDoorFlHeld
import Derived.Test.YthhkkiegfcofjaaDoorFlCutPlain
namespace Go.Proofs.YthhkkiegfcofjaaDoor
open Go.RowKit

set_option maxRecDepth 100000 in
set_option maxHeartbeats 2000000 in
theorem flowCut_walk (w : World) (hg : Han w) (cs : Array Value) (f : Flo) (h : rFlo (All w) w cs.toList f) (k : Int) (hk0 : -9223372036854775808 ≤ k) (hk1 : k ≤ 9223372036854775807) (A : Option Addr) (c : Nat) (bs : List Nat) (hl : bs.length ≤ c) (_ : c ≤ maxLen) (hb : ∀ x ∈ bs, x < 256) (hr : Rd w A (u8s bs)) :
    Calls Tryd.prog 5 #[.agg cs, .int .i64 k, .slice A bs.length c] w fun e w' => e = .returned (.bool true) ∧ Below w.heap.size w w' := by
  obtain ⟨j0, hj, hz0, hz1, hz2⟩ := info_parts info_u8
  have HO := Lib.hid hr
  clear hr
  obtain ⟨Af, cf, rfl, hfl, hfm, hfb, hfby, hfp⟩ := flo_arg h
  clear h
  have H0 := Box.new (Below.refl _ w) hg hfp
  have W1 := Lib.hid (awake_any _ H0.han)
  go_enter Tryd.func5, Tryd.ntmps5
  go_wp2_with fail
  refine W1.out.mono ?_
  rintro e w1 ⟨rfl, hB1⟩
  have H1 := H0.below hB1
  clear W1 H0 hB1
  have W2 := Lib.hid (few_any Af f.2.length cf 40 f w1 H1.pts)
  have x0 := H1.c0
  have x1 := H1.c1
  go_wp2_with fail
  refine W2.out.mono ?_
  rintro e w2 ⟨rfl, hB2⟩
  have H2 := H1.below hB2
  clear W2 H1 hB2 x0 x1
  have x0 := H2.c0
  have x1 := H2.c1
  cases hmay : mayB f with
  | false =>
    have P1 := Lib.hid (fput_bad hfb.1 hfb.2 hfby hmay Af f.2.length cf w2 H2.pts)
    go_wp2_with fail
    refine P1.out.mono ?_
    rintro e w3 ⟨rfl, hB3⟩
    have hbel := (H2.below hB3).bel
    cases hfew : fewB f 40
    all_goals
      go_wp2
      go_ret
      exact ⟨rfl, hbel⟩
  | true =>
    have hok : OkF f := ⟨hfb.1, hfb.2, hmay, hfby⟩
    have P1 := Lib.hid (fput_ok hok Af f.2.length cf w2 H2.pts)
    have hlen := flowB_len hok
    have hpby := flowB_byte hok
    have Hok := Lib.hid hok
    clear hok
    go_wp2_with fail
    refine P1.out.mono ?_
    rintro e w3 ⟨B3, cap3, rfl, hc3, hm3, hr3, hB3⟩
    have H3 := H2.below hB3
    clear P1 H2 hB3 x0 x1
    have x0 := H3.c0
    have x1 := H3.c1
    by_cases hgo : fewB f 40 = true ∧ bs.length ≤ 300
    · obtain ⟨hfew, h300⟩ := hgo
      rw [hfew]
      have hd : decide ((300 : Int) < (bs.length : Int)) = false := by simp; omega
      have hmore := getFl_more Hok.out hb
      have hcut := fun j h => getFl_cut Hok.out (k := j) h
      have hab : ∀ x ∈ flowB f ++ bs, x < 256 := fun x hx => by
        rcases List.mem_append.1 hx with h | h
        · exact hpby x h
        · exact hb x h
      have G1 := Lib.hid (fun A' n' c' W h1 h2 h3 h4 h5 => fget_any A' c' n' (flowB f ++ bs) W h1 h2 hab h3 h4 h5)
      have G2 := Lib.hid (fun j A' n' c' W h1 h2 h3 h4 h5 => fget_any A' c' n' ((flowB f).take j) W h1 h2 (fun x hx => hpby x (List.mem_of_mem_take hx)) h3 h4 h5)
      have ha := HO.out.below H3.bel
      have Hmore := Lib.hid hmore
      have Hcut := Lib.hid hcut
      clear hab hmore hcut
      generalize flowB f = fb at *
      have hs3 := H3.bel.size
      go_wp2_with (first
        | (at_builtin; refine wpList_app rfl (.const (.slice none 0 0)) (.tmp 40) 26 rfl w3.heap.size 5 j0 (.int .u8 0) 1 Tryd.underlying26 hj hz0 hz1 hz2 rfl (.slice none 0 0) 0 [] rfl (World.ownsRow_nil _ _ _ _) B3 fb.length cap3 (u8s fb) rfl (by rw [u8s_length]) hr3 (u8s_one _) (by simp only [maxLen]; omega) (by omega) (Nat.le_refl _) ?_; intro v4 w4 hown4 hg4 _; simp only [Nat.zero_add, List.nil_append] at hown4; have hB4 : Below w3.heap.size w3 w4 := (Below.refl _ w3).grown hg4 (Nat.le_refl _) (fun k hk => by cases hk); have ha4 := ha.below hB4)
        | (at_builtin; refine wpList_app rfl (.tmp 41) (.tmp 42) 26 rfl w3.heap.size 5 j0 (.int .u8 0) 1 Tryd.underlying26 hj hz0 hz1 hz2 rfl v4 fb.length (u8s fb) rfl hown4 A bs.length c (u8s bs) rfl (by rw [u8s_length]) ha4 (u8s_one _) (by simp only [maxLen]; omega) (by omega) hB4.size ?_; intro v5 w5 hown5 hg5 _; have hB5 : Below w3.heap.size w3 w5 := hB4.grown hg5 hB4.size (fun k hk => (hown4.lt k hk).1); rw [← u8s_append] at hown5; obtain ⟨A5, c5, rfl, hc5, hm5, hr5⟩ := own_in hown5)
        | fail)
      have H5 := H3.below hB5
      have HG1 := Lib.hid (G1.out A5 (fb.length + bs.length) c5 w5 (by rw [List.length_append]) hc5 (hr5.keeps (Keeps.mono fun x hx => hx.2)) (by omega) H5.han)
      have hr3' := hr3.below hB5
      clear G1 hown4 hown5 ha4 hB4 hB5 H3 x0 x1
      generalize getFl (fb ++ bs) = gf at *
      obtain ⟨f1, E1⟩ := gf
      simp only at HG1 Hmore
      refine HG1.out.mono ?_
      rintro e w6 ⟨A6, c6, rfl, hp6, hB6⟩
      have H6 := (H5.below hB6).alloc (.cells #[.int .u32 f1.1, .slice A6 f1.2.length c6] 25)
      have hr6 := hr3'.below (hB6.trans (((Below.refl _ w6).alloc (o := .cells #[.int .u32 f1.1, .slice A6 f1.2.length c6] 25) (Nat.le_refl _)).mono hB6.size))
      have hbel := H6.bel
      clear HG1 hB6 H5
      have heq : ((E1 : Int) == 0) = ((bs.length : Int) == 0) := by
        have := Hmore.out
        by_cases he : E1 = 0
        · have h2 := this.1 he
          subst h2
          simp [he]
        · have h2 : bs ≠ [] := fun h => he (this.2 h)
          have h3 : bs.length ≠ 0 := fun h => h2 (List.eq_nil_of_length_eq_zero h)
          have h4 : ((E1 : Int) == 0) = false := by rw [beq_eq_false_iff_ne]; omega
          have h5 : ((bs.length : Int) == 0) = false := by rw [beq_eq_false_iff_ne]; omega
          rw [h4, h5]
      clear Hmore
      generalize hq : ((bs.length : Int) == 0) = q at *
      by_cases hin : 0 ≤ k ∧ k < (fb.length : Int)
      · obtain ⟨k', rfl⟩ := Int.eq_ofNat_of_zero_le hin.1
        have hk' : k' < fb.length := by omega
        have hd1 : decide ((k' : Int) < 0) = false := by simp
        have hd2 : decide ((fb.length : Int) ≤ (k' : Int)) = false := by simp; omega
        have hd3 : (k' : Int) ≤ (cap3 : Int) := by omega
        have hd4 : (0 : Int) ≤ (k' : Int) := by omega
        have hcut := Hcut.out k' hk'
        have HG3 := Lib.hid (G2.out k' B3 k' cap3 _ (by rw [List.length_take]; omega) (by omega) (by rw [← u8s_take]; exact hr6.take k') (by omega) H6.han)
        generalize getFl (fb.take k') = gf at *
        obtain ⟨f2, E2⟩ := gf
        simp only at HG3 hcut
        have hE2 : ((E2 : Int) != 0) = true := by rw [bne_iff_ne]; omega
        clear G2
        go_wp2_with fail
        refine HG3.out.mono ?_
        rintro e w7 ⟨A7, c7, rfl, hp7, hB7⟩
        have hbel7 := ((H6.below hB7).alloc (.cells #[.int .u32 f2.1, .slice A7 f2.2.length c7] 25)).bel
        go_wp2
        go_ret
        exact ⟨rfl, hbel7⟩
      · have hor : decide (k < 0) = true ∨ (decide (k < 0) = false ∧ decide ((fb.length : Int) ≤ k) = true) := by
          simp only [decide_eq_true_eq, decide_eq_false_iff_not]; omega
        rcases hor with hd1 | ⟨hd1, hd2⟩
        all_goals
          go_wp2
          go_ret
          exact ⟨by simp, hbel⟩
    · have hor : fewB f 40 = false ∨ (fewB f 40 = true ∧ decide ((300 : Int) < (bs.length : Int)) = true) := by
        cases hf : fewB f 40 with
        | false => exact .inl rfl
        | true =>
          refine .inr ⟨rfl, ?_⟩
          rw [decide_eq_true_iff]
          have : ¬ bs.length ≤ 300 := fun h => hgo ⟨hf, h⟩
          omega
      have hbel := H3.bel
      rcases hor with hf | ⟨hf, hd⟩
      all_goals
        rw [hf]
        go_wp2
        go_ret
        exact ⟨rfl, hbel⟩
end Go.Proofs.YthhkkiegfcofjaaDoor
