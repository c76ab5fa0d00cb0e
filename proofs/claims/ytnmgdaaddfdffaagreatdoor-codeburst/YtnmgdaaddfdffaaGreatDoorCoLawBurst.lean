/- CodeBurst: damaged, cut or longer bytes of a graph are refused. Conditions: the table of kinds' texts, and the variable errors.errorType, are laid. -/
import Derived.Test.YtnmgdaaddfdffaaGreatDoorCoAwake
import Derived.Test.YtnmgdaaddfdffaaGreatDoorGCanon
import Derived.Test.YtnmgdaaddfdffaaGreatDoorFlKit
import Derived.Test.YtnmgdaaddfdffaaGreatDoorFlBurstPlain
import Derived.Test.YtnmgdaaddfdffaaGreatDoorGFrame
import Derived.BigQuiet
namespace Go.Proofs.YtnmgdaaddfdffaaGreatDoor
open Go.RowKit

set_option maxRecDepth 100000 in
set_option maxHeartbeats 4000000 in
theorem codeBurst_walk (w : World) (hL : Kt w ∧ Han w) (cs : Array Value) (g : Gr) (h : rGr (All w) w cs.toList g) (k : Int) (hk0 : -9223372036854775808 ≤ k) (hk1 : k ≤ 9223372036854775807) (mask : Nat) (hmask : mask < 4294967296) (a : Int) (ha0 : -9223372036854775808 ≤ a) (ha1 : a ≤ 9223372036854775807) (P : Option Addr) (pc : Nat) (bs : List Nat) (hl : bs.length ≤ pc) (_hm : pc ≤ maxLen) (hb : ∀ x ∈ bs, x < 256) (hr : Rd w P (u8s bs)) :
    Calls Tryz.prog 6 #[.agg cs, .int .i64 k, .int .u32 (mask : Int), .int .i64 a, .slice P bs.length pc] w fun e w' => e = .returned (.bool true) ∧ Below w.heap.size w w' := by
  obtain ⟨j0, hj, hz0, hz1, hz2⟩ := info_parts info_u8
  obtain ⟨A, c, B, d, C, e, rfl, h⟩ := gr_arg h
  have hB0 : Below w.heap.size w (w.alloc (.cells #[.slice A g.1.length c, .slice B g.2.1.length d, .slice C g.2.2.length e] 28)) := (Below.refl _ w).alloc (Nat.le_refl _) _
  have p1 := Blk.new w 28 [.slice A g.1.length c, .slice B g.2.1.length d, .slice C g.2.2.length e]
  have TF := Lib.hid (fun W (hW : Below w.heap.size w W) => gfew_any A B C g.1.length c g.2.1.length d g.2.2.length e g W (gr_below hW h))
  have TP := Lib.hid (fun W (hW : Below w.heap.size w W) => cput_any A B C g.1.length c g.2.1.length d g.2.2.length e g W (hL.1.below hW) (gr_below hW h))
  have HK := Lib.hid (fun W (hW : Below w.heap.size w W) => hL.1.below hW)
  have HG := Lib.hid (fun W (hW : Below w.heap.size w W) => hL.2.below hW)
  have HO := Lib.hid (fun W (hW : Below w.heap.size w W) => hr.below hW)
  have Hok := Lib.hid (gr_ok h)
  have Hb := Lib.hid hb
  clear h hL hr _hm hb
  have H0 := Lib.hid hB0
  clear hB0
  generalize fewG g = few at *
  generalize g.1.length = N at *
  generalize g.2.1.length = M at *
  generalize g.2.2.length = K at *
  go_enter Tryz.func6, Tryz.ntmps6
  go_wp2_with fail
  refine (codeawake_any _ (HK.out _ H0.out) (HG.out _ H0.out)).mono ?_
  rintro r w1 ⟨rfl, hB1⟩
  have H1 := Lib.hid (H0.out.trans (hB1.mono H0.out.size))
  replace p1 := p1.to hB1
  clear hB1 H0
  have c0 := p1.cell (j := 0) rfl
  have c1 := p1.cell (j := 1) rfl
  have c2 := p1.cell (j := 2) rfl
  go_wp2_with fail
  refine (TF.out _ H1.out).mono ?_
  rintro r w2 ⟨rfl, hB2⟩
  have H2 := Lib.hid (H1.out.trans (hB2.mono H1.out.size))
  replace p1 := p1.to hB2
  clear hB2 H1 c0 c1 c2 TF
  cases few
  · go_wp2
    go_ret
    exact ⟨rfl, H2.out⟩
  by_cases h300 : bs.length ≤ 300
  rotate_left
  · have hl2 : decide (300 < (bs.length : Int)) = true := decide_eq_true (by omega)
    have hl3 : (300 : Int) < (bs.length : Int) := by omega
    clear h300
    go_wp2
    go_ret
    exact ⟨rfl, H2.out⟩
  have hl3 : ¬ ((300 : Int) < (bs.length : Int)) := by omega
  have c0 := p1.cell (j := 0) rfl
  have c1 := p1.cell (j := 1) rfl
  have c2 := p1.cell (j := 2) rfl
  go_wp2_with fail
  refine (TP.out _ H2.out).mono ?_
  rintro r w3 ⟨B3, m3, cap3, rfl, hm3, hmc3, -, hr3, hB3⟩
  have H3 := Lib.hid (H2.out.trans (hB3.mono H2.out.size))
  clear hB3 H2 c0 c1 c2 TP p1
  by_cases he : codeE g = 0
  rotate_left
  · have hm0 : m3 = 0 := by rw [hm3, codeB, if_neg he]; rfl
    subst hm0
    have he2 : (codeE g != 0) = true := by simpa using he
    clear he hm3 hmc3 hr3
    generalize codeE g = E at *
    go_wp2
    go_ret
    exact ⟨rfl, H3.out⟩
  rw [he]
  have hokF := code_okF Hok.out he
  have hB : codeB g = flowB (codeF g) := if_pos he
  have hmore := code_more (r := bs) Hok.out he Hb.out
  have hcut := fun j h => code_cut (k := j) Hok.out he h
  rw [hB] at hm3 hr3 hmore hcut
  have hlen := flowB_len hokF
  have hpby := flowB_byte hokF
  have C1 := Lib.hid (fcuts_ok hokF B3 _ cap3 w3 rfl (by omega) hr3)
  have hfit := framesF_fit hokF
  have hfl := framesF_length (codeF g)
  have hfew40 := hokF.few
  have hcl := fun i => cutsL_get (fr := framesF (codeF g)) (i := i)
  have hcs := fun i F => cutAt_succ (fr := framesF (codeF g)) (i := i) (F := F)
  have hcle := fun i F => flow_at (fr := framesF (codeF g)) (i := i) (F := F)
  have hburst := fun i F (hi : (framesF (codeF g))[i]? = some F) t ys (hm0 : mask ≠ 0) h1 h2 h3 h4 => code_bad (flow_burst hokF hi (t := t) (ys := ys) hmask hm0 h1 h2 h3 h4)
  have hcat : catL (framesF (codeF g)) = flowB (codeF g) := rfl
  have hcP : ∀ i, (catL ((framesF (codeF g)).take i)).length = cutAt (framesF (codeF g)) i := fun _ => rfl
  have Hcl := Lib.hid hcl
  have Hcs := Lib.hid hcs
  have Hcle := Lib.hid hcle
  have Hburst := Lib.hid hburst
  have Hcat := Lib.hid hcat
  have HcP := Lib.hid hcP
  have Hfit := Lib.hid hfit
  have Hcut := Lib.hid hcut
  have Hmore := Lib.hid hmore
  have hab : ∀ x ∈ flowB (codeF g) ++ bs, x < 256 := fun x hx => by
    rcases List.mem_append.1 hx with h | h
    · exact hpby x h
    · exact Hb.out x h
  have G1 := Lib.hid (fun A' n' c' W h1 h2 h3 h4 h5 h6 => cget_any A' n' c' (flowB (codeF g) ++ bs) W h1 h2 h3 h4 hab h5 h6)
  have G2 := Lib.hid (fun j A' n' c' W h1 h2 h3 h4 h5 h6 => cget_any A' n' c' ((flowB (codeF g)).take j) W h1 h2 h3 h4 (fun x hx => hpby x (List.mem_of_mem_take hx)) h5 h6)
  have FL := Lib.hid (fun a' W h1 h2 h3 => flip_any B3 cap3 (flowB (codeF g)).length (flowB (codeF g)) mask a' W rfl h1 (by omega) hpby h2 hmask h3)
  clear hcl hcs hcle hburst hcat hcP hfit hmore hcut hab hB he hokF Hok Hb
  generalize flowB (codeF g) = fb at *
  generalize framesF (codeF g) = fr at *
  generalize (codeF g).2.length = np at *
  subst hm3
  have HP := Lib.hid (fun W (hW : Below w3.heap.size w3 W) => hr3.below hW)
  go_wp2_with fail
  refine C1.out.mono ?_
  rintro r w4 ⟨A4, c4, rfl, hc4, hm4, hr4, hB4⟩
  have H4 := Lib.hid (H3.out.trans (hB4.mono H3.out.size))
  have HB4 := Lib.hid hB4
  have HR4 := Lib.hid (fun W (hW : Below w4.heap.size w4 W) => hr4.below hW)
  have ho4 := HO.out _ H4.out
  replace hr3 := hr3.below hB4
  clear C1 hB4 hr4 hpby
  simp only [maxLen] at hm4
  go_wp2_with (first
    | (at_builtin; refine wpList_app rfl (.const (.slice none 0 0)) (.tmp 54) 29 rfl w4.heap.size 5 j0 (.int .u8 0) 1 Tryz.underlying29 hj hz0 hz1 hz2 rfl (.slice none 0 0) 0 [] rfl (World.ownsRow_nil _ _ _ _) B3 fb.length cap3 (u8s fb) rfl (by rw [u8s_length]) hr3 (u8s_one _) (by simp only [maxLen]; omega) (by omega) (Nat.le_refl _) ?_; intro v4 w5 hown4 hg4 _; simp only [Nat.zero_add, List.nil_append] at hown4; have hB5 : Below w4.heap.size w4 w5 := (Below.refl _ w4).grown hg4 (Nat.le_refl _) (fun k hk => by cases hk); have ha5 := ho4.below hB5)
    | (at_builtin; refine wpList_app rfl (.tmp 55) (.tmp 56) 29 rfl w4.heap.size 5 j0 (.int .u8 0) 1 Tryz.underlying29 hj hz0 hz1 hz2 rfl v4 fb.length (u8s fb) rfl hown4 P bs.length pc (u8s bs) rfl (by rw [u8s_length]) ha5 (u8s_one _) (by simp only [maxLen]; omega) (by omega) hB5.size ?_; intro v5 w6 hown5 hg5 _; have hB6 : Below w4.heap.size w4 w6 := hB5.grown hg5 hB5.size (fun k hk => (hown4.lt k hk).1); rw [← u8s_append] at hown5; obtain ⟨A5, c5, rfl, hc5, hm5, hr5⟩ := own_in hown5)
    | fail)
  have H6 := Lib.hid (H4.out.trans (hB6.mono H4.out.size))
  have HB6 := Lib.hid hB6
  have HG1 := Lib.hid (G1.out A5 (fb.length + bs.length) c5 w6 (HK.out _ H6.out) (HG.out _ H6.out) (by rw [List.length_append]) hc5 (hr5.keeps (Keeps.mono fun x hx => hx.2)) (by omega))
  clear G1 hown4 hown5 ha5 hB5 hB6 ho4 hr5 hg4 hg5 hr3 H4
  refine HG1.out.mono ?_
  rintro r w7 ⟨A7, n7, c7, B7, m7, d7, C7, k7, e7, rfl, -, hB7⟩
  have hB8 := hB7.alloc (o := .cells #[.slice A7 n7 c7, .slice B7 m7 d7, .slice C7 k7 e7] 28) hB7.size
  have H8 := Lib.hid (H6.out.trans (hB8.mono H6.out.size))
  have HB8 := Lib.hid (HB6.out.trans (hB8.mono HB6.out.size))
  clear hB7 hB8 HG1 H6 HB6
  have hsE : ((codeG (fb ++ bs)).2 == 0) = ((bs.length : Int) == 0) := by
    rw [Bool.eq_iff_iff, beq_iff_eq, beq_iff_eq, Hmore.out]
    constructor
    · rintro rfl; rfl
    · intro h; exact List.eq_nil_of_length_eq_zero (by omega)
  clear Hmore
  generalize (codeG (fb ++ bs)).2 = E1 at *
  generalize hq : ((bs.length : Int) == 0) = q at *
  go_upto_region 10 with fail
  generalize w7.alloc (.cells #[.slice A7 n7 c7, .slice B7 m7 d7, .slice C7 k7 e7] 28) = w8 at *
  have hw1 : IntKind.i64.wrap ((np : Int) + 3 - 1) = (np : Int) + 3 - 1 := IntWalk.i64_in _ (by omega)
  by_cases hin : 0 ≤ k ∧ k < (np : Int) + 2
  rotate_left
  · have hqq : (q != q) = false := by cases q <;> rfl
    have hor : decide (k < 0) = true ∨ (decide (k < 0) = false ∧ decide ((np : Int) + 3 - 1 ≤ k) = true) := by
      simp only [decide_eq_true_eq, decide_eq_false_iff_not]; omega
    clear Hcl Hcs Hcle Hburst Hcat HcP Hfit Hcut G2 FL
    rcases hor with hd1 | ⟨hd1, hd2⟩
    all_goals
      go_wp2
      go_ret
      exact ⟨by simp, H8.out⟩
  obtain ⟨i, rfl⟩ := Int.eq_ofNat_of_zero_le hin.1
  have hi : i < np + 2 := by omega
  obtain ⟨F, hF⟩ : ∃ F, fr[i]? = some F := ⟨fr[i], List.getElem?_eq_getElem (by omega)⟩
  have g0 := Hcl.out i (by omega)
  have g1 := Hcl.out (i + 1) (by omega)
  have hs := Hcs.out i F hF
  have hle := congrArg List.length (Hcle.out i F hF)
  rw [Hcat.out, List.length_append, List.length_append, putL_length, HcP.out] at hle
  have hF2 := (Hfit.out F (List.mem_of_getElem? hF)).2.2.1
  have hbu := Hburst.out i F hF
  rw [hs] at g1
  have Hbu := Lib.hid hbu
  clear hbu Hburst Hcl Hcs Hcle Hcat HcP Hfit hs
  obtain ⟨b4, off4, rfl, -, -⟩ := (HR4.out _ (Below.refl _ w4)).at (k := i) (by rw [i64s_length]; exact (List.getElem?_eq_some_iff.1 g0).1)
  have HC := Lib.hid (fun W (hW : Below w4.heap.size w4 W) => show W.cell? ⟨b4, off4 + i, none⟩ = some (.int .i64 (cutAt fr i : Int)) ∧ W.cell? ⟨b4, off4 + (i + 1), none⟩ = some (.int .i64 ((cutAt fr i + (F.2.length + 10) : Nat) : Int)) from by
    obtain ⟨b, o, he, -, hcx⟩ := (HR4.out W hW).at (k := i) (by rw [i64s_length]; exact (List.getElem?_eq_some_iff.1 g0).1)
    injection he with he
    injection he with he1 he2
    subst he1 he2
    exact ⟨hcx i _ (i64s_get g0), hcx (i + 1) _ (i64s_get g1)⟩)
  clear HR4 g0 g1 hF
  generalize cutAt fr i = ci at *
  generalize F.2.length = fl at *
  have hle2 : ci + (fl + 10) ≤ fb.length := by omega
  clear hle
  have HG2 := Lib.hid (G2.out ci B3 ci cap3 w8 (HK.out _ H8.out) (HG.out _ H8.out) (by rw [List.length_take]; omega) (by omega) (by rw [← u8s_take]; exact (HP.out _ (HB4.out.trans (HB8.out.mono HB4.out.size))).take ci) (by omega))
  have hcut := Hcut.out ci (by omega)
  generalize (codeG (fb.take ci)).2 = E2 at *
  have hE2 : (E2 == 0) = false := by simpa using hcut
  have hE2' : (E2 != 0) = true := by simpa using hcut
  generalize hL1 : ci + (fl + 10) = l1 at *
  have HL1 := Lib.hid hL1
  have hd1 : decide ((i : Int) < 0) = false := by simp
  have hd2 : decide ((np : Int) + 3 - 1 ≤ (i : Int)) = false := by simp; omega
  have hi0 : (0 : Int) ≤ (i : Int) := by omega
  have hi1 : (0 : Int) ≤ (i : Int) + 1 := by omega
  have hi2 : ((i : Int) + 1).toNat = i + 1 := by omega
  have hi3 : IntKind.i64.wrap ((i : Int) + 1) = (i : Int) + 1 := IntWalk.i64_in _ (by omega)
  have hi4 : (i : Int) < (np : Int) + 3 := by omega
  have hi5 : (i : Int) + 1 < (np : Int) + 3 := by omega
  have hd3 : decide ((ci : Int) < 0) = false := by simp
  have hd4 : decide ((fb.length : Int) < (l1 : Int)) = false := by simp; omega
  have hd4' : decide (fb.length < l1) = false := by simp; omega
  have hw2 : IntKind.i64.wrap ((l1 : Int) - (ci : Int)) = (fl : Int) + 10 := by rw [IntWalk.i64_in _ (by omega)]; omega
  have hw3 : IntKind.i64.wrap (8 * ((fl : Int) + 10)) = 8 * ((fl : Int) + 10) := IntWalk.i64_in _ (by omega)
  have hw4 : IntKind.i64.wrap (8 * ((fl : Int) + 10) - 32) = 8 * ((fl : Int) + 10) - 32 := IntWalk.i64_in _ (by omega)
  have hcc0 : (0 : Int) ≤ (ci : Int) := by omega
  have hcc1 : (ci : Int) ≤ (cap3 : Int) := by omega
  obtain ⟨d0, d1⟩ := HC.out _ HB8.out
  have hqq : (q != q) = false := by cases q <;> rfl
  clear hL1 hcut Hcut G2
  go_wp2_with fail
  refine HG2.out.mono ?_
  rintro r w9 ⟨A9, n9, c9, B9, m9, d9, C9, k9, e9, rfl, -, hB9⟩
  have hB10 := hB9.alloc (o := .cells #[.slice A9 n9 c9, .slice B9 m9 d9, .slice C9 k9 e9] 28) hB9.size
  have H10 := Lib.hid (H8.out.trans (hB10.mono H8.out.size))
  have HB10 := Lib.hid (HB8.out.trans (hB10.mono HB8.out.size))
  clear hB9 hB10 HG2 H8 HB8 d0 d1
  go_upto_region 13 with fail
  generalize w9.alloc (.cells #[.slice A9 n9 c9, .slice B9 m9 d9, .slice C9 k9 e9] 28) = w10 at *
  obtain ⟨d0, d1⟩ := HC.out _ HB10.out
  by_cases hall : mask ≠ 0 ∧ 0 ≤ a ∧ a ≤ 8 * ((fl : Int) + 10) - 32
  rotate_left
  · have hor : ((mask : Int) == 0) = true ∨ (((mask : Int) == 0) = false ∧ decide (a < 0) = true) ∨ (((mask : Int) == 0) = false ∧ decide (a < 0) = false ∧ decide (8 * ((fl : Int) + 10) - 32 < a) = true) := by
      simp only [decide_eq_true_eq, decide_eq_false_iff_not, beq_iff_eq, beq_eq_false_iff_ne]; omega
    have hbel := H10.out
    clear Hbu FL
    rcases hor with hm1 | ⟨hm1, hd5⟩ | ⟨hm1, hd5, hd6⟩
    all_goals
      go_wp2_with fail
      go_quiet (fail)
      go_wp2
      go_ret
      exact ⟨rfl, below_drewN hbel nq⟩
  obtain ⟨hm0, hat0, hat1⟩ := hall
  obtain ⟨t, rfl⟩ := Int.eq_ofNat_of_zero_le hat0
  have hl1 := HL1.out
  have hm1 : ((mask : Int) == 0) = false := by rw [beq_eq_false_iff_ne]; omega
  have hd5 : decide ((t : Int) < 0) = false := by simp
  have hd6 : decide (8 * ((fl : Int) + 10) - 32 < (t : Int)) = false := by simp; omega
  have ht32 : t + 32 ≤ 8 * (fl + 10) := by omega
  have hw5 : IntKind.i64.wrap (8 * (ci : Int)) = 8 * (ci : Int) := IntWalk.i64_in _ (by omega)
  have hw6 : IntKind.i64.wrap (8 * (ci : Int) + (t : Int)) = 8 * (ci : Int) + (t : Int) := IntWalk.i64_in _ (by omega)
  have HF1 := Lib.hid (fun W hW => FL.out (8 * ci + t) W (by omega) (HP.out _ hW) (by omega))
  rw [show ((8 * ci + t : Nat) : Int) = 8 * (ci : Int) + (t : Int) by omega] at HF1
  have HG3 := Lib.hid (fun g5 cap5 ys W h1 h2 (h3 : ys.length = fb.length) hy h4 h5 => cget_any (some ⟨g5, 0, none⟩) fb.length cap5 ys W h1 h2 h3 h4 hy h5 (by omega))
  have Hgo2 := Lib.hid (fun ys h1 h2 h3 => Hbu.out t ys hm0 ht32 h1 h2 h3)
  clear FL Hbu d0 d1 hl1
  refine sch_start [(0, true), (1, true), (2, true), (3, true), (4, true), (5, true), (6, true), (7, true), (8, true), (9, true), (10, true), (11, true), (12, true), (13, true), (14, true), (15, true), (16, true), (17, true), (18, true), (19, true), (20, true), (21, true), (22, true), (23, true), (24, true), (25, true)] (fun W => Below w10.heap.size w10 W) (by kernel_rfl) rfl (by kernel_rfl) (fun _ _ _ _ _ h => h) ((Below.refl _ w10).drew) (fun hH => ?_)
  repeat (first | (refine sch_yes (v := ?_) rfl rfl ?_ hH ?_; rotate_left; (focus ((intro W hW; obtain ⟨d0, d1⟩ := HC.out _ (HB10.out.trans (hW.mono HB10.out.size)); go_simp) <;> with_reducible rfl)); simp only [Act.put, List.setIfInBounds_toArray, List.set_cons_zero, List.set_cons_succ]) | (refine sch_no rfl rfl hH ?_; simp only [Act.put, List.setIfInBounds_toArray, List.set_cons_zero, List.set_cons_succ]))
  refine sch_done ?_
  rename World => wd
  have H11 := Lib.hid (H10.out.trans (hH.mono H10.out.size))
  have HB11 := Lib.hid (HB10.out.trans (hH.mono HB10.out.size))
  obtain ⟨d0, d1⟩ := HC.out _ HB11.out
  go_wp2_with fail
  refine (HF1.out _ (HB4.out.trans (HB11.out.mono HB4.out.size))).mono ?_
  rintro r w12 ⟨g5, cap5, ys, rfl, hcap5, hyl, hyb, hyv, hyr, hB12⟩
  have H12 := Lib.hid (H11.out.trans (hB12.mono H11.out.size))
  have hne := Hgo2.out ys hyl hyb hyv
  have HG4 := Lib.hid (HG3.out g5 cap5 ys w12 (HK.out _ H12.out) (HG.out _ H12.out) hyl hyb hcap5 hyr)
  generalize codeG ys = Y at *
  obtain ⟨y, E5⟩ := Y
  simp only at HG4 hne
  have hE5 : (E5 != 0) = true := by simpa using hne
  clear HF1 Hgo2 hyv hyr hB12 d0 d1 HG3
  go_wp2_with fail
  refine HG4.out.mono ?_
  rintro r w13 ⟨Aa, na, ca, Ba, ma, da, Ca, ka, ea, rfl, -, hB13⟩
  have hbel := (H12.out.trans (hB13.mono H12.out.size)).alloc (o := .cells #[.slice Aa na ca, .slice Ba ma da, .slice Ca ka ea] 28) (H12.out.trans (hB13.mono H12.out.size)).size
  go_wp2
  go_ret
  exact ⟨rfl, hbel⟩
end Go.Proofs.YtnmgdaaddfdffaaGreatDoor
