/- FrameBack's walk. -/
import Derived.Test.YtikpgacapaebkaaFrLawHead
namespace Go.Proofs.Ytikpgacapaebkaa
open Go.RowKit

theorem get_back {bs : List Nat} (hb : ∀ x ∈ bs, x < 256) (h : getE bs = 0) : ∃ k0 : Nat, k0 < 256 ∧ (getF bs).1 = (k0 : Int) ∧ (getF bs).2.length < 256 ∧ getN bs = (getF bs).2.length + 10 ∧ putL k0 (getF bs).2 = bs.take (getN bs) ∧ getN bs ≤ bs.length := by
  obtain ⟨hF, hN⟩ := get_fine h
  obtain ⟨h6, _, hl, _⟩ := get_ok h
  have hlt : ∀ j, j < bs.length → bs.getD j 0 < 256 := fun j hj => by
    have : bs.getD j 0 = bs[j] := by simp [hj]
    rw [this]; exact hb _ (List.getElem_mem hj)
  have h1 := hlt 1 (by omega)
  have hlen : ((bs.drop 6).take (bs.getD 1 0)).length = bs.getD 1 0 := by rw [List.length_take, List.length_drop]; omega
  refine ⟨bs.getD 0 0, hlt 0 (by omega), by rw [hF], by rw [hF]; simp only; omega, by rw [hF, hN]; simp only; omega, by rw [hF, hN]; exact put_get h, by omega⟩

set_option maxRecDepth 100000 in
set_option maxHeartbeats 2000000 in
theorem frameBack_walk (w : World) (cs : Array Value) (f : Fra) (hf : rFra (All w) w cs.toList f) (A2 : Option Addr) (c2 : Nat) (bs : List Nat) (hl2 : bs.length ≤ c2) (_hm : c2 ≤ maxLen) (hb : ∀ x ∈ bs, x < 256) (hr2 : Rd w A2 (u8s bs)) :
    Calls Try.prog 4 #[.agg cs, .slice A2 bs.length c2] w fun e w' => e = .returned (.bool true) ∧ Below w.heap.size w w' := by
  obtain ⟨A, c, rfl, hlc, hcm, hby, hkb, hrd⟩ := fra_arg hf
  obtain ⟨k, body⟩ := f
  simp only at hlc hby hkb hrd ⊢
  clear hf
  obtain ⟨hz, hsz⟩ := zero_of_info info_fr
  obtain ⟨i0, hi, hz0, hz1, hz2⟩ := info_parts info_u8
  have hB0 : Below w.heap.size w (w.alloc (.cells #[.int .i64 k, .slice A body.length c] 24)) := (Below.refl _ w).alloc (Nat.le_refl _) _
  have hbx := Blk.new w 24 [.int .i64 k, .slice A body.length c]
  have AW := Lib.hid (awake_any (w.alloc (.cells #[.int .i64 k, .slice A body.length c] 24)))
  by_cases h600 : body.length ≤ 600 ∧ bs.length ≤ 600
  · obtain ⟨h6a, h6b⟩ := h600
    have hd6a : decide ((600 : Int) < (body.length : Int)) = false := by rw [decide_eq_false_iff_not]; omega
    have hd6b : decide ((600 : Int) < (bs.length : Int)) = false := by rw [decide_eq_false_iff_not]; omega
    have G2 := Lib.hid (fun W h => get_any A2 c2 bs.length bs W rfl hl2 hb h (by omega))
    have hback := fun h => get_back (bs := bs) hb h
    have hbad := fun h => get_bad (bs := bs) h
    have hFb := getF_byte hb
    generalize getE bs = E at *
    generalize getF bs = F at *
    generalize getN bs = N at *
    have Hback := Lib.hid hback
    have Hbad := Lib.hid hbad
    clear hback hbad
    go_enter Try.func4, Try.ntmps4
    go_wp2_with fail
    refine AW.out.mono ?_
    rintro e w1 ⟨rfl, hB1⟩
    have hbx1 := hbx.below hbx.lt hB1
    have hB1' := hB0.trans (hB1.mono hB0.size)
    clear AW hB0 hB1 hbx
    have hc0 := hbx1.cell (j := 0) rfl
    have hc1 := hbx1.cell (j := 1) rfl
    go_wp2_with fail
    by_cases hok : 0 ≤ k ∧ k ≤ 255 ∧ body.length ≤ 255
    · obtain ⟨hk0, hk1, hl⟩ := hok
      obtain ⟨q, rfl⟩ := Int.eq_ofNat_of_zero_le hk0
      have hpl := putL_length q body
      have hpb := putL_byte (k := q) (b := body) (by omega) (by omega) hby
      have G1 := fun (W : World) (A : Option Addr) (c : Nat) (hc : body.length + 10 + bs.length ≤ c) (h : Rd W A (u8s (putL q body) ++ u8s bs)) => get_any A c (body.length + 10 + bs.length) (putL q body ++ bs) W (by rw [List.length_append, hpl]) hc (by intro x hx; rcases List.mem_append.1 hx with h | h; exact hpb x h; exact hb x h) (by rw [u8s_append]; exact h) (by omega)
      rw [get_put, getF_put, getN_put] at G1
      have HG1 := Lib.hid G1
      have P1 := Lib.hid (put_ok q A body.length c body w1 (by omega) rfl (by omega) hby (hrd.below hB1'))
      have S1 := Lib.hid (fun W A1 c1 A2 c2 h1 h2 => same_any A1 A2 (q : Int) (q : Int) body.length c1 body.length c2 body body W rfl rfl hby hby h1 h2)
      have hxl : (u8s (putL q body)).length = body.length + 10 := by rw [u8s_length, hpl]
      have hxo := u8s_one (putL q body)
      clear G1 hpb hpl
      generalize u8s (putL q body) = ps at *
      refine P1.out.mono ?_
      rintro e w2 ⟨g, cap, rfl, hcap, hg, hgl, hrp, hB2⟩
      have hB2' := hB1'.trans (hB2.mono hB1'.size)
      have hbx2 := hbx1.below hbx1.lt hB2
      have hr22 := hr2.below hB2'
      clear hB2 hB1' hc0 hc1 hbx1 P1
      go_wp2_with (first
        | (at_builtin; refine wpList_app rfl (.const (.slice none 0 0)) (.tmp 39) 22 rfl w2.heap.size 5 i0 (.int .u8 0) 1 Try.underlying22 hi hz0 hz1 hz2 rfl (.slice none 0 0) 0 [] rfl (World.ownsRow_nil _ _ _ _) (some ⟨g, 0, none⟩) (body.length + 10) cap ps rfl hxl hrp hxo (by simp only [maxLen]; omega) (by omega) (Nat.le_refl _) ?_; intro v3 w3 hown3 hg3 _; simp only [Nat.zero_add, List.nil_append] at hown3; have hB3 : Below w2.heap.size w2 w3 := (Below.refl _ w2).grown hg3 (Nat.le_refl _) (fun k hk => by cases hk); have hr23 := hr22.below hB3; have hsz3 := hg3.size)
        | (at_builtin; refine wpList_app rfl (.tmp 40) (.tmp 41) 22 rfl w2.heap.size 5 i0 (.int .u8 0) 1 Try.underlying22 hi hz0 hz1 hz2 rfl v3 (body.length + 10) ps rfl hown3 A2 bs.length c2 (u8s bs) rfl (u8s_length _) hr23 (u8s_one _) (by simp only [maxLen]; omega) (by omega) hsz3 ?_; intro v4 w4 hown4 hg4 _; obtain ⟨A4, c4, hv4e, hc4, hrd4, _⟩ := own_slice hown4; subst hv4e)
        | fail)
      have hB4 : Below w2.heap.size w2 w4 := hB3.grown hg4 hsz3 (fun k hk => (hown3.lt k hk).1)
      have hB4' := hB2'.trans (hB4.mono hB2'.size)
      have hbx4 := hbx2.below hbx2.lt hB4
      clear hg3 hg4 hown3 hown4 hB3 hB4 hr23 hr22 hB2' hbx2
      refine (HG1.out _ A4 c4 hc4 hrd4).mono ?_
      rintro e w5 ⟨A5, c5, rfl, hc5, hm5, hrd5, hB5⟩
      have hbx5 := hbx4.below hbx4.lt hB5
      have hB5' := hB4'.trans (hB5.mono hB4'.size)
      have hrd5' : Rd w5 A5 (u8s body) := RdIn.rd (hrd5.keeps (Keeps.mono fun _ h => h.2))
      have hA6 : Below w5.heap.size w5 (w5.alloc (.cells #[.int .i64 (q : Int), .slice A5 body.length c5] 24)) := (Below.refl _ w5).alloc (Nat.le_refl _) _
      have hbx6 := hbx5.below hbx5.lt hA6
      have hB6' := hB5'.trans (hA6.mono hB5'.size)
      have hc0 := hbx6.cell (j := 0) rfl
      have hc1 := hbx6.cell (j := 1) rfl
      have hS := S1.out _ A5 c5 A c (hrd5'.below hA6) (hrd.below hB6')
      rw [show ((q : Int) == (q : Int) && body == body) = true by simp] at hS
      have HS := Lib.hid hS
      have hw10 : IntKind.i64.wrap ((body.length : Int) + 10) = (body.length : Int) + 10 := IntWalk.i64_in _ (by omega)
      have hne1 : (((body.length : Int) + 10) != ((body.length : Int) + 10)) = false := by simp
      clear hbx4 hbx5 hB4' hB5 hB5' hrd5 hrd5' hA6 hbx6 HG1 S1 hS hrp
      go_wp2_with fail
      refine HS.out.mono ?_
      rintro e w7 ⟨rfl, hB7⟩
      have hB2' := hB6'.trans (hB7.mono hB6'.size)
      clear HS hB7 hB6' hc0 hc1
      have hr3 := hr2.below hB2'
      go_wp2_with fail
      refine (G2.out _ hr3).mono ?_
      rintro e w3 ⟨A3, c3, rfl, hc3, hm3, hrd3, hB3⟩
      have hB3' := hB2'.trans (hB3.mono hB2'.size)
      have hrd3' : Rd w3 A3 (u8s F.2) := RdIn.rd (hrd3.keeps (Keeps.mono fun _ h => h.2))
      clear hB3 hB2' hr3 hrd3 G2
      by_cases hE : E = 0
      · subst hE
        obtain ⟨k0, hk0, hF1, hF2, hN, hput, hNl⟩ := Hback.out rfl
        obtain ⟨F1, F2⟩ := F
        simp only at hF1 hF2 hN hput hrd3' hFb hc3
        subst hF1 hN
        have hAl : Below w3.heap.size w3 (w3.alloc (.cells #[.int .i64 (k0 : Int), .slice A3 F2.length c3] 24)) := (Below.refl _ w3).alloc (Nat.le_refl _) _
        have P2 := put_ok k0 A3 F2.length c3 F2 _ hk0 rfl hF2 hFb (hrd3'.below hAl)
        rw [hput] at P2
        have HP2 := Lib.hid P2
        have htl : (bs.take (F2.length + 10)).length = F2.length + 10 := by rw [List.length_take]; omega
        have hB4' := hB3'.trans (hAl.mono hB3'.size)
        clear P2 hput hAl hrd3' Hback Hbad
        go_wp2_with fail
        refine HP2.out.mono ?_
        rintro e w4 ⟨g4, cap4, rfl, hcap4, _, _, hrp4, hB4⟩
        have hB5' := hB4'.trans (hB4.mono hB4'.size)
        have hr5 := hr2.below hB5'
        obtain ⟨b, off, rfl, hblt, _⟩ := hr5.at (k := 0) (by rw [u8s_length]; omega)
        have hcv1 := conv_str (P := Try.prog) w4.drew _ _ _ Try.underlying22 Try.underlying5 Try.underlying9 (some ⟨g4, 0, none⟩) (bs.take (F2.length + 10)) (F2.length + 10) cap4 htl hrp4
        have hcv2 := conv_str (P := Try.prog) w4.drew _ _ _ Try.underlying22 Try.underlying5 Try.underlying9 (some ⟨b, off, none⟩) (bs.take (F2.length + 10)) (F2.length + 10) c2 htl (by rw [← u8s_take]; exact hr5.take _)
        generalize bs.take (F2.length + 10) = tb at *
        have hq1 : (((F2.length : Int) + 10) == ((F2.length : Int) + 10)) = true := by simp
        have hq2 : decide ((F2.length : Int) + 10 ≤ (bs.length : Int)) = true := by rw [decide_eq_true_eq]; omega
        have hq3 : ((strB tb).toList == (strB tb).toList) = true := by simp
        have hq4 : (0 : Int) ≤ (F2.length : Int) + 10 := by omega
        have hq5 : (F2.length : Int) + 10 ≤ (c2 : Int) := by omega
        have hq6 : F2.length + 10 ≤ c2 := by omega
        have hq8 : ((F2.length : Int) + 10).toNat = F2.length + 10 := by omega
        have hq7 : IntKind.i64.wrap ((F2.length : Int) + 10) = (F2.length : Int) + 10 := IntWalk.i64_in _ (by omega)
        clear HP2 hB4 hB4' hrp4
        go_wp2_with fail
        refine sch_start [(0, true), (1, true), (2, true), (3, true), (4, true), (5, true), (6, true), (7, true), (8, true), (9, true), (10, true), (11, true), (12, true), (13, true), (14, true), (15, true), (16, true), (17, true), (18, true), (19, true), (20, true), (21, true), (22, true), (23, true)]
          (fun W => (convert 22 9 (.slice (some ⟨g4, 0, none⟩) (F2.length + 10) cap4)).run Try.prog W = .ok (.string (strB tb)) W ∧ (convert 22 9 (.slice (some ⟨b, off, none⟩) (F2.length + 10) c2)).run Try.prog W = .ok (.string (strB tb)) W) (by kernel_rfl) rfl (by kernel_rfl) (fun _ _ _ _ _ h => h) ⟨hcv1, hcv2⟩ (fun hH => ?_)
        repeat (first | (refine sch_yes (v := ?_) rfl rfl ?_ hH ?_; rotate_left; (focus ((rintro W ⟨hW1, hW2⟩; go_simp) <;> with_reducible rfl)); simp only [Act.put, List.setIfInBounds_toArray, List.set_cons_zero, List.set_cons_succ]) | (refine sch_no rfl rfl hH ?_; simp only [Act.put, List.setIfInBounds_toArray, List.set_cons_zero, List.set_cons_succ]))
        refine sch_done ?_
        go_wp2
        go_ret
        exact ⟨rfl, hB5'.drew⟩
      · obtain ⟨rfl, rfl⟩ := Hbad.out hE
        have hEd : ((E : Int) != 0) = true := by rw [bne_iff_ne]; omega
        go_wp2
        go_ret
        exact ⟨rfl, hB3'.alloc hB3'.size _⟩
    · refine (put_bad k A body.length c w1 hok).mono ?_
      rintro e w2 ⟨rfl, hB2⟩
      have hB2' := hB1'.trans (hB2.mono hB1'.size)
      clear hB2 hB1' hc0 hc1 hbx1
      have hr3 := hr2.below hB2'
      go_wp2_with fail
      refine (G2.out _ hr3).mono ?_
      rintro e w3 ⟨A3, c3, rfl, hc3, hm3, hrd3, hB3⟩
      have hB3' := hB2'.trans (hB3.mono hB2'.size)
      have hrd3' : Rd w3 A3 (u8s F.2) := RdIn.rd (hrd3.keeps (Keeps.mono fun _ h => h.2))
      clear hB3 hB2' hr3 hrd3 G2
      by_cases hE : E = 0
      · subst hE
        obtain ⟨k0, hk0, hF1, hF2, hN, hput, hNl⟩ := Hback.out rfl
        obtain ⟨F1, F2⟩ := F
        simp only at hF1 hF2 hN hput hrd3' hFb hc3
        subst hF1 hN
        have hAl : Below w3.heap.size w3 (w3.alloc (.cells #[.int .i64 (k0 : Int), .slice A3 F2.length c3] 24)) := (Below.refl _ w3).alloc (Nat.le_refl _) _
        have P2 := put_ok k0 A3 F2.length c3 F2 _ hk0 rfl hF2 hFb (hrd3'.below hAl)
        rw [hput] at P2
        have HP2 := Lib.hid P2
        have htl : (bs.take (F2.length + 10)).length = F2.length + 10 := by rw [List.length_take]; omega
        have hB4' := hB3'.trans (hAl.mono hB3'.size)
        clear P2 hput hAl hrd3' Hback Hbad
        go_wp2_with fail
        refine HP2.out.mono ?_
        rintro e w4 ⟨g4, cap4, rfl, hcap4, _, _, hrp4, hB4⟩
        have hB5' := hB4'.trans (hB4.mono hB4'.size)
        have hr5 := hr2.below hB5'
        obtain ⟨b, off, rfl, hblt, _⟩ := hr5.at (k := 0) (by rw [u8s_length]; omega)
        have hcv1 := conv_str (P := Try.prog) w4.drew _ _ _ Try.underlying22 Try.underlying5 Try.underlying9 (some ⟨g4, 0, none⟩) (bs.take (F2.length + 10)) (F2.length + 10) cap4 htl hrp4
        have hcv2 := conv_str (P := Try.prog) w4.drew _ _ _ Try.underlying22 Try.underlying5 Try.underlying9 (some ⟨b, off, none⟩) (bs.take (F2.length + 10)) (F2.length + 10) c2 htl (by rw [← u8s_take]; exact hr5.take _)
        generalize bs.take (F2.length + 10) = tb at *
        have hq1 : (((F2.length : Int) + 10) == ((F2.length : Int) + 10)) = true := by simp
        have hq2 : decide ((F2.length : Int) + 10 ≤ (bs.length : Int)) = true := by rw [decide_eq_true_eq]; omega
        have hq3 : ((strB tb).toList == (strB tb).toList) = true := by simp
        have hq4 : (0 : Int) ≤ (F2.length : Int) + 10 := by omega
        have hq5 : (F2.length : Int) + 10 ≤ (c2 : Int) := by omega
        have hq6 : F2.length + 10 ≤ c2 := by omega
        have hq8 : ((F2.length : Int) + 10).toNat = F2.length + 10 := by omega
        have hq7 : IntKind.i64.wrap ((F2.length : Int) + 10) = (F2.length : Int) + 10 := IntWalk.i64_in _ (by omega)
        clear HP2 hB4 hB4' hrp4
        go_wp2_with fail
        refine sch_start [(0, true), (1, true), (2, true), (3, true), (4, true), (5, true), (6, true), (7, true), (8, true), (9, true), (10, true), (11, true), (12, true), (13, true), (14, true), (15, true), (16, true), (17, true), (18, true), (19, true), (20, true), (21, true), (22, true), (23, true)]
          (fun W => (convert 22 9 (.slice (some ⟨g4, 0, none⟩) (F2.length + 10) cap4)).run Try.prog W = .ok (.string (strB tb)) W ∧ (convert 22 9 (.slice (some ⟨b, off, none⟩) (F2.length + 10) c2)).run Try.prog W = .ok (.string (strB tb)) W) (by kernel_rfl) rfl (by kernel_rfl) (fun _ _ _ _ _ h => h) ⟨hcv1, hcv2⟩ (fun hH => ?_)
        repeat (first | (refine sch_yes (v := ?_) rfl rfl ?_ hH ?_; rotate_left; (focus ((rintro W ⟨hW1, hW2⟩; go_simp) <;> with_reducible rfl)); simp only [Act.put, List.setIfInBounds_toArray, List.set_cons_zero, List.set_cons_succ]) | (refine sch_no rfl rfl hH ?_; simp only [Act.put, List.setIfInBounds_toArray, List.set_cons_zero, List.set_cons_succ]))
        refine sch_done ?_
        go_wp2
        go_ret
        exact ⟨rfl, hB5'.drew⟩
      · obtain ⟨rfl, rfl⟩ := Hbad.out hE
        have hEd : ((E : Int) != 0) = true := by rw [bne_iff_ne]; omega
        go_wp2
        go_ret
        exact ⟨rfl, hB3'.alloc hB3'.size _⟩
  · have hor : decide ((600 : Int) < (body.length : Int)) = true ∨ (decide ((600 : Int) < (body.length : Int)) = false ∧ decide ((600 : Int) < (bs.length : Int)) = true) := by
      simp only [decide_eq_true_eq, decide_eq_false_iff_not]; omega
    go_enter Try.func4, Try.ntmps4
    go_wp2_with fail
    refine AW.out.mono ?_
    rintro e w1 ⟨rfl, hB1⟩
    have hc1 := (hbx.below hbx.lt hB1).cell (j := 1) rfl
    rcases hor with h0 | ⟨h0, h1⟩
    all_goals
      go_wp2
      go_ret
      exact ⟨rfl, hB0.trans (hB1.mono hB0.size)⟩
end Go.Proofs.Ytikpgacapaebkaa
