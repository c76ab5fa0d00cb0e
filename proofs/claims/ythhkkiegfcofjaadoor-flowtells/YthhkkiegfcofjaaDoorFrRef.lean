/- The contracts of the document's own Put, Get and All: as the program's. Condition: a slice's own bound (2^47 bytes; of All 1,000,000,000). -/
import Derived.Test.YthhkkiegfcofjaaDoorFrCutPlain
import Derived.Test.YthhkkiegfcofjaaDoorFrRows
namespace Go.Proofs.YthhkkiegfcofjaaDoor
open Go.RowKit

set_option maxRecDepth 100000 in
set_option maxHeartbeats 1000000 in
theorem rput_any (k : Int) (A : Option Addr) (c : Nat) (bs : List Nat) (w : World) (hb : ∀ x ∈ bs, x < 256) (hr : Rd w A (u8s bs)) :
    Calls Tryd.prog 28 #[.agg #[.int .i64 k, .slice A bs.length c]] w fun e w' => ∃ B m cap E, e = .returned (.tuple #[.slice B m cap, .int .i64 ((E : Nat) : Int)]) ∧ PutSays k bs w' B m cap E ∧ Below w.heap.size w w' := by
  by_cases h : 0 ≤ k ∧ k ≤ 255 ∧ bs.length ≤ 255
  · obtain ⟨h0, h1, h2⟩ := h
    obtain ⟨q, rfl⟩ := Int.eq_ofNat_of_zero_le h0
    obtain ⟨i0, hi, hz0, hz1, hz2⟩ := info_parts info_u8
    have hk0 : decide ((q : Int) < 0) = false := by rw [decide_eq_false_iff_not]; omega
    have hk1 : decide ((255 : Int) < (q : Int)) = false := by rw [decide_eq_false_iff_not]; omega
    have hk2 : decide ((255 : Int) < (bs.length : Int)) = false := by rw [decide_eq_false_iff_not]; omega
    have hk3 : (q : Int) % 256 = (q : Int) := by omega
    have hk4 : (bs.length : Int) % 256 = (bs.length : Int) := by omega
    have hB0 : Below w.heap.size w ((w.alloc (.cells #[.int .i64 (q : Int), .slice A bs.length c] 50)).alloc (.cells #[.int .u8 (q : Int), .int .u8 (bs.length : Int)] 5)) := ((Below.refl _ w).alloc (Nat.le_refl _) _).alloc (by simp) _
    have hlit : Rd ((w.alloc (.cells #[.int .i64 (q : Int), .slice A bs.length c] 50)).alloc (.cells #[.int .u8 (q : Int), .int .u8 (bs.length : Int)] 5)) (some ⟨w.heap.size + 1, 0, none⟩) (u8s [q, bs.length]) := by
      have := lit_rd (w.alloc (.cells #[.int .i64 (q : Int), .slice A bs.length c] 50)) [q, bs.length]
      rw [show (w.alloc (.cells #[.int .i64 (q : Int), .slice A bs.length c] 50)).heap.size = w.heap.size + 1 by simp] at this
      exact this
    have hbx := (Blk.new w 50 [.int .i64 (q : Int), .slice A bs.length c]).alloc (.cells #[.int .u8 (q : Int), .int .u8 (bs.length : Int)] 5)
    have P1 := Lib.hid (rseal_any (some ⟨w.heap.size + 1, 0, none⟩) 2 2 [q, bs.length] _ rfl (by intro x hx; simp at hx; omega) hlit (by omega))
    have P2 := Lib.hid (fun (W : World) (h : Rd W A (u8s bs)) => rseal_form A c bs.length bs W rfl hb h (by omega))
    have hput : putL q bs = sealL [q, bs.length] ++ sealL bs := rfl
    have hl1 : (sealL [q, bs.length]).length = 6 := head_length q bs.length
    have hl2 : (u8s (sealL bs)).length = bs.length + 4 := by rw [u8s_length, sealL_length]
    have hap : u8s (putL q bs) = u8s (sealL [q, bs.length]) ++ u8s (sealL bs) := by rw [hput, u8s_append]
    have hxo := u8s_one (sealL bs)
    rw [hl1] at P1
    have Hap := Lib.hid hap
    clear hap hput hl1
    go_enter Tryd.func28, Tryd.ntmps28
    go_wp2_with fail
    refine P1.out.mono ?_
    rintro e w1 ⟨v1, rfl, hown1, hB1⟩
    have hB1' := hB0.trans (hB1.mono hB0.size)
    have hbx1 := hbx.below hbx.lt hB1
    have hc1 := hbx1.cell (j := 1) rfl
    have hown1' := own_mono hown1 hB0.size
    clear P1 hbx hB1 hlit hown1 hB0 hbx1
    generalize u8s (sealL [q, bs.length]) = ps1 at *
    generalize u8s (sealL bs) = ps2 at *
    go_wp2_with fail
    refine (P2.out _ (hr.below hB1')).mono ?_
    rintro e w2 ⟨g2, cap2, rfl, hrs2, hB2⟩
    have hB2' := hB1'.trans (hB2.mono hB1'.size)
    have hown2 := own_below hown1' hB2
    go_wp2_with (first
      | (at_builtin; refine wpList_app rfl (.tmp 28) (.tmp 31) 26 rfl w.heap.size 5 i0 (.int .u8 0) 1 Tryd.underlying26 hi hz0 hz1 hz2 rfl _ 6 ps1 rfl hown2 (some ⟨g2, 0, none⟩) (bs.length + 4) cap2 ps2 rfl hl2 hrs2 hxo (by simp only [maxLen]; omega) (by omega) hB2'.size ?_; intro v3 w3 hown3 hg3 _; obtain ⟨A3, c3, hv3e, hc3, hrd3, _⟩ := own_slice hown3; subst hv3e)
      | fail)
    go_ret2
    refine ⟨A3, 6 + (bs.length + 4), c3, 0, rfl, .inl ⟨h0, h1, h2, rfl, by omega, hc3, ?_⟩, hB2'.grown hg3 hB2'.size (fun k hk => (hown2.lt k hk).1)⟩
    rw [show ((q : Int)).toNat = q by omega, Hap.out]
    exact hrd3
  · have hor : decide (k < 0) = true ∨ (decide (k < 0) = false ∧ decide (255 < k) = true) ∨ (decide (k < 0) = false ∧ decide (255 < k) = false ∧ decide ((255 : Int) < (bs.length : Int)) = true) := by
      simp only [decide_eq_true_eq, decide_eq_false_iff_not]; omega
    rcases hor with h0 | ⟨h0, h1⟩ | ⟨h0, h1, h2⟩
    all_goals
      go_enter Tryd.func28, Tryd.ntmps28
      go_wp2
      go_ret2
      exact ⟨none, 0, 0, 1, rfl, .inr ⟨h, rfl, rfl, rfl, rfl⟩, (Below.refl _ w).alloc (Nat.le_refl _) _⟩

set_option maxRecDepth 100000 in
set_option maxHeartbeats 1000000 in
theorem rget_any (A : Option Addr) (c n : Nat) (bs : List Nat) (w : World) (hn : bs.length = n) (hc : n ≤ c) (hb : ∀ x ∈ bs, x < 256) (hr : Rd w A (u8s bs)) (hlen : n ≤ 140737488355328) :
    Calls Tryd.prog 48 #[.slice A n c] w fun e w' => ∃ A' c', e = .returned (.tuple #[.agg #[.int .i64 (getF bs).1, .slice A' (getF bs).2.length c'], .int .i64 (getN bs : Int), .int .i64 (getE bs : Int)]) ∧ (getF bs).2.length ≤ c' ∧ c' ≤ maxLen ∧ RdIn (fun b => w.heap.size ≤ b ∧ b < w'.heap.size) w' A' (u8s (getF bs).2) ∧ Below w.heap.size w w' := by
  obtain ⟨hz, hsz⟩ := zero_of_info info_fr
  have HE := Lib.hid (rfl : getE bs = getE bs)
  have HF := Lib.hid (rfl : getF bs = getF bs)
  have HN := Lib.hid (rfl : getN bs = getN bs)
  generalize hE : getE bs = E at *
  generalize hF : getF bs = F at *
  generalize hN : getN bs = N at *
  have hbad : E ≠ 0 → F = (0, []) ∧ N = 0 := fun h => by subst hE hF hN; exact get_bad h
  clear HE HF HN
  have Hbad := Lib.hid hbad
  clear hbad
  by_cases h6 : n < 6
  · obtain rfl : E = 2 := by rw [← hE]; exact getE_short (by omega)
    have h1 : decide ((n : Int) < 6) = true := by rw [decide_eq_true_eq]; omega
    clear hE hF hN
    go_enter Tryd.func48, Tryd.ntmps48
    go_wp2
    refine ret_cell2 rfl (Blk.new w 50 [.int .i64 0, .slice none 0 0]) Tryd.underlying50 rfl hsz rfl rfl ?_
    obtain ⟨rfl, rfl⟩ := Hbad.out (by omega)
    exact ⟨none, 0, rfl, Nat.le_refl _, Nat.zero_le _, .inl rfl, (Below.refl _ w).alloc (Nat.le_refl _) _⟩
  · obtain ⟨b, off, rfl, hblt, hcs⟩ := hr.at (k := 0) (by simp; omega)
    have HE := Lib.hid hE
    have HF := Lib.hid hF
    have HN := Lib.hid hN
    clear hE hF hN
    have h1 : decide ((n : Int) < 6) = false := by rw [decide_eq_false_iff_not]; omega
    have h2 : 6 ≤ c := by omega
    have h2' : (6 : Int) ≤ (c : Int) := by omega
    have hB0 : Below w.heap.size w (w.alloc (.cells #[.int .i64 0, .slice none 0 0] 50)) := (Below.refl _ w).alloc (Nat.le_refl _) _
    have hblk := Blk.new w 50 [.int .i64 0, .slice none 0 0]
    have G1 := rgood_any (some ⟨b, off, none⟩) c 6 (bs.take 6) _ (by rw [List.length_take]; omega) (by omega) (fun x hx => hb x (List.mem_of_mem_take hx)) (by rw [← u8s_take]; exact (hr.below hB0).take 6) (by omega)
    have HG1 := Lib.hid G1
    clear G1
    go_enter Tryd.func48, Tryd.ntmps48
    go_wp2_with fail
    refine HG1.out.mono ?_
    rintro e w1 ⟨rfl, hB1⟩
    clear HG1
    have hblk1 := hblk.below hblk.lt hB1
    have hB1' : Below w.heap.size w w1 := hB0.trans (hB1.mono hB0.size)
    clear hB1 hB0 hblk
    have hrw1 := (hblk1.set 0 (.int .i64 0)).set 1 (.slice none 0 0)
    have hBr1 := (hB1'.setCell (p := ⟨w.heap.size, 0, none⟩) (Nat.le_refl w.heap.size) (.int .i64 0)).setCell (p := ⟨w.heap.size, 1, none⟩) (Nat.le_refl w.heap.size) (.slice none 0 0)
    have hc0 := hblk1.cell (j := 0) rfl
    have hc1 := hblk1.cell (j := 1) rfl
    have hf0 := hblk1.frozen 0
    have hf1 := hblk1.frozen 1
    cases hgd : goodL (bs.take 6) with
    | false =>
      obtain rfl : E = 3 := by rw [← HE.out]; exact getE_head (by omega) hgd
      go_wp2
      refine ret_cell2 rfl hrw1 Tryd.underlying50 rfl hsz rfl rfl ?_
      obtain ⟨rfl, rfl⟩ := Hbad.out (by omega)
      exact ⟨none, 0, rfl, Nat.le_refl _, Nat.zero_le _, .inl rfl, hBr1⟩
    | true =>
      have hr1 := hr.below hB1'
      obtain ⟨_, _, e1, _, hcell1⟩ := u8s_at hr1 (k := 1) (by omega)
      injection e1 with e1
      injection e1 with e1 e2
      subst e1 e2
      have hd1 : bs.getD 1 0 = bs[1]'(by omega) := by simp [show 1 < bs.length by omega]
      rw [← hd1] at hcell1
      have hs256 : bs.getD 1 0 < 256 := by rw [hd1]; exact hb _ (List.getElem_mem _)
      have hEc := fun h : bs.length < bs.getD 1 0 + 10 => getE_cut (bs := bs) (by omega) hgd h
      have hEs := fun (h : bs.getD 1 0 + 10 ≤ bs.length) hg => getE_sum (bs := bs) (by omega) hgd h hg
      have hEf := fun (h : bs.getD 1 0 + 10 ≤ bs.length) hg => getE_fine (bs := bs) (by omega) hgd h hg
      have hfine := fun h => get_fine (bs := bs) h
      rw [HE.out] at hEc hEs hEf hfine
      rw [HF.out, HN.out] at hfine
      have G2 := fun (h : bs.getD 1 0 + 10 ≤ bs.length) => rgood_any (some ⟨b, off + 6, none⟩) (c - 6) (bs.getD 1 0 + 4) ((bs.drop 6).take (bs.getD 1 0 + 4)) w1 (by rw [List.length_take, List.length_drop]; omega) (by omega) (fun x hx => hb x (List.mem_of_mem_drop (List.mem_of_mem_take hx))) (by rw [← u8s_take, ← u8s_drop]; exact (hr1.drop 6).take _) (by omega)
      have HEc := Lib.hid hEc
      have HEs := Lib.hid hEs
      have HEf := Lib.hid hEf
      have Hfine := Lib.hid hfine
      have HG2 := Lib.hid G2
      clear hEc hEs hEf hfine G2 hd1 hgd
      generalize hsd : bs.getD 1 0 = s at *
      by_cases hcut : bs.length < s + 10
      · obtain rfl : E = 2 := HEc.out hcut
        have hd2 : decide ((n : Int) < 6 + (s : Int) + 4) = true := by rw [decide_eq_true_eq]; omega
        go_wp2
        refine ret_cell2 rfl hrw1 Tryd.underlying50 rfl hsz rfl rfl ?_
        obtain ⟨rfl, rfl⟩ := Hbad.out (by omega)
        exact ⟨none, 0, rfl, Nat.le_refl _, Nat.zero_le _, .inl rfl, hBr1⟩
      · have hd2 : decide ((n : Int) < 6 + (s : Int) + 4) = false := by rw [decide_eq_false_iff_not]; omega
        have h3 : s + 10 ≤ c := by omega
        go_wp2_with fail
        simp only [show 6 + s + 4 - 6 = s + 4 by omega, show 6 + s - 2 = s + 4 by omega]
        refine (HG2.out (by omega)).mono ?_
        rintro e w2 ⟨rfl, hB2⟩
        have hblk2 := hblk1.below hblk1.lt hB2
        have hg2 : w.heap.size < w2.heap.size := hblk2.lt
        have hB2' : Below w.heap.size w w2 := hB1'.trans (hB2.mono hB1'.size)
        clear hc0 hc1 hf0 hf1 hrw1 hBr1 hB2 hblk1 hB1' hcell1 hr1 HG2 HEc
        cases hgb : goodL ((bs.drop 6).take (s + 4)) with
        | false =>
          obtain rfl : E = 3 := HEs.out (by omega) hgb
          have hrw2 := (hblk2.set 0 (.int .i64 0)).set 1 (.slice none 0 0)
          have hBr2 := (hB2'.setCell (p := ⟨w.heap.size, 0, none⟩) (Nat.le_refl w.heap.size) (.int .i64 0)).setCell (p := ⟨w.heap.size, 1, none⟩) (Nat.le_refl w.heap.size) (.slice none 0 0)
          have hc0 := hblk2.cell (j := 0) rfl
          have hc1 := hblk2.cell (j := 1) rfl
          have hf0 := hblk2.frozen 0
          have hf1 := hblk2.frozen 1
          go_wp2
          refine ret_cell2 rfl hrw2 Tryd.underlying50 rfl hsz rfl rfl ?_
          obtain ⟨rfl, rfl⟩ := Hbad.out (by omega)
          exact ⟨none, 0, rfl, Nat.le_refl _, Nat.zero_le _, .inl rfl, hBr2⟩
        | true =>
          obtain rfl : E = 0 := HEf.out (by omega) hgb
          obtain ⟨hF, rfl⟩ := Hfine.out rfl
          have hr2 := hr.below hB2'
          have hlb : ((bs.drop 6).take s).length = s := by rw [List.length_take, List.length_drop]; omega
          have hrb2 : Rd w2 (some ⟨b, off + 6, none⟩) (u8s ((bs.drop 6).take s)) := by rw [← u8s_take, ← u8s_drop]; exact (hr2.drop 6).take _
          obtain ⟨_, _, e1, hb2, hcell0⟩ := u8s_at hr2 (k := 0) (by omega)
          injection e1 with e1
          injection e1 with e1 e2
          subst e1 e2
          have hd0 : bs.getD 0 0 = bs[0]'(by omega) := by simp [show 0 < bs.length by omega]
          rw [← hd0, Nat.add_zero] at hcell0
          have hk0 : bs.getD 0 0 < 256 := by rw [hd0]; exact hb _ (List.getElem_mem _)
          have HF2 := Lib.hid hF
          have Hlb := Lib.hid hlb
          have hn0 : 0 < n := by omega
          clear hF hd0 hgb HEs HEf Hfine hlb Hbad
          generalize bs.getD 0 0 = k0 at *
          generalize (bs.drop 6).take s = body at *
          have hc6 : ¬ c = 6 := by omega
          have hs4 : 6 + s ≤ c := by omega
          have hs5 : 6 + (s : Int) ≤ (c : Int) := by omega
          have hs6 : (6 : Int) ≤ 6 + (s : Int) := by omega
          have hs7 : (0 : Int) ≤ 6 + (s : Int) := by omega
          have hs8 : 6 + s - 6 = s := by omega
          have hs9 : (6 + (s : Int)).toNat = 6 + s := by omega
          have hw6 : IntKind.i64.wrap (6 + (s : Int)) = 6 + (s : Int) := IntWalk.i64_in _ (by omega)
          have hw10 : IntKind.i64.wrap (10 + (s : Int)) = 10 + (s : Int) := IntWalk.i64_in _ (by omega)
          have hwk : IntKind.i64.wrap (k0 : Int) = (k0 : Int) := IntWalk.i64_in _ (by omega)
          go_wp2_with fail
          refine sch_start [(0, true), (1, true), (2, true), (3, true), (4, true), (5, true), (6, true), (7, true), (10, true), (11, true), (8, false), (9, true), (12, false), (13, true), (14, true)]
            (fun W => W.cell? ⟨b, off, none⟩ = some (.int .u8 (k0 : Int))) (by kernel_rfl) rfl (by kernel_rfl) (fun _ _ _ _ _ h => h) hcell0 (fun hH => ?_)
          repeat (first | (refine sch_yes (v := ?_) rfl rfl ?_ hH ?_; rotate_left; (focus ((intro W hW; go_simp) <;> with_reducible rfl)); simp only [Act.put, List.setIfInBounds_toArray, List.set_cons_zero, List.set_cons_succ]) | (refine sch_no rfl rfl hH ?_; simp only [Act.put, List.setIfInBounds_toArray, List.set_cons_zero, List.set_cons_succ]))
          refine sch_call rfl rfl (fun K hK => ?_)
          obtain ⟨i0, hi, hz0, hz1, hz2⟩ := info_parts info_u8
          refine wp_app (.const (.slice none 0 0)) (.tmp 45) 26 rfl w2.heap.size 5 i0 (.int .u8 0) 1 Tryd.underlying26 hi hz0 hz1 hz2 rfl (.slice none 0 0) 0 [] rfl (World.ownsRow_nil _ _ _ _) (some ⟨b, off + 6, none⟩) s (c - 6) (u8s body) rfl (by rw [u8s_length, Hlb.out]) hrb2 (u8s_one _) (by simp only [maxLen]; omega) (by omega) (Nat.le_refl _) ?_
          intro v3 w3 hown3 hg3 _
          simp only [Nat.zero_add, List.nil_append] at hown3
          obtain ⟨A', c', rfl, hc', hm', hrd⟩ := own_in hown3
          have hB3 : Below w2.heap.size w2.drew w3 := (Below.refl _ w2.drew).grown hg3 (Nat.le_refl _) (fun k hk => by cases hk)
          have hblk3 := Blk.below (w := w2.drew) hblk2 hg2 hB3
          have hcell3 : w3.cell? ⟨b, off, none⟩ = some (.int .u8 (k0 : Int)) := (hB3.cell (p := ⟨b, off, none⟩) hb2).trans hcell0
          have hB3' : Below w.heap.size w w3 := hB2'.drew.trans (hB3.mono hB2'.size)
          refine hK.out _ _ hcell3 ?_
          simp only [Act.put, List.setIfInBounds_toArray, List.set_cons_zero, List.set_cons_succ]
          clear hK hH hblk2 hB3 hcell0 hown3 hg3
          have hH := hcell3
          have hrw3 := (hblk3.set 0 (.int .i64 (k0 : Int))).set 1 (.slice A' s c')
          have hBr3 := (hB3'.setCell (p := ⟨w.heap.size, 0, none⟩) (Nat.le_refl w.heap.size) (.int .i64 (k0 : Int))).setCell (p := ⟨w.heap.size, 1, none⟩) (Nat.le_refl w.heap.size) (.slice A' s c')
          have hkp : Keeps (fun x => w2.heap.size ≤ x ∧ x < w3.heap.size) (fun x => w.heap.size ≤ x ∧ x < ((w3.setCell ⟨w.heap.size, 0, none⟩ (.int .i64 (k0 : Int))).setCell ⟨w.heap.size, 1, none⟩ (.slice A' s c')).heap.size) w3 ((w3.setCell ⟨w.heap.size, 0, none⟩ (.int .i64 (k0 : Int))).setCell ⟨w.heap.size, 1, none⟩ (.slice A' s c')) := fun x ⟨h1, h2⟩ =>
            ⟨⟨by omega, by simpa using h2⟩, (heap_setCell_other _ _ x _ (by simp; omega)).trans (heap_setCell_other _ _ x _ (by simp; omega))⟩
          have hrd4 := hrd.keeps hkp
          have hcell4 : ((w3.setCell ⟨w.heap.size, 0, none⟩ (.int .i64 (k0 : Int))).setCell ⟨w.heap.size, 1, none⟩ (.slice A' s c')).cell? ⟨b, off, none⟩ = some (.int .u8 (k0 : Int)) :=
            (World.cell?_of_block (w := w3) (a := ⟨b, off, none⟩) ((heap_setCell_other _ _ b _ (by simp; omega)).trans (heap_setCell_other _ _ b _ (by simp; omega)))).trans hcell3
          have hc0 := hblk3.cell (j := 0) rfl
          have hc1 := hblk3.cell (j := 1) rfl
          have hf0 := hblk3.frozen 0
          have hf1 := hblk3.frozen 1
          have Hrd4 := Lib.hid hrd4
          have Hcell4 := Lib.hid hcell4
          clear hrd4 hkp hrd hcell4
          repeat (first | (refine sch_yes (v := ?_) rfl rfl ?_ hH ?_; rotate_left; (focus ((intro W hW; go_simp) <;> with_reducible rfl)); simp only [Act.put, List.setIfInBounds_toArray, List.set_cons_zero, List.set_cons_succ]) | (refine sch_no rfl rfl hH ?_; simp only [Act.put, List.setIfInBounds_toArray, List.set_cons_zero, List.set_cons_succ]))
          refine sch_call rfl rfl (fun K hK => ?_)
          go_wp2_with fail
          refine hK.out _ _ Hcell4.out ?_
          clear hK hH
          have hH := Hcell4.out
          repeat (first | (refine sch_yes (v := ?_) rfl rfl ?_ hH ?_; rotate_left; (focus ((intro W hW; go_simp) <;> with_reducible rfl)); simp only [Act.put, List.setIfInBounds_toArray, List.set_cons_zero, List.set_cons_succ]) | (refine sch_no rfl rfl hH ?_; simp only [Act.put, List.setIfInBounds_toArray, List.set_cons_zero, List.set_cons_succ]))
          refine sch_done ?_
          go_wp2
          refine ret_cell2 rfl hrw3 Tryd.underlying50 rfl hsz rfl rfl ?_
          have hF := HF2.out
          subst hF
          exact ⟨A', c', by simp only [Hlb.out]; congr 4; go_num, by rw [Hlb.out]; exact hc', hm', Hrd4.out, hBr3⟩
end Go.Proofs.YthhkkiegfcofjaaDoor
