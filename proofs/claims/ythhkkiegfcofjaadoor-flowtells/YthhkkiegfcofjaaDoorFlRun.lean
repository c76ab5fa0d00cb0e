/- The contract of the reader's all: frames, read one after the other by its method values in an array. Condition: the reader lies in a block of its own, the frames lie ahead of it, and each is one that bytes can have. -/
import Derived.Test.YthhkkiegfcofjaaDoorFlPart
namespace Go.Proofs.YthhkkiegfcofjaaDoor
open Go.RowKit

theorem stepS_head {s : RSt} {F : Fra} (hd : s.due = 1) (hF : F.1 = 1) : stepS s F = headS s F.2 := by rw [stepS, if_neg (by rw [hd, hF]; simp), if_pos hF]
theorem stepS_part {s : RSt} {F : Fra} (hd : s.due = 2) (hF : F.1 = 2) : stepS s F = partS s F.2 := by rw [stepS, if_neg (by rw [hd, hF]; simp), if_neg (by omega), if_pos hF]
theorem stepS_tail {s : RSt} {F : Fra} (hd : s.due = 3) (hF : F.1 = 3) : stepS s F = tailS s F.2 := by rw [stepS, if_neg (by rw [hd, hF]; simp), if_neg (by omega), if_neg (by omega)]

theorem info_arr : (Tryd.prog.info? 96).map (fun i => (i.zero, i.size)) = some (some (.agg #[.nilFunc, .nilFunc, .nilFunc, .nilFunc]), 4) := by kernel_rfl

/-- The frame at i of a slice of frames: its two cells, and that its bytes fit their room. -/
theorem fra_at2 {S : Nat → Prop} {w : World} {A0 : Option Addr} {n c : Nat} {l : List Fra} {i : Nat} {f : Fra} (h : rSlice 2 rFra S w [.slice A0 n c] l) (hi : l[i]? = some f) : ∃ b off A c', A0 = some ⟨b, off, none⟩ ∧ S b ∧ w.cell? ⟨b, off + i * 2, none⟩ = some (.int .i64 f.1) ∧ w.cell? ⟨b, off + i * 2 + 1, none⟩ = some (.slice A f.2.length c') ∧ f.2.length ≤ c' ∧ c' ≤ maxLen ∧ (∀ x ∈ f.2, x < 256) ∧ RdIn S w A (u8s f.2) := by
  obtain ⟨A1, c1, xs, hv, hlc, hcm, hr, hl, hch⟩ := h
  obtain ⟨A, c', hcs, hc1, hc2, hby, hwf, hrd⟩ := rFra_open (hch i f hi)
  have hlt := (List.getElem?_eq_some_iff.1 hi).1
  have hA : A0 = A1 := by simp at hv; exact hv.1
  subst hA
  rcases hr with h | ⟨b, off, rfl, hb, hc⟩
  · rw [h] at hl; simp at hl; omega
  · have h0 : xs[i * 2]? = some (.int .i64 f.1) := by
      have := congrArg (fun l : List Value => l[0]?) hcs
      simpa [List.getElem?_take, List.getElem?_drop] using this
    have h1 : xs[i * 2 + 1]? = some (.slice A f.2.length c') := by
      have := congrArg (fun l : List Value => l[1]?) hcs
      simpa [List.getElem?_take, List.getElem?_drop] using this
    exact ⟨b, off, A, c', rfl, hb, hc _ _ h0, by rw [Nat.add_assoc]; exact hc _ _ h1, hc1, hc2, hby, hrd⟩
theorem StepSays.value {B g : Nat} {w w' : World} {r : Option RSt} {e : Ending} (h : StepSays B g w r e w') : Below B w w' ∧ KT w w' ∧ ∃ v, e = .returned v ∧ ((r = none ∧ v = .iface 59 (.agg #[.int .i64 4])) ∨ ∃ s', r = some s' ∧ v = .nilIface ∧ Reads B g s' w') := by
  obtain ⟨h1, h2, h3⟩ := h
  refine ⟨h1, h2, ?_⟩
  rcases h3 with ⟨h4, rfl⟩ | ⟨s', h4, rfl, h5⟩
  · exact ⟨_, rfl, .inl ⟨h4, rfl⟩⟩
  · exact ⟨_, rfl, .inr ⟨s', h4, rfl, h5⟩⟩
theorem Blk.store1 {P : Program} {w : World} {g : Nat} {t : TypeId} {cs : List Value} (h : Blk w g t cs) (j : Nat) (v old : Value) (hj : cs[j]? = some old) (h1 : v.oneCell' = true) : (store ⟨g, j, none⟩ v).run P w = .ok () (w.setCell ⟨g, j, none⟩ v) := by
  rw [run_store P w ⟨g, j, none⟩ v _ h1]
  simp [h.cell hj, h.frozen j]

set_option maxRecDepth 100000 in
set_option maxHeartbeats 1000000 in
theorem run_says (B g : Nat) (s : RSt) (A0 : Option Addr) (n c : Nat) (fr : List Fra) (w : World) (h : Reads B g s w) (hfr : rSlice 2 rFra (fun b => b < B) w [.slice A0 n c] fr) (hfit : ∀ x ∈ fr, Fit x) :
    Calls Tryd.prog 43 #[.pointer (some ⟨g, 0, none⟩), .slice A0 n c] w fun e w' => Below B w w' ∧ ((runS s fr = none ∧ e = .returned (.iface 59 (.agg #[.int .i64 4]))) ∨ ∃ s', runS s fr = some s' ∧ e = .returned .nilIface ∧ Reads B g s' w') := by
  have hglt : g < w.heap.size := by obtain ⟨A, c, xs, h⟩ := h; exact h.blk.lt
  have hlow : B ≤ g := by obtain ⟨A, c, xs, h⟩ := h; exact h.low
  obtain ⟨hn, hnc, hcm⟩ := rows_len hfr
  simp only [maxLen] at hcm
  obtain ⟨hz, hsz⟩ := zero_of_info info_arr
  have hmf : ∀ (fn : Fn) (first cap : Array Value) (w : World), (Instr.makeFunc fn first cap).run Tryd.prog w = .ok (.func fn first cap) w := fun _ _ _ _ => rfl
  have b0 := Blk.new w 96 [.nilFunc, .nilFunc, .nilFunc, .nilFunc]
  have hB0 : Below w.heap.size w (w.alloc (.cells #[.nilFunc, .nilFunc, .nilFunc, .nilFunc] 96)) := (Below.refl _ w).alloc (Nat.le_refl _) _
  generalize hW0 : w.alloc (.cells #[.nilFunc, .nilFunc, .nilFunc, .nilFunc] 96) = W0 at *
  have f0 := b0.store1 (P := Tryd.prog) 0 .nilFunc _ rfl rfl
  have b1 := b0.set 0 .nilFunc
  have hB1 := hB0.setCell (p := ⟨w.heap.size, 0, none⟩) (Nat.le_refl _) .nilFunc
  generalize hW1 : W0.setCell ⟨w.heap.size, 0, none⟩ .nilFunc = W1 at *
  have f1 := b1.store1 (P := Tryd.prog) 1 (.func (.func 56) #[.pointer (some ⟨g, 0, none⟩)] #[]) _ rfl rfl
  have b2 := b1.set 1 (.func (.func 56) #[.pointer (some ⟨g, 0, none⟩)] #[])
  have hB2 := hB1.setCell (p := ⟨w.heap.size, 1, none⟩) (Nat.le_refl _) (.func (.func 56) #[.pointer (some ⟨g, 0, none⟩)] #[])
  generalize hW2 : W1.setCell ⟨w.heap.size, 1, none⟩ _ = W2 at *
  have f2 := b2.store1 (P := Tryd.prog) 2 (.func (.func 57) #[.pointer (some ⟨g, 0, none⟩)] #[]) _ rfl rfl
  have b3 := b2.set 2 (.func (.func 57) #[.pointer (some ⟨g, 0, none⟩)] #[])
  have hB3 := hB2.setCell (p := ⟨w.heap.size, 2, none⟩) (Nat.le_refl _) (.func (.func 57) #[.pointer (some ⟨g, 0, none⟩)] #[])
  generalize hW3 : W2.setCell ⟨w.heap.size, 2, none⟩ _ = W3 at *
  have f3 := b3.store1 (P := Tryd.prog) 3 (.func (.func 58) #[.pointer (some ⟨g, 0, none⟩)] #[]) _ rfl rfl
  have b4 := b3.set 3 (.func (.func 58) #[.pointer (some ⟨g, 0, none⟩)] #[])
  have hB4 := hB3.setCell (p := ⟨w.heap.size, 3, none⟩) (Nat.le_refl _) (.func (.func 58) #[.pointer (some ⟨g, 0, none⟩)] #[])
  generalize hW4 : W3.setCell ⟨w.heap.size, 3, none⟩ _ = W4 at *
  simp only [List.set_cons_zero, List.set_cons_succ] at b4
  clear b0 b1 b2 b3 hB0 hB1 hB2 hB3
  go_enter Tryd.func43, Tryd.ntmps43
  go_wp2_with fail
  have hR4 : Reads B g s W4 := by obtain ⟨A, c, xs, h⟩ := h; exact ⟨A, c, xs, h.below hB4⟩
  have hBB : Below B w W4 := hB4.mono (by omega)
  clear f0 f1 f2 f3 hW0 hW1 hW2 hW3 hW4 hB4 hz hsz hmf h
  go_loopw [18] (fun iv wr => ∃ (i : Nat) (si : RSt), i ≤ n ∧ iv = .int .i64 (i : Int) ∧ Hid (runS s fr = runS si (fr.drop i)) ∧ Reads B g si wr ∧ Below B w wr ∧ Blk wr w.heap.size 96 [.nilFunc, .func (.func 56) #[.pointer (some ⟨g, 0, none⟩)] #[], .func (.func 57) #[.pointer (some ⟨g, 0, none⟩)] #[], .func (.func 58) #[.pointer (some ⟨g, 0, none⟩)] #[]]) (fun iv _ => n - (intOf iv).toNat)
  case atStart => exact ⟨0, s, by omega, rfl, Lib.hid rfl, hR4, hBB, b4⟩
  case round =>
    obtain ⟨i, si, hile, rfl, Hrun, hR, hB, hK⟩ := hrel
    clear b4 hR4 hBB
    by_cases hin : i < n
    · obtain ⟨F, hli⟩ : ∃ F, fr[i]? = some F := ⟨fr[i], List.getElem?_eq_getElem (by omega)⟩
      obtain ⟨b1, off1, A1, c1, rfl, hb1, hx1, hy1, hfc1, hfm1, hby1, hr1⟩ := fra_at2 hfr hli
      have hx1' := (hB.cell (p := ⟨b1, off1 + i * 2, none⟩) hb1).trans hx1
      have hy1' := (hB.cell (p := ⟨b1, off1 + i * 2 + 1, none⟩) hb1).trans hy1
      obtain ⟨hk0, hk1, hk2, _⟩ := hfit F (List.mem_of_getElem? hli)
      have hdrop : fr.drop i = F :: fr.drop (i + 1) := by
        obtain ⟨hlt, he⟩ := List.getElem?_eq_some_iff.1 hli
        rw [List.drop_eq_getElem_cons hlt, he]
      have hrun : runS s fr = (stepS si F).bind fun t => runS t (fr.drop (i + 1)) := by rw [Hrun.out, hdrop]; rfl
      have Hrun2 := Lib.hid hrun
      have Hr1 := Lib.hid hr1
      clear hrun hdrop hli hx1 hy1 Hrun hr1
      have hil : (i : Int) < (n : Int) := by omega
      have hi0 : (0 : Int) ≤ (i : Int) := by omega
      have hBa : Below wr.heap.size wr (wr.alloc (.cells #[.int .i64 F.1, .slice A1 F.2.length c1] 50)) := (Below.refl _ wr).alloc (Nat.le_refl _) _
      have hBw : Below B w (wr.alloc (.cells #[.int .i64 F.1, .slice A1 F.2.length c1] 50)) := by
        obtain ⟨Ar, cr, xr, hR⟩ := hR
        exact hB.trans (hBa.mono (by have := hR.blk.lt; omega))
      obtain ⟨Ar, cr, xr, hRA⟩ := hR
      have hRB := hRA.below hBa
      have hKB := hK.below hK.lt hBa
      have hxb := Blk.new wr 50 [.int .i64 F.1, .slice A1 F.2.length c1]
      have hd3 := hRB.blk.cell (j := 3) rfl
      by_cases hne : F.1 = si.due
      · have hdues := hRA.inv.dues
        rw [← hne] at hdues hd3
        rcases hdues with hd | hd | hd | hd
        · have C1 : ∀ W, Reads B g si W → Rd W A1 (u8s F.2) → Calls Tryd.prog 56 #[.pointer (some ⟨g, 0, none⟩), .slice A1 F.2.length c1] W fun e w' => StepSays B g W (stepS si F) e w' := fun W h1 h2 => by
            rw [stepS_head (hne ▸ hd) hd]
            exact head_says B g si A1 F.2.length c1 F.2 W h1 (hne ▸ hd) rfl hk2 hfc1 hby1 h2
          have HC := Lib.hid C1
          rw [hd] at hx1' hBa hBw hRB hKB hxb hd3
          clear C1 hne hRA hK
          go_wp2_with fail
          go_quiet (fail)
          have hRd := (hRB.below (below_drewN (Below.refl _ _) nq)).below (Below.refl _ _).drew
          have hKd := (hKB.below hKB.lt (below_drewN (Below.refl _ _) nq)).below hKB.lt (Below.refl _ _).drew
          have hxd := (hxb.below hxb.lt (below_drewN (Below.refl _ _) nq)).below hxb.lt (Below.refl _ _).drew
          have hBd := (below_drewN hBw nq).drew
          clear hRB hKB hxb hBw hBa hd3
          generalize (wr.alloc (.cells #[.int .i64 1, .slice A1 F.2.length c1] 50)).drewN nq = wd at *
          have hC2 := Lib.hid (HC.out wd.drew ⟨_, _, _, hRd⟩ ((Hr1.out.keeps (S' := fun b => b < wd.drew.heap.size) fun x hx => ⟨Nat.lt_of_lt_of_le hx (by have := hRd.blk.lt; omega), hBd.block x hx⟩)))
          have hS0 := And.intro (hxd.cell (j := 0) rfl) (And.intro (hxd.cell (j := 1) rfl) (hKd.cell (j := 1) rfl))
          clear HC
          go_wp2_with fail
          refine sch_start [(0, true), (1, true), (2, true), (3, true), (4, true), (5, true), (6, false), (7, true)]
            (fun W => W.cell? ⟨wr.heap.size, 0, none⟩ = some (.int .i64 1) ∧ W.cell? ⟨wr.heap.size, 1, none⟩ = some (.slice A1 F.2.length c1) ∧ W.cell? ⟨w.heap.size, 1, none⟩ = some (.func (.func 56) #[.pointer (some ⟨g, 0, none⟩)] #[])) (by kernel_rfl) rfl (by kernel_rfl) (fun _ _ _ _ _ h => h) hS0 (fun hH => ?_)
          repeat (first | (refine sch_yes (v := ?_) rfl rfl ?_ hH ?_; rotate_left; (focus ((rintro W ⟨hW1, hW2, hW3⟩; go_simp) <;> with_reducible rfl)); simp only [Act.put, List.setIfInBounds_toArray, List.set_cons_zero, List.set_cons_succ]) | (refine sch_no rfl rfl hH ?_; simp only [Act.put, List.setIfInBounds_toArray, List.set_cons_zero, List.set_cons_succ]))
          refine sch_call rfl rfl (fun K hK => ?_)
          go_wp2_with (go_at_call 56; refine hC2.out.mono ?_; intro e w5 hst; obtain ⟨hB5, hK5, v5, rfl, hor⟩ := hst.value)
          have hx5 := hK5 _ _ _ hxd (by decide) (by decide)
          have hk5 := hK5 _ _ _ hKd (by decide) (by decide)
          have hS5 := And.intro (hx5.cell (j := 0) rfl) (And.intro (hx5.cell (j := 1) rfl) (hk5.cell (j := 1) rfl))
          have hB6 := hBd.trans hB5
          clear hH hxd hKd hRd hC2 hS0 hK5 hB5
          rcases hor with ⟨hn5, rfl⟩ | ⟨s5, hs5, rfl, hR5⟩
          · have hnone : runS s fr = none := by rw [Hrun2.out, hn5]; rfl
            have Hn := Lib.hid hnone
            clear hnone hn5
            have hH := hS5
            refine hK.out _ _ hS5 ?_
            clear hK
            repeat (first | (refine sch_yes (v := ?_) rfl rfl ?_ hH ?_; rotate_left; (focus ((rintro W ⟨hW1, hW2, hW3⟩; go_simp) <;> with_reducible rfl)); simp only [Act.put, List.setIfInBounds_toArray, List.set_cons_zero, List.set_cons_succ]) | (refine sch_no rfl rfl hH ?_; simp only [Act.put, List.setIfInBounds_toArray, List.set_cons_zero, List.set_cons_succ]))
            refine sch_done ?_
            go_wp2
            go_ret
            exact ⟨hB6, .inl ⟨Hn.out, rfl⟩⟩
          · have hsome : runS s fr = runS s5 (fr.drop (i + 1)) := by rw [Hrun2.out, hs5]; rfl
            have Hs := Lib.hid hsome
            clear hsome hs5
            have hH := hS5
            refine hK.out _ _ hS5 ?_
            clear hK
            repeat (first | (refine sch_yes (v := ?_) rfl rfl ?_ hH ?_; rotate_left; (focus ((rintro W ⟨hW1, hW2, hW3⟩; go_simp) <;> with_reducible rfl)); simp only [Act.put, List.setIfInBounds_toArray, List.set_cons_zero, List.set_cons_succ]) | (refine sch_no rfl rfl hH ?_; simp only [Act.put, List.setIfInBounds_toArray, List.set_cons_zero, List.set_cons_succ]))
            refine sch_done ?_
            go_wp2
            go_roundw
            case rel => exact ⟨i + 1, s5, by omega, by go_num, Hs, hR5, hB6, hk5⟩
            case measure => simp [intOf]; omega
        · have C1 : ∀ W, Reads B g si W → Rd W A1 (u8s F.2) → Calls Tryd.prog 57 #[.pointer (some ⟨g, 0, none⟩), .slice A1 F.2.length c1] W fun e w' => StepSays B g W (stepS si F) e w' := fun W h1 h2 => by
            rw [stepS_part (hne ▸ hd) hd]
            exact part_says B g si A1 F.2.length c1 F.2 W h1 (hne ▸ hd) rfl hk2 hfc1 hfm1 hby1 h2
          have HC := Lib.hid C1
          rw [hd] at hx1' hBa hBw hRB hKB hxb hd3
          clear C1 hne hRA hK
          go_wp2_with fail
          go_quiet (fail)
          have hRd := (hRB.below (below_drewN (Below.refl _ _) nq)).below (Below.refl _ _).drew
          have hKd := (hKB.below hKB.lt (below_drewN (Below.refl _ _) nq)).below hKB.lt (Below.refl _ _).drew
          have hxd := (hxb.below hxb.lt (below_drewN (Below.refl _ _) nq)).below hxb.lt (Below.refl _ _).drew
          have hBd := (below_drewN hBw nq).drew
          clear hRB hKB hxb hBw hBa hd3
          generalize (wr.alloc (.cells #[.int .i64 2, .slice A1 F.2.length c1] 50)).drewN nq = wd at *
          have hC2 := Lib.hid (HC.out wd.drew ⟨_, _, _, hRd⟩ ((Hr1.out.keeps (S' := fun b => b < wd.drew.heap.size) fun x hx => ⟨Nat.lt_of_lt_of_le hx (by have := hRd.blk.lt; omega), hBd.block x hx⟩)))
          have hS0 := And.intro (hxd.cell (j := 0) rfl) (And.intro (hxd.cell (j := 1) rfl) (hKd.cell (j := 2) rfl))
          clear HC
          go_wp2_with fail
          refine sch_start [(0, true), (1, true), (2, true), (3, true), (4, true), (5, true), (6, false), (7, true)]
            (fun W => W.cell? ⟨wr.heap.size, 0, none⟩ = some (.int .i64 2) ∧ W.cell? ⟨wr.heap.size, 1, none⟩ = some (.slice A1 F.2.length c1) ∧ W.cell? ⟨w.heap.size, 2, none⟩ = some (.func (.func 57) #[.pointer (some ⟨g, 0, none⟩)] #[])) (by kernel_rfl) rfl (by kernel_rfl) (fun _ _ _ _ _ h => h) hS0 (fun hH => ?_)
          repeat (first | (refine sch_yes (v := ?_) rfl rfl ?_ hH ?_; rotate_left; (focus ((rintro W ⟨hW1, hW2, hW3⟩; go_simp) <;> with_reducible rfl)); simp only [Act.put, List.setIfInBounds_toArray, List.set_cons_zero, List.set_cons_succ]) | (refine sch_no rfl rfl hH ?_; simp only [Act.put, List.setIfInBounds_toArray, List.set_cons_zero, List.set_cons_succ]))
          refine sch_call rfl rfl (fun K hK => ?_)
          go_wp2_with (go_at_call 57; refine hC2.out.mono ?_; intro e w5 hst; obtain ⟨hB5, hK5, v5, rfl, hor⟩ := hst.value)
          have hx5 := hK5 _ _ _ hxd (by decide) (by decide)
          have hk5 := hK5 _ _ _ hKd (by decide) (by decide)
          have hS5 := And.intro (hx5.cell (j := 0) rfl) (And.intro (hx5.cell (j := 1) rfl) (hk5.cell (j := 2) rfl))
          have hB6 := hBd.trans hB5
          clear hH hxd hKd hRd hC2 hS0 hK5 hB5
          rcases hor with ⟨hn5, rfl⟩ | ⟨s5, hs5, rfl, hR5⟩
          · have hnone : runS s fr = none := by rw [Hrun2.out, hn5]; rfl
            have Hn := Lib.hid hnone
            clear hnone hn5
            have hH := hS5
            refine hK.out _ _ hS5 ?_
            clear hK
            repeat (first | (refine sch_yes (v := ?_) rfl rfl ?_ hH ?_; rotate_left; (focus ((rintro W ⟨hW1, hW2, hW3⟩; go_simp) <;> with_reducible rfl)); simp only [Act.put, List.setIfInBounds_toArray, List.set_cons_zero, List.set_cons_succ]) | (refine sch_no rfl rfl hH ?_; simp only [Act.put, List.setIfInBounds_toArray, List.set_cons_zero, List.set_cons_succ]))
            refine sch_done ?_
            go_wp2
            go_ret
            exact ⟨hB6, .inl ⟨Hn.out, rfl⟩⟩
          · have hsome : runS s fr = runS s5 (fr.drop (i + 1)) := by rw [Hrun2.out, hs5]; rfl
            have Hs := Lib.hid hsome
            clear hsome hs5
            have hH := hS5
            refine hK.out _ _ hS5 ?_
            clear hK
            repeat (first | (refine sch_yes (v := ?_) rfl rfl ?_ hH ?_; rotate_left; (focus ((rintro W ⟨hW1, hW2, hW3⟩; go_simp) <;> with_reducible rfl)); simp only [Act.put, List.setIfInBounds_toArray, List.set_cons_zero, List.set_cons_succ]) | (refine sch_no rfl rfl hH ?_; simp only [Act.put, List.setIfInBounds_toArray, List.set_cons_zero, List.set_cons_succ]))
            refine sch_done ?_
            go_wp2
            go_roundw
            case rel => exact ⟨i + 1, s5, by omega, by go_num, Hs, hR5, hB6, hk5⟩
            case measure => simp [intOf]; omega
        · have C1 : ∀ W, Reads B g si W → Rd W A1 (u8s F.2) → Calls Tryd.prog 58 #[.pointer (some ⟨g, 0, none⟩), .slice A1 F.2.length c1] W fun e w' => StepSays B g W (stepS si F) e w' := fun W h1 h2 => by
            rw [stepS_tail (hne ▸ hd) hd]
            exact tail_says B g si A1 F.2.length c1 F.2 W h1 rfl hk2 hfc1 hby1 h2
          have HC := Lib.hid C1
          rw [hd] at hx1' hBa hBw hRB hKB hxb hd3
          clear C1 hne hRA hK
          go_wp2_with fail
          go_quiet (fail)
          have hRd := (hRB.below (below_drewN (Below.refl _ _) nq)).below (Below.refl _ _).drew
          have hKd := (hKB.below hKB.lt (below_drewN (Below.refl _ _) nq)).below hKB.lt (Below.refl _ _).drew
          have hxd := (hxb.below hxb.lt (below_drewN (Below.refl _ _) nq)).below hxb.lt (Below.refl _ _).drew
          have hBd := (below_drewN hBw nq).drew
          clear hRB hKB hxb hBw hBa hd3
          generalize (wr.alloc (.cells #[.int .i64 3, .slice A1 F.2.length c1] 50)).drewN nq = wd at *
          have hC2 := Lib.hid (HC.out wd.drew ⟨_, _, _, hRd⟩ ((Hr1.out.keeps (S' := fun b => b < wd.drew.heap.size) fun x hx => ⟨Nat.lt_of_lt_of_le hx (by have := hRd.blk.lt; omega), hBd.block x hx⟩)))
          have hS0 := And.intro (hxd.cell (j := 0) rfl) (And.intro (hxd.cell (j := 1) rfl) (hKd.cell (j := 3) rfl))
          clear HC
          go_wp2_with fail
          refine sch_start [(0, true), (1, true), (2, true), (3, true), (4, true), (5, true), (6, false), (7, true)]
            (fun W => W.cell? ⟨wr.heap.size, 0, none⟩ = some (.int .i64 3) ∧ W.cell? ⟨wr.heap.size, 1, none⟩ = some (.slice A1 F.2.length c1) ∧ W.cell? ⟨w.heap.size, 3, none⟩ = some (.func (.func 58) #[.pointer (some ⟨g, 0, none⟩)] #[])) (by kernel_rfl) rfl (by kernel_rfl) (fun _ _ _ _ _ h => h) hS0 (fun hH => ?_)
          repeat (first | (refine sch_yes (v := ?_) rfl rfl ?_ hH ?_; rotate_left; (focus ((rintro W ⟨hW1, hW2, hW3⟩; go_simp) <;> with_reducible rfl)); simp only [Act.put, List.setIfInBounds_toArray, List.set_cons_zero, List.set_cons_succ]) | (refine sch_no rfl rfl hH ?_; simp only [Act.put, List.setIfInBounds_toArray, List.set_cons_zero, List.set_cons_succ]))
          refine sch_call rfl rfl (fun K hK => ?_)
          go_wp2_with (go_at_call 58; refine hC2.out.mono ?_; intro e w5 hst; obtain ⟨hB5, hK5, v5, rfl, hor⟩ := hst.value)
          have hx5 := hK5 _ _ _ hxd (by decide) (by decide)
          have hk5 := hK5 _ _ _ hKd (by decide) (by decide)
          have hS5 := And.intro (hx5.cell (j := 0) rfl) (And.intro (hx5.cell (j := 1) rfl) (hk5.cell (j := 3) rfl))
          have hB6 := hBd.trans hB5
          clear hH hxd hKd hRd hC2 hS0 hK5 hB5
          rcases hor with ⟨hn5, rfl⟩ | ⟨s5, hs5, rfl, hR5⟩
          · have hnone : runS s fr = none := by rw [Hrun2.out, hn5]; rfl
            have Hn := Lib.hid hnone
            clear hnone hn5
            have hH := hS5
            refine hK.out _ _ hS5 ?_
            clear hK
            repeat (first | (refine sch_yes (v := ?_) rfl rfl ?_ hH ?_; rotate_left; (focus ((rintro W ⟨hW1, hW2, hW3⟩; go_simp) <;> with_reducible rfl)); simp only [Act.put, List.setIfInBounds_toArray, List.set_cons_zero, List.set_cons_succ]) | (refine sch_no rfl rfl hH ?_; simp only [Act.put, List.setIfInBounds_toArray, List.set_cons_zero, List.set_cons_succ]))
            refine sch_done ?_
            go_wp2
            go_ret
            exact ⟨hB6, .inl ⟨Hn.out, rfl⟩⟩
          · have hsome : runS s fr = runS s5 (fr.drop (i + 1)) := by rw [Hrun2.out, hs5]; rfl
            have Hs := Lib.hid hsome
            clear hsome hs5
            have hH := hS5
            refine hK.out _ _ hS5 ?_
            clear hK
            repeat (first | (refine sch_yes (v := ?_) rfl rfl ?_ hH ?_; rotate_left; (focus ((rintro W ⟨hW1, hW2, hW3⟩; go_simp) <;> with_reducible rfl)); simp only [Act.put, List.setIfInBounds_toArray, List.set_cons_zero, List.set_cons_succ]) | (refine sch_no rfl rfl hH ?_; simp only [Act.put, List.setIfInBounds_toArray, List.set_cons_zero, List.set_cons_succ]))
            refine sch_done ?_
            go_wp2
            go_roundw
            case rel => exact ⟨i + 1, s5, by omega, by go_num, Hs, hR5, hB6, hk5⟩
            case measure => simp [intOf]; omega
        · omega
      · have hne' : (F.1 != si.due) = true := by rw [bne_iff_ne]; exact hne
        have hnone : runS s fr = none := by rw [Hrun2.out, stepS, if_pos hne]; rfl
        have Hn := Lib.hid hnone
        clear hnone hne
        go_wp2_with fail
        go_quiet (fail)
        go_wp2
        go_ret
        exact ⟨below_drewN hBw nq, .inl ⟨Hn.out, rfl⟩⟩
    · obtain rfl : i = n := by omega
      rw [List.drop_of_length_le (by omega)] at Hrun
      obtain ⟨Ar, cr, xr, hRA⟩ := hR
      have hd3 := hRA.blk.cell (j := 3) rfl
      by_cases hd : si.due = -1
      · have hd' : (si.due != -1) = false := by rw [bne_eq_false_iff_eq]; exact hd
        have hs : runS s fr = some si := by rw [Hrun.out, runS, if_pos hd]
        have Hs := Lib.hid hs
        clear hs hd Hrun
        go_wp2
        go_ret
        exact ⟨hB, .inr ⟨si, Hs.out, rfl, _, _, _, hRA⟩⟩
      · have hd' : (si.due != -1) = true := by rw [bne_iff_ne]; exact hd
        have hs : runS s fr = none := by rw [Hrun.out, runS, if_neg hd]
        have Hs := Lib.hid hs
        clear hs hd Hrun
        go_wp2
        go_ret
        exact ⟨hB, .inl ⟨Hs.out, rfl⟩⟩
end Go.Proofs.YthhkkiegfcofjaaDoor
