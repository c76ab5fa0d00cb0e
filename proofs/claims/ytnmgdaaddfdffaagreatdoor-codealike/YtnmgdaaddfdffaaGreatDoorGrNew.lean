/- The contract of graph's New. Condition: sizes that memory can hold. -/
import Derived.Test.YtnmgdaaddfdffaaGreatDoorGrWhyNew
import Derived.Test.YtnmgdaaddfdffaaGreatDoorGGraph
import Derived.Test.YtnmgdaaddfdffaaGreatDoorGrCopyZ
import Derived.Test.YtnmgdaaddfdffaaGreatDoorGGen
namespace Go.Proofs.YtnmgdaaddfdffaaGreatDoor
open Go.RowKit

theorem below_grown' {w w' : World} (h : Below w.heap.size w w') {row : Option Nat} : w.grownBy w' row := ⟨h.os, h.tape, h.output, h.size, fun b hb _ => h.block b hb⟩
theorem own_at {w w' : World} {base e size n : Nat} {v : Value} {xs : List Value} (h : w.ownsRow base e size v n xs) (hk : ∀ b, v.ownBlock = some b → w'.heap[b]? = w.heap[b]?) : w'.ownsRow base e size v n xs := by
  refine ⟨h.1, ?_⟩
  rcases h.2 with h | ⟨g, cap, cur, rfl, h2, h3, h4⟩
  · exact .inl h
  · exact .inr ⟨g, cap, cur, rfl, h2, (hk g rfl).trans h3, h4⟩
theorem info_obj : (Tryz.prog.info? 62).map (fun i => (i.zero, i.size, i.bytes)) = some (some (.agg #[.int .i64 0, .int .i64 0, .slice none 0 0]), 3, 40) := by kernel_rfl
/-- A block of objects is a row of the call's own. -/
theorem ob_owns {w : World} {b n : Nat} {ds : List Value} (hb : Blk w b 62 ds) (hl : ds.length = n * 3) (hn : n ≤ maxLen) : w.ownsRow b 62 3 (.slice (some ⟨b, 0, none⟩) n n) n ds :=
  ⟨hl, .inr ⟨b, n, ds.toArray, rfl, Nat.le_refl _, hb, Nat.le_refl _, hn, by simpa using hl, by rw [← hl]; simp⟩⟩
theorem new_read {H b1 b2 m K c3 bz : Nat} {w1 W : World} {g : Gr} {A3 : Option Addr} {ds zs : List Value} {v : Value} {o : Ob} (hG : OwnG H w1 g b1 b2 m (.slice A3 K c3)) (hK : g.2.2.length = K) (hs : w1.heap.size ≤ W.heap.size) (hk : ∀ b, b1 ≤ b → b < w1.heap.size → b ≠ b2 → W.heap[b]? = w1.heap[b]?)
    (hI : ObIn b2 m w1 ds g.2.1) (hown : W.ownsRow b2 62 3 v (g.2.1.length + 1) (ds ++ [.int .i64 o.1, .int .i64 o.2.1, .slice (some ⟨bz, 0, none⟩) o.2.2.length o.2.2.length])) (hv : v.ownBlock = some b2 ∨ ∃ nb, v.ownBlock = some nb ∧ w1.heap.size ≤ nb ∧ nb ≠ bz)
    (hbz : w1.heap.size ≤ bz) (hz : Blk W bz 57 zs) (hc : Chunks 3 (rVal (fun _ => True) W) zs o.2.2) (h1 : (Lit.int .i64 o.1).wf = true) (h2 : (Lit.int .i64 o.2.1).wf = true) (h3 : o.2.2.length ≤ maxLen) :
    rGr (All W) W [.slice (some ⟨b1, 0, none⟩) g.1.length g.1.length, v, .slice A3 K c3] (g.1, g.2.1 ++ [o], g.2.2) := by
  have := hG.low; have := hG.one; have := hG.two; have := hG.top
  have hzl := hz.lt
  refine ⟨rfl, rSch_stays.to (fun b hb => ⟨by show b < _; omega, hk b hb.1 (by omega) (by omega)⟩) hG.sch, rfl, ?_, ?_⟩
  · refine own_rSlice rOb_stays hown (by simp) (Chunks.append ?_ (Chunks.one rfl ?_))
    · refine (hI.keep fun b hb1 hb2 => hk b (by omega) (by omega) (by omega)).chunks.imp fun cs a hq => rOb_stays.to (Keeps.mono fun b hb => ⟨by omega, ?_⟩) hq
      rcases hv with hv | ⟨nb, hv, hnb, _⟩
      · rw [hv]; simp; omega
      · rw [hv]; simp; omega
    · refine rOb_mk h1 h2 (blk_slice hz hc ⟨hzl, ?_⟩ h3)
      rcases hv with hv | ⟨nb, hv, hnb, hne⟩
      · rw [hv]; simp; omega
      · rw [hv]; simp; omega
  · exact rIds_stays.to (fun b hb => ⟨by show b < _; omega, hk b (by omega) hb.2 (by omega)⟩) (ids_own (hK ▸ hG.ids) hK hG.wf)

set_option maxRecDepth 100000 in
set_option maxHeartbeats 4000000 in
theorem gnew_any (A B C : Option Addr) (N c M d K e : Nat) (g : Gr) (t : Int) (w : World) (h : rGr (All w) w [.slice A N c, .slice B M d, .slice C K e] g) (htame : tameG g) (ht64 : (Lit.int .i64 t).wf = true) :
    Calls Tryz.prog 28 #[.agg #[.slice A N c, .slice B M d, .slice C K e], .int .i64 t] w fun e w' => ∃ A1 c1 B1 d1 C1 e1, e = .returned (.tuple #[.agg #[.slice A1 (newG g t).1.length c1, .slice B1 (newG g t).2.1.length d1, .slice C1 (newG g t).2.2.length e1], .int .i64 (newI g t), .int .i64 (newE g t)]) ∧
      rGr (All w') w' [.slice A1 (newG g t).1.length c1, .slice B1 (newG g t).2.1.length d1, .slice C1 (newG g t).2.2.length e1] (newG g t) ∧ Below w.heap.size w w' := by
  obtain ⟨hN, hNc, hcm⟩ := slice_len (rGr_open h).1
  obtain ⟨hM, hMd, hdm⟩ := slice_len (rGr_open h).2.1
  obtain ⟨hK, hKe, hem⟩ := slice_len (rGr_open h).2.2
  have hB0 : Below w.heap.size w ((w.alloc (.cells #[.slice A N c, .slice B M d, .slice C K e] 28)).alloc (.cells #[.slice none 0 0, .slice none 0 0, .slice none 0 0] 28)) := ((Below.refl _ w).alloc (Nat.le_refl _) _).alloc (by simp) _
  obtain ⟨p1, p2⟩ := blk_two w 28 28 [.slice A N c, .slice B M d, .slice C K e] [.slice none 0 0, .slice none 0 0, .slice none 0 0]
  have T1 := Lib.hid (copyGraph_any A B C N c M d K e g _ (gr_below hB0 h) htame)
  have T2 := Lib.hid (fun W (hW : Below w.heap.size w W) => whyNoNew_any A B C N c M d K e g t W (gr_below hW h))
  have T3 := Lib.hid (fun W (hW : Below w.heap.size w W) hm => nextId_any A B C N c M d K e g W (gr_below hW h) hm)
  have Hg := Lib.hid (fun W (hW : Below w.heap.size w W) => gr_below hW h)
  have HB0 := Lib.hid hB0
  have s0 : w.heap.size + 2 = ((w.alloc (.cells #[.slice A N c, .slice B M d, .slice C K e] 28)).alloc (.cells #[.slice none 0 0, .slice none 0 0, .slice none 0 0] 28)).heap.size := by simp
  clear hB0 h htame
  go_enter Tryz.func28, Tryz.ntmps28
  go_wp2_with fail
  refine T1.out.mono ?_
  rintro e w1 ⟨b1, b2, m, A3, c3, rfl, hG, hB1⟩
  have a1 := hG.low
  have a2 := hG.one
  have a3 := hG.two
  have a4 := hG.top
  have hB2 : Below w1.heap.size w1 (w1.alloc (.cells #[.slice (some ⟨b1, 0, none⟩) N N, .slice (some ⟨b2, 0, none⟩) M M, .slice A3 K c3] 28)) := (Below.refl _ w1).alloc (Nat.le_refl _) _
  have hB12 := hB1.trans (hB2.mono hB1.size)
  have H2 := Lib.hid (HB0.out.trans (hB12.mono HB0.out.size))
  have p7 := Blk.new w1 28 [.slice (some ⟨b1, 0, none⟩) N N, .slice (some ⟨b2, 0, none⟩) M M, .slice A3 K c3]
  replace p1 := p1.to hB12
  replace p2 := p2.to hB12
  have HB2 := Lib.hid hB2
  rw [← s0] at a1
  have HG := Lib.hid hG
  clear hB1 hB12 HB0 T1 s0 hB2 hG
  have c0 := p1.cell (j := 0) rfl
  have c1 := p1.cell (j := 1) rfl
  have c2 := p1.cell (j := 2) rfl
  go_wp2_with fail
  refine (T2.out _ H2.out).mono ?_
  rintro e w3 ⟨rfl, hB3⟩
  have hB13 := Lib.hid (HB2.out.trans (hB3.mono HB2.out.size))
  have H3 := Lib.hid (H2.out.trans (hB3.mono H2.out.size))
  replace p1 := p1.to hB3
  replace p2 := p2.to hB3
  replace p7 := p7.to hB3
  clear hB3 HB2 H2 T2 c0 c1 c2
  have x0 := p7.cell (j := 0) rfl
  have x1 := p7.cell (j := 1) rfl
  have x2 := p7.cell (j := 2) rfl
  by_cases he : newE g t = 0
  · obtain ⟨hm, ht, h8, hx⟩ := newE_0 he
    have hn0 : 0 ≤ nextG g.2.1 := by
      rw [nextG]
      split
      · omega
      · rename_i o ho
        have := (mayG_obj hm (List.mem_of_getLast? ho)).id0
        omega
    have h8' := (mayG_parts hm).2.1
    obtain ⟨tn, htn⟩ : ∃ tn : Nat, t = (tn : Int) := ⟨t.toNat, by omega⟩
    obtain ⟨ty, hty⟩ : ∃ ty, g.1[tn]? = some ty := ⟨_, List.getElem?_eq_getElem (by omega)⟩
    have hrg := Hg.out w (Below.refl _ w)
    obtain ⟨bt, offt, st, AF, cF, rfl, hbt, -, y1, -, -, hfs⟩ := typ_at (rGr_open hrg).1 hty
    obtain ⟨⟨m1, m2⟩, m3⟩ := (mayS_iff g.1).1 (mayG_parts hm).1
    have hf5 := ((mayT_iff g.1 tn ty).1 (m3 tn ty hty)).2.2.1
    have Hn : Hid (newG g t = (g.1, g.2.1 ++ [(nextG g.2.1, t, (fldsG g.1 t).map fun f => zeroV f.2.1)], g.2.2) ∧ newI g t = nextG g.2.1) := Lib.hid ⟨if_pos he, if_pos he⟩
    rw [fldsG_at htn hty] at Hn
    have T4 := Lib.hid (fun W (hW : Below w.heap.size w W) => eachZ_any AF ty.2.length cF ty.2 W (flds_below hW hfs) (by omega))
    have T5 := Lib.hid (fun W hW => T3.out W hW hm)
    obtain ⟨ds, hds, hI⟩ := HG.out.obs
    have hdl : ds.length = M * 3 := by
      obtain ⟨bs, e1, e2, -, -⟩ := hI
      rw [e1, obCells_len e2, hM]
    obtain ⟨i0, hi, hz0, hz1, hz2⟩ := info_parts info_obj
    have htl : (tn : Int) < (N : Int) := by omega
    have ht0 : (0 : Int) ≤ (tn : Int) := by omega
    have HI := Lib.hid hI
    have Hds := Lib.hid hds
    have Hhty := Lib.hid hty
    subst htn
    rw [he]
    have He := Lib.hid he
    clear he hm T3 hrg hfs hI hds hty m3
    generalize nextG g.2.1 = nx at *
    have hBt : w.heap.size ≤ w3.heap.size := H3.out.size
    have y3 := (H3.out.cell (p := ⟨bt, offt + tn * 2 + 1, none⟩) hbt).trans y1
    have l7 := p7.lt
    have l1 := p1.lt
    have d0 := p1.cell (j := 0) rfl
    have d1 := p1.cell (j := 1) rfl
    have d2 := p1.cell (j := 2) rfl
    clear y1
    go_wp2_with fail
    refine (T5.out _ H3.out).mono ?_
    rintro e w4 ⟨rfl, hB4⟩
    have H4 := Lib.hid (H3.out.trans (hB4.mono H3.out.size))
    have hB14 := Lib.hid (hB13.out.trans (hB4.mono hB13.out.size))
    replace p1 := p1.to hB4
    replace p2 := p2.to hB4
    replace p7 := p7.to hB4
    have y4 := (hB4.cell (p := ⟨bt, offt + tn * 2 + 1, none⟩) (Nat.lt_of_lt_of_le hbt hBt)).trans y3
    clear d0 d1 d2 x0 x1 x2 y3 hB4 H3 hB13
    have hw14 : w1.heap.size < w4.heap.size := p7.lt
    have hw04 : w.heap.size ≤ w4.heap.size := H4.out.size
    have S0 := And.intro (p7.cell (j := 1) rfl) (And.intro (p1.cell (j := 0) rfl) y4)
    have HS := Lib.hid (fun (W : World) (hW : w4.grownBy W (some b2)) => And.intro (hW.cell S0.1 (by simp; omega)) (And.intro (hW.cell S0.2.1 (by simp; omega)) (hW.cell S0.2.2 (by have : bt < w.heap.size := hbt; simp; omega))))
    clear y4
    go_wp2
    refine scl_start 16 [(0, true), (1, true), (2, true), (3, true), (4, true), (5, true), (6, true), (7, true), (8, true), (9, true), (10, true), (11, false), (12, true), (13, false), (14, false), (15, true), (16, false)]
      (fun W => W.cell? ⟨w1.heap.size, 1, none⟩ = some (.slice (some ⟨b2, 0, none⟩) M M) ∧ W.cell? ⟨w.heap.size, 0, none⟩ = some (.slice (some ⟨bt, offt, none⟩) N c) ∧ W.cell? ⟨bt, offt + tn * 2 + 1, none⟩ = some (.slice AF ty.2.length cF)) (by kernel_rfl) rfl (by kernel_rfl) (fun _ _ _ _ _ h => h) S0 (fun hH => ?_)
    repeat (first | (refine scl_yes (v := ?_) rfl rfl ?_ hH ?_; rotate_left; (focus ((rintro W ⟨hW1, hW2, hW3⟩; go_simp) <;> with_reducible rfl)); simp only [Act.put, List.setIfInBounds_toArray, List.set_cons_zero, List.set_cons_succ]) | (refine scl_no rfl rfl hH ?_; simp only [Act.put, List.setIfInBounds_toArray, List.set_cons_zero, List.set_cons_succ]))
    refine scl_call rfl rfl (fun K' hK' => ?_)
    go_wp2_with (go_at_call 70; refine (T4.out _ H4.out.drew).mono ?_; rintro e w5 ⟨zs, rfl, hz5, hc5, hB5⟩)
    have hd4 : w4.drew.heap.size = w4.heap.size := rfl
    rw [hd4] at hz5
    have hC5 : Below w4.heap.size w4 w5 := (Below.refl w4.heap.size w4).drew.trans hB5
    refine hK'.out _ _ (fun _ => HS.out _ (below_grown' hC5)) ?_
    clear hK' hH
    have hH := HS.out _ (below_grown' hC5)
    repeat (first | (refine scl_yes (v := ?_) rfl rfl ?_ hH ?_; rotate_left; (focus ((rintro W ⟨hW1, hW2, hW3⟩; go_simp) <;> with_reducible rfl)); simp only [Act.put, List.setIfInBounds_toArray, List.set_cons_zero, List.set_cons_succ]) | (refine scl_no rfl rfl hH ?_; simp only [Act.put, List.setIfInBounds_toArray, List.set_cons_zero, List.set_cons_succ]))
    refine scl_call rfl rfl (fun K' hK' => ?_)
    go_wp2
    have hB6 : Below w5.heap.size w5 (w5.alloc (.cells #[.int .i64 nx, .int .i64 (tn : Int), .slice (some ⟨w4.heap.size, 0, none⟩) ty.2.length ty.2.length] 62)) := (Below.refl _ w5).alloc (Nat.le_refl _) _
    have hC6 := hC5.trans (hB6.mono hC5.size)
    refine hK'.out _ _ (fun _ => HS.out _ (below_grown' hC6)) ?_
    clear hK' hH
    have hb6 := Hds.out.to (hB14.out.trans (hC6.mono hB14.out.size))
    have hown6 := ob_owns hb6 hdl (by simp only [maxLen]; omega)
    have hrd6 := (Blk.new w5 62 [.int .i64 nx, .int .i64 (tn : Int), .slice (some ⟨w4.heap.size, 0, none⟩) ty.2.length ty.2.length]).rd
    have s6 : (w5.alloc (.cells #[.int .i64 nx, .int .i64 (tn : Int), .slice (some ⟨w4.heap.size, 0, none⟩) ty.2.length ty.2.length] 62)).heap.size = w5.heap.size + 1 := by simp
    have hw45 : w4.heap.size < w5.heap.size := hz5.lt
    have hz6 := hz5.to hB6
    have hH := HS.out _ (below_grown' hC6)
    refine scl_call rfl rfl (fun K' hK' => ?_)
    refine wp_apps (.tmp 22) (.tmp 34) 25 rfl b2 62 i0 (.agg #[.int .i64 0, .int .i64 0, .slice none 0 0]) 3 40 Tryz.underlying25 hi hz0 hz1 hz2 rfl (by omega) (.slice (some ⟨b2, 0, none⟩) M M) M ds rfl hown6 (some ⟨w5.heap.size, 0, none⟩) 1 1 [.int .i64 nx, .int .i64 (tn : Int), .slice (some ⟨w4.heap.size, 0, none⟩) ty.2.length ty.2.length] rfl rfl hrd6 (by simp [Value.oneCell']) (by simp only [maxLen]; omega) (by omega) (by omega) ?_
    intro v7 w7 hown7 hg7 hv7
    obtain ⟨A7, c7, rfl, -⟩ := own_in hown7
    have hG7 : w4.grownBy w7 (some b2) := (below_grown' hC6).trans hg7
    have hz7 : Blk w7 w4.heap.size 57 zs := (hg7.block _ (by omega) (by simp [Value.ownBlock]; omega)).trans hz6
    have hs7 := hg7.size
    refine hK'.out _ _ (fun _ => HS.out _ hG7) ?_
    clear hK' hH
    have hH := HS.out _ hG7
    have q7 : Blk w7 w1.heap.size 28 [.slice (some ⟨b1, 0, none⟩) N N, .slice (some ⟨b2, 0, none⟩) M M, .slice A3 K c3] := (hG7.block _ p7.lt (by simp; omega)).trans p7
    have q2 : Blk w7 (w.heap.size + 1) 28 [.slice none 0 0, .slice none 0 0, .slice none 0 0] := (hG7.block _ p2.lt (by simp; omega)).trans p2
    repeat (first | (refine scl_yes (v := ?_) rfl rfl ?_ hH ?_; rotate_left; (focus ((rintro W ⟨hW1, hW2, hW3⟩; go_simp) <;> with_reducible rfl)); simp only [Act.put, List.setIfInBounds_toArray, List.set_cons_zero, List.set_cons_succ]) | (refine scl_no rfl rfl hH ?_; simp only [Act.put, List.setIfInBounds_toArray, List.set_cons_zero, List.set_cons_succ]))
    refine scl_call rfl rfl (fun K' hK' => ?_)
    have f7 := q7.frozen 1
    have e7 := q7.cell (j := 1) rfl
    go_wp2
    refine hK'.out _ _ (fun e => absurd rfl e) ?_
    clear hK' hH
    refine scl_done ?_
    have r7 := q7.set 1 (.slice A7 (M + 1) c7)
    have r2 := q2.other ⟨w1.heap.size, 1, none⟩ (.slice A7 (M + 1) c7) (by simp; omega)
    have x0 := r7.cell (j := 0) rfl
    have x1 := r7.cell (j := 1) rfl
    have x2 := r7.cell (j := 2) rfl
    have y0 := r2.cell (j := 0) rfl
    have y1 := r2.cell (j := 1) rfl
    have y2 := r2.cell (j := 2) rfl
    have g0 := r2.frozen 0
    have g1 := r2.frozen 1
    have g2 := r2.frozen 2
    go_wp2
    have P9 := ((r2.set 0 (.slice (some ⟨b1, 0, none⟩) N N)).set 1 (.slice A7 (M + 1) c7)).set 2 (.slice A3 K c3)
    refine ret_cell2 (d := .struct _) (cs := [.slice (some ⟨b1, 0, none⟩) N N, .slice A7 (M + 1) c7, .slice A3 K c3]) rfl P9 rfl rfl rfl rfl rfl ?_
    have hkeep : ∀ b, b ≠ w1.heap.size → b ≠ w.heap.size + 1 → ((((w7.setCell ⟨w1.heap.size, 1, none⟩ (.slice A7 (M + 1) c7)).setCell ⟨w.heap.size + 1, 0, none⟩ (.slice (some ⟨b1, 0, none⟩) N N)).setCell ⟨w.heap.size + 1, 1, none⟩ (.slice A7 (M + 1) c7)).setCell ⟨w.heap.size + 1, 2, none⟩ (.slice A3 K c3)).heap[b]? = w7.heap[b]? := fun b n1 n2 => by
      rw [Below.heap_setCell _ _ _ _ n2, Below.heap_setCell _ _ _ _ n2, Below.heap_setCell _ _ _ _ n2, Below.heap_setCell _ _ _ _ n1]
    have hb7 : Below w1.heap.size w1 w4 := hB14.out
    have hv8 : (Value.slice A7 (M + 1) c7).ownBlock = some b2 ∨ (Value.slice A7 (M + 1) c7).ownBlock = some (w5.heap.size + 1) := by
      rcases hv7 with h | h
      · exact .inl h
      · exact .inr (by rw [h, s6])
    have hc9 : ∀ (S : Nat → Prop) (W : World), Chunks 3 (rVal S W) zs (ty.2.map fun f : Fld => zeroV f.2.1) := fun S W => hc5
    have hrd := new_read (o := (nx, (tn : Int), ty.2.map fun f : Fld => zeroV f.2.1)) (v := .slice A7 (M + 1) c7) (bz := w4.heap.size) (zs := zs) (ds := ds) HG.out hK (W := (((w7.setCell ⟨w1.heap.size, 1, none⟩ (.slice A7 (M + 1) c7)).setCell ⟨w.heap.size + 1, 0, none⟩ (.slice (some ⟨b1, 0, none⟩) N N)).setCell ⟨w.heap.size + 1, 1, none⟩ (.slice A7 (M + 1) c7)).setCell ⟨w.heap.size + 1, 2, none⟩ (.slice A3 K c3))
      (by simp; omega) (fun b n1 n2 n3 => by rw [hkeep b (by omega) (by omega), hG7.block b (by omega) (by simpa using n3), hb7.block b n2]) HI.out
      (own_at (w := w7) (by rw [hM, List.length_map]; exact hown7) fun b hb => hkeep b (by rcases hv8 with hv | hv <;> rw [hv] at hb <;> injection hb with hb <;> omega) (by rcases hv8 with hv | hv <;> rw [hv] at hb <;> injection hb with hb <;> omega)) (by
        rcases hv8 with hv | hv
        · exact .inl hv
        · exact .inr ⟨_, hv, by omega, by omega⟩) (by omega) ((hkeep _ (by omega) (by omega)).trans hz7) (hc9 _ _) (WalkArith.wf_i64 ⟨by omega, by omega⟩) ht64 (by simp [maxLen]; omega)
    rw [Hn.out.1, Hn.out.2, He.out]
    simp only [List.length_append, List.length_singleton]
    rw [hN, hM, hK]
    rw [hN] at hrd
    have hq7 := H4.out.grown hG7 H4.out.size (fun k hk => by cases hk; omega)
    exact ⟨some ⟨b1, 0, none⟩, N, A7, c7, A3, c3, rfl, hrd, (((hq7.setCell (p := ⟨w1.heap.size, 1, none⟩) (by show w.heap.size ≤ w1.heap.size; omega) _).setCell (p := ⟨w.heap.size + 1, 0, none⟩) (by simp) _).setCell (p := ⟨w.heap.size + 1, 1, none⟩) (by simp) _).setCell (p := ⟨w.heap.size + 1, 2, none⟩) (by simp) _⟩
  · have he' : (newE g t != 0) = true := by simp [he]
    have Hn : Hid (newG g t = g ∧ newI g t = -1) := Lib.hid ⟨if_neg he, if_neg he⟩
    clear he
    have y0 := p2.cell (j := 0) rfl
    have y1 := p2.cell (j := 1) rfl
    have y2 := p2.cell (j := 2) rfl
    have g0 := p2.frozen 0
    have g1 := p2.frozen 1
    have g2 := p2.frozen 2
    generalize hne : newE g t = er at *
    have Hne := Lib.hid hne
    clear hne
    go_wp2
    have P9 := ((p2.set 0 (.slice (some ⟨b1, 0, none⟩) N N)).set 1 (.slice (some ⟨b2, 0, none⟩) M M)).set 2 (.slice A3 K c3)
    refine ret_cell2 (d := .struct _) (cs := [.slice (some ⟨b1, 0, none⟩) N N, .slice (some ⟨b2, 0, none⟩) M M, .slice A3 K c3]) rfl P9 rfl rfl rfl rfl rfl ?_
    have hG9 := (HG.out.below hB13.out).keep (w' := ((w3.setCell ⟨w.heap.size + 1, 0, none⟩ (.slice (some ⟨b1, 0, none⟩) N N)).setCell ⟨w.heap.size + 1, 1, none⟩ (.slice (some ⟨b2, 0, none⟩) M M)).setCell ⟨w.heap.size + 1, 2, none⟩ (.slice A3 K c3)) (by simp) fun b hb _ => by
      rw [Below.heap_setCell _ _ _ _ (by show b ≠ w.heap.size + 1; simp at hb; omega), Below.heap_setCell _ _ _ _ (by show b ≠ w.heap.size + 1; simp at hb; omega), Below.heap_setCell _ _ _ _ (by show b ≠ w.heap.size + 1; simp at hb; omega)]
    have hrd := hG9.read hK
    rw [Hn.out.1, Hn.out.2, hN, hM, hK, Hne.out]
    rw [hN, hM] at hrd
    exact ⟨some ⟨b1, 0, none⟩, N, some ⟨b2, 0, none⟩, M, A3, c3, rfl, hrd, ((H3.out.setCell (p := ⟨w.heap.size + 1, 0, none⟩) (by simp) _).setCell (p := ⟨w.heap.size + 1, 1, none⟩) (by simp) _).setCell (p := ⟨w.heap.size + 1, 2, none⟩) (by simp) _⟩
end Go.Proofs.YtnmgdaaddfdffaaGreatDoor
