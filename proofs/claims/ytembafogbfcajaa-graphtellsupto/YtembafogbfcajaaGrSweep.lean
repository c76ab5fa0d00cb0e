/- The contract of graph's Sweep. No condition. -/
import Derived.Test.YtembafogbfcajaaGrTame
import Derived.Test.YtembafogbfcajaaGrMayAll
import Derived.Test.YtembafogbfcajaaGrDel
namespace Go.Proofs.Ytembafogbfcajaa
open Go.RowKit

theorem swept_read {H b1 b2 m K c3 k M : Nat} {w4 W : World} {g : Gr} {A3 : Option Addr} {z : List (Ob × Nat)} {L : List Int} {rest : List Value} (hG : OwnG H w4 g b1 b2 m (.slice A3 K c3)) (hK : g.2.2.length = K) (hs : w4.heap.size ≤ W.heap.size) (hk : ∀ b, b1 ≤ b → b < w4.heap.size → b ≠ b2 → W.heap[b]? = w4.heap[b]?)
    (hI : InZ b2 m w4 z) (hz : z.map (·.1) = g.2.1) (hb : Blk W b2 49 (cellsZ (z.filter fun p => decide (p.1.1 ∈ L)) ++ rest)) (hM : g.2.1.length = M) (hkl : k = (z.filter fun p => decide (p.1.1 ∈ L)).length) :
    rGr (All W) W [.slice (some ⟨b1, 0, none⟩) g.1.length g.1.length, .slice (some ⟨b2, 0, none⟩) k M, .slice A3 K c3] (g.1, g.2.1.filter (fun o => decide (o.1 ∈ L)), g.2.2) := by
  have := hG.low; have := hG.one; have := hG.two; have := hG.top
  have hlen := hG.len
  have hf : (z.filter fun p => decide (p.1.1 ∈ L)).map (·.1) = g.2.1.filter (fun o => decide (o.1 ∈ L)) := by
    rw [← hz, List.filter_map]; rfl
  have hI' : InZ b2 m W (z.filter fun p => decide (p.1.1 ∈ L)) := (hI.filter _).keep fun b h1 h2 => hk b (by omega) (by omega) (by omega)
  refine rGr_mk (rSch_stays.to (fun b hb => ⟨by show b < _; omega, hk b hb.1 (by omega) (by omega)⟩) hG.sch) ?_ ?_
  · refine pre_slice hb (Chunks.imp (by rw [← hf]; exact hI'.ob.chunks) fun cs a hq => rOb_stays.to (Keeps.mono fun b hb => by show b < _; omega) hq) (by show b2 < _; omega) (by rw [← hf, List.length_map, hkl]) ?_ (by omega)
    rw [hkl, ← hM, ← hz, List.length_map]
    exact List.length_filter_le _ _
  · exact rIds_stays.to (fun b hb => ⟨by show b < _; omega, hk b (by omega) hb.2 (by omega)⟩) (ids_own (hK ▸ hG.ids) hK hG.wf)

set_option maxRecDepth 100000 in
set_option maxHeartbeats 2000000 in
theorem gsweep_any (A B C : Option Addr) (N c M d K e : Nat) (g : Gr) (w : World) (h : rGr (All w) w [.slice A N c, .slice B M d, .slice C K e] g) :
    Calls Try.prog 19 #[.agg #[.slice A N c, .slice B M d, .slice C K e]] w fun e w' => ∃ A1 c1 B1 d1 C1 e1, e = .returned (.agg #[.slice A1 (sweepG g).1.length c1, .slice B1 (sweepG g).2.1.length d1, .slice C1 (sweepG g).2.2.length e1]) ∧
      rGr (All w') w' [.slice A1 (sweepG g).1.length c1, .slice B1 (sweepG g).2.1.length d1, .slice C1 (sweepG g).2.2.length e1] (sweepG g) ∧ Below w.heap.size w w' := by
  obtain ⟨hN, hNc, hcm⟩ := slice_len (rGr_open h).1
  obtain ⟨hM, hMd, hdm⟩ := slice_len (rGr_open h).2.1
  obtain ⟨hK, hKe, hem⟩ := slice_len (rGr_open h).2.2
  have hB0 : Below w.heap.size w ((w.alloc (.cells #[.slice A N c, .slice B M d, .slice C K e] 28)).alloc (.cells #[.slice none 0 0, .slice none 0 0, .slice none 0 0] 28)) := ((Below.refl _ w).alloc (Nat.le_refl _) _).alloc (by simp) _
  obtain ⟨p1, p2⟩ := blk_two w 28 28 [.slice A N c, .slice B M d, .slice C K e] [.slice none 0 0, .slice none 0 0, .slice none 0 0]
  have T1 := Lib.hid (gmay_any A B C N c M d K e g _ (gr_below hB0 h))
  have HB0 := Lib.hid hB0
  have s0 : w.heap.size + 2 = ((w.alloc (.cells #[.slice A N c, .slice B M d, .slice C K e] 28)).alloc (.cells #[.slice none 0 0, .slice none 0 0, .slice none 0 0] 28)).heap.size := by simp
  clear hB0
  go_enter Try.func19, Try.ntmps19
  go_wp2_with fail
  refine T1.out.mono ?_
  rintro e w1 ⟨rfl, hB1⟩
  have H1 := Lib.hid (HB0.out.trans (hB1.mono HB0.out.size))
  have s1 : w.heap.size + 2 ≤ w1.heap.size := by rw [s0]; exact hB1.size
  replace p1 := p1.to hB1
  replace p2 := p2.to hB1
  clear hB1 HB0 T1 s0
  by_cases hm : mayG g = true
  · rw [hm]
    have T2 := Lib.hid (comeTo_any A B C N c M d K e g w1 (gr_below H1.out h) hm)
    have T3 := Lib.hid (fun W (hW : Below w.heap.size w W) => copyGraph_any A B C N c M d K e g W (gr_below hW h) (tame_may h hm))
    have h8 := (mayG_parts hm).2.1
    have Hsw := Lib.hid (fun L hL => sweepG_set (g := g) (L := L) hm hL)
    clear h
    have c0 := p1.cell (j := 0) rfl
    have c1 := p1.cell (j := 1) rfl
    have c2 := p1.cell (j := 2) rfl
    go_wp2_with fail
    refine T2.out.mono ?_
    rintro e w2 ⟨Mb, L, rfl, hS, hL, hMb, hB2⟩
    have hMb2 : Mb < w2.heap.size := by obtain ⟨D, h1, _⟩ := hS; exact h1.lt
    have hB3 : Below w2.heap.size w2 (w2.alloc (.cells #[.map (some Mb)] 71)) := (Below.refl _ w2).alloc (Nat.le_refl _) _
    have hBm : Below w1.heap.size w1 (w2.alloc (.cells #[.map (some Mb)] 71)) := hB2.trans (hB3.mono hB2.size)
    have H3 := Lib.hid (H1.out.trans (hBm.mono H1.out.size))
    have pm := Blk.new w2 71 [.map (some Mb)]
    have s3 : (w2.alloc (.cells #[.map (some Mb)] 71)).heap.size = w2.heap.size + 1 := by simp
    have s12 := hB2.size
    have hS3 := hS.below hB3
    replace p1 := p1.to hBm
    replace p2 := p2.to hBm
    clear c0 c1 c2 hB2 hB3 hBm hS H1
    have c0 := p1.cell (j := 0) rfl
    have c1 := p1.cell (j := 1) rfl
    have c2 := p1.cell (j := 2) rfl
    go_wp2_with fail
    refine (T3.out _ H3.out).mono ?_
    rintro e w4 ⟨b1, b2, m, A3, c3, rfl, hG, hB4⟩
    have a1 := hG.low
    have a2 := hG.one
    have a3 := hG.two
    have a4 := hG.top
    obtain ⟨ds, hds, hin⟩ := hG.obs
    obtain ⟨z, rfl, hzm, hIz⟩ := hin.z
    have hB5 : Below w4.heap.size w4 (w4.alloc (.cells #[.slice (some ⟨b1, 0, none⟩) N N, .slice (some ⟨b2, 0, none⟩) M M, .slice A3 K c3] 28)) := (Below.refl _ w4).alloc (Nat.le_refl _) _
    have hB45 := hB4.trans (hB5.mono hB4.size)
    have H5 := Lib.hid (H3.out.trans (hB45.mono H3.out.size))
    have p5 := Blk.new w4 28 [.slice (some ⟨b1, 0, none⟩) N N, .slice (some ⟨b2, 0, none⟩) M M, .slice A3 K c3]
    have s5 : (w4.alloc (.cells #[.slice (some ⟨b1, 0, none⟩) N N, .slice (some ⟨b2, 0, none⟩) M M, .slice A3 K c3] 28)).heap.size = w4.heap.size + 1 := by simp
    have s34 := hB4.size
    replace p1 := p1.to hB45
    replace p2 := p2.to hB45
    have pm5 := pm.to hB45
    have T4 := Lib.hid (deleteFunc_any b2 M z L b2 m Mb w2.heap.size _ (by rw [← hM, ← hzm, List.length_map]) (by omega) (hds.to hB5) (hIz.keep fun b _ hb => hB5.block b (by omega)) (by rw [s5]; omega) (pm5.cell (j := 0) rfl) pm5.lt (hS3.below hB45) (by omega) (by omega))
    have HG := Lib.hid hG
    have HB5 := Lib.hid hB5
    clear c0 c1 c2 hG hds hin pm hS3 hB4 hB45 H3 T3 hB5
    go_wp2_with fail
    refine T4.out.mono ?_
    rintro e w6 ⟨k, rest, rfl, hk, hb6, hg6⟩
    have Hk := Lib.hid hk
    clear hk
    have q1 : Blk w6 (w.heap.size) 28 [.slice A N c, .slice B M d, .slice C K e] := (hg6.block _ p1.lt (by simp; omega)).trans p1
    have q2 : Blk w6 (w.heap.size + 1) 28 [.slice none 0 0, .slice none 0 0, .slice none 0 0] := (hg6.block _ p2.lt (by simp; omega)).trans p2
    have q5 : Blk w6 w4.heap.size 28 [.slice (some ⟨b1, 0, none⟩) N N, .slice (some ⟨b2, 0, none⟩) M M, .slice A3 K c3] := (hg6.block _ p5.lt (by simp; omega)).trans p5
    have f1 := q5.frozen 1
    have d1 := q5.cell (j := 1) rfl
    have r5 := q5.set 1 (.slice (some ⟨b2, 0, none⟩) k M)
    have r2 := q2.other ⟨w4.heap.size, 1, none⟩ (.slice (some ⟨b2, 0, none⟩) k M) (by simp; omega)
    have x0 := r5.cell (j := 0) rfl
    have x1 := r5.cell (j := 1) rfl
    have x2 := r5.cell (j := 2) rfl
    have y0 := r2.cell (j := 0) rfl
    have y1 := r2.cell (j := 1) rfl
    have y2 := r2.cell (j := 2) rfl
    have g0 := r2.frozen 0
    have g1 := r2.frozen 1
    have g2 := r2.frozen 2
    go_wp2
    have P9 := ((r2.set 0 (.slice (some ⟨b1, 0, none⟩) N N)).set 1 (.slice (some ⟨b2, 0, none⟩) k M)).set 2 (.slice A3 K c3)
    refine ret_cell0 (d := .struct _) (cs := [.slice (some ⟨b1, 0, none⟩) N N, .slice (some ⟨b2, 0, none⟩) k M, .slice A3 K c3]) rfl P9 rfl rfl rfl rfl rfl ?_
    have hkeep : ∀ b, b ≠ w4.heap.size → b ≠ w.heap.size + 1 → ((((w6.setCell ⟨w4.heap.size, 1, none⟩ (.slice (some ⟨b2, 0, none⟩) k M)).setCell ⟨w.heap.size + 1, 0, none⟩ (.slice (some ⟨b1, 0, none⟩) N N)).setCell ⟨w.heap.size + 1, 1, none⟩ (.slice (some ⟨b2, 0, none⟩) k M)).setCell ⟨w.heap.size + 1, 2, none⟩ (.slice A3 K c3)).heap[b]? = w6.heap[b]? := fun b n1 n2 => by
      rw [Below.heap_setCell _ _ _ _ n2, Below.heap_setCell _ _ _ _ n2, Below.heap_setCell _ _ _ _ n2, Below.heap_setCell _ _ _ _ n1]
    have hrd := swept_read (L := L) HG.out hK (W := (((w6.setCell ⟨w4.heap.size, 1, none⟩ (.slice (some ⟨b2, 0, none⟩) k M)).setCell ⟨w.heap.size + 1, 0, none⟩ (.slice (some ⟨b1, 0, none⟩) N N)).setCell ⟨w.heap.size + 1, 1, none⟩ (.slice (some ⟨b2, 0, none⟩) k M)).setCell ⟨w.heap.size + 1, 2, none⟩ (.slice A3 K c3))
      (by have := hg6.size; simp; omega) (fun b n1 n2 n3 => by rw [hkeep b (by omega) (by omega), hg6.block b (by omega) (by simpa using n3), HB5.out.block b n2]) hIz hzm ((hkeep b2 (by omega) (by omega)).trans hb6) hM Hk.out
    rw [← Hsw.out L hL] at hrd
    have e1 := (slice_len (rGr_open hrd).1).1
    have e2 := (slice_len (rGr_open hrd).2.1).1
    have e3 := (slice_len (rGr_open hrd).2.2).1
    rw [hN] at hrd e1
    refine ⟨some ⟨b1, 0, none⟩, N, some ⟨b2, 0, none⟩, M, A3, c3, ?_, ?_, ?_⟩
    · rw [e1, e2, e3]
    · rw [e1, e2, e3]; exact hrd
    · have hz9 := H5.out.grown hg6 H5.out.size (fun k hk => by cases hk; omega)
      exact (((hz9.setCell (p := ⟨w4.heap.size, 1, none⟩) (by show w.heap.size ≤ w4.heap.size; omega) (.slice (some ⟨b2, 0, none⟩) k M)).setCell (p := ⟨w.heap.size + 1, 0, none⟩) (by simp) (.slice (some ⟨b1, 0, none⟩) N N)).setCell (p := ⟨w.heap.size + 1, 1, none⟩) (by simp) (.slice (some ⟨b2, 0, none⟩) k M)).setCell (p := ⟨w.heap.size + 1, 2, none⟩) (by simp) (.slice A3 K c3)
  · replace hm : mayG g = false := by simpa using hm
    rw [hm]
    have y0 := p2.cell (j := 0) rfl
    have y1 := p2.cell (j := 1) rfl
    have y2 := p2.cell (j := 2) rfl
    have g0 := p2.frozen 0
    have g1 := p2.frozen 1
    have g2 := p2.frozen 2
    go_wp2
    have P9 := ((p2.set 0 (.slice none 0 0)).set 1 (.slice none 0 0)).set 2 (.slice none 0 0)
    refine ret_cell0 (d := .struct _) (cs := [.slice none 0 0, .slice none 0 0, .slice none 0 0]) rfl P9 rfl rfl rfl rfl rfl ?_
    rw [sweepG_no hm]
    refine ⟨none, 0, none, 0, none, 0, rfl, rGr_mk ⟨none, 0, [], rfl, Nat.le_refl _, Nat.zero_le _, .inl rfl, Chunks.nil⟩ ⟨none, 0, [], rfl, Nat.le_refl _, Nat.zero_le _, .inl rfl, Chunks.nil⟩ ⟨none, 0, [], rfl, Nat.le_refl _, Nat.zero_le _, .inl rfl, Chunks.nil⟩, ?_⟩
    exact ((H1.out.setCell (p := ⟨w.heap.size + 1, 0, none⟩) (by simp) (.slice none 0 0)).setCell (p := ⟨w.heap.size + 1, 1, none⟩) (by simp) (.slice none 0 0)).setCell (p := ⟨w.heap.size + 1, 2, none⟩) (by simp) (.slice none 0 0)
end Go.Proofs.Ytembafogbfcajaa
