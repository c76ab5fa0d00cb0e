/- The contract of flow's read: the flow of bytes and its frames, or why not. Condition: at most 1,000,000,000 bytes. -/
import Derived.Test.YthhkkiegfcofjaaDoorFlRun
namespace Go.Proofs.YthhkkiegfcofjaaDoor
open Go.RowKit

theorem info_flo : (Tryd.prog.info? 25).map (fun i => (i.zero, i.size)) = some (some (.agg #[.int .u32 0, .slice none 0 0]), 2) := by kernel_rfl
theorem info_rdr : (Tryd.prog.info? 76).map (fun i => (i.zero, i.size)) = some (some (.agg #[.int .u32 0, .slice none 0 0, .int .u64 0, .int .i64 0]), 4) := by kernel_rfl

/-- Frames are not read out of a block that holds no cell of theirs. -/
theorem frames_avoid {S : Nat → Prop} {w : World} {B : Option Addr} {n d z : Nat} {l : List Fra} (h : rSlice 2 rFra S w [.slice B n d] l) (h1 : ∀ j k, w.cell? ⟨z, j, none⟩ ≠ some (.int .i64 k)) (h2 : ∀ j k, w.cell? ⟨z, j, none⟩ ≠ some (.int .u8 k)) : rSlice 2 rFra (fun b => S b ∧ b ≠ z) w [.slice B n d] l := by
  obtain ⟨A, c, xs, hv, hc, hm, hr, hl, hch⟩ := h
  refine ⟨A, c, xs, hv, hc, hm, ?_, hl, fun i f hi => ?_⟩
  · rcases hr with h | ⟨b, off, e, hb, hcell⟩
    · exact .inl h
    · cases l with
      | nil => exact .inl (List.eq_nil_of_length_eq_zero (by simpa using hl))
      | cons f l =>
        refine .inr ⟨b, off, e, ⟨hb, ?_⟩, hcell⟩
        rintro rfl
        obtain ⟨A', c', hcs, _⟩ := rFra_open (hch 0 f rfl)
        have h0 : xs[0]? = some (.int .i64 f.1) := by
          have := congrArg (fun l : List Value => l[0]?) hcs
          simpa [List.getElem?_take, List.getElem?_drop] using this
        exact h1 _ _ (hcell 0 _ h0)
  · obtain ⟨q1, q2, A', c', q3, q4, q5, q6, q7⟩ := hch i f hi
    refine ⟨q1, q2, A', c', q3, q4, q5, q6, ?_⟩
    rcases q7 with h | ⟨b, off, e, hb, hcell⟩
    · exact .inl h
    · cases hf : f.2 with
      | nil => exact .inl rfl
      | cons x r =>
        rw [hf] at hcell
        refine .inr ⟨b, off, e, ⟨hb, ?_⟩, hcell⟩
        rintro rfl
        exact h2 _ _ (hcell 0 _ rfl)
theorem blk_none {w : World} {z : Nat} {t : TypeId} (h : Blk w z t [.int .u32 0, .slice none 0 0]) : (∀ j k, w.cell? ⟨z, j, none⟩ ≠ some (.int .i64 k)) ∧ ∀ j k, w.cell? ⟨z, j, none⟩ ≠ some (.int .u8 k) := by
  constructor
  all_goals
    intro j k e
    rw [cell_of_row w z j _ t (0, 0) h] at e
    match j with
    | 0 => simp at e
    | 1 => simp at e
    | j + 2 => simp at e
theorem ReadsAt.pts {B g : Nat} {s : RSt} {w : World} {A : Option Addr} {c : Nat} {xs : List Value} (h : ReadsAt B g s w A c xs) : rPts (fun b => b < w.heap.size ∧ B ≤ b) w [.slice A s.parts.length c] s.parts := by
  have hch := h.parts.imp (R' := rBytes (fun b => b < w.heap.size ∧ B ≤ b) w) fun cs a hr => rBytes_stays.to (Keeps.mono fun b hb => ⟨hb.1, hb.2.2.2⟩) hr
  obtain ⟨A', c', hv, h1, h2, h3⟩ := own_in h.row
  injection hv with e1 _ e3
  subst e1 e3
  exact ⟨A, c, xs, rfl, h1, h2, h3.keeps (Keeps.mono fun b hb => ⟨hb.2, hb.1⟩), hch⟩

def ReadSays (lo : Nat) (bs : List Nat) (v : Value) (w' : World) : Prop :=
  ((getFl bs).2 ≠ 0 ∧ v = .tuple #[.agg #[.int .u32 0, .slice none 0 0], .slice none 0 0, .iface 59 (.agg #[.int .i64 ((getFl bs).2 : Int)])]) ∨
  ((getFl bs).2 = 0 ∧ ∃ A c B d, v = .tuple #[.agg #[.int .u32 (getFl bs).1.1, .slice A (getFl bs).1.2.length c], .slice B ((getFl bs).1.2.length + 2) d, .nilIface] ∧ rPts (fun b => b < w'.heap.size ∧ lo ≤ b) w' [.slice A (getFl bs).1.2.length c] (getFl bs).1.2 ∧ rSlice 2 rFra (All w') w' [.slice B ((getFl bs).1.2.length + 2) d] (framesF (getFl bs).1))

theorem all_form (A : Option Addr) (c n : Nat) (bs : List Nat) (w : World) (hn : bs.length = n) (hc : n ≤ c) (hb : ∀ x ∈ bs, x < 256) (hr : Rd w A (u8s bs)) (hlen : n ≤ 1000000000) :
    Calls Tryd.prog 24 #[.slice A n c] w fun e w' => ∃ B d, e = .returned (.tuple #[.slice B (allL bs).2.length d, .int .i64 ((allL bs).1 : Int)]) ∧ rSlice 2 rFra (All w') w' [.slice B (allL bs).2.length d] (allL bs).2 ∧ Below w.heap.size w w' :=
  (all_any A c n bs w hn hc hb hr hlen).mono fun e w' ⟨v, he, hs, hB⟩ => by
    obtain ⟨B, d, xs, hv, h1⟩ := hs
    simp at hv
    subst hv
    exact ⟨B, d, he, ⟨B, d, xs, rfl, h1⟩, hB⟩

set_option maxRecDepth 100000 in
set_option maxHeartbeats 1000000 in
theorem read_any (A : Option Addr) (c n : Nat) (bs : List Nat) (w : World) (hn : bs.length = n) (hc : n ≤ c) (hb : ∀ x ∈ bs, x < 256) (hr : Rd w A (u8s bs)) (hlen : n ≤ 1000000000) :
    Calls Tryd.prog 29 #[.slice A n c] w fun e w' => ∃ v, e = .returned v ∧ ReadSays w.heap.size bs v w' ∧ Below w.heap.size w w' := by
  obtain ⟨hz, hsz⟩ := zero_of_info info_flo
  obtain ⟨hz2, hsz2⟩ := zero_of_info info_rdr
  have hB0 : Below w.heap.size w (w.alloc (.cells #[.int .u32 0, .slice none 0 0] 25)) := (Below.refl _ w).alloc (Nat.le_refl _) _
  have hz0 := Blk.new w 25 [.int .u32 0, .slice none 0 0]
  have G1 := Lib.hid (all_form A c n bs _ hn hc hb (hr.below hB0) hlen)
  have hback := allL_back bs.length bs (Nat.le_refl _) hb
  have hgf : getFl bs = if (allL bs).1 ≠ 0 then ((0, []), (allL bs).1) else match flowOf (allL bs).2 with | some f => (f, 0) | none => ((0, []), 4) := rfl
  have hgb := fun h => getFl_back (bs := bs) hb h
  have Hgf := Lib.hid hgf
  have Hgb := Lib.hid hgb
  have Hback := Lib.hid hback
  clear hgf hgb hback
  generalize hal : allL bs = al at *
  have Hal := Lib.hid hal
  clear hal
  go_enter Tryd.func29, Tryd.ntmps29
  go_wp2_with fail
  refine G1.out.mono ?_
  rintro e w1 ⟨B1, d1, rfl, hsl, hB1⟩
  have hz1 := hz0.below hz0.lt hB1
  have hBw := hB0.trans (hB1.mono hB0.size)
  clear G1 hz0
  have hzl := hz1.lt
  have hx0 := hz1.cell (j := 0) rfl
  have hx1 := hz1.cell (j := 1) rfl
  have hf0 := hz1.frozen 0
  have hf1 := hz1.frozen 1
  by_cases he : al.1 = 0
  · obtain ⟨hcat, hfit⟩ := Hback.out he
    have he' : ((al.1 : Int) != 0) = false := by rw [bne_eq_false_iff_eq]; omega
    have hBa : Below w1.heap.size w1 (w1.alloc (.cells #[.int .u32 0, .slice none 0 0, .int .u64 0, .int .i64 1] 76)) := (Below.refl _ w1).alloc (Nat.le_refl _) _
    have hRs : Reads w1.heap.size w1.heap.size startS (w1.alloc (.cells #[.int .u32 0, .slice none 0 0, .int .u64 0, .int .i64 1] 76)) :=
      ⟨none, 0, [], Nat.le_refl _, ⟨by simp [startS], by simp [startS], by simp [startS], fun _ => rfl, fun e => by simp [startS] at e, by simp [startS]⟩, Blk.new w1 76 [.int .u32 0, .slice none 0 0, .int .u64 0, .int .i64 1], World.ownsRow_nil _ _ _ _, Chunks.nil⟩
    have R1 := Lib.hid (run_says w1.heap.size w1.heap.size startS B1 al.2.length d1 al.2 _ hRs ((rSlice_stays rFra_stays).to (fun x hx => ⟨hx, hBa.block x hx⟩) hsl) hfit)
    have Hfit := Lib.hid hfit
    clear hfit hcat hRs
    go_wp2_with fail
    refine R1.out.mono ?_
    rintro e w2 ⟨hB2, (⟨hn2, rfl⟩ | ⟨s2, hs2, rfl, A2, c2, xs2, hR2⟩)⟩
    · have hg : getFl bs = ((0, []), 4) := by rw [Hgf.out, if_neg (by simpa using he), flowOf, hn2]; rfl
      have Hg := Lib.hid hg
      have hB3 := hBa.trans hB2
      have hz3 := hz1.below hzl hB3
      have hB4 := hBw.trans (hB3.mono hBw.size)
      clear hg hn2 R1 hz1 hx0 hx1 hf0 hf1 hsl
      have hx0 := hz3.cell (j := 0) rfl
      have hx1 := hz3.cell (j := 1) rfl
      have hf0 := hz3.frozen 0
      have hf1 := hz3.frozen 1
      have Hrw := Lib.hid ((hz3.set 0 (.int .u32 0)).set 1 (.slice none 0 0))
      have HBr := Lib.hid ((hB4.setCell (p := ⟨w.heap.size, 0, none⟩) (Nat.le_refl w.heap.size) (.int .u32 0)).setCell (p := ⟨w.heap.size, 1, none⟩) (Nat.le_refl w.heap.size) (.slice none 0 0))
      go_wp2
      refine ret_cell2 rfl Hrw.out Tryd.underlying25 rfl hsz rfl rfl ?_
      exact ⟨_, rfl, .inl ⟨by rw [Hg.out]; simp, by rw [Hg.out]; rfl⟩, HBr.out⟩
    · have hfl : flowOf al.2 = some ((s2.base : Int), s2.parts) := by rw [flowOf, hs2]; rfl
      have hg : getFl bs = (((s2.base : Int), s2.parts), 0) := by rw [Hgf.out, if_neg (by simpa using he), hfl]
      have hal2 := (flowOf_back Hfit.out hfl).2
      have Hg := Lib.hid hg
      have Hal2 := Lib.hid hal2
      have hB3 := hBa.trans hB2
      have hz3 := hz1.below hzl hB3
      have hB4 := hBw.trans (hB3.mono hBw.size)
      have hsl3 := (rSlice_stays rFra_stays).to (S' := fun b => b < w1.heap.size) (fun x hx => ⟨hx, hB3.block x hx⟩) hsl
      have Hsl3 := Lib.hid hsl3
      clear hg hs2 hal2 hfl R1 hz1 hx0 hx1 hf0 hf1 hsl hsl3
      have hx0 := hz3.cell (j := 0) rfl
      have hx1 := hz3.cell (j := 1) rfl
      have hf0 := hz3.frozen 0
      have hf1 := hz3.frozen 1
      have hg0 := hR2.blk.cell (j := 0) rfl
      have hg1 := hR2.blk.cell (j := 1) rfl
      have Hrw := Lib.hid ((hz3.set 0 (.int .u32 (s2.base : Int))).set 1 (.slice A2 s2.parts.length c2))
      have HBr := Lib.hid ((hB4.setCell (p := ⟨w.heap.size, 0, none⟩) (Nat.le_refl w.heap.size) (.int .u32 (s2.base : Int))).setCell (p := ⟨w.heap.size, 1, none⟩) (Nat.le_refl w.heap.size) (.slice A2 s2.parts.length c2))
      have hO := (Only.set w.heap.size w2 0 (.int .u32 (s2.base : Int))).trans (Only.set w.heap.size _ 1 (.slice A2 s2.parts.length c2))
      have HO := Lib.hid hO
      clear hO
      go_wp2
      refine ret_cell2 rfl Hrw.out Tryd.underlying25 rfl hsz rfl rfl ?_
      have hO := HO.out
      have hn2 : al.2.length = s2.parts.length + 2 := by rw [Hal2.out, framesF_length]
      have hsl4 := frames_avoid Hsl3.out (blk_none hz3).1 (blk_none hz3).2
      refine ⟨_, rfl, .inr ⟨by rw [Hg.out], A2, c2, B1, d1, ?_, ?_, ?_⟩, HBr.out⟩
      · rw [Hg.out]
        simp only
        rw [← hn2]
        rfl
      · rw [Hg.out]
        exact rPts_stays.to (fun x hx => ⟨⟨Nat.lt_of_lt_of_le hx.1 (Nat.le_of_eq hO.size.symm), by omega⟩, hO.block x (by omega)⟩) hR2.pts
      · rw [Hg.out]
        simp only
        rw [← Hal2.out, ← hn2]
        exact (rSlice_stays rFra_stays).to (fun x hx => ⟨Nat.lt_of_lt_of_le hx.1 (Nat.le_trans hB3.size (Nat.le_of_eq hO.size.symm)), hO.block x hx.2⟩) hsl4
  · have he' : ((al.1 : Int) != 0) = true := by rw [bne_iff_ne]; omega
    have hg : getFl bs = ((0, []), al.1) := by rw [Hgf.out, if_pos he]
    have Hg := Lib.hid hg
    clear hg
    have hrw := (hz1.set 0 (.int .u32 0)).set 1 (.slice none 0 0)
    have hBr := (hBw.setCell (p := ⟨w.heap.size, 0, none⟩) (Nat.le_refl w.heap.size) (.int .u32 0)).setCell (p := ⟨w.heap.size, 1, none⟩) (Nat.le_refl w.heap.size) (.slice none 0 0)
    have Hrw := Lib.hid hrw
    have HBr := Lib.hid hBr
    clear hrw hBr
    go_wp2
    refine ret_cell2 rfl Hrw.out Tryd.underlying25 rfl hsz rfl rfl ?_
    exact ⟨_, rfl, .inl ⟨by rw [Hg.out]; exact he, by rw [Hg.out]; rfl⟩, HBr.out⟩
end Go.Proofs.YthhkkiegfcofjaaDoor
