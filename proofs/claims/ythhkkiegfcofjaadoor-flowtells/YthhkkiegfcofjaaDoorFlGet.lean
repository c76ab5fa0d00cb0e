/- The contract of flow.Get: the flow of bytes, or why not, as 'getFl' tells. Conditions: at most 1,000,000,000 bytes; the variable errors.errorType holds the handle of the type 'error'. -/
import Derived.Test.YthhkkiegfcofjaaDoorFlRead
import Derived.Test.YthhkkiegfcofjaaDoorFlAs
import Derived.Laws.ResultCell
namespace Go.Proofs.YthhkkiegfcofjaaDoor
open Go.RowKit

theorem ret_cell1 {P : Program} {fn : Func} {p q : Tmp} {ty : TypeId} {a : Act} {w : World} {Q : Ending → World → Prop} {g : Nat} {t' : TypeId} {cs : List Value} {d : TypeDesc} (h : fn.results = #[.cell p ty, .tmp q]) (hb : Blk w g t' cs)
    (hu : P.underlying ty = some d) (hd : (match d with | .struct _ | .array _ _ => true | _ => false) = true) (hi : (P.info? ty).map (·.size) = some cs.length) (hp : a.tmps.getD p undef = .pointer (some ⟨g, 0, none⟩)) (hdef : a.defers = [])
    (hQ : Q (.returned (.tuple #[.agg cs.toArray, a.tmps.getD q undef])) w) : bodyPost P fn Q .ret a w := by
  refine bodyPost_ret (v := .tuple #[.agg cs.toArray, a.tmps.getD q undef]) ?_ hdef hQ
  have hl := run_loadVar_row (P := P) w g t' ty cs.toArray (0, 0) d hb hu hd (by simpa using hi)
  rw [results_cell_tmp h, hp]
  simp only [asAddr, Sem.run_pure, Result.andThen, hl]
theorem info_flt : (Tryd.prog.info? 59).map (fun i => (i.zero, i.size)) = some (some (.agg #[.int .i64 0]), 1) := by kernel_rfl

set_option maxRecDepth 100000 in
set_option maxHeartbeats 1000000 in
theorem fget_any (A : Option Addr) (c n : Nat) (bs : List Nat) (w : World) (hn : bs.length = n) (hc : n ≤ c) (hb : ∀ x ∈ bs, x < 256) (hr : Rd w A (u8s bs)) (hlen : n ≤ 1000000000) (hg : Han w) :
    Calls Tryd.prog 14 #[.slice A n c] w fun e w' => ∃ A' c', e = .returned (.tuple #[.agg #[.int .u32 (getFl bs).1.1, .slice A' (getFl bs).1.2.length c'], .int .i64 ((getFl bs).2 : Int)]) ∧ rPts (All w') w' [.slice A' (getFl bs).1.2.length c'] (getFl bs).1.2 ∧ Below w.heap.size w w' := by
  obtain ⟨hz, hsz⟩ := zero_of_info info_flo
  obtain ⟨hz2, hsz2⟩ := zero_of_info info_flt
  have hB0 : Below w.heap.size w (w.alloc (.cells #[.int .u32 0, .slice none 0 0] 25)) := (Below.refl _ w).alloc (Nat.le_refl _) _
  have hz0 := Blk.new w 25 [.int .u32 0, .slice none 0 0]
  have G1 := Lib.hid (read_any A c n bs _ hn hc hb (hr.below hB0) hlen)
  have hbad := getFl_bad (bs := bs)
  simp only [ReadSays] at G1
  generalize getFl bs = gf at *
  obtain ⟨f, E⟩ := gf
  simp only at G1 hbad ⊢
  have Hbad := Lib.hid hbad
  clear hbad
  go_enter Tryd.func14, Tryd.ntmps14
  go_wp2_with fail
  refine G1.out.mono ?_
  rintro e w1 ⟨v1, rfl, hsays, hB1⟩
  have hz1 := hz0.below hz0.lt hB1
  have hBw := hB0.trans (hB1.mono hB0.size)
  have hs1 := hB1.size
  rw [World.size_alloc] at hsays hs1
  clear G1 hz0 hB0 hr
  have hzl := hz1.lt
  rcases hsays with ⟨hne, rfl⟩ | ⟨heq, A2, c2, B2, d2, rfl, hpts, hfr⟩
  · obtain rfl := Hbad.out hne
    clear Hbad
    have hB2 : Below w.heap.size w ((w1.alloc (.cells #[.int .u32 0, .slice none 0 0] 25)).alloc (.cells #[.int .i64 0] 59)) := (hBw.alloc hBw.size _).alloc (by simp; omega) _
    have hz2b := (hz1.alloc (.cells #[.int .u32 0, .slice none 0 0] 25)).alloc (.cells #[.int .i64 0] 59)
    have ht2 := Blk.new (w1.alloc (.cells #[.int .u32 0, .slice none 0 0] 25)) 59 [.int .i64 0]
    rw [World.size_alloc] at ht2
    have A1 := Lib.hid (as_hit (E : Int) (w1.heap.size + 1) _ _ _ (hg.to hB2 hg.pos) ht2)
    have Hz2 := Lib.hid hz2b
    have HB2 := Lib.hid hB2
    clear hz2b hB2 ht2 hz1
    go_wp2_with fail
    refine A1.out.mono ?_
    rintro e w3 ⟨rfl, w2, hB2, rfl, ht3⟩
    have hz3 := (Hz2.out.below Hz2.out.lt hB2).row_other (g' := w1.heap.size + 1) #[.int .i64 (E : Int)] (by omega)
    have hB3 := below_setRow (HB2.out.trans (hB2.mono HB2.out.size)) (g := w1.heap.size + 1) (by omega) #[.int .i64 (E : Int)]
    clear A1 Hz2 HB2 hB2
    generalize w2.setRow (w1.heap.size + 1) #[.int .i64 (E : Int)] = w4 at *
    have ht4 : Blk w4.drew (w1.heap.size + 1) 59 [.int .i64 (E : Int)] := ht3
    have hz4 : Blk w4.drew w.heap.size 25 [.int .u32 0, .slice none 0 0] := hz3
    have hc4 := ht4.cell (j := 0) rfl
    have hx0 := hz4.cell (j := 0) rfl
    have hx1 := hz4.cell (j := 1) rfl
    have hf0 := hz4.frozen 0
    have hf1 := hz4.frozen 1
    have hrw := (hz4.set 0 (.int .u32 0)).set 1 (.slice none 0 0)
    have hBr := (hB3.drew.setCell (p := ⟨w.heap.size, 0, none⟩) (Nat.le_refl w.heap.size) (.int .u32 0)).setCell (p := ⟨w.heap.size, 1, none⟩) (Nat.le_refl w.heap.size) (.slice none 0 0)
    have hc5 := ((ht4.other ⟨w.heap.size, 0, none⟩ (.int .u32 0) (by simp; omega)).other ⟨w.heap.size, 1, none⟩ (.slice none 0 0) (by simp; omega)).cell (j := 0) rfl
    have Hrw := Lib.hid hrw
    have HBr := Lib.hid hBr
    have Hc5 := Lib.hid hc5
    clear hrw hBr hc5
    go_wp2_with fail
    refine sch_start [(0, true), (1, true), (2, true), (3, false), (4, true)]
      (fun W => W.cell? ⟨w1.heap.size + 1, 0, none⟩ = some (.int .i64 (E : Int))) (by kernel_rfl) rfl (by kernel_rfl) (fun _ _ _ _ _ h => h) hc4 (fun hH => ?_)
    repeat (first | (refine sch_yes (v := ?_) rfl rfl ?_ hH ?_; rotate_left; (focus ((intro W hW; go_simp) <;> with_reducible rfl)); simp only [Act.put, List.setIfInBounds_toArray, List.set_cons_zero, List.set_cons_succ]) | (refine sch_no rfl rfl hH ?_; simp only [Act.put, List.setIfInBounds_toArray, List.set_cons_zero, List.set_cons_succ]))
    generalize w4.drew = w5 at *
    refine sch_call rfl rfl (fun K hK => ?_)
    go_wp2
    refine hK.out _ _ Hc5.out ?_
    clear hK hH
    have hH := Hc5.out
    repeat (first | (refine sch_yes (v := ?_) rfl rfl ?_ hH ?_; rotate_left; (focus ((intro W hW; go_simp) <;> with_reducible rfl)); simp only [Act.put, List.setIfInBounds_toArray, List.set_cons_zero, List.set_cons_succ]) | (refine sch_no rfl rfl hH ?_; simp only [Act.put, List.setIfInBounds_toArray, List.set_cons_zero, List.set_cons_succ]))
    refine sch_done ?_
    clear hH
    go_wp2
    refine ret_cell1 rfl Hrw.out Tryd.underlying25 rfl hsz rfl rfl ?_
    exact ⟨none, 0, rfl, ⟨none, 0, [], rfl, Nat.le_refl _, Nat.zero_le _, .inl rfl, Chunks.nil⟩, HBr.out⟩
  · subst heq
    have hB2 : Below w.heap.size w ((w1.alloc (.cells #[.int .u32 f.1, .slice A2 f.2.length c2] 25)).alloc (.cells #[.int .i64 0] 59)) := (hBw.alloc hBw.size _).alloc (by simp; omega) _
    have hz2b := (hz1.alloc (.cells #[.int .u32 f.1, .slice A2 f.2.length c2] 25)).alloc (.cells #[.int .i64 0] 59)
    have hf2 := (Blk.new w1 25 [.int .u32 f.1, .slice A2 f.2.length c2]).alloc (.cells #[.int .i64 0] 59)
    have hp2 := rPts_stays.to (S' := fun b => b < w1.heap.size ∧ b ≠ w.heap.size) (fun x hx => ⟨⟨hx.1, by omega⟩, by rw [Below.heap_alloc _ _ x (by simp; omega), Below.heap_alloc _ _ x hx.1]⟩) hpts (w' := (w1.alloc (.cells #[.int .u32 f.1, .slice A2 f.2.length c2] 25)).alloc (.cells #[.int .i64 0] 59))
    have A1 := Lib.hid (fun t W => as_nil t W)
    clear hz1 hpts hfr
    go_wp2_with fail
    refine (A1.out _ _).mono ?_
    rintro e w3 ⟨rfl, rfl⟩
    have hs2 : ((w1.alloc (.cells #[.int .u32 f.1, .slice A2 f.2.length c2] 25)).alloc (.cells #[.int .i64 0] 59)).heap.size = w1.heap.size + 1 + 1 := by simp
    generalize (w1.alloc (.cells #[.int .u32 f.1, .slice A2 f.2.length c2] 25)).alloc (.cells #[.int .i64 0] 59) = w3 at *
    have hx0 := hz2b.cell (j := 0) rfl
    have hx1 := hz2b.cell (j := 1) rfl
    have hf0 := hz2b.frozen 0
    have hf1 := hz2b.frozen 1
    have hy0 := hf2.cell (j := 0) rfl
    have hy1 := hf2.cell (j := 1) rfl
    have Hrw := Lib.hid ((hz2b.set 0 (.int .u32 f.1)).set 1 (.slice A2 f.2.length c2))
    have HBr := Lib.hid ((hB2.setCell (p := ⟨w.heap.size, 0, none⟩) (Nat.le_refl w.heap.size) (.int .u32 f.1)).setCell (p := ⟨w.heap.size, 1, none⟩) (Nat.le_refl w.heap.size) (.slice A2 f.2.length c2))
    have HO := Lib.hid ((Only.set w.heap.size w3 0 (.int .u32 f.1)).trans (Only.set w.heap.size _ 1 (.slice A2 f.2.length c2)))
    go_wp2
    refine ret_cell1 rfl Hrw.out Tryd.underlying25 rfl hsz rfl rfl ?_
    refine ⟨A2, c2, rfl, rPts_stays.to (fun x hx => ⟨Nat.lt_of_lt_of_le hx.1 (by rw [HO.out.size, hs2]; omega), HO.out.block x hx.2⟩) hp2, HBr.out⟩
end Go.Proofs.YthhkkiegfcofjaaDoor
