/- The contract of graph's makeEach with value.Zero. Condition: sizes that memory can hold. -/
import Derived.Test.YtnmgdaaddfdffaaGreatDoorVlZero
import Derived.Test.YtnmgdaaddfdffaaGreatDoorGGraph
namespace Go.Proofs.YtnmgdaaddfdffaaGreatDoor
open Go.RowKit

theorem zero_val {S : Nat → Prop} {w : World} (k : Int) : rVal S w [.int .i64 0, .string ⟨#[]⟩, .int .i64 (zeroV k).2.2] (zeroV k) := by
  by_cases h : k = 5
  · rw [zeroV, if_pos h]; exact rVal_mk rfl (Nat.zero_le _) (by decide) (by decide)
  · rw [zeroV, if_neg h]; exact rVal_mk rfl (Nat.zero_le _) (by decide) (by decide)

set_option maxRecDepth 100000 in
set_option maxHeartbeats 2000000 in
theorem eachZ_any (A : Option Addr) (N c : Nat) (l : List Fld) (w : World) (h : rFlds (All w) w [.slice A N c] l) (hNl : N ≤ 7036874417766) :
    Calls Tryz.prog 70 #[.slice A N c, .func (.func 71) #[] #[]] w fun e w' => ∃ cs, e = .returned (.slice (some ⟨w.heap.size, 0, none⟩) N N) ∧ Blk w' w.heap.size 57 cs ∧
      Chunks 3 (rVal (fun b => w.heap.size < b ∧ b < w'.heap.size) w') cs (l.map fun f => zeroV f.2.1) ∧ Below w.heap.size w w' := by
  obtain ⟨hN, hNc, hcm⟩ := slice_len h
  have hmk := fun W => made_run (P := Tryz.prog) 60 57 (.agg #[.int .i64 0, .string ⟨#[]⟩, .int .i64 0]) 3 32 rfl (by kernel_rfl) N (by omega) (by omega) W
  simp only [maxLen] at hcm
  have b0 := Blk.new w 57 (madeCells (Value.agg #[.int .i64 0, .string ⟨#[]⟩, .int .i64 0]).cells (N * 3)).toList
  have hB0 : Below w.heap.size w (w.alloc (.cells (madeCells (Value.agg #[.int .i64 0, .string ⟨#[]⟩, .int .i64 0]).cells (N * 3)).toList.toArray 57)) := (Below.refl _ w).alloc (Nat.le_refl _) _
  have hl0 := made_len (Value.agg #[.int .i64 0, .string ⟨#[]⟩, .int .i64 0]).cells (N * 3)
  go_enter Tryz.func70, Tryz.ntmps70
  go_wp2
  go_loopw [13] (fun iv w' => ∃ (i : Nat) (ds ts : List Value), i ≤ N ∧ iv = .int .i64 (i : Int) ∧ Below w.heap.size w w' ∧ Blk w' w.heap.size 57 (ds ++ ts) ∧ Hid (ds.length = i * 3 ∧ ts.length = (N - i) * 3 ∧
    Chunks 3 (rVal (fun b => w.heap.size < b ∧ b < w'.heap.size) w') ds ((l.take i).map fun f => zeroV f.2.1))) (fun iv _ => N - (intOf iv).toNat)
  case atStart => exact ⟨0, [], _, by omega, rfl, hB0, b0, Lib.hid ⟨by simp, by rw [hl0]; simp, by rw [List.take_zero]; exact Chunks.nil⟩⟩
  case round =>
    rename_i iv wr
    obtain ⟨i, ds, ts, hi, rfl, hB, b1, hr⟩ := hrel
    clear b0 hB0 hl0 hmk
    by_cases hin : i < N
    · obtain ⟨hr1, hr2, hr3⟩ := hr.out
      obtain ⟨z0, z1, z2, r, rfl, hrl⟩ := cons3 (n := N - i - 1) (by rw [hr2]; congr 1; omega)
      have hli : l[i]? = some l[i] := List.getElem?_eq_getElem (by omega)
      obtain ⟨b, off, sx, tx, rfl, hb, hx0, hx1, hx2, hs, ht, hsm, htm, hk⟩ := fld_at (flds_below hB h) hli
      have hil : (i : Int) < (N : Int) := by omega
      have hi0 : (0 : Int) ≤ (i : Int) := by omega
      have T1 := Lib.hid (fun W (hW : Below wr.heap.size wr W) => have _ := hW; vlzero_any sx tx l[i].2.1 W)
      have Htk := Lib.hid (take_at hli)
      have Hr := Lib.hid hr
      have Hr3 := Lib.hid hr3
      have HB := Lib.hid hB
      have Hl := Lib.hid hli
      clear hr hr2 hr3 hB h hli
      have hB1 : ∀ u, Below wr.heap.size wr (wr.alloc (.cells u 114)) := fun u => (Below.refl _ wr).alloc (Nat.le_refl _) _
      generalize l[i] = f at *
      go_wp2_with fail
      refine (T1.out _ (hB1 _)).mono ?_
      rintro e w1 ⟨rfl, hB2⟩
      have hC := (hB1 #[.string sx, .int .i64 f.2.1, .string tx]).trans (hB2.mono (hB1 _).size)
      have b2 := b1.to hC
      have f0 := b2.frozen (i * 3)
      have e0 := b2.cell (j := i * 3) (u := z0) (at_end0 hr1)
      have f1 := b2.frozen (i * 3 + 1)
      have e1 := b2.cell (j := i * 3 + 1) (u := z1) (at_end hr1 1)
      have f2 := b2.frozen (i * 3 + 2)
      have e2 := b2.cell (j := i * 3 + 2) (u := z2) (at_end hr1 2)
      go_wp2
      go_roundw
      case rel =>
        have P4 := (((b2).set (i * 3) (.int .i64 0)).set (i * 3 + 1) (.string ⟨#[]⟩)).set (i * 3 + 2) (.int .i64 (zeroV f.2.1).2.2)
        rw [set_mid3 hr1] at P4
        refine ⟨i + 1, _, r, by omega, by go_num, ((((HB.out.trans (hC.mono HB.out.size)).setCell (p := ⟨w.heap.size, i * 3, none⟩) (by simp) (.int .i64 0)).setCell (p := ⟨w.heap.size, i * 3 + 1, none⟩) (by simp) (.string ⟨#[]⟩)).setCell (p := ⟨w.heap.size, i * 3 + 2, none⟩) (by simp) (.int .i64 (zeroV f.2.1).2.2)), P4, Lib.hid ⟨by simp [hr1]; omega, by rw [hrl]; congr 1, ?_⟩⟩
        rw [Htk.out, List.map_append, List.map_cons, List.map_nil]
        refine Chunks.append (Hr3.out.imp fun cs a hq => rVal_stays.to (Keeps.mono fun _ h => h) hq) (Chunks.one rfl ?_)
        exact zero_val f.2.1
      case measure => simp [intOf]; omega
    · obtain rfl : i = N := by omega
      obtain ⟨hr1, hr2, hr3⟩ := hr.out
      have ht0 : ts = [] := List.eq_nil_of_length_eq_zero (by rw [hr2]; simp)
      subst ht0
      rw [List.append_nil] at b1
      rw [List.take_of_length_le (by omega)] at hr3
      have Hr3 := Lib.hid hr3
      clear hr3 hr2 hr1 hr h
      go_wp2
      go_ret
      exact ⟨ds, rfl, b1, Hr3.out, hB⟩
end Go.Proofs.YtnmgdaaddfdffaaGreatDoor
