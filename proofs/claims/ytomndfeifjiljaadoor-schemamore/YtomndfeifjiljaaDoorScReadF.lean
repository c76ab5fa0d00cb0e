/- The contract of schema's readField: what 'pF' tells; nothing that was there is changed. Conditions: at most 2^47 bytes; the table of kinds lies as the program's text lays it. -/
import Derived.Test.YtomndfeifjiljaaDoorScText
import Derived.Test.YtomndfeifjiljaaDoorScCut
import Derived.Test.YtomndfeifjiljaaDoorNaClone
import Derived.Test.YtomndfeifjiljaaDoorRets
namespace Go.Proofs.YtomndfeifjiljaaDoor
open Go.RowKit

theorem info_fld : (Tryd.prog.info? 40).map (fun i => (i.zero, i.size)) = some (some (.agg #[.string ⟨#[]⟩, .int .i64 0, .string ⟨#[]⟩]), 3) := by kernel_rfl
/-- What a field that is read is, or none. -/
def FldIs (o : Option Fld) (x y : ByteArray) (k : Int) (b : Bool) : Prop := match o with
  | none => b = false ∧ x = ⟨#[]⟩ ∧ y = ⟨#[]⟩ ∧ k = 0
  | some f => b = true ∧ byt x = f.1 ∧ k = f.2.1 ∧ byt y = f.2.2

set_option maxRecDepth 100000 in
set_option maxHeartbeats 4000000 in
theorem readField_any (s : ByteArray) (w : World) (hK : Kt w) (hs : s.size ≤ 140737488355328) :
    Calls Tryd.prog 51 #[.string s] w fun e w' => ∃ x y k b, e = .returned (.tuple #[.agg #[.string x, .int .i64 k, .string y], .bool b]) ∧ FldIs (pF (byt s)) x y k b ∧ x.size ≤ s.size ∧ y.size ≤ s.size ∧ (0 ≤ k ∧ k < 6) ∧ Below w.heap.size w w' := by
  obtain ⟨hz, hsz⟩ := zero_of_info info_fld
  have hB0 : Below w.heap.size w (w.alloc (.cells #[.string ⟨#[]⟩, .int .i64 0, .string ⟨#[]⟩] 40)) := (Below.refl _ w).alloc (Nat.le_refl _) _
  have b0 := Blk.new w 40 [.string ⟨#[]⟩, .int .i64 0, .string ⟨#[]⟩]
  have T1 := Lib.hid (fun W => cut_any s 58 W (by omega) (by simp only [maxLen]; omega))
  have hpf : pF (byt s) = if (cutL 58 (byt s)).2.2 = true then (pKs allK (cutL 58 (byt s)).2.1).map (fun x => ((cutL 58 (byt s)).1, x.1, x.2)) else none := rfl
  have hl := cutL_len 58 (byt s)
  rw [byt_length] at hl
  have Hpf := Lib.hid hpf
  have Hl := Lib.hid hl
  clear hpf hl
  generalize pF (byt s) = o at *
  generalize cutL 58 (byt s) = r at *
  go_enter Tryd.func51, Tryd.ntmps51
  go_wp2_with fail
  refine (T1.out _).mono ?_
  rintro e w1 ⟨x, y, rfl, hx, hy, hB1⟩
  have b1 : Blk w1 w.heap.size 40 [.string ⟨#[]⟩, .int .i64 0, .string ⟨#[]⟩] := b0.to hB1
  have hB := hB0.trans (hB1.mono hB0.size)
  have hK1 := hK.below hB
  have hxs : x.size ≤ s.size := by rw [← byt_length, hx]; exact Hl.out.1
  have hys : y.size ≤ s.size := by rw [← byt_length, hy]; exact Hl.out.2.1
  clear T1 hB0 b0 hB1 hK
  obtain ⟨r1, r2, r3⟩ := r
  dsimp only at hx hy
  subst hx hy
  have hx0 := b1.cell (j := 0) rfl
  have hx1 := b1.cell (j := 1) rfl
  have hx2 := b1.cell (j := 2) rfl
  have hf0 := b1.frozen 0
  have hf1 := b1.frozen 1
  have hf2 := b1.frozen 2
  cases r3
  · have Hrw := Lib.hid (((b1.set 0 (.string ⟨#[]⟩)).set 1 (.int .i64 0)).set 2 (.string ⟨#[]⟩))
    have HBr := Lib.hid (((hB.setCell (p := ⟨w.heap.size, 0, none⟩) (Nat.le_refl w.heap.size) (.string ⟨#[]⟩)).setCell (p := ⟨w.heap.size, 1, none⟩) (Nat.le_refl w.heap.size) (.int .i64 0)).setCell (p := ⟨w.heap.size, 2, none⟩) (Nat.le_refl w.heap.size) (.string ⟨#[]⟩))
    go_wp2
    refine ret_cell1 rfl Hrw.out Tryd.underlying40 rfl hsz rfl rfl ?_
    exact ⟨_, _, _, _, rfl, by rw [Hpf.out]; exact ⟨rfl, rfl, rfl, rfl⟩, Nat.zero_le _, Nat.zero_le _, ⟨by omega, by omega⟩, HBr.out⟩
  · have hc : ∀ j v, kts[j]? = some v → w1.cell? ⟨0, j, none⟩ = some v := fun j v hv => hK1.elim fun t b => b.cell hv
    have k0 := hc 0 _ rfl
    have k1 := hc 1 _ rfl
    have k2 := hc 2 _ rfl
    have k3 := hc 3 _ rfl
    have k4 := hc 4 _ rfl
    have k5 := hc 5 _ rfl
    clear hc
    have Hp : Hid (o = (pKs (allK.drop 0) (byt y)).map (fun z => (byt x, z.1, z.2))) := Lib.hid (by have := Hpf.out; simpa using this)
    clear Hpf Hl hx0 hx1 hx2 hf0 hf1 hf2
    go_wp2
    clear k0 k1 k2 k3 k4 k5
    go_loopw [21] (fun iv w' => ∃ i : Nat, i ≤ 6 ∧ iv = .int .i64 (i : Int) ∧ Below w.heap.size w w' ∧ Blk w' w.heap.size 40 [.string ⟨#[]⟩, .int .i64 0, .string ⟨#[]⟩] ∧ Hid (o = (pKs (allK.drop i) (byt y)).map (fun z => (byt x, z.1, z.2)))) (fun iv _ => 6 - (intOf iv).toNat)
    case atStart => exact ⟨0, by omega, rfl, hB, b1, Hp⟩
    case round =>
      rename_i iv wr
      obtain ⟨i, hi, rfl, hB, b1, hp⟩ := hrel
      clear Hp
      have h7 : i = 0 ∨ i = 1 ∨ i = 2 ∨ i = 3 ∨ i = 4 ∨ i = 5 ∨ i = 6 := by omega
      rcases h7 with rfl | rfl | rfl | rfl | rfl | rfl | rfl
      · have hix : ∀ W : World, (Instr.index 77 (.agg #[.string ⟨#[105, 56]⟩, .string ⟨#[105, 49, 54]⟩, .string ⟨#[105, 51, 50]⟩, .string ⟨#[105, 54, 52]⟩, .string ⟨#[116]⟩, .string ⟨#[42]⟩]) (.int .i64 0)).run Tryd.prog W = .ok (.string ⟨#[105, 56]⟩) W := fun _ => by kernel_rfl
        have T2 := Lib.hid (fun W => cutPrefix_any y ⟨#[105, 56]⟩ W)
        have hp' := hp.out
        have e : pKs (allK.drop 0) (byt y) = if (kindT 0).isPrefixOf (byt y) = true then some (0, (byt y).drop (kindT 0).length) else pKs (allK.drop 1) (byt y) := rfl
        rw [e] at hp'
        have ek : byt ⟨#[105, 56]⟩ = kindT 0 := rfl
        rw [ek] at T2
        have Hp2 := Lib.hid hp'
        clear hp' hp e ek
        generalize (kindT 0).isPrefixOf (byt y) = q at *
        generalize (byt y).drop (kindT 0).length = d at *
        go_wp2_with fail
        refine (T2.out _).mono ?_
        rintro e w2 ⟨z, rfl, hz1, hzs, rfl⟩
        have Hz1 := Lib.hid hz1
        clear hz1
        cases q
        · go_wp2
          go_roundw
          case rel => exact ⟨1, by omega, by go_num, hB, b1, Lib.hid (by have := Hp2.out; simpa using this)⟩
          case measure => simp [intOf]
        · go_wp2_with fail
          refine (sclone_any x _ (by omega)).mono ?_
          rintro e w3 ⟨rfl, hB3⟩
          go_wp2_with fail
          refine (sclone_any z _ (by omega)).mono ?_
          rintro e w4 ⟨rfl, hB4⟩
          have hB5 := (hB.trans (hB3.mono hB.size)).trans (hB4.mono (Nat.le_trans hB.size hB3.size))
          have b5 := (b1.to hB3).to hB4
          clear hB hB3 hB4 b1
          have hx0 := b5.cell (j := 0) rfl
          have hx1 := b5.cell (j := 1) rfl
          have hx2 := b5.cell (j := 2) rfl
          have hf0 := b5.frozen 0
          have hf1 := b5.frozen 1
          have hf2 := b5.frozen 2
          have Hrw := Lib.hid (((b5.set 0 (.string x)).set 1 (.int .i64 0)).set 2 (.string z))
          have HBr := Lib.hid (((hB5.setCell (p := ⟨w.heap.size, 0, none⟩) (Nat.le_refl w.heap.size) (.string x)).setCell (p := ⟨w.heap.size, 1, none⟩) (Nat.le_refl w.heap.size) (.int .i64 0)).setCell (p := ⟨w.heap.size, 2, none⟩) (Nat.le_refl w.heap.size) (.string z))
          go_wp2
          refine ret_cell1 rfl Hrw.out Tryd.underlying40 rfl hsz rfl rfl ?_
          exact ⟨_, _, _, _, rfl, by have := Hp2.out; simp at this; rw [this]; exact ⟨rfl, rfl, rfl, Hz1.out (by simp)⟩, hxs, by omega, ⟨by omega, by omega⟩, HBr.out⟩
      · have hix : ∀ W : World, (Instr.index 77 (.agg #[.string ⟨#[105, 56]⟩, .string ⟨#[105, 49, 54]⟩, .string ⟨#[105, 51, 50]⟩, .string ⟨#[105, 54, 52]⟩, .string ⟨#[116]⟩, .string ⟨#[42]⟩]) (.int .i64 1)).run Tryd.prog W = .ok (.string ⟨#[105, 49, 54]⟩) W := fun _ => by kernel_rfl
        have T2 := Lib.hid (fun W => cutPrefix_any y ⟨#[105, 49, 54]⟩ W)
        have hp' := hp.out
        have e : pKs (allK.drop 1) (byt y) = if (kindT 1).isPrefixOf (byt y) = true then some (1, (byt y).drop (kindT 1).length) else pKs (allK.drop 2) (byt y) := rfl
        rw [e] at hp'
        have ek : byt ⟨#[105, 49, 54]⟩ = kindT 1 := rfl
        rw [ek] at T2
        have Hp2 := Lib.hid hp'
        clear hp' hp e ek
        generalize (kindT 1).isPrefixOf (byt y) = q at *
        generalize (byt y).drop (kindT 1).length = d at *
        go_wp2_with fail
        refine (T2.out _).mono ?_
        rintro e w2 ⟨z, rfl, hz1, hzs, rfl⟩
        have Hz1 := Lib.hid hz1
        clear hz1
        cases q
        · go_wp2
          go_roundw
          case rel => exact ⟨2, by omega, by go_num, hB, b1, Lib.hid (by have := Hp2.out; simpa using this)⟩
          case measure => simp [intOf]
        · go_wp2_with fail
          refine (sclone_any x _ (by omega)).mono ?_
          rintro e w3 ⟨rfl, hB3⟩
          go_wp2_with fail
          refine (sclone_any z _ (by omega)).mono ?_
          rintro e w4 ⟨rfl, hB4⟩
          have hB5 := (hB.trans (hB3.mono hB.size)).trans (hB4.mono (Nat.le_trans hB.size hB3.size))
          have b5 := (b1.to hB3).to hB4
          clear hB hB3 hB4 b1
          have hx0 := b5.cell (j := 0) rfl
          have hx1 := b5.cell (j := 1) rfl
          have hx2 := b5.cell (j := 2) rfl
          have hf0 := b5.frozen 0
          have hf1 := b5.frozen 1
          have hf2 := b5.frozen 2
          have Hrw := Lib.hid (((b5.set 0 (.string x)).set 1 (.int .i64 1)).set 2 (.string z))
          have HBr := Lib.hid (((hB5.setCell (p := ⟨w.heap.size, 0, none⟩) (Nat.le_refl w.heap.size) (.string x)).setCell (p := ⟨w.heap.size, 1, none⟩) (Nat.le_refl w.heap.size) (.int .i64 1)).setCell (p := ⟨w.heap.size, 2, none⟩) (Nat.le_refl w.heap.size) (.string z))
          go_wp2
          refine ret_cell1 rfl Hrw.out Tryd.underlying40 rfl hsz rfl rfl ?_
          exact ⟨_, _, _, _, rfl, by have := Hp2.out; simp at this; rw [this]; exact ⟨rfl, rfl, rfl, Hz1.out (by simp)⟩, hxs, by omega, ⟨by omega, by omega⟩, HBr.out⟩
      · have hix : ∀ W : World, (Instr.index 77 (.agg #[.string ⟨#[105, 56]⟩, .string ⟨#[105, 49, 54]⟩, .string ⟨#[105, 51, 50]⟩, .string ⟨#[105, 54, 52]⟩, .string ⟨#[116]⟩, .string ⟨#[42]⟩]) (.int .i64 2)).run Tryd.prog W = .ok (.string ⟨#[105, 51, 50]⟩) W := fun _ => by kernel_rfl
        have T2 := Lib.hid (fun W => cutPrefix_any y ⟨#[105, 51, 50]⟩ W)
        have hp' := hp.out
        have e : pKs (allK.drop 2) (byt y) = if (kindT 2).isPrefixOf (byt y) = true then some (2, (byt y).drop (kindT 2).length) else pKs (allK.drop 3) (byt y) := rfl
        rw [e] at hp'
        have ek : byt ⟨#[105, 51, 50]⟩ = kindT 2 := rfl
        rw [ek] at T2
        have Hp2 := Lib.hid hp'
        clear hp' hp e ek
        generalize (kindT 2).isPrefixOf (byt y) = q at *
        generalize (byt y).drop (kindT 2).length = d at *
        go_wp2_with fail
        refine (T2.out _).mono ?_
        rintro e w2 ⟨z, rfl, hz1, hzs, rfl⟩
        have Hz1 := Lib.hid hz1
        clear hz1
        cases q
        · go_wp2
          go_roundw
          case rel => exact ⟨3, by omega, by go_num, hB, b1, Lib.hid (by have := Hp2.out; simpa using this)⟩
          case measure => simp [intOf]
        · go_wp2_with fail
          refine (sclone_any x _ (by omega)).mono ?_
          rintro e w3 ⟨rfl, hB3⟩
          go_wp2_with fail
          refine (sclone_any z _ (by omega)).mono ?_
          rintro e w4 ⟨rfl, hB4⟩
          have hB5 := (hB.trans (hB3.mono hB.size)).trans (hB4.mono (Nat.le_trans hB.size hB3.size))
          have b5 := (b1.to hB3).to hB4
          clear hB hB3 hB4 b1
          have hx0 := b5.cell (j := 0) rfl
          have hx1 := b5.cell (j := 1) rfl
          have hx2 := b5.cell (j := 2) rfl
          have hf0 := b5.frozen 0
          have hf1 := b5.frozen 1
          have hf2 := b5.frozen 2
          have Hrw := Lib.hid (((b5.set 0 (.string x)).set 1 (.int .i64 2)).set 2 (.string z))
          have HBr := Lib.hid (((hB5.setCell (p := ⟨w.heap.size, 0, none⟩) (Nat.le_refl w.heap.size) (.string x)).setCell (p := ⟨w.heap.size, 1, none⟩) (Nat.le_refl w.heap.size) (.int .i64 2)).setCell (p := ⟨w.heap.size, 2, none⟩) (Nat.le_refl w.heap.size) (.string z))
          go_wp2
          refine ret_cell1 rfl Hrw.out Tryd.underlying40 rfl hsz rfl rfl ?_
          exact ⟨_, _, _, _, rfl, by have := Hp2.out; simp at this; rw [this]; exact ⟨rfl, rfl, rfl, Hz1.out (by simp)⟩, hxs, by omega, ⟨by omega, by omega⟩, HBr.out⟩
      · have hix : ∀ W : World, (Instr.index 77 (.agg #[.string ⟨#[105, 56]⟩, .string ⟨#[105, 49, 54]⟩, .string ⟨#[105, 51, 50]⟩, .string ⟨#[105, 54, 52]⟩, .string ⟨#[116]⟩, .string ⟨#[42]⟩]) (.int .i64 3)).run Tryd.prog W = .ok (.string ⟨#[105, 54, 52]⟩) W := fun _ => by kernel_rfl
        have T2 := Lib.hid (fun W => cutPrefix_any y ⟨#[105, 54, 52]⟩ W)
        have hp' := hp.out
        have e : pKs (allK.drop 3) (byt y) = if (kindT 3).isPrefixOf (byt y) = true then some (3, (byt y).drop (kindT 3).length) else pKs (allK.drop 4) (byt y) := rfl
        rw [e] at hp'
        have ek : byt ⟨#[105, 54, 52]⟩ = kindT 3 := rfl
        rw [ek] at T2
        have Hp2 := Lib.hid hp'
        clear hp' hp e ek
        generalize (kindT 3).isPrefixOf (byt y) = q at *
        generalize (byt y).drop (kindT 3).length = d at *
        go_wp2_with fail
        refine (T2.out _).mono ?_
        rintro e w2 ⟨z, rfl, hz1, hzs, rfl⟩
        have Hz1 := Lib.hid hz1
        clear hz1
        cases q
        · go_wp2
          go_roundw
          case rel => exact ⟨4, by omega, by go_num, hB, b1, Lib.hid (by have := Hp2.out; simpa using this)⟩
          case measure => simp [intOf]
        · go_wp2_with fail
          refine (sclone_any x _ (by omega)).mono ?_
          rintro e w3 ⟨rfl, hB3⟩
          go_wp2_with fail
          refine (sclone_any z _ (by omega)).mono ?_
          rintro e w4 ⟨rfl, hB4⟩
          have hB5 := (hB.trans (hB3.mono hB.size)).trans (hB4.mono (Nat.le_trans hB.size hB3.size))
          have b5 := (b1.to hB3).to hB4
          clear hB hB3 hB4 b1
          have hx0 := b5.cell (j := 0) rfl
          have hx1 := b5.cell (j := 1) rfl
          have hx2 := b5.cell (j := 2) rfl
          have hf0 := b5.frozen 0
          have hf1 := b5.frozen 1
          have hf2 := b5.frozen 2
          have Hrw := Lib.hid (((b5.set 0 (.string x)).set 1 (.int .i64 3)).set 2 (.string z))
          have HBr := Lib.hid (((hB5.setCell (p := ⟨w.heap.size, 0, none⟩) (Nat.le_refl w.heap.size) (.string x)).setCell (p := ⟨w.heap.size, 1, none⟩) (Nat.le_refl w.heap.size) (.int .i64 3)).setCell (p := ⟨w.heap.size, 2, none⟩) (Nat.le_refl w.heap.size) (.string z))
          go_wp2
          refine ret_cell1 rfl Hrw.out Tryd.underlying40 rfl hsz rfl rfl ?_
          exact ⟨_, _, _, _, rfl, by have := Hp2.out; simp at this; rw [this]; exact ⟨rfl, rfl, rfl, Hz1.out (by simp)⟩, hxs, by omega, ⟨by omega, by omega⟩, HBr.out⟩
      · have hix : ∀ W : World, (Instr.index 77 (.agg #[.string ⟨#[105, 56]⟩, .string ⟨#[105, 49, 54]⟩, .string ⟨#[105, 51, 50]⟩, .string ⟨#[105, 54, 52]⟩, .string ⟨#[116]⟩, .string ⟨#[42]⟩]) (.int .i64 4)).run Tryd.prog W = .ok (.string ⟨#[116]⟩) W := fun _ => by kernel_rfl
        have T2 := Lib.hid (fun W => cutPrefix_any y ⟨#[116]⟩ W)
        have hp' := hp.out
        have e : pKs (allK.drop 4) (byt y) = if (kindT 4).isPrefixOf (byt y) = true then some (4, (byt y).drop (kindT 4).length) else pKs (allK.drop 5) (byt y) := rfl
        rw [e] at hp'
        have ek : byt ⟨#[116]⟩ = kindT 4 := rfl
        rw [ek] at T2
        have Hp2 := Lib.hid hp'
        clear hp' hp e ek
        generalize (kindT 4).isPrefixOf (byt y) = q at *
        generalize (byt y).drop (kindT 4).length = d at *
        go_wp2_with fail
        refine (T2.out _).mono ?_
        rintro e w2 ⟨z, rfl, hz1, hzs, rfl⟩
        have Hz1 := Lib.hid hz1
        clear hz1
        cases q
        · go_wp2
          go_roundw
          case rel => exact ⟨5, by omega, by go_num, hB, b1, Lib.hid (by have := Hp2.out; simpa using this)⟩
          case measure => simp [intOf]
        · go_wp2_with fail
          refine (sclone_any x _ (by omega)).mono ?_
          rintro e w3 ⟨rfl, hB3⟩
          go_wp2_with fail
          refine (sclone_any z _ (by omega)).mono ?_
          rintro e w4 ⟨rfl, hB4⟩
          have hB5 := (hB.trans (hB3.mono hB.size)).trans (hB4.mono (Nat.le_trans hB.size hB3.size))
          have b5 := (b1.to hB3).to hB4
          clear hB hB3 hB4 b1
          have hx0 := b5.cell (j := 0) rfl
          have hx1 := b5.cell (j := 1) rfl
          have hx2 := b5.cell (j := 2) rfl
          have hf0 := b5.frozen 0
          have hf1 := b5.frozen 1
          have hf2 := b5.frozen 2
          have Hrw := Lib.hid (((b5.set 0 (.string x)).set 1 (.int .i64 4)).set 2 (.string z))
          have HBr := Lib.hid (((hB5.setCell (p := ⟨w.heap.size, 0, none⟩) (Nat.le_refl w.heap.size) (.string x)).setCell (p := ⟨w.heap.size, 1, none⟩) (Nat.le_refl w.heap.size) (.int .i64 4)).setCell (p := ⟨w.heap.size, 2, none⟩) (Nat.le_refl w.heap.size) (.string z))
          go_wp2
          refine ret_cell1 rfl Hrw.out Tryd.underlying40 rfl hsz rfl rfl ?_
          exact ⟨_, _, _, _, rfl, by have := Hp2.out; simp at this; rw [this]; exact ⟨rfl, rfl, rfl, Hz1.out (by simp)⟩, hxs, by omega, ⟨by omega, by omega⟩, HBr.out⟩
      · have hix : ∀ W : World, (Instr.index 77 (.agg #[.string ⟨#[105, 56]⟩, .string ⟨#[105, 49, 54]⟩, .string ⟨#[105, 51, 50]⟩, .string ⟨#[105, 54, 52]⟩, .string ⟨#[116]⟩, .string ⟨#[42]⟩]) (.int .i64 5)).run Tryd.prog W = .ok (.string ⟨#[42]⟩) W := fun _ => by kernel_rfl
        have T2 := Lib.hid (fun W => cutPrefix_any y ⟨#[42]⟩ W)
        have hp' := hp.out
        have e : pKs (allK.drop 5) (byt y) = if (kindT 5).isPrefixOf (byt y) = true then some (5, (byt y).drop (kindT 5).length) else pKs (allK.drop 6) (byt y) := rfl
        rw [e] at hp'
        have ek : byt ⟨#[42]⟩ = kindT 5 := rfl
        rw [ek] at T2
        have Hp2 := Lib.hid hp'
        clear hp' hp e ek
        generalize (kindT 5).isPrefixOf (byt y) = q at *
        generalize (byt y).drop (kindT 5).length = d at *
        go_wp2_with fail
        refine (T2.out _).mono ?_
        rintro e w2 ⟨z, rfl, hz1, hzs, rfl⟩
        have Hz1 := Lib.hid hz1
        clear hz1
        cases q
        · go_wp2
          go_roundw
          case rel => exact ⟨6, by omega, by go_num, hB, b1, Lib.hid (by have := Hp2.out; simpa using this)⟩
          case measure => simp [intOf]
        · go_wp2_with fail
          refine (sclone_any x _ (by omega)).mono ?_
          rintro e w3 ⟨rfl, hB3⟩
          go_wp2_with fail
          refine (sclone_any z _ (by omega)).mono ?_
          rintro e w4 ⟨rfl, hB4⟩
          have hB5 := (hB.trans (hB3.mono hB.size)).trans (hB4.mono (Nat.le_trans hB.size hB3.size))
          have b5 := (b1.to hB3).to hB4
          clear hB hB3 hB4 b1
          have hx0 := b5.cell (j := 0) rfl
          have hx1 := b5.cell (j := 1) rfl
          have hx2 := b5.cell (j := 2) rfl
          have hf0 := b5.frozen 0
          have hf1 := b5.frozen 1
          have hf2 := b5.frozen 2
          have Hrw := Lib.hid (((b5.set 0 (.string x)).set 1 (.int .i64 5)).set 2 (.string z))
          have HBr := Lib.hid (((hB5.setCell (p := ⟨w.heap.size, 0, none⟩) (Nat.le_refl w.heap.size) (.string x)).setCell (p := ⟨w.heap.size, 1, none⟩) (Nat.le_refl w.heap.size) (.int .i64 5)).setCell (p := ⟨w.heap.size, 2, none⟩) (Nat.le_refl w.heap.size) (.string z))
          go_wp2
          refine ret_cell1 rfl Hrw.out Tryd.underlying40 rfl hsz rfl rfl ?_
          exact ⟨_, _, _, _, rfl, by have := Hp2.out; simp at this; rw [this]; exact ⟨rfl, rfl, rfl, Hz1.out (by simp)⟩, hxs, by omega, ⟨by omega, by omega⟩, HBr.out⟩
      · have hp' := hp.out
        have Hp2 := Lib.hid hp'
        clear hp' hp
        have hx0 := b1.cell (j := 0) rfl
        have hx1 := b1.cell (j := 1) rfl
        have hx2 := b1.cell (j := 2) rfl
        have hf0 := b1.frozen 0
        have hf1 := b1.frozen 1
        have hf2 := b1.frozen 2
        have Hrw := Lib.hid (((b1.set 0 (.string ⟨#[]⟩)).set 1 (.int .i64 0)).set 2 (.string ⟨#[]⟩))
        have HBr := Lib.hid (((hB.setCell (p := ⟨w.heap.size, 0, none⟩) (Nat.le_refl w.heap.size) (.string ⟨#[]⟩)).setCell (p := ⟨w.heap.size, 1, none⟩) (Nat.le_refl w.heap.size) (.int .i64 0)).setCell (p := ⟨w.heap.size, 2, none⟩) (Nat.le_refl w.heap.size) (.string ⟨#[]⟩))
        go_wp2
        refine ret_cell1 rfl Hrw.out Tryd.underlying40 rfl hsz rfl rfl ?_
        exact ⟨_, _, _, _, rfl, by rw [Hp2.out]; exact ⟨rfl, rfl, rfl, rfl⟩, Nat.zero_le _, Nat.zero_le _, ⟨by omega, by omega⟩, HBr.out⟩
end Go.Proofs.YtomndfeifjiljaaDoor
