/- The contract of schema's readType: what 'pT' tells; the fields are of the call's own; nothing that was there is changed. Conditions: at most 2^47 bytes; the table of kinds lies as the program's text lays it. -/
import Derived.Test.YtomndfeifjiljaaDoorScReadFs
namespace Go.Proofs.YtomndfeifjiljaaDoor
open Go.RowKit

theorem info_typ : (Tryd.prog.info? 34).map (fun i => (i.zero, i.size)) = some (some (.agg #[.string ⟨#[]⟩, .slice none 0 0]), 2) := by kernel_rfl
/-- What a type that is read is, and the rest, or none. -/
def TIs (S : Nat → Prop) (w : World) (o : Option (Typ × List Nat)) (x : ByteArray) (v : Value) (r : ByteArray) (b : Bool) : Prop := match o with
  | none => b = false
  | some t => b = true ∧ byt x = t.1.1 ∧ byt r = t.2 ∧ rFlds S w [v] t.1.2
theorem Keeps.set {S : Nat → Prop} {w : World} {g : Nat} (h : ∀ b, S b → b ≠ g) (j : Nat) (u : Value) : Keeps S S w (w.setCell ⟨g, j, none⟩ u) := fun b hb => ⟨hb, heap_setCell_other w ⟨g, j, none⟩ b u (h b hb)⟩

set_option maxRecDepth 100000 in
set_option maxHeartbeats 4000000 in
theorem readType_any (s : ByteArray) (w : World) (hK : Kt w) (hs : s.size ≤ 140737488355328) :
    Calls Tryd.prog 38 #[.string s] w fun e w' => ∃ x A n c r b, e = .returned (.tuple #[.agg #[.string x, .slice A n c], .string r, .bool b]) ∧ TIs (fun b => w.heap.size < b ∧ b < w'.heap.size) w' (pT (byt s)) x (.slice A n c) r b ∧ x.size ≤ s.size ∧ r.size ≤ s.size ∧ Below w.heap.size w w' := by
  obtain ⟨hz, hsz⟩ := zero_of_info info_typ
  have hB0 : Below w.heap.size w (w.alloc (.cells #[.string ⟨#[]⟩, .slice none 0 0] 34)) := (Below.refl _ w).alloc (Nat.le_refl _) _
  have b0 := Blk.new w 34 [.string ⟨#[]⟩, .slice none 0 0]
  have T1 := Lib.hid (fun W => cut_any s 123 W (by omega) (by simp only [maxLen]; omega))
  have hpt : pT (byt s) = if (cutL 123 (byt s)).2.2 = true ∧ (cutL 125 (cutL 123 (byt s)).2.1).2.2 = true then (readF (cutL 125 (cutL 123 (byt s)).2.1).1).map (fun fs => (((cutL 123 (byt s)).1, fs), (cutL 125 (cutL 123 (byt s)).2.1).2.1)) else none := rfl
  have hl := cutL_len 123 (byt s)
  rw [byt_length] at hl
  have Hpt := Lib.hid hpt
  have Hl := Lib.hid hl
  clear hpt hl
  generalize pT (byt s) = o at *
  generalize cutL 123 (byt s) = q at *
  obtain ⟨q1, q2, q3⟩ := q
  go_enter Tryd.func38, Tryd.ntmps38
  go_wp2_with fail
  refine (T1.out _).mono ?_
  rintro e w1 ⟨x, y, rfl, hx, hy, hB1⟩
  have hxs : x.size ≤ s.size := by rw [← byt_length, hx]; exact Hl.out.1
  have hys : y.size ≤ s.size := by rw [← byt_length, hy]; exact Hl.out.2.1
  subst hx hy
  have T2 := Lib.hid (fun W => cut_any y 125 W (by omega) (by simp only [maxLen]; omega))
  have hl2 := cutL_len 125 (byt y)
  rw [byt_length] at hl2
  have Hl2 := Lib.hid hl2
  clear hl2 Hl T1
  generalize cutL 125 (byt y) = p at *
  obtain ⟨p1, p2, p3⟩ := p
  go_wp2_with fail
  refine (T2.out _).mono ?_
  rintro e w2 ⟨x2, y2, rfl, hx2, hy2, hB2⟩
  have hxs2 : x2.size ≤ y.size := by rw [← byt_length, hx2]; exact Hl2.out.1
  have hys2 : y2.size ≤ y.size := by rw [← byt_length, hy2]; exact Hl2.out.2.1
  subst hx2 hy2
  have hBw := (hB0.trans (hB1.mono hB0.size)).trans (hB2.mono (Nat.le_trans hB0.size hB1.size))
  have b2 : Blk w2 w.heap.size 34 [.string ⟨#[]⟩, .slice none 0 0] := (b0.to hB1).to hB2
  have hlt := b2.lt
  clear T2 hB0 hB1 hB2 b0 Hl2
  by_cases hq : q3 = true ∧ p3 = true
  · obtain ⟨rfl, rfl⟩ := hq
    have T3 := Lib.hid (fun W hW => readFields_any x2 W hW (by omega))
    have hpt := Hpt.out
    simp only [and_self, if_true] at hpt
    have Hp := Lib.hid hpt
    clear hpt Hpt
    generalize readF (byt x2) = ro at *
    have hK2 := hK.below hBw
    go_wp2_with fail
    refine (T3.out _ hK2).mono ?_
    rintro e w3 ⟨v, b, rfl, hfs, hB3⟩
    have hB3' := hBw.trans (hB3.mono hBw.size)
    have b3 := b2.to hB3
    go_wp2_with fail
    refine (sclone_any x _ (by omega)).mono ?_
    rintro e w4 ⟨rfl, hB4⟩
    have hB5 := hB3'.trans (hB4.mono hB3'.size)
    have b5 := b3.to hB4
    obtain ⟨A, n, c, rfl⟩ : ∃ A n c, v = .slice A n c := by
      cases ro with
      | none => exact ⟨none, 0, 0, hfs.2⟩
      | some fs => obtain ⟨_, A, c, hv, _⟩ := hfs; exact ⟨A, _, c, hv⟩
    have hx0 := b5.cell (j := 0) rfl
    have hx1 := b5.cell (j := 1) rfl
    have hf0 := b5.frozen 0
    have hf1 := b5.frozen 1
    have Hrw := Lib.hid ((b5.set 0 (.string x)).set 1 (.slice A n c))
    have HBr := Lib.hid ((hB5.setCell (p := ⟨w.heap.size, 0, none⟩) (Nat.le_refl w.heap.size) (.string x)).setCell (p := ⟨w.heap.size, 1, none⟩) (Nat.le_refl w.heap.size) (.slice A n c))
    have Hkeep : Hid (Keeps (fun b => w2.heap.size ≤ b ∧ b < w3.heap.size) (fun b => w.heap.size < b ∧ b < ((w4.setCell ⟨w.heap.size, 0, none⟩ (.string x)).setCell ⟨w.heap.size, 1, none⟩ (.slice A n c)).heap.size) w3 ((w4.setCell ⟨w.heap.size, 0, none⟩ (.string x)).setCell ⟨w.heap.size, 1, none⟩ (.slice A n c))) := Lib.hid (fun b hb => by
      have h1 := Keeps.set (S := fun b => w2.heap.size ≤ b ∧ b < w3.heap.size) (w := w4) (g := w.heap.size) (fun b hb => by omega) 0 (.string x) b hb
      have h2 := Keeps.set (S := fun b => w2.heap.size ≤ b ∧ b < w3.heap.size) (w := w4.setCell ⟨w.heap.size, 0, none⟩ (.string x)) (g := w.heap.size) (fun b hb => by omega) 1 (.slice A n c) b hb
      refine ⟨⟨by omega, ?_⟩, ?_⟩
      · have := hB4.size
        simp
        omega
      · rw [h2.2, h1.2]
        exact hB4.block b hb.2)
    have Hfs := Lib.hid hfs
    clear hfs hB3 hB3' hB4 hB5 b3 b2
    go_wp2
    refine ret_cell2 rfl Hrw.out Tryd.underlying34 rfl hsz rfl rfl ?_
    refine ⟨_, _, _, _, _, _, rfl, ?_, hxs, by omega, HBr.out⟩
    have h1 := Hfs.out
    have h2 := Hp.out
    cases ro with
    | none =>
      rw [h2]
      exact h1.1
    | some fs =>
      rw [h2]
      obtain ⟨rfl, A', c', hv, h3⟩ := h1
      refine ⟨rfl, rfl, rfl, ?_⟩
      rw [hv]
      exact rFlds_stays.to (by rw [← hv]; exact Hkeep.out) h3
  · have hpt := Hpt.out
    rw [if_neg hq] at hpt
    have Hp := Lib.hid hpt
    clear hpt Hpt
    have hx0 := b2.cell (j := 0) rfl
    have hx1 := b2.cell (j := 1) rfl
    have hf0 := b2.frozen 0
    have hf1 := b2.frozen 1
    have Hrw := Lib.hid ((b2.set 0 (.string ⟨#[]⟩)).set 1 (.slice none 0 0))
    have HBr := Lib.hid ((hBw.setCell (p := ⟨w.heap.size, 0, none⟩) (Nat.le_refl w.heap.size) (.string ⟨#[]⟩)).setCell (p := ⟨w.heap.size, 1, none⟩) (Nat.le_refl w.heap.size) (.slice none 0 0))
    cases q3
    · clear hq
      go_wp2
      refine ret_cell2 rfl Hrw.out Tryd.underlying34 rfl hsz rfl rfl ?_
      exact ⟨_, _, _, _, _, _, rfl, by rw [Hp.out]; rfl, Nat.zero_le _, Nat.zero_le _, HBr.out⟩
    · cases p3
      · clear hq
        go_wp2
        refine ret_cell2 rfl Hrw.out Tryd.underlying34 rfl hsz rfl rfl ?_
        exact ⟨_, _, _, _, _, _, rfl, by rw [Hp.out]; rfl, Nat.zero_le _, Nat.zero_le _, HBr.out⟩
      · exact absurd ⟨rfl, rfl⟩ hq
end Go.Proofs.YtomndfeifjiljaaDoor
