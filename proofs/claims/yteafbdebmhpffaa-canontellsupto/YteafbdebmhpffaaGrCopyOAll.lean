/- The texts GrCopyF, GrCopyT, GrCopyV, GrCopyO in one; what each proves, and its conditions, stands before it. -/
import Derived.Test.YteafbdebmhpffaaGrRow
import Derived.Test.YteafbdebmhpffaaNaClone
import Derived.Test.YteafbdebmhpffaaForkLAll
import Derived.Test.YteafbdebmhpffaaRetsAll
import Derived.Test.YteafbdebmhpffaaGrHave
/- The contracts of graph's copyField, and of makeEach with it. Condition: sizes that memory can hold. -/
namespace Go.Proofs.Yteafbdebmhpffaa
open Go.RowKit

set_option maxRecDepth 100000 in
set_option maxHeartbeats 1000000 in
theorem copyField_any (s t : ByteArray) (k : Int) (w : World) (hs : s.size ≤ 281474976710656) (ht : t.size ≤ 281474976710656) :
    Calls Try.prog 92 #[.agg #[.string s, .int .i64 k, .string t]] w fun e w' => e = .returned (.agg #[.string s, .int .i64 k, .string t]) ∧ Below w.heap.size w w' := by
  obtain ⟨p1, p2⟩ := blk_two w 48 48 [.string s, .int .i64 k, .string t] [.string ⟨#[]⟩, .int .i64 0, .string ⟨#[]⟩]
  have hB0 : Below w.heap.size w ((w.alloc (.cells #[.string s, .int .i64 k, .string t] 48)).alloc (.cells #[.string ⟨#[]⟩, .int .i64 0, .string ⟨#[]⟩] 48)) := ((Below.refl _ w).alloc (Nat.le_refl _) _).alloc (by simp) _
  have T1 := Lib.hid (fun W (hW : Below w.heap.size w W) => have _ := hW; sclone_any s W hs)
  have T2 := Lib.hid (fun W (hW : Below w.heap.size w W) => have _ := hW; sclone_any t W ht)
  have S0 := And.intro (p1.cell (j := 0) rfl) (And.intro (p1.cell (j := 1) rfl) (p1.cell (j := 2) rfl))
  have l1 := p1.lt
  have s0 : ((w.alloc (.cells #[.string s, .int .i64 k, .string t] 48)).alloc (.cells #[.string ⟨#[]⟩, .int .i64 0, .string ⟨#[]⟩] 48)).heap.size = w.heap.size + 2 := by simp
  have HB0 := Lib.hid hB0
  have P2 := Lib.hid p2
  clear p1 p2 hB0
  go_enter Try.func92, Try.ntmps92
  go_wp2
  generalize (w.alloc (.cells #[.string s, .int .i64 k, .string t] 48)).alloc (.cells #[.string ⟨#[]⟩, .int .i64 0, .string ⟨#[]⟩] 48) = w0 at *
  refine sch_start [(0, true), (1, true), (3, true), (4, true), (5, true), (6, true), (2, false), (7, false), (8, true), (9, false)]
    (fun W => W.cell? ⟨w.heap.size, 0, none⟩ = some (.string s) ∧ W.cell? ⟨w.heap.size, 1, none⟩ = some (.int .i64 k) ∧ W.cell? ⟨w.heap.size, 2, none⟩ = some (.string t)) (by kernel_rfl) rfl (by kernel_rfl) (fun _ _ _ _ _ h => h) S0 (fun hH => ?_)
  have hC0 : Below w0.heap.size w0 w0.drew := (Below.refl w0.heap.size w0).drew
  repeat (first | (refine sch_yes (v := ?_) rfl rfl ?_ hH ?_; rotate_left; (focus ((rintro W ⟨hW0, hW1, hW2⟩; go_simp) <;> with_reducible rfl)); simp only [Act.put, List.setIfInBounds_toArray, List.set_cons_zero, List.set_cons_succ]) | (refine sch_no rfl rfl hH ?_; simp only [Act.put, List.setIfInBounds_toArray, List.set_cons_zero, List.set_cons_succ]))
  refine sch_call rfl rfl (fun K hK => ?_)
  go_wp2_with (go_at_call 77; refine (T1.out _ (HB0.out.trans (hC0.mono HB0.out.size))).mono ?_; rintro e w1 ⟨rfl, hB1⟩)
  have hC1 : Below w0.heap.size w0 w1 := hC0.trans (hB1.mono hC0.size)
  have S1 := And.intro ((hC1.cell (p := ⟨w.heap.size, 0, none⟩) l1).trans S0.1) (And.intro ((hC1.cell (p := ⟨w.heap.size, 1, none⟩) l1).trans S0.2.1) ((hC1.cell (p := ⟨w.heap.size, 2, none⟩) l1).trans S0.2.2))
  refine hK.out _ _ S1 ?_
  clear hK hH
  have hH := S1
  repeat (first | (refine sch_yes (v := ?_) rfl rfl ?_ hH ?_; rotate_left; (focus ((rintro W ⟨hW0, hW1, hW2⟩; go_simp) <;> with_reducible rfl)); simp only [Act.put, List.setIfInBounds_toArray, List.set_cons_zero, List.set_cons_succ]) | (refine sch_no rfl rfl hH ?_; simp only [Act.put, List.setIfInBounds_toArray, List.set_cons_zero, List.set_cons_succ]))
  refine sch_call rfl rfl (fun K hK => ?_)
  go_wp2_with (go_at_call 77; refine (T2.out _ (HB0.out.trans (hC1.mono HB0.out.size))).mono ?_; rintro e w2 ⟨rfl, hB2⟩)
  have hC2 : Below w0.heap.size w0 w2 := hC1.trans (hB2.mono hC1.size)
  have S2 := And.intro ((hC2.cell (p := ⟨w.heap.size, 0, none⟩) l1).trans S0.1) (And.intro ((hC2.cell (p := ⟨w.heap.size, 1, none⟩) l1).trans S0.2.1) ((hC2.cell (p := ⟨w.heap.size, 2, none⟩) l1).trans S0.2.2))
  refine hK.out _ _ S2 ?_
  clear hK hH
  have hH := S2
  repeat (first | (refine sch_yes (v := ?_) rfl rfl ?_ hH ?_; rotate_left; (focus ((rintro W ⟨hW0, hW1, hW2⟩; go_simp) <;> with_reducible rfl)); simp only [Act.put, List.setIfInBounds_toArray, List.set_cons_zero, List.set_cons_succ]) | (refine sch_no rfl rfl hH ?_; simp only [Act.put, List.setIfInBounds_toArray, List.set_cons_zero, List.set_cons_succ]))
  refine sch_call rfl rfl (fun K hK => ?_)
  have P3 : Blk w2 (w.heap.size + 1) 48 [.string ⟨#[]⟩, .int .i64 0, .string ⟨#[]⟩] := P2.out.to hC2
  have f0 := P3.frozen 0
  have d0 := P3.cell (j := 0) rfl
  have f1 := P3.frozen 1
  have d1 := P3.cell (j := 1) rfl
  have f2 := P3.frozen 2
  have d2 := P3.cell (j := 2) rfl
  go_wp2
  have P4 := (((P3).set 0 (.string s)).set 1 (.int .i64 k)).set 2 (.string t)
  refine hK.out _ _ (And.intro (far3 S2.1 (by omega)) (And.intro (far3 S2.2.1 (by omega)) (far3 S2.2.2 (by omega)))) ?_
  clear hK hH
  refine sch_done ?_
  go_wp2
  refine ret_cell0 (d := .struct _) (cs := [.string s, .int .i64 k, .string t]) rfl P4 rfl rfl rfl rfl rfl ?_
  have hBend := ((((HB0.out.trans (hC2.mono HB0.out.size)).setCell (p := ⟨w.heap.size + 1, 0, none⟩) (by simp) (.string s)).setCell (p := ⟨w.heap.size + 1, 1, none⟩) (by simp) (.int .i64 k)).setCell (p := ⟨w.heap.size + 1, 2, none⟩) (by simp) (.string t))
  exact ⟨rfl, hBend⟩

set_option maxRecDepth 100000 in
set_option maxHeartbeats 2000000 in
theorem eachF_any (A : Option Addr) (N c : Nat) (l : List Fld) (w : World) (h : rFlds (All w) w [.slice A N c] l) (hNl : N ≤ 7036874417766) (htl : ∀ f ∈ l, f.1.length ≤ 281474976710656 ∧ f.2.2.length ≤ 281474976710656) :
    Calls Try.prog 91 #[.slice A N c, .func (.func 92) #[] #[]] w fun e w' => ∃ cs, e = .returned (.slice (some ⟨w.heap.size, 0, none⟩) N N) ∧ Blk w' w.heap.size 48 cs ∧
      Chunks 3 (rFld (fun b => w.heap.size < b ∧ b < w'.heap.size) w') cs l ∧ Below w.heap.size w w' := by
  obtain ⟨hN, hNc, hcm⟩ := slice_len h
  have hmk := fun W => made_run (P := Try.prog) 49 48 (.agg #[.string ⟨#[]⟩, .int .i64 0, .string ⟨#[]⟩]) 3 40 rfl (by kernel_rfl) N (by omega) (by omega) W
  simp only [maxLen] at hcm
  have b0 := Blk.new w 48 (madeCells (Value.agg #[.string ⟨#[]⟩, .int .i64 0, .string ⟨#[]⟩]).cells (N * 3)).toList
  have hB0 : Below w.heap.size w (w.alloc (.cells (madeCells (Value.agg #[.string ⟨#[]⟩, .int .i64 0, .string ⟨#[]⟩]).cells (N * 3)).toList.toArray 48)) := (Below.refl _ w).alloc (Nat.le_refl _) _
  have hl0 := made_len (Value.agg #[.string ⟨#[]⟩, .int .i64 0, .string ⟨#[]⟩]).cells (N * 3)
  go_enter Try.func91, Try.ntmps91
  go_wp2
  go_loopw [13] (fun iv w' => ∃ (i : Nat) (ds ts : List Value), i ≤ N ∧ iv = .int .i64 (i : Int) ∧ Below w.heap.size w w' ∧ Blk w' w.heap.size 48 (ds ++ ts) ∧ Hid (ds.length = i * 3 ∧ ts.length = (N - i) * 3 ∧
    Chunks 3 (rFld (fun b => w.heap.size < b ∧ b < w'.heap.size) w') ds (l.take i))) (fun iv _ => N - (intOf iv).toNat)
  case atStart => exact ⟨0, [], _, by omega, rfl, hB0, b0, Lib.hid ⟨by simp, by rw [hl0]; simp, by rw [List.take_zero]; exact Chunks.nil⟩⟩
  case round =>
    rename_i iv wr
    obtain ⟨i, ds, ts, hi, rfl, hB, b1, hr⟩ := hrel
    clear b0 hB0 hl0 hmk
    by_cases hin : i < N
    · obtain ⟨hr1, hr2, hr3⟩ := hr.out
      obtain ⟨z0, z1, z2, r, rfl, hrl⟩ := cons3 (n := N - i - 1) (by rw [hr2]; congr 1; omega)
      have hli : l[i]? = some l[i] := List.getElem?_eq_getElem (by omega)
      obtain ⟨b, off, sx, tx, rfl, hb, hx0, hx1, hx2, hs, ht, hsm, htm, hk⟩ := fld_at (flds_below hB h) hli
      have hil : (i : Int) < (N : Int) := by omega
      have hi0 : (0 : Int) ≤ (i : Int) := by omega
      have hq1 : sx.size ≤ 281474976710656 := by rw [← byt_length, hs]; exact (htl _ (List.getElem_mem _)).1
      have hq2 : tx.size ≤ 281474976710656 := by rw [← byt_length, ht]; exact (htl _ (List.getElem_mem _)).2
      have T1 := Lib.hid (fun W (hW : Below wr.heap.size wr W) => have _ := hW; copyField_any sx tx l[i].2.1 W hq1 hq2)
      have Htk := Lib.hid (take_at hli)
      have Hr := Lib.hid hr
      have Hr3 := Lib.hid hr3
      have HB := Lib.hid hB
      have Hl := Lib.hid hli
      clear hr hr2 hr3 hB h hli
      have hB1 : ∀ u, Below wr.heap.size wr (wr.alloc (.cells u 48)) := fun u => (Below.refl _ wr).alloc (Nat.le_refl _) _
      generalize l[i] = f at *
      go_wp2_with fail
      refine (T1.out _ (hB1 _)).mono ?_
      rintro e w1 ⟨rfl, hB2⟩
      have hC := (hB1 #[.string sx, .int .i64 f.2.1, .string tx]).trans (hB2.mono (hB1 _).size)
      have b2 := b1.to hC
      have f0 := b2.frozen (i * 3)
      have e0 := b2.cell (j := i * 3) (u := z0) (at_end0 hr1)
      have f1 := b2.frozen (i * 3 + 1)
      have e1 := b2.cell (j := i * 3 + 1) (u := z1) (at_end hr1 1)
      have f2 := b2.frozen (i * 3 + 2)
      have e2 := b2.cell (j := i * 3 + 2) (u := z2) (at_end hr1 2)
      go_wp2
      go_roundw
      case rel =>
        have P4 := (((b2).set (i * 3) (.string sx)).set (i * 3 + 1) (.int .i64 f.2.1)).set (i * 3 + 2) (.string tx)
        rw [set_mid3 hr1] at P4
        refine ⟨i + 1, _, r, by omega, by go_num, ((((HB.out.trans (hC.mono HB.out.size)).setCell (p := ⟨w.heap.size, i * 3, none⟩) (by simp) (.string sx)).setCell (p := ⟨w.heap.size, i * 3 + 1, none⟩) (by simp) (.int .i64 f.2.1)).setCell (p := ⟨w.heap.size, i * 3 + 2, none⟩) (by simp) (.string tx)), P4, Lib.hid ⟨by simp [hr1]; omega, by rw [hrl]; congr 1, ?_⟩⟩
        rw [Htk.out]
        refine Chunks.append (Hr3.out.imp fun cs a hq => rFld_stays.to (Keeps.mono fun _ h => h) hq) (Chunks.one rfl ?_)
        exact rFld_mk hs ht hsm htm (WalkArith.wf_i64 hk)
      case measure => simp [intOf]; omega
    · obtain rfl : i = N := by omega
      obtain ⟨hr1, hr2, hr3⟩ := hr.out
      have ht0 : ts = [] := List.eq_nil_of_length_eq_zero (by rw [hr2]; simp)
      subst ht0
      rw [List.append_nil] at b1
      rw [List.take_of_length_le (by omega)] at hr3
      have Hr3 := Lib.hid hr3
      clear hr3 hr2 hr1 hr h
      go_wp2
      go_ret
      exact ⟨ds, rfl, b1, Hr3.out, hB⟩
end Go.Proofs.Yteafbdebmhpffaa

/- The contracts of graph's copyType, and of makeEach with it. Condition: sizes that memory can hold. -/
namespace Go.Proofs.Yteafbdebmhpffaa
open Go.RowKit

set_option maxRecDepth 100000 in
set_option maxHeartbeats 1000000 in
theorem copyType_any (s : ByteArray) (A : Option Addr) (N c : Nat) (l : List Fld) (w : World) (h : rFlds (All w) w [.slice A N c] l) (hs : s.size ≤ 281474976710656) (hNl : N ≤ 7036874417766) (htl : ∀ f ∈ l, f.1.length ≤ 281474976710656 ∧ f.2.2.length ≤ 281474976710656) :
    Calls Try.prog 71 #[.agg #[.string s, .slice A N c]] w fun e w' => ∃ b cs, e = .returned (.agg #[.string s, .slice (some ⟨b, 0, none⟩) N N]) ∧ (w.heap.size < b ∧ b < w'.heap.size) ∧ Blk w' b 48 cs ∧ Chunks 3 (rFld (fun _ => True) w') cs l ∧ Below w.heap.size w w' := by
  obtain ⟨p1, p2⟩ := blk_two w 51 51 [.string s, .slice A N c] [.string ⟨#[]⟩, .slice none 0 0]
  have hB0 : Below w.heap.size w ((w.alloc (.cells #[.string s, .slice A N c] 51)).alloc (.cells #[.string ⟨#[]⟩, .slice none 0 0] 51)) := ((Below.refl _ w).alloc (Nat.le_refl _) _).alloc (by simp) _
  have T1 := Lib.hid (fun W (hW : Below w.heap.size w W) => have _ := hW; sclone_any s W hs)
  have T2 := Lib.hid (fun W (hW : Below w.heap.size w W) => eachF_any A N c l W (flds_below hW h) hNl htl)
  have S0 := And.intro (p1.cell (j := 0) rfl) (p1.cell (j := 1) rfl)
  have l1 := p1.lt
  have s0 : ((w.alloc (.cells #[.string s, .slice A N c] 51)).alloc (.cells #[.string ⟨#[]⟩, .slice none 0 0] 51)).heap.size = w.heap.size + 2 := by simp
  have HB0 := Lib.hid hB0
  have P2 := Lib.hid p2
  clear p1 p2 hB0
  go_enter Try.func71, Try.ntmps71
  go_wp2
  generalize (w.alloc (.cells #[.string s, .slice A N c] 51)).alloc (.cells #[.string ⟨#[]⟩, .slice none 0 0] 51) = w0 at *
  refine sch_start [(0, true), (1, true), (3, true), (4, true), (2, false), (5, false), (6, true), (7, false)]
    (fun W => W.cell? ⟨w.heap.size, 0, none⟩ = some (.string s) ∧ W.cell? ⟨w.heap.size, 1, none⟩ = some (.slice A N c)) (by kernel_rfl) rfl (by kernel_rfl) (fun _ _ _ _ _ h => h) S0 (fun hH => ?_)
  have hC0 : Below w0.heap.size w0 w0.drew := (Below.refl w0.heap.size w0).drew
  repeat (first | (refine sch_yes (v := ?_) rfl rfl ?_ hH ?_; rotate_left; (focus ((rintro W ⟨hW0, hW1⟩; go_simp) <;> with_reducible rfl)); simp only [Act.put, List.setIfInBounds_toArray, List.set_cons_zero, List.set_cons_succ]) | (refine sch_no rfl rfl hH ?_; simp only [Act.put, List.setIfInBounds_toArray, List.set_cons_zero, List.set_cons_succ]))
  refine sch_call rfl rfl (fun K hK => ?_)
  go_wp2_with (go_at_call 77; refine (T1.out _ (HB0.out.trans (hC0.mono HB0.out.size))).mono ?_; rintro e w1 ⟨rfl, hB1⟩)
  have hC1 : Below w0.heap.size w0 w1 := hC0.trans (hB1.mono hC0.size)
  have S1 := And.intro ((hC1.cell (p := ⟨w.heap.size, 0, none⟩) l1).trans S0.1) ((hC1.cell (p := ⟨w.heap.size, 1, none⟩) l1).trans S0.2)
  refine hK.out _ _ S1 ?_
  clear hK hH
  have hH := S1
  repeat (first | (refine sch_yes (v := ?_) rfl rfl ?_ hH ?_; rotate_left; (focus ((rintro W ⟨hW0, hW1⟩; go_simp) <;> with_reducible rfl)); simp only [Act.put, List.setIfInBounds_toArray, List.set_cons_zero, List.set_cons_succ]) | (refine sch_no rfl rfl hH ?_; simp only [Act.put, List.setIfInBounds_toArray, List.set_cons_zero, List.set_cons_succ]))
  refine sch_call rfl rfl (fun K hK => ?_)
  go_wp2_with (go_at_call 91; refine (T2.out _ (HB0.out.trans (hC1.mono HB0.out.size))).mono ?_; rintro e w2 ⟨cs2, rfl, hb2, hch, hB2⟩)
  have hC2 : Below w0.heap.size w0 w2 := hC1.trans (hB2.mono hC1.size)
  have hq1 : w.heap.size + 2 ≤ w1.heap.size := by rw [← s0]; exact hC1.size
  have S2 := And.intro ((hC2.cell (p := ⟨w.heap.size, 0, none⟩) l1).trans S0.1) ((hC2.cell (p := ⟨w.heap.size, 1, none⟩) l1).trans S0.2)
  refine hK.out _ _ S2 ?_
  clear hK hH
  have hH := S2
  repeat (first | (refine sch_yes (v := ?_) rfl rfl ?_ hH ?_; rotate_left; (focus ((rintro W ⟨hW0, hW1⟩; go_simp) <;> with_reducible rfl)); simp only [Act.put, List.setIfInBounds_toArray, List.set_cons_zero, List.set_cons_succ]) | (refine sch_no rfl rfl hH ?_; simp only [Act.put, List.setIfInBounds_toArray, List.set_cons_zero, List.set_cons_succ]))
  refine sch_call rfl rfl (fun K hK => ?_)
  have P3 : Blk w2 (w.heap.size + 1) 51 [.string ⟨#[]⟩, .slice none 0 0] := P2.out.to hC2
  have f0 := P3.frozen 0
  have d0 := P3.cell (j := 0) rfl
  have f1 := P3.frozen 1
  have d1 := P3.cell (j := 1) rfl
  go_wp2
  have P4 := ((P3).set 0 (.string s)).set 1 (.slice (some ⟨w1.heap.size, 0, none⟩) N N)
  refine hK.out _ _ (And.intro (far2 S2.1 (by omega)) (far2 S2.2 (by omega))) ?_
  clear hK hH
  refine sch_done ?_
  go_wp2
  refine ret_cell0 (d := .struct _) (cs := [.string s, .slice (some ⟨w1.heap.size, 0, none⟩) N N]) rfl P4 rfl rfl rfl rfl rfl ?_
  have hBend := (((HB0.out.trans (hC2.mono HB0.out.size)).setCell (p := ⟨w.heap.size + 1, 0, none⟩) (by simp) (.string s)).setCell (p := ⟨w.heap.size + 1, 1, none⟩) (by simp) (.slice (some ⟨w1.heap.size, 0, none⟩) N N))
  exact ⟨w1.heap.size, cs2, rfl, ⟨by omega, by simpa using hb2.lt⟩, (hb2.other _ _ (by simp; omega)).other _ _ (by simp; omega), hch, hBend⟩

set_option maxRecDepth 100000 in
set_option maxHeartbeats 2000000 in
theorem eachT_any (A : Option Addr) (N c : Nat) (l : List Typ) (w : World) (h : rSch (All w) w [.slice A N c] l) (hNl : N ≤ 7036874417766) (htl : ∀ t ∈ l, t.1.length ≤ 281474976710656 ∧ t.2.length ≤ 7036874417766 ∧ ∀ f ∈ t.2, f.1.length ≤ 281474976710656 ∧ f.2.2.length ≤ 281474976710656) :
    Calls Try.prog 70 #[.slice A N c, .func (.func 71) #[] #[]] w fun e w' => ∃ cs, e = .returned (.slice (some ⟨w.heap.size, 0, none⟩) N N) ∧ Blk w' w.heap.size 51 cs ∧
      Chunks 2 (rTyp (fun b => w.heap.size < b ∧ b < w'.heap.size) w') cs l ∧ Below w.heap.size w w' := by
  obtain ⟨hN, hNc, hcm⟩ := slice_len h
  have hmk := fun W => made_run (P := Try.prog) 22 51 (.agg #[.string ⟨#[]⟩, .slice none 0 0]) 2 40 rfl (by kernel_rfl) N (by omega) (by omega) W
  simp only [maxLen] at hcm
  have b0 := Blk.new w 51 (madeCells (Value.agg #[.string ⟨#[]⟩, .slice none 0 0]).cells (N * 2)).toList
  have hB0 : Below w.heap.size w (w.alloc (.cells (madeCells (Value.agg #[.string ⟨#[]⟩, .slice none 0 0]).cells (N * 2)).toList.toArray 51)) := (Below.refl _ w).alloc (Nat.le_refl _) _
  have hl0 := made_len (Value.agg #[.string ⟨#[]⟩, .slice none 0 0]).cells (N * 2)
  go_enter Try.func70, Try.ntmps70
  go_wp2
  go_loopw [13] (fun iv w' => ∃ (i : Nat) (ds ts : List Value), i ≤ N ∧ iv = .int .i64 (i : Int) ∧ Below w.heap.size w w' ∧ Blk w' w.heap.size 51 (ds ++ ts) ∧ Hid (ds.length = i * 2 ∧ ts.length = (N - i) * 2 ∧
    Chunks 2 (rTyp (fun b => w.heap.size < b ∧ b < w'.heap.size) w') ds (l.take i))) (fun iv _ => N - (intOf iv).toNat)
  case atStart => exact ⟨0, [], _, by omega, rfl, hB0, b0, Lib.hid ⟨by simp, by rw [hl0]; simp, by rw [List.take_zero]; exact Chunks.nil⟩⟩
  case round =>
    rename_i iv wr
    obtain ⟨i, ds, ts, hi, rfl, hB, b1, hr⟩ := hrel
    clear b0 hB0 hl0 hmk
    by_cases hin : i < N
    · obtain ⟨hr1, hr2, hr3⟩ := hr.out
      obtain ⟨z0, z1, r, rfl, hrl⟩ := cons2 (n := N - i - 1) (by rw [hr2]; congr 1; omega)
      have hli : l[i]? = some l[i] := List.getElem?_eq_getElem (by omega)
      obtain ⟨b, off, sx, A2, c2, rfl, hb, hx0, hx1, hs, hsm, hfl⟩ := typ_at (sch_below hB h) hli
      have hil : (i : Int) < (N : Int) := by omega
      have hi0 : (0 : Int) ≤ (i : Int) := by omega
      have hq1 : sx.size ≤ 281474976710656 := by rw [← byt_length, hs]; exact (htl _ (List.getElem_mem _)).1
      have hq2 := (htl _ (List.getElem_mem (n := i) (by omega))).2.1
      have hq3 := (htl _ (List.getElem_mem (n := i) (by omega))).2.2
      have T1 := Lib.hid (fun W (hW : Below wr.heap.size wr W) => copyType_any sx A2 l[i].2.length c2 l[i].2 W (flds_below hW hfl) hq1 hq2 hq3)
      have Htk := Lib.hid (take_at hli)
      have Hr := Lib.hid hr
      have Hr3 := Lib.hid hr3
      have HB := Lib.hid hB
      have Hl := Lib.hid hli
      clear hr hr2 hr3 hB h hli
      have hB1 : ∀ u, Below wr.heap.size wr (wr.alloc (.cells u 51)) := fun u => (Below.refl _ wr).alloc (Nat.le_refl _) _
      have hfm := (slice_len hfl).2
      clear hfl
      generalize l[i] = f at *
      go_wp2_with fail
      refine (T1.out _ (hB1 _)).mono ?_
      rintro e w1 ⟨g2, cs2, rfl, hg2, hb2, hch, hB2⟩
      have hC := (hB1 #[.string sx, .slice A2 f.2.length c2]).trans (hB2.mono (hB1 _).size)
      have b2 := b1.to hC
      have hgl : w.heap.size < g2 := Nat.lt_of_le_of_lt HB.out.size (Nat.lt_of_le_of_lt (hB1 #[.string sx, .slice A2 f.2.length c2]).size hg2.1)
      have f0 := b2.frozen (i * 2)
      have e0 := b2.cell (j := i * 2) (u := z0) (at_end0 hr1)
      have f1 := b2.frozen (i * 2 + 1)
      have e1 := b2.cell (j := i * 2 + 1) (u := z1) (at_end hr1 1)
      go_wp2
      go_roundw
      case rel =>
        have P4 := ((b2).set (i * 2) (.string sx)).set (i * 2 + 1) (.slice (some ⟨g2, 0, none⟩) f.2.length f.2.length)
        rw [set_mid2 hr1] at P4
        refine ⟨i + 1, _, r, by omega, by go_num, (((HB.out.trans (hC.mono HB.out.size)).setCell (p := ⟨w.heap.size, i * 2, none⟩) (by simp) (.string sx)).setCell (p := ⟨w.heap.size, i * 2 + 1, none⟩) (by simp) (.slice (some ⟨g2, 0, none⟩) f.2.length f.2.length)), P4, Lib.hid ⟨by simp [hr1]; omega, by rw [hrl]; congr 1, ?_⟩⟩
        rw [Htk.out]
        refine Chunks.append (Hr3.out.imp fun cs a hq => rTyp_stays.to (keep_set2 hC) hq) (Chunks.one rfl ?_)
        exact rTyp_mk hs hsm (blk_slice ((hb2.other _ _ (by simp; omega)).other _ _ (by simp; omega)) hch ⟨hgl, by simpa using hg2.2⟩ (Nat.le_trans hfm.1 hfm.2))
      case measure => simp [intOf]; omega
    · obtain rfl : i = N := by omega
      obtain ⟨hr1, hr2, hr3⟩ := hr.out
      have ht0 : ts = [] := List.eq_nil_of_length_eq_zero (by rw [hr2]; simp)
      subst ht0
      rw [List.append_nil] at b1
      rw [List.take_of_length_le (by omega)] at hr3
      have Hr3 := Lib.hid hr3
      clear hr3 hr2 hr1 hr h
      go_wp2
      go_ret
      exact ⟨ds, rfl, b1, Hr3.out, hB⟩
end Go.Proofs.Yteafbdebmhpffaa

/- The contracts of graph's copyVal, and of makeEach with it. Condition: sizes that memory can hold. -/
namespace Go.Proofs.Yteafbdebmhpffaa
open Go.RowKit

set_option maxRecDepth 100000 in
set_option maxHeartbeats 1000000 in
theorem copyVal_any (s : ByteArray) (n r : Int) (w : World) (hs : s.size ≤ 281474976710656) :
    Calls Try.prog 51 #[.agg #[.int .i64 n, .string s, .int .i64 r]] w fun e w' => e = .returned (.agg #[.int .i64 n, .string s, .int .i64 r]) ∧ Below w.heap.size w w' := by
  obtain ⟨p1, p2⟩ := blk_two w 42 42 [.int .i64 n, .string s, .int .i64 r] [.int .i64 0, .string ⟨#[]⟩, .int .i64 0]
  have hB0 : Below w.heap.size w ((w.alloc (.cells #[.int .i64 n, .string s, .int .i64 r] 42)).alloc (.cells #[.int .i64 0, .string ⟨#[]⟩, .int .i64 0] 42)) := ((Below.refl _ w).alloc (Nat.le_refl _) _).alloc (by simp) _
  have T1 := Lib.hid (fun W (hW : Below w.heap.size w W) => have _ := hW; sclone_any s W hs)
  have S0 := And.intro (p1.cell (j := 0) rfl) (And.intro (p1.cell (j := 1) rfl) (p1.cell (j := 2) rfl))
  have l1 := p1.lt
  have s0 : ((w.alloc (.cells #[.int .i64 n, .string s, .int .i64 r] 42)).alloc (.cells #[.int .i64 0, .string ⟨#[]⟩, .int .i64 0] 42)).heap.size = w.heap.size + 2 := by simp
  have HB0 := Lib.hid hB0
  have P2 := Lib.hid p2
  clear p1 p2 hB0
  go_enter Try.func51, Try.ntmps51
  go_wp2
  generalize (w.alloc (.cells #[.int .i64 n, .string s, .int .i64 r] 42)).alloc (.cells #[.int .i64 0, .string ⟨#[]⟩, .int .i64 0] 42) = w0 at *
  refine sch_start [(0, true), (1, true), (2, true), (3, true), (5, true), (6, true), (4, false), (7, true), (8, false)]
    (fun W => W.cell? ⟨w.heap.size, 0, none⟩ = some (.int .i64 n) ∧ W.cell? ⟨w.heap.size, 1, none⟩ = some (.string s) ∧ W.cell? ⟨w.heap.size, 2, none⟩ = some (.int .i64 r)) (by kernel_rfl) rfl (by kernel_rfl) (fun _ _ _ _ _ h => h) S0 (fun hH => ?_)
  have hC0 : Below w0.heap.size w0 w0.drew := (Below.refl w0.heap.size w0).drew
  repeat (first | (refine sch_yes (v := ?_) rfl rfl ?_ hH ?_; rotate_left; (focus ((rintro W ⟨hW0, hW1, hW2⟩; go_simp) <;> with_reducible rfl)); simp only [Act.put, List.setIfInBounds_toArray, List.set_cons_zero, List.set_cons_succ]) | (refine sch_no rfl rfl hH ?_; simp only [Act.put, List.setIfInBounds_toArray, List.set_cons_zero, List.set_cons_succ]))
  refine sch_call rfl rfl (fun K hK => ?_)
  go_wp2_with (go_at_call 77; refine (T1.out _ (HB0.out.trans (hC0.mono HB0.out.size))).mono ?_; rintro e w1 ⟨rfl, hB1⟩)
  have hC1 : Below w0.heap.size w0 w1 := hC0.trans (hB1.mono hC0.size)
  have S1 := And.intro ((hC1.cell (p := ⟨w.heap.size, 0, none⟩) l1).trans S0.1) (And.intro ((hC1.cell (p := ⟨w.heap.size, 1, none⟩) l1).trans S0.2.1) ((hC1.cell (p := ⟨w.heap.size, 2, none⟩) l1).trans S0.2.2))
  refine hK.out _ _ S1 ?_
  clear hK hH
  have hH := S1
  repeat (first | (refine sch_yes (v := ?_) rfl rfl ?_ hH ?_; rotate_left; (focus ((rintro W ⟨hW0, hW1, hW2⟩; go_simp) <;> with_reducible rfl)); simp only [Act.put, List.setIfInBounds_toArray, List.set_cons_zero, List.set_cons_succ]) | (refine sch_no rfl rfl hH ?_; simp only [Act.put, List.setIfInBounds_toArray, List.set_cons_zero, List.set_cons_succ]))
  refine sch_call rfl rfl (fun K hK => ?_)
  have P3 : Blk w1 (w.heap.size + 1) 42 [.int .i64 0, .string ⟨#[]⟩, .int .i64 0] := P2.out.to hC1
  have f0 := P3.frozen 0
  have d0 := P3.cell (j := 0) rfl
  have f1 := P3.frozen 1
  have d1 := P3.cell (j := 1) rfl
  have f2 := P3.frozen 2
  have d2 := P3.cell (j := 2) rfl
  go_wp2
  have P4 := (((P3).set 0 (.int .i64 n)).set 1 (.string s)).set 2 (.int .i64 r)
  refine hK.out _ _ (And.intro (far3 S1.1 (by omega)) (And.intro (far3 S1.2.1 (by omega)) (far3 S1.2.2 (by omega)))) ?_
  clear hK hH
  refine sch_done ?_
  go_wp2
  refine ret_cell0 (d := .struct _) (cs := [.int .i64 n, .string s, .int .i64 r]) rfl P4 rfl rfl rfl rfl rfl ?_
  have hBend := ((((HB0.out.trans (hC1.mono HB0.out.size)).setCell (p := ⟨w.heap.size + 1, 0, none⟩) (by simp) (.int .i64 n)).setCell (p := ⟨w.heap.size + 1, 1, none⟩) (by simp) (.string s)).setCell (p := ⟨w.heap.size + 1, 2, none⟩) (by simp) (.int .i64 r))
  exact ⟨rfl, hBend⟩

set_option maxRecDepth 100000 in
set_option maxHeartbeats 2000000 in
theorem eachV_any (A : Option Addr) (N c : Nat) (l : List Vl) (w : World) (h : rVals (All w) w [.slice A N c] l) (hNl : N ≤ 7036874417766) (htl : ∀ v ∈ l, v.2.1.length ≤ 281474976710656) :
    Calls Try.prog 93 #[.slice A N c, .func (.func 51) #[] #[]] w fun e w' => ∃ cs, e = .returned (.slice (some ⟨w.heap.size, 0, none⟩) N N) ∧ Blk w' w.heap.size 42 cs ∧
      Chunks 3 (rVal (fun b => w.heap.size < b ∧ b < w'.heap.size) w') cs l ∧ Below w.heap.size w w' := by
  obtain ⟨hN, hNc, hcm⟩ := slice_len h
  have hmk := fun W => made_run (P := Try.prog) 36 42 (.agg #[.int .i64 0, .string ⟨#[]⟩, .int .i64 0]) 3 32 rfl (by kernel_rfl) N (by omega) (by omega) W
  simp only [maxLen] at hcm
  have b0 := Blk.new w 42 (madeCells (Value.agg #[.int .i64 0, .string ⟨#[]⟩, .int .i64 0]).cells (N * 3)).toList
  have hB0 : Below w.heap.size w (w.alloc (.cells (madeCells (Value.agg #[.int .i64 0, .string ⟨#[]⟩, .int .i64 0]).cells (N * 3)).toList.toArray 42)) := (Below.refl _ w).alloc (Nat.le_refl _) _
  have hl0 := made_len (Value.agg #[.int .i64 0, .string ⟨#[]⟩, .int .i64 0]).cells (N * 3)
  go_enter Try.func93, Try.ntmps93
  go_wp2
  go_loopw [13] (fun iv w' => ∃ (i : Nat) (ds ts : List Value), i ≤ N ∧ iv = .int .i64 (i : Int) ∧ Below w.heap.size w w' ∧ Blk w' w.heap.size 42 (ds ++ ts) ∧ Hid (ds.length = i * 3 ∧ ts.length = (N - i) * 3 ∧
    Chunks 3 (rVal (fun b => w.heap.size < b ∧ b < w'.heap.size) w') ds (l.take i))) (fun iv _ => N - (intOf iv).toNat)
  case atStart => exact ⟨0, [], _, by omega, rfl, hB0, b0, Lib.hid ⟨by simp, by rw [hl0]; simp, by rw [List.take_zero]; exact Chunks.nil⟩⟩
  case round =>
    rename_i iv wr
    obtain ⟨i, ds, ts, hi, rfl, hB, b1, hr⟩ := hrel
    clear b0 hB0 hl0 hmk
    by_cases hin : i < N
    · obtain ⟨hr1, hr2, hr3⟩ := hr.out
      obtain ⟨z0, z1, z2, r, rfl, hrl⟩ := cons3 (n := N - i - 1) (by rw [hr2]; congr 1; omega)
      have hli : l[i]? = some l[i] := List.getElem?_eq_getElem (by omega)
      obtain ⟨b, off, sx, rfl, hb, hx0, hx1, hx2, hs, hsm, hk, hk2⟩ := val_at (vals_below hB h) hli
      have hil : (i : Int) < (N : Int) := by omega
      have hi0 : (0 : Int) ≤ (i : Int) := by omega
      have hq1 : sx.size ≤ 281474976710656 := by rw [← byt_length, hs]; exact htl _ (List.getElem_mem _)
      have T1 := Lib.hid (fun W (hW : Below wr.heap.size wr W) => have _ := hW; copyVal_any sx l[i].1 l[i].2.2 W hq1)
      have Htk := Lib.hid (take_at hli)
      have Hr := Lib.hid hr
      have Hr3 := Lib.hid hr3
      have HB := Lib.hid hB
      have Hl := Lib.hid hli
      clear hr hr2 hr3 hB h hli
      have hB1 : ∀ u, Below wr.heap.size wr (wr.alloc (.cells u 42)) := fun u => (Below.refl _ wr).alloc (Nat.le_refl _) _
      generalize l[i] = f at *
      go_wp2_with fail
      refine (T1.out _ (hB1 _)).mono ?_
      rintro e w1 ⟨rfl, hB2⟩
      have hC := (hB1 #[.int .i64 f.1, .string sx, .int .i64 f.2.2]).trans (hB2.mono (hB1 _).size)
      have b2 := b1.to hC
      have f0 := b2.frozen (i * 3)
      have e0 := b2.cell (j := i * 3) (u := z0) (at_end0 hr1)
      have f1 := b2.frozen (i * 3 + 1)
      have e1 := b2.cell (j := i * 3 + 1) (u := z1) (at_end hr1 1)
      have f2 := b2.frozen (i * 3 + 2)
      have e2 := b2.cell (j := i * 3 + 2) (u := z2) (at_end hr1 2)
      go_wp2
      go_roundw
      case rel =>
        have P4 := (((b2).set (i * 3) (.int .i64 f.1)).set (i * 3 + 1) (.string sx)).set (i * 3 + 2) (.int .i64 f.2.2)
        rw [set_mid3 hr1] at P4
        refine ⟨i + 1, _, r, by omega, by go_num, ((((HB.out.trans (hC.mono HB.out.size)).setCell (p := ⟨w.heap.size, i * 3, none⟩) (by simp) (.int .i64 f.1)).setCell (p := ⟨w.heap.size, i * 3 + 1, none⟩) (by simp) (.string sx)).setCell (p := ⟨w.heap.size, i * 3 + 2, none⟩) (by simp) (.int .i64 f.2.2)), P4, Lib.hid ⟨by simp [hr1]; omega, by rw [hrl]; congr 1, ?_⟩⟩
        rw [Htk.out]
        refine Chunks.append (Hr3.out.imp fun cs a hq => rVal_stays.to (Keeps.mono fun _ h => h) hq) (Chunks.one rfl ?_)
        exact rVal_mk hs hsm (WalkArith.wf_i64 hk) (WalkArith.wf_i64 hk2)
      case measure => simp [intOf]; omega
    · obtain rfl : i = N := by omega
      obtain ⟨hr1, hr2, hr3⟩ := hr.out
      have ht0 : ts = [] := List.eq_nil_of_length_eq_zero (by rw [hr2]; simp)
      subst ht0
      rw [List.append_nil] at b1
      rw [List.take_of_length_le (by omega)] at hr3
      have Hr3 := Lib.hid hr3
      clear hr3 hr2 hr1 hr h
      go_wp2
      go_ret
      exact ⟨ds, rfl, b1, Hr3.out, hB⟩
end Go.Proofs.Yteafbdebmhpffaa

/- The contracts of graph's copyObj, and of makeEach with it. Condition: sizes that memory can hold. -/
namespace Go.Proofs.Yteafbdebmhpffaa
open Go.RowKit

set_option maxRecDepth 100000 in
set_option maxHeartbeats 1000000 in
theorem copyObj_any (n k : Int) (A : Option Addr) (N c : Nat) (l : List Vl) (w : World) (h : rVals (All w) w [.slice A N c] l) (hNl : N ≤ 7036874417766) (htl : ∀ v ∈ l, v.2.1.length ≤ 281474976710656) :
    Calls Try.prog 73 #[.agg #[.int .i64 n, .int .i64 k, .slice A N c]] w fun e w' => ∃ b cs, e = .returned (.agg #[.int .i64 n, .int .i64 k, .slice (some ⟨b, 0, none⟩) N N]) ∧ (w.heap.size < b ∧ b < w'.heap.size) ∧ Blk w' b 42 cs ∧ Chunks 3 (rVal (fun _ => True) w') cs l ∧ Below w.heap.size w w' := by
  obtain ⟨p1, p2⟩ := blk_two w 38 38 [.int .i64 n, .int .i64 k, .slice A N c] [.int .i64 0, .int .i64 0, .slice none 0 0]
  have hB0 : Below w.heap.size w ((w.alloc (.cells #[.int .i64 n, .int .i64 k, .slice A N c] 38)).alloc (.cells #[.int .i64 0, .int .i64 0, .slice none 0 0] 38)) := ((Below.refl _ w).alloc (Nat.le_refl _) _).alloc (by simp) _
  have T1 := Lib.hid (fun W (hW : Below w.heap.size w W) => eachV_any A N c l W (vals_below hW h) hNl htl)
  have S0 := And.intro (p1.cell (j := 0) rfl) (And.intro (p1.cell (j := 1) rfl) (p1.cell (j := 2) rfl))
  have l1 := p1.lt
  have s0 : ((w.alloc (.cells #[.int .i64 n, .int .i64 k, .slice A N c] 38)).alloc (.cells #[.int .i64 0, .int .i64 0, .slice none 0 0] 38)).heap.size = w.heap.size + 2 := by simp
  have HB0 := Lib.hid hB0
  have P2 := Lib.hid p2
  clear p1 p2 hB0
  go_enter Try.func73, Try.ntmps73
  go_wp2
  generalize (w.alloc (.cells #[.int .i64 n, .int .i64 k, .slice A N c] 38)).alloc (.cells #[.int .i64 0, .int .i64 0, .slice none 0 0] 38) = w0 at *
  refine sch_start [(0, true), (1, true), (2, true), (3, true), (4, true), (5, true), (6, false), (7, true), (8, false)]
    (fun W => W.cell? ⟨w.heap.size, 0, none⟩ = some (.int .i64 n) ∧ W.cell? ⟨w.heap.size, 1, none⟩ = some (.int .i64 k) ∧ W.cell? ⟨w.heap.size, 2, none⟩ = some (.slice A N c)) (by kernel_rfl) rfl (by kernel_rfl) (fun _ _ _ _ _ h => h) S0 (fun hH => ?_)
  have hC0 : Below w0.heap.size w0 w0.drew := (Below.refl w0.heap.size w0).drew
  have hd0 : w0.drew.heap.size = w.heap.size + 2 := s0
  repeat (first | (refine sch_yes (v := ?_) rfl rfl ?_ hH ?_; rotate_left; (focus ((rintro W ⟨hW0, hW1, hW2⟩; go_simp) <;> with_reducible rfl)); simp only [Act.put, List.setIfInBounds_toArray, List.set_cons_zero, List.set_cons_succ]) | (refine sch_no rfl rfl hH ?_; simp only [Act.put, List.setIfInBounds_toArray, List.set_cons_zero, List.set_cons_succ]))
  refine sch_call rfl rfl (fun K hK => ?_)
  go_wp2_with (go_at_call 93; refine (T1.out _ (HB0.out.trans (hC0.mono HB0.out.size))).mono ?_; rintro e w1 ⟨cs2, rfl, hb2, hch, hB1⟩)
  have hC1 : Below w0.heap.size w0 w1 := hC0.trans (hB1.mono hC0.size)
  rw [hd0] at hb2
  have S1 := And.intro ((hC1.cell (p := ⟨w.heap.size, 0, none⟩) l1).trans S0.1) (And.intro ((hC1.cell (p := ⟨w.heap.size, 1, none⟩) l1).trans S0.2.1) ((hC1.cell (p := ⟨w.heap.size, 2, none⟩) l1).trans S0.2.2))
  refine hK.out _ _ S1 ?_
  clear hK hH
  have hH := S1
  repeat (first | (refine sch_yes (v := ?_) rfl rfl ?_ hH ?_; rotate_left; (focus ((rintro W ⟨hW0, hW1, hW2⟩; go_simp) <;> with_reducible rfl)); simp only [Act.put, List.setIfInBounds_toArray, List.set_cons_zero, List.set_cons_succ]) | (refine sch_no rfl rfl hH ?_; simp only [Act.put, List.setIfInBounds_toArray, List.set_cons_zero, List.set_cons_succ]))
  refine sch_call rfl rfl (fun K hK => ?_)
  have P3 : Blk w1 (w.heap.size + 1) 38 [.int .i64 0, .int .i64 0, .slice none 0 0] := P2.out.to hC1
  have f0 := P3.frozen 0
  have d0 := P3.cell (j := 0) rfl
  have f1 := P3.frozen 1
  have d1 := P3.cell (j := 1) rfl
  have f2 := P3.frozen 2
  have d2 := P3.cell (j := 2) rfl
  go_wp2
  have P4 := (((P3).set 0 (.int .i64 n)).set 1 (.int .i64 k)).set 2 (.slice (some ⟨w.heap.size + 2, 0, none⟩) N N)
  refine hK.out _ _ (And.intro (far3 S1.1 (by omega)) (And.intro (far3 S1.2.1 (by omega)) (far3 S1.2.2 (by omega)))) ?_
  clear hK hH
  refine sch_done ?_
  go_wp2
  refine ret_cell0 (d := .struct _) (cs := [.int .i64 n, .int .i64 k, .slice (some ⟨w.heap.size + 2, 0, none⟩) N N]) rfl P4 rfl rfl rfl rfl rfl ?_
  have hBend := ((((HB0.out.trans (hC1.mono HB0.out.size)).setCell (p := ⟨w.heap.size + 1, 0, none⟩) (by simp) (.int .i64 n)).setCell (p := ⟨w.heap.size + 1, 1, none⟩) (by simp) (.int .i64 k)).setCell (p := ⟨w.heap.size + 1, 2, none⟩) (by simp) (.slice (some ⟨w.heap.size + 2, 0, none⟩) N N))
  exact ⟨w.heap.size + 2, cs2, rfl, ⟨by omega, by simpa using hb2.lt⟩, ((hb2.other _ _ (by simp)).other _ _ (by simp)).other _ _ (by simp), hch, hBend⟩

set_option maxRecDepth 100000 in
set_option maxHeartbeats 2000000 in
theorem eachO_any (A : Option Addr) (N c : Nat) (l : List Ob) (w : World) (h : rObs (All w) w [.slice A N c] l) (hNl : N ≤ 7036874417766) (htl : ∀ o ∈ l, o.2.2.length ≤ 7036874417766 ∧ ∀ v ∈ o.2.2, v.2.1.length ≤ 281474976710656) :
    Calls Try.prog 72 #[.slice A N c, .func (.func 73) #[] #[]] w fun e w' => ∃ cs, e = .returned (.slice (some ⟨w.heap.size, 0, none⟩) N N) ∧ Blk w' w.heap.size 38 cs ∧
      ObDone w.heap.size w' cs l ∧ Below w.heap.size w w' := by
  obtain ⟨hN, hNc, hcm⟩ := slice_len h
  have hmk := fun W => made_run (P := Try.prog) 25 38 (.agg #[.int .i64 0, .int .i64 0, .slice none 0 0]) 3 40 rfl (by kernel_rfl) N (by omega) (by omega) W
  simp only [maxLen] at hcm
  have b0 := Blk.new w 38 (madeCells (Value.agg #[.int .i64 0, .int .i64 0, .slice none 0 0]).cells (N * 3)).toList
  have hB0 : Below w.heap.size w (w.alloc (.cells (madeCells (Value.agg #[.int .i64 0, .int .i64 0, .slice none 0 0]).cells (N * 3)).toList.toArray 38)) := (Below.refl _ w).alloc (Nat.le_refl _) _
  have hl0 := made_len (Value.agg #[.int .i64 0, .int .i64 0, .slice none 0 0]).cells (N * 3)
  go_enter Try.func72, Try.ntmps72
  go_wp2
  go_loopw [13] (fun iv w' => ∃ (i : Nat) (ds ts : List Value), i ≤ N ∧ iv = .int .i64 (i : Int) ∧ Below w.heap.size w w' ∧ Blk w' w.heap.size 38 (ds ++ ts) ∧ Hid (ds.length = i * 3 ∧ ts.length = (N - i) * 3 ∧
    ObDone w.heap.size w' ds (l.take i))) (fun iv _ => N - (intOf iv).toNat)
  case atStart => exact ⟨0, [], _, by omega, rfl, hB0, b0, Lib.hid ⟨by simp, by rw [hl0]; simp, by rw [List.take_zero]; exact ObDone.nil⟩⟩
  case round =>
    rename_i iv wr
    obtain ⟨i, ds, ts, hi, rfl, hB, b1, hr⟩ := hrel
    clear b0 hB0 hl0 hmk
    by_cases hin : i < N
    · obtain ⟨hr1, hr2, hr3⟩ := hr.out
      obtain ⟨z0, z1, z2, r, rfl, hrl⟩ := cons3 (n := N - i - 1) (by rw [hr2]; congr 1; omega)
      have hli : l[i]? = some l[i] := List.getElem?_eq_getElem (by omega)
      obtain ⟨b, off, A2, c2, rfl, hb, hx0, hx1, hx2, hfl, hk, hk2⟩ := ob_at (obs_below hB h) hli
      have hil : (i : Int) < (N : Int) := by omega
      have hi0 : (0 : Int) ≤ (i : Int) := by omega
      have hq2 := (htl _ (List.getElem_mem (n := i) (by omega))).1
      have hq3 := (htl _ (List.getElem_mem (n := i) (by omega))).2
      have T1 := Lib.hid (fun W (hW : Below wr.heap.size wr W) => copyObj_any l[i].1 l[i].2.1 A2 l[i].2.2.length c2 l[i].2.2 W (vals_below hW hfl) hq2 hq3)
      have Htk := Lib.hid (take_at hli)
      have Hr := Lib.hid hr
      have Hr3 := Lib.hid hr3
      have HB := Lib.hid hB
      have Hl := Lib.hid hli
      clear hr hr2 hr3 hB h hli
      have hB1 : ∀ u, Below wr.heap.size wr (wr.alloc (.cells u 38)) := fun u => (Below.refl _ wr).alloc (Nat.le_refl _) _
      have hfm := (slice_len hfl).2
      clear hfl
      generalize l[i] = f at *
      go_wp2_with fail
      refine (T1.out _ (hB1 _)).mono ?_
      rintro e w1 ⟨g2, cs2, rfl, hg2, hb2, hch, hB2⟩
      have hC := (hB1 #[.int .i64 f.1, .int .i64 f.2.1, .slice A2 f.2.2.length c2]).trans (hB2.mono (hB1 _).size)
      have b2 := b1.to hC
      have hgl : w.heap.size < g2 := Nat.lt_of_le_of_lt HB.out.size (Nat.lt_of_le_of_lt (hB1 #[.int .i64 f.1, .int .i64 f.2.1, .slice A2 f.2.2.length c2]).size hg2.1)
      have f0 := b2.frozen (i * 3)
      have e0 := b2.cell (j := i * 3) (u := z0) (at_end0 hr1)
      have f1 := b2.frozen (i * 3 + 1)
      have e1 := b2.cell (j := i * 3 + 1) (u := z1) (at_end hr1 1)
      have f2 := b2.frozen (i * 3 + 2)
      have e2 := b2.cell (j := i * 3 + 2) (u := z2) (at_end hr1 2)
      go_wp2
      go_roundw
      case rel =>
        have P4 := (((b2).set (i * 3) (.int .i64 f.1)).set (i * 3 + 1) (.int .i64 f.2.1)).set (i * 3 + 2) (.slice (some ⟨g2, 0, none⟩) f.2.2.length f.2.2.length)
        rw [set_mid3 hr1] at P4
        refine ⟨i + 1, _, r, by omega, by go_num, ((((HB.out.trans (hC.mono HB.out.size)).setCell (p := ⟨w.heap.size, i * 3, none⟩) (by simp) (.int .i64 f.1)).setCell (p := ⟨w.heap.size, i * 3 + 1, none⟩) (by simp) (.int .i64 f.2.1)).setCell (p := ⟨w.heap.size, i * 3 + 2, none⟩) (by simp) (.slice (some ⟨g2, 0, none⟩) f.2.2.length f.2.2.length)), P4, Lib.hid ⟨by simp [hr1]; omega, by rw [hrl]; congr 1, ?_⟩⟩
        rw [Htk.out]
        exact ObDone.add Hr3.out (keep_set3 hC) (Nat.le_trans (hB1 #[.int .i64 f.1, .int .i64 f.2.1, .slice A2 f.2.2.length c2]).size (Nat.le_of_lt hg2.1)) hgl (by simpa using hg2.2) ⟨WalkArith.wf_i64 hk, WalkArith.wf_i64 hk2, Nat.le_trans hfm.1 hfm.2, cs2, ((hb2.other _ _ (by simp; omega)).other _ _ (by simp; omega)).other _ _ (by simp; omega), hch⟩
      case measure => simp [intOf]; omega
    · obtain rfl : i = N := by omega
      obtain ⟨hr1, hr2, hr3⟩ := hr.out
      have ht0 : ts = [] := List.eq_nil_of_length_eq_zero (by rw [hr2]; simp)
      subst ht0
      rw [List.append_nil] at b1
      rw [List.take_of_length_le (by omega)] at hr3
      have Hr3 := Lib.hid hr3
      clear hr3 hr2 hr1 hr h
      go_wp2
      go_ret
      exact ⟨ds, rfl, b1, Hr3.out, hB⟩
end Go.Proofs.Yteafbdebmhpffaa
