/- The contracts of the document's own fields, Same and Text (layer 6): what the plain functions tell; nothing that was there is changed. Condition of Text: names of at most 1048576 bytes. -/
import Derived.Test.YtomndfeifjiljaaDoorScRef1
import Derived.Test.YtomndfeifjiljaaDoorScSame
import Derived.Test.YtomndfeifjiljaaDoorScText
import Derived.Test.YtomndfeifjiljaaDoorSched
namespace Go.Proofs.YtomndfeifjiljaaDoor
open Go.RowKit

set_option maxRecDepth 100000 in
set_option maxHeartbeats 2000000 in
theorem rfields_any (A B : Option Addr) (n c m d : Nat) (l1 l2 : List Fld) (w : World) (h1 : rFlds (All w) w [.slice A n c] l1) (h2 : rFlds (All w) w [.slice B m d] l2) :
    Calls Tryd.prog 27 #[.slice A n c, .slice B m d] w fun e w' => e = .returned (.bool (decide (l1 = l2))) ∧ Below w.heap.size w w' := by
  obtain ⟨hn, hnc, hcm⟩ := flds_len h1
  obtain ⟨hm, hmd, hdm⟩ := flds_len h2
  simp only [maxLen] at hcm hdm
  by_cases hnm : n = m
  · subst hnm
    have hnn : ((n : Int) != (n : Int)) = false := by simp
    go_enter Tryd.func27, Tryd.ntmps27
    go_wp2
    go_loopw [5] (fun iv w' => ∃ i : Nat, i ≤ n ∧ iv = .int .i64 (i : Int) ∧ Below w.heap.size w w' ∧ (∀ j, j < i → l1[j]? = l2[j]?)) (fun iv _ => n - (intOf iv).toNat)
    case atStart => exact ⟨0, by omega, rfl, Below.refl _ _, fun j hj => by omega⟩
    case round =>
      rename_i iv wr
      obtain ⟨i, hi, rfl, hB, hsame⟩ := hrel
      by_cases hin : i < n
      · have hl1 : l1[i]? = some l1[i] := List.getElem?_eq_getElem (by omega)
        have hl2 : l2[i]? = some l2[i] := List.getElem?_eq_getElem (by omega)
        obtain ⟨b1, off1, x1, y1, rfl, hb1, p1, p2, p3, e1, e2, -, -, -⟩ := fld_at (flds_below hB h1) hl1
        obtain ⟨b2, off2, x2, y2, rfl, hb2, q1, q2, q3, f1, f2, -, -, -⟩ := fld_at (flds_below hB h2) hl2
        have hil : (i : Int) < (n : Int) := by omega
        have hi0 : (0 : Int) ≤ (i : Int) := by omega
        have hq : ∀ W, (binOp .neq 40 (.agg #[.string x1, .int .i64 l1[i].2.1, .string y1]) (.agg #[.string x2, .int .i64 l2[i].2.1, .string y2])).run Tryd.prog W = .ok (.bool (!decide (l1[i] = l2[i]))) W := fun W => by rw [fld_neq, fld_is e1 e2 f1 f2]
        have heg := sfld_guard
        have hne : l1[i] ≠ l2[i] → decide (l1 = l2) = false := fun he => decide_eq_false fun e => he (by subst e; rfl)
        have heq : l1[i] = l2[i] → ∀ j, j < i + 1 → l1[j]? = l2[j]? := fun he j hj => by
          by_cases hji : j < i
          · exact hsame j hji
          · obtain rfl : j = i := by omega
            rw [hl1, hl2, he]
        have Hne := Lib.hid hne
        have Heq := Lib.hid heq
        have HB := Lib.hid hB
        clear hne heq hl1 hl2 hsame e1 e2 f1 f2 hB h1 h2
        generalize l1[i] = F1 at *
        generalize l2[i] = F2 at *
        by_cases he : F1 = F2
        · rw [decide_eq_true he] at hq
          have Hq := Lib.hid (Heq.out he)
          clear Heq Hne he
          generalize F1.2.1 = k1 at *
          generalize F2.2.1 = k2 at *
          go_wp2
          go_quiet (fail)
          go_wp2
          go_roundw
          case rel => exact ⟨i + 1, by omega, by go_num, below_drewN HB.out _, Hq.out⟩
          case measure => simp [intOf]; omega
        · rw [decide_eq_false he] at hq
          have Hq := Lib.hid (Hne.out he)
          clear Heq Hne he
          generalize F1.2.1 = k1 at *
          generalize F2.2.1 = k2 at *
          go_wp2
          go_quiet (fail)
          go_wp2
          go_ret
          exact ⟨by rw [Hq.out]; rfl, below_drewN HB.out _⟩
      · obtain rfl : i = n := by omega
        have heq : l1 = l2 := List.ext_getElem? fun j => by
          by_cases hj : j < i
          · exact hsame j hj
          · rw [List.getElem?_eq_none (by omega), List.getElem?_eq_none (by omega)]
        have hd : decide (l1 = l2) = true := decide_eq_true heq
        have Hd := Lib.hid hd
        clear hd hsame heq
        go_wp2
        go_ret
        exact ⟨by rw [Hd.out]; rfl, hB⟩
  · have hd : decide (l1 = l2) = false := decide_eq_false fun e => hnm (by subst e; omega)
    have hne : ((n : Int) != (m : Int)) = true := by rw [bne_iff_ne]; omega
    rw [hd]
    go_enter Tryd.func27, Tryd.ntmps27
    go_wp2
    go_ret
    exact ⟨rfl, Below.refl _ _⟩

theorem typ_is {x y : Typ} : decide (x = y) = (decide (x.2 = y.2) && decide (x.1 = y.1)) := by
  obtain ⟨a, b⟩ := x
  obtain ⟨a', b'⟩ := y
  simp only [Prod.mk.injEq]
  by_cases e1 : a = a' <;> by_cases e2 : b = b' <;> simp [e1, e2]

set_option maxRecDepth 100000 in
set_option maxHeartbeats 4000000 in
theorem rssame_any (A B : Option Addr) (n c m d : Nat) (l1 l2 : Sch) (w : World) (h1 : rSch (All w) w [.slice A n c] l1) (h2 : rSch (All w) w [.slice B m d] l2) :
    Calls Tryd.prog 13 #[.agg #[.slice A n c], .agg #[.slice B m d]] w fun e w' => e = .returned (.bool (decide (l1 = l2))) ∧ Below w.heap.size w w' := by
  obtain ⟨hn, hnc, hcm⟩ := sch_len h1
  obtain ⟨hm, hmd, hdm⟩ := sch_len h2
  simp only [maxLen] at hcm hdm
  have hB0 : Below w.heap.size w ((w.alloc (.cells #[.slice A n c] 24)).alloc (.cells #[.slice B m d] 24)) := ((Below.refl _ w).alloc (Nat.le_refl _) _).alloc (by simp) _
  by_cases hnm : n = m
  · subst hnm
    have hnn : ((n : Int) != (n : Int)) = false := by simp
    have bA := (Blk.new w 24 [.slice A n c]).alloc (.cells #[.slice B n d] 24)
    have bB := Blk.new (w.alloc (.cells #[.slice A n c] 24)) 24 [.slice B n d]
    simp only [World.size_alloc] at bB
    go_enter Tryd.func13, Tryd.ntmps13
    go_wp2
    go_loopw [5] (fun iv w' => ∃ i : Nat, i ≤ n ∧ iv = .int .i64 (i : Int) ∧ Below w.heap.size w w' ∧ Blk w' w.heap.size 24 [.slice A n c] ∧ Blk w' (w.heap.size + 1) 24 [.slice B n d] ∧ (∀ j, j < i → l1[j]? = l2[j]?)) (fun iv _ => n - (intOf iv).toNat)
    case atStart => exact ⟨0, by omega, rfl, hB0, bA, bB, fun j hj => by omega⟩
    case round =>
      rename_i iv wr
      obtain ⟨i, hi, rfl, hB, b1, b2, hsame⟩ := hrel
      have c1 := b1.cell (j := 0) rfl
      have c2 := b2.cell (j := 0) rfl
      clear hB0 bA bB
      by_cases hin : i < n
      · have hl1 : l1[i]? = some l1[i] := List.getElem?_eq_getElem (by omega)
        have hl2 : l2[i]? = some l2[i] := List.getElem?_eq_getElem (by omega)
        obtain ⟨g1, off1, x1, A1, cc1, rfl, hb1, p1, p2, e1, -, r1⟩ := typ_at (sch_below hB h1) hl1
        obtain ⟨g2, off2, x2, A2, cc2, rfl, hb2, q1, q2, f1, -, r2⟩ := typ_at (sch_below hB h2) hl2
        have hil : (i : Int) < (n : Int) := by omega
        have hi0 : (0 : Int) ≤ (i : Int) := by omega
        have hne : l1[i] ≠ l2[i] → decide (l1 = l2) = false := fun he => decide_eq_false fun e => he (by subst e; rfl)
        have heq : l1[i] = l2[i] → ∀ j, j < i + 1 → l1[j]? = l2[j]? := fun he j hj => by
          by_cases hji : j < i
          · exact hsame j hji
          · obtain rfl : j = i := by omega
            rw [hl1, hl2, he]
        have Hne := Lib.hid hne
        have Heq := Lib.hid heq
        have HB := Lib.hid hB
        clear hne heq hl1 hl2 hsame h1 h2 hB
        generalize l1[i] = F1 at *
        generalize l2[i] = F2 at *
        have hty := typ_is (x := F1) (y := F2)
        have hsb := str_beq x1 x2
        rw [e1, f1] at hsb
        have hdr : Below wr.heap.size wr wr.drew := (Below.refl _ wr).drew
        have S1 := Lib.hid (rfields_any A1 A2 F1.2.length cc1 F2.2.length cc2 F1.2 F2.2 wr.drew (flds_below hdr r1) (flds_below hdr r2))
        clear r1 r2 e1 f1
        have Hd : Hid (F1 = F2 ↔ (decide (F1.2 = F2.2) && decide (F1.1 = F2.1)) = true) := Lib.hid (by rw [← hty, decide_eq_true_iff])
        clear hty
        generalize decide (F1.2 = F2.2) = m1 at *
        generalize decide (F1.1 = F2.1) = m2 at *
        generalize F1.2.length = k1 at *
        generalize F2.2.length = k2 at *
        go_wp2
        refine sch_start [(0, true), (1, true), (2, true), (3, true), (4, true), (5, true), (6, true), (7, true), (8, true), (9, true), (10, true), (11, true), (12, false), (13, true)]
          (fun W => W.cell? ⟨w.heap.size, 0, none⟩ = some (.slice (some ⟨g1, off1, none⟩) n c) ∧ W.cell? ⟨w.heap.size + 1, 0, none⟩ = some (.slice (some ⟨g2, off2, none⟩) n d) ∧ W.cell? ⟨g1, off1 + i * 2 + 1, none⟩ = some (.slice A1 k1 cc1) ∧ W.cell? ⟨g2, off2 + i * 2 + 1, none⟩ = some (.slice A2 k2 cc2)) (by kernel_rfl) rfl (by kernel_rfl) (fun _ _ _ _ _ h => h) ⟨c1, c2, p2, q2⟩ (fun hH => ?_)
        repeat (first | (refine sch_yes (v := ?_) rfl rfl ?_ hH ?_; rotate_left; (focus ((rintro W ⟨hW1, hW2, hW3, hW4⟩; go_simp) <;> with_reducible rfl)); simp only [Act.put, List.setIfInBounds_toArray, List.set_cons_zero, List.set_cons_succ]) | (refine sch_no rfl rfl hH ?_; simp only [Act.put, List.setIfInBounds_toArray, List.set_cons_zero, List.set_cons_succ]))
        refine sch_call rfl rfl (fun K hK => ?_)
        go_wp2_with (go_at_call 27; refine S1.out.mono ?_; rintro e v1 ⟨rfl, hE1⟩)
        have hE : Below wr.heap.size wr v1 := hdr.trans hE1
        have c1' := (hE.cell (p := ⟨w.heap.size, 0, none⟩) b1.lt).trans c1
        have c2' := (hE.cell (p := ⟨w.heap.size + 1, 0, none⟩) b2.lt).trans c2
        have p1' := (hE.cell (p := ⟨g1, off1 + i * 2, none⟩) hb1).trans p1
        have p2' := (hE.cell (p := ⟨g1, off1 + i * 2 + 1, none⟩) hb1).trans p2
        have q1' := (hE.cell (p := ⟨g2, off2 + i * 2, none⟩) hb2).trans q1
        have q2' := (hE.cell (p := ⟨g2, off2 + i * 2 + 1, none⟩) hb2).trans q2
        have hH1 := And.intro c1' (And.intro c2' (And.intro p2' q2'))
        refine hK.out _ _ hH1 ?_
        clear hK hH
        have hH := hH1
        repeat (first | (refine sch_yes (v := ?_) rfl rfl ?_ hH ?_; rotate_left; (focus ((rintro W ⟨hW1, hW2, hW3, hW4⟩; go_simp) <;> with_reducible rfl)); simp only [Act.put, List.setIfInBounds_toArray, List.set_cons_zero, List.set_cons_succ]) | (refine sch_no rfl rfl hH ?_; simp only [Act.put, List.setIfInBounds_toArray, List.set_cons_zero, List.set_cons_succ]))
        refine sch_done ?_
        clear hH hH1
        have HE := Lib.hid (HB.out.trans (hE.mono HB.out.size))
        have b1' := b1.to hE
        have b2' := b2.to hE
        clear hE1 hdr S1
        cases m1
        · have Hq := Lib.hid (Hne.out (fun e => by have := Hd.out.1 e; simp at this))
          clear Hne Heq Hd
          go_wp2
          go_quiet (fail)
          go_wp2
          go_ret
          exact ⟨by rw [Hq.out]; rfl, below_drewN HE.out _⟩
        · cases m2
          · have Hq := Lib.hid (Hne.out (fun e => by have := Hd.out.1 e; simp at this))
            clear Hne Heq Hd
            go_wp2
            go_quiet (fail)
            go_wp2
            go_ret
            exact ⟨by rw [Hq.out]; rfl, below_drewN HE.out _⟩
          · have Hq := Lib.hid (Heq.out (Hd.out.2 (by simp)))
            clear Hne Heq Hd
            go_wp2
            go_quiet (fail)
            go_wp2
            go_roundw
            case rel => exact ⟨i + 1, by omega, by go_num, below_drewN HE.out _, b1'.to (below_drewN (Below.refl _ _) _), b2'.to (below_drewN (Below.refl _ _) _), Hq.out⟩
            case measure => simp [intOf]; omega
      · obtain rfl : i = n := by omega
        have heq : l1 = l2 := List.ext_getElem? fun j => by
          by_cases hj : j < i
          · exact hsame j hj
          · rw [List.getElem?_eq_none (by omega), List.getElem?_eq_none (by omega)]
        have hd : decide (l1 = l2) = true := decide_eq_true heq
        have Hd := Lib.hid hd
        clear hd hsame heq
        go_wp2
        go_ret
        exact ⟨by rw [Hd.out]; rfl, hB⟩
  · have hd : decide (l1 = l2) = false := decide_eq_false fun e => hnm (by subst e; omega)
    have hne : ((n : Int) != (m : Int)) = true := by rw [bne_iff_ne]; omega
    rw [hd]
    go_enter Tryd.func13, Tryd.ntmps13
    go_wp2
    go_ret
    exact ⟨rfl, hB0⟩

/-- A text at a place of the table of kinds. -/
theorem kt_at {w : World} {g : Nat} {ty : TypeId} (b : Blk w g ty kts) {k : Nat} (hk : k < 6) : ∃ q : ByteArray, w.cell? ⟨g, k, none⟩ = some (.string q) ∧ byt q = kindT (k : Int) ∧ q.size ≤ 3 := by
  have h6 : k = 0 ∨ k = 1 ∨ k = 2 ∨ k = 3 ∨ k = 4 ∨ k = 5 := by omega
  rcases h6 with rfl | rfl | rfl | rfl | rfl | rfl
  · exact ⟨⟨#[105, 56]⟩, b.cell rfl, rfl, by decide⟩
  · exact ⟨⟨#[105, 49, 54]⟩, b.cell rfl, rfl, by decide⟩
  · exact ⟨⟨#[105, 51, 50]⟩, b.cell rfl, rfl, by decide⟩
  · exact ⟨⟨#[105, 54, 52]⟩, b.cell rfl, rfl, by decide⟩
  · exact ⟨⟨#[116]⟩, b.cell rfl, rfl, by decide⟩
  · exact ⟨⟨#[42]⟩, b.cell rfl, rfl, by decide⟩

set_option maxRecDepth 100000 in
set_option maxHeartbeats 8000000 in
theorem rtext_any (A : Option Addr) (N c : Nat) (l : Sch) (w : World) (h : rSch (All w) w [.slice A N c] l) (htame : tameS l) :
    Calls Tryd.prog 20 #[.agg #[.slice A N c]] w fun e w' => ∃ r, e = .returned (.string r) ∧ byt r = textS l ∧ Below w.heap.size w w' := by
  obtain ⟨hN, hNc, hcm⟩ := sch_len h
  simp only [maxLen] at hcm
  have hB0 : Below w.heap.size w (w.alloc (.cells #[.slice A N c] 24)) := (Below.refl _ w).alloc (Nat.le_refl _) _
  have b0 := Blk.new w 24 [.slice A N c]
  have T0 := Lib.hid (rsmay_any A N c l (w.alloc (.cells #[.slice A N c] 24)) (sch_below hB0 h) htame)
  have Ht := Lib.hid (fun h => textS_may (s := l) h)
  have Hf := Lib.hid (fun h => textS_not (s := l) h)
  have Hs := Lib.hid (fun h => mayS_small (s := l) h)
  generalize mayS l = m at *
  go_enter Tryd.func20, Tryd.ntmps20
  go_wp2_with fail
  refine T0.out.mono ?_
  rintro e w1 ⟨rfl, hB1⟩
  have hBB := hB0.trans (hB1.mono hB0.size)
  cases m
  · go_wp2
    go_ret
    exact ⟨_, rfl, by rw [Hf.out (by simp)]; rfl, hBB⟩
  have b1 : Blk w1 w.heap.size 24 [.slice A N c] := b0.to hB1
  obtain ⟨hl4, hsm⟩ := Hs.out (by simp)
  have hte := Ht.out (by simp)
  have Hte := Lib.hid hte
  have hB2 := hBB.alloc hBB.size (.cells kts.toArray 9)
  have b2 := b1.alloc (.cells kts.toArray 9)
  have k2 := Blk.new w1 9 kts
  clear hte Ht Hf Hs T0 hB0 hB1 b0 hBB b1
  have hkts : kts.toArray = #[.string ⟨#[105, 56]⟩, .string ⟨#[105, 49, 54]⟩, .string ⟨#[105, 51, 50]⟩, .string ⟨#[105, 54, 52]⟩, .string ⟨#[116]⟩, .string ⟨#[42]⟩] := rfl
  rw [hkts] at hB2 b2 k2
  clear hkts
  go_wp2
  go_loopw [5, 6] (fun ov iv w' => ∃ (i : Nat) (r : ByteArray), i ≤ N ∧ iv = .int .i64 (i : Int) ∧ ov = .string r ∧ r.size ≤ 300 * i ∧ Hid (byt r = sText (l.take i)) ∧ Below w.heap.size w w' ∧ Blk w' w.heap.size 24 [.slice A N c] ∧ Blk w' w1.heap.size 9 kts) (fun _ iv _ => N - (intOf iv).toNat)
  case atStart => exact ⟨0, ⟨#[]⟩, by omega, rfl, rfl, Nat.le_refl _, Lib.hid rfl, hB2, b2, k2⟩
  case round =>
    rename World => wr
    obtain ⟨i, r, hi, rfl, rfl, hrs, hr, hB, b3, k3⟩ := hrel
    clear hB2 b2 k2
    have c3 := b3.cell (j := 0) rfl
    by_cases hin : i < N
    · have hfi : l[i]? = some l[i] := List.getElem?_eq_getElem (by omega)
      obtain ⟨b, off, x, A2, c2, rfl, hb, p1, p2, e1, -, hfs⟩ := typ_at (sch_below hB h) hfi
      obtain ⟨hs1, hs2, hs3⟩ := hsm l[i] (List.getElem_mem _)
      have hil : (i : Int) < (N : Int) := by omega
      have hi0 : (0 : Int) ≤ (i : Int) := by omega
      have htk : sText (l.take (i + 1)) = sText (l.take i) ++ tText l[i] := by
        rw [List.take_add_one, hfi, Option.toList_some, sText_append, sText, sText, List.append_nil]
      have Htk := Lib.hid htk
      clear htk hfi
      generalize l[i] = t at *
      have hxs : x.size ≤ 16 := by rw [← byt_length, e1]; exact hs1
      have Hst : Hid (byt (r ++ x ++ ⟨#[123]⟩) = sText (l.take i) ++ t.1 ++ 123 :: fsText (t.2.take 0)) := Lib.hid (by rw [byt_append, byt_append, hr.out, e1]; rfl)
      clear hr e1
      go_wp2
      go_loopw [5, 7] (fun ov kv w' => ∃ (k : Nat) (q : ByteArray), k ≤ t.2.length ∧ kv = .int .i64 (k : Int) ∧ ov = .string q ∧ q.size ≤ 300 * i + 17 + 40 * k ∧ Hid (byt q = sText (l.take i) ++ t.1 ++ 123 :: fsText (t.2.take k)) ∧ Below wr.heap.size wr w') (fun _ kv _ => t.2.length - (intOf kv).toNat)
      case atStart => exact ⟨0, _, by omega, rfl, rfl, by rw [ByteArray.size_append, ByteArray.size_append, show (⟨#[123]⟩ : ByteArray).size = 1 from rfl]; omega, Hst, Below.refl _ _⟩
      case round =>
        rename World => v0
        obtain ⟨k, q, hk, rfl, rfl, hqs, hq, hC⟩ := hrel
        clear Hst
        have hBv := hB.trans (hC.mono hB.size)
        have b4 := b3.to hC
        have k4 := k3.to hC
        have c4 := b4.cell (j := 0) rfl
        have p2v := (hC.cell (p := ⟨b, off + i * 2 + 1, none⟩) hb).trans p2
        by_cases hkl : k < t.2.length
        · have hfk : t.2[k]? = some t.2[k] := List.getElem?_eq_getElem hkl
          obtain ⟨bf, of, u, v, rfl, hbf, q1, q2, q3, hu, hv, -, -, -⟩ := fld_at (flds_below hC hfs) hfk
          obtain ⟨⟨hk0, hk6⟩, hul, hvl⟩ := hs3 t.2[k] (List.getElem_mem _)
          have hkl2 : (k : Int) < (t.2.length : Int) := by omega
          have hkl3 : (0 : Int) ≤ (k : Int) := by omega
          have htk := fsText_take hfk
          have Htk2 := Lib.hid htk
          clear htk hfk
          generalize t.2[k] = f at *
          obtain ⟨kd, hkd⟩ := Int.eq_ofNat_of_zero_le hk0
          have hft : fText f = byt u ++ 58 :: (kindT (kd : Int) ++ byt v) := by rw [fText, hu, hv, hkd]
          have Hft := Lib.hid hft
          rw [hkd] at q2 hk6
          have hus : u.size ≤ 16 := by rw [← byt_length, hu]; exact hul
          have hvs : v.size ≤ 16 := by rw [← byt_length, hv]; exact hvl
          have hD : Below v0.heap.size v0 (v0.alloc (.cells #[.string u, .int .i64 (kd : Int), .string v] 40)) := (Below.refl _ v0).alloc (Nat.le_refl _) _
          obtain ⟨kb, hkc, hkb, hkbs⟩ := kt_at (k4.to hD) (k := kd) (by omega)
          have hkd1 : (kd : Int) < 6 := by omega
          have hkd0 : (0 : Int) ≤ (kd : Int) := by omega
          have HC := Lib.hid (hC.trans (hD.mono hC.size))
          have Hkb := Lib.hid hkb
          clear hft hu hv hul hvl hkd hk0 hkb hD b4 k4 hfs
          by_cases h0 : k = 0
          · subst h0
            simp only [Nat.zero_mul, Nat.add_zero] at q1 q2 q3
            go_wp2
            go_quiet (fail)
            go_wp2
            go_roundw
            case rel => exact ⟨1, q ++ u ++ ⟨#[58]⟩ ++ kb ++ v, by omega, by go_num, rfl, by rw [ByteArray.size_append, ByteArray.size_append, ByteArray.size_append, ByteArray.size_append, show (⟨#[58]⟩ : ByteArray).size = 1 from rfl]; omega, Lib.hid (by rw [byt_append, byt_append, byt_append, byt_append, hq.out, Hkb.out, Htk2.out, List.take_zero, fsText]; simp [Hft.out]; rfl), below_drewN HC.out _⟩
            case measure => simp [intOf]; omega
          · have h0' : decide ((0 : Int) < (k : Int)) = true := decide_eq_true (by omega)
            go_wp2
            go_quiet (fail)
            go_wp2
            go_roundw
            case rel => exact ⟨k + 1, q ++ ⟨#[44]⟩ ++ u ++ ⟨#[58]⟩ ++ kb ++ v, by omega, by go_num, rfl, by rw [ByteArray.size_append, ByteArray.size_append, ByteArray.size_append, ByteArray.size_append, ByteArray.size_append, show (⟨#[58]⟩ : ByteArray).size = 1 from rfl, show (⟨#[44]⟩ : ByteArray).size = 1 from rfl]; omega, Lib.hid (by rw [byt_append, byt_append, byt_append, byt_append, byt_append, hq.out, Hkb.out, Htk2.out, if_neg h0]; simp [Hft.out]; rfl), below_drewN HC.out _⟩
            case measure => simp [intOf]; omega
        · obtain rfl : k = t.2.length := by omega
          have hq' := hq.out
          rw [List.take_length] at hq'
          have Hq := Lib.hid hq'
          clear hq hq'
          go_wp2
          go_roundw
          case rel => exact ⟨i + 1, q ++ ⟨#[125]⟩, by omega, by go_num, rfl, by rw [ByteArray.size_append, show (⟨#[125]⟩ : ByteArray).size = 1 from rfl]; omega, Lib.hid (by rw [byt_append, Hq.out, Htk.out, tText]; simp; rfl), hBv, b4, k4⟩
          case measure => simp [intOf]; omega
    · obtain rfl : i = N := by omega
      have hr' := hr.out
      rw [List.take_of_length_le (by omega)] at hr'
      have Hr := Lib.hid hr'
      clear hr hr'
      go_wp2
      go_ret
      exact ⟨r, rfl, Hr.out.trans Hte.out.symm, hB⟩
end Go.Proofs.YtomndfeifjiljaaDoor
