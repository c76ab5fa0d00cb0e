/- The contracts of the document's own upto and field (layer 6): what the plain functions tell; nothing that was there is changed. Condition: a text's own bound. -/
import Derived.Test.YtomndfeifjiljaaDoorScMay
import Derived.Test.YtomndfeifjiljaaDoorRets0
import Derived.BigQuiet
import Derived.OwnWalk
namespace Go.Proofs.YtomndfeifjiljaaDoor
open Go.RowKit

/-- A text up to the first byte that is one of some, and all from there on. -/
def uptoL (st : List Nat) : List Nat → List Nat × List Nat
  | [] => ([], [])
  | c :: l => if c ∈ st then ([], c :: l) else (c :: (uptoL st l).1, (uptoL st l).2)
theorem uptoL_yes {st : List Nat} {c : Nat} (hc : c ∈ st) : ∀ {a : List Nat} (b : List Nat), (∀ x ∈ a, x ∉ st) → uptoL st (a ++ c :: b) = (a, c :: b)
  | [], b, _ => by rw [List.nil_append, uptoL, if_pos hc]
  | x :: a, b, h => by rw [List.cons_append, uptoL, if_neg (h x (by simp)), uptoL_yes hc b (fun y hy => h y (by simp [hy]))]
theorem uptoL_no {st : List Nat} : ∀ {a : List Nat}, (∀ x ∈ a, x ∉ st) → uptoL st a = (a, [])
  | [], _ => rfl
  | x :: a, h => by rw [uptoL, if_neg (h x (by simp)), uptoL_no (fun y hy => h y (by simp [hy]))]
theorem uptoL_at {st l : List Nat} {i c : Nat} (h : ∀ x ∈ l.take i, x ∉ st) (hi : l[i]? = some c) (hc : c ∈ st) : uptoL st l = (l.take i, l.drop i) := by
  obtain ⟨hlt, rfl⟩ := List.getElem?_eq_some_iff.1 hi
  have e : l = l.take i ++ l[i] :: l.drop (i + 1) := by conv => lhs; rw [← List.take_append_drop i l, List.drop_eq_getElem_cons hlt]
  have := uptoL_yes hc (l.drop (i + 1)) h
  rw [← e] at this
  rw [this, List.drop_eq_getElem_cons hlt]
theorem uptoL_len (st : List Nat) : ∀ l : List Nat, (uptoL st l).1.length ≤ l.length ∧ (uptoL st l).2.length ≤ l.length
  | [] => by simp [uptoL]
  | c :: l => by
    have := uptoL_len st l
    rw [uptoL]
    split
    · simp
    · simp; omega
theorem byt_get {s : ByteArray} {k : Nat} (h : k < s.size) : (byt s)[k]? = some (s[k]'h).toNat := by
  rw [List.getElem?_eq_getElem (by simpa using h)]
  simp only [byt, List.getElem_map, Array.getElem_toList]; rfl

set_option maxRecDepth 100000 in
set_option maxHeartbeats 4000000 in
theorem upto_any (s st : ByteArray) (w : World) (hs : s.size ≤ maxLen) (hst : st.size ≤ maxLen) : Calls Tryd.prog 25 #[.string s, .string st] w fun e w' => ∃ x y, e = .returned (.tuple #[.string x, .string y]) ∧
    byt x = (uptoL (byt st) (byt s)).1 ∧ byt y = (uptoL (byt st) (byt s)).2 ∧ Below w.heap.size w w' := by
  simp only [maxLen] at hs hst
  have HN := Lib.hid (fun h => uptoL_no (st := byt st) (a := byt s) h)
  have HS := Lib.hid (fun i c => uptoL_at (st := byt st) (l := byt s) (i := i) (c := c))
  generalize uptoL (byt st) (byt s) = r at *
  go_enter Tryd.func25, Tryd.ntmps25
  go_wp2
  go_loopw [6] (fun iv w' => ∃ i : Nat, i ≤ s.size ∧ iv = .int .i64 (i : Int) ∧ Hid (∀ x ∈ (byt s).take i, x ∉ byt st) ∧ Below w.heap.size w w') (fun iv _ => s.size - (intOf iv).toNat)
  case atStart => exact ⟨0, by omega, rfl, Lib.hid (by simp), Below.refl _ _⟩
  case round =>
    rename World => wr
    obtain ⟨i, hi, rfl, hno, hB⟩ := hrel
    by_cases hil : i < s.size
    · have hi1 : (i : Int) < (s.size : Int) := by omega
      have hi0 : (0 : Int) ≤ (i : Int) := by omega
      have hgi := byt_get hil
      have Hgi := Lib.hid hgi
      clear hgi
      go_wp2
      go_loopw [7] (fun kv w' => ∃ k : Nat, k ≤ st.size ∧ kv = .int .i64 (k : Int) ∧ Hid (∀ x ∈ (byt st).take k, x ≠ (s[i]'hil).toNat) ∧ Below w.heap.size w w') (fun kv _ => st.size - (intOf kv).toNat)
      case atStart => exact ⟨0, by omega, rfl, Lib.hid (by simp), hB⟩
      case round =>
        rename World => v0
        obtain ⟨k, hk, rfl, hnk, hC⟩ := hrel
        clear hB
        by_cases hkl : k < st.size
        · have hk1 : (k : Int) < (st.size : Int) := by omega
          have hk0 : (0 : Int) ≤ (k : Int) := by omega
          have hgk := byt_get hkl
          by_cases he : (s[i]'hil).toNat = (st[k]'hkl).toNat
          · have he' : (((s[i]'hil).toNat : Int) == ((st[k]'hkl).toNat : Int)) = true := by rw [he]; simp
            have hmem : (s[i]'hil).toNat ∈ byt st := by rw [he]; exact List.mem_of_getElem? hgk
            obtain rfl := HS.out i _ hno.out Hgi.out hmem
            have Hx : Hid (byt (s.extract 0 i) = (byt s).take i) := Lib.hid (by rw [byt_extract, List.drop_zero])
            have Hy : Hid (byt (s.extract i s.size) = (byt s).drop i) := Lib.hid (by rw [byt_extract, List.take_of_length_le (by simp)])
            have hi2 : (i : Int) ≤ (s.size : Int) := by omega
            clear HN HS hno hgk he hmem hnk
            go_wp2
            go_quiet (fail)
            go_wp2
            go_quiet (fail)
            go_wp2
            go_ret2
            exact ⟨_, _, rfl, Hx.out, Hy.out, below_drewN hC _⟩
          · have he' : (((s[i]'hil).toNat : Int) == ((st[k]'hkl).toNat : Int)) = false := by simp; omega
            have Hn : Hid (∀ x ∈ (byt st).take (k + 1), x ≠ (s[i]'hil).toNat) := Lib.hid (fun x hx => by
              rw [List.take_add_one, hgk, List.mem_append] at hx
              rcases hx with hx | hx
              · exact hnk.out x hx
              · simp at hx; subst hx; exact fun e => he e.symm)
            clear HN HS hgk he hnk
            go_wp2
            go_quiet (fail)
            go_wp2
            go_roundw
            case rel => exact ⟨k + 1, by omega, by go_num, Hn, below_drewN hC _⟩
            case measure => simp [intOf]; omega
        · obtain rfl : k = st.size := by omega
          have Hn : Hid (∀ x ∈ (byt s).take (i + 1), x ∉ byt st) := Lib.hid (fun x hx => by
            rw [List.take_add_one, Hgi.out, List.mem_append] at hx
            rcases hx with hx | hx
            · exact hno.out x hx
            · simp at hx
              subst hx
              intro hm
              have := hnk.out _ (by rw [List.take_of_length_le (by simp)]; exact hm)
              exact this rfl)
          clear HN HS hnk
          go_wp2
          go_roundw
          case rel => exact ⟨i + 1, by omega, by go_num, Hn, hC⟩
          case measure => simp [intOf]; omega
    · obtain rfl : i = s.size := by omega
      have hno' := hno.out
      rw [List.take_of_length_le (by simp)] at hno'
      obtain rfl := HN.out hno'
      clear HN HS hno hno'
      go_wp2
      go_ret2
      exact ⟨_, _, rfl, rfl, rfl, hB⟩

/-- The kind, and where it leads, of what stands behind the colon; -1, if it is none. -/
def fieldK (k : List Nat) : Int × List Nat :=
  if k = kindT 0 then (0, []) else if k = kindT 1 then (1, []) else if k = kindT 2 then (2, []) else if k = kindT 3 then (3, []) else if k = kindT 4 then (4, [])
  else if k.getD 0 0 = 42 then (5, k.drop 1) else (-1, [])
/-- .. from the place j of the kinds on. -/
def fieldJ (j : Nat) (k : List Nat) : Int × List Nat :=
  if j = 0 ∧ k = kindT 0 then (0, []) else if j ≤ 1 ∧ k = kindT 1 then (1, []) else if j ≤ 2 ∧ k = kindT 2 then (2, []) else if j ≤ 3 ∧ k = kindT 3 then (3, []) else if j ≤ 4 ∧ k = kindT 4 then (4, [])
  else if k.getD 0 0 = 42 then (5, k.drop 1) else (-1, [])
theorem fieldK_full {k : Int} {a : List Nat} (hk : 0 ≤ k ∧ k < 6) (h5 : k ≠ 5 → a = []) : fieldK (kindT k ++ a) = (k, a) := by
  have h6 : k = 0 ∨ k = 1 ∨ k = 2 ∨ k = 3 ∨ k = 4 ∨ k = 5 := by omega
  rcases h6 with rfl | rfl | rfl | rfl | rfl | rfl
  · rw [h5 (by omega)]; rfl
  · rw [h5 (by omega)]; rfl
  · rw [h5 (by omega)]; rfl
  · rw [h5 (by omega)]; rfl
  · rw [h5 (by omega)]; rfl
  · simp [fieldK, kindT]
theorem fieldK_small (k : List Nat) : -1 ≤ (fieldK k).1 ∧ (fieldK k).1 < 6 ∧ (fieldK k).2.length ≤ k.length := by
  unfold fieldK
  (repeat' split) <;> simp
theorem info_fld3 : (Tryd.prog.info? 40).map (fun i => (i.zero, i.size)) = some (some (.agg #[.string ⟨#[]⟩, .int .i64 0, .string ⟨#[]⟩]), 3) := by kernel_rfl

set_option maxRecDepth 100000 in
set_option maxHeartbeats 4000000 in
theorem rfldk_any (s t : ByteArray) (w : World) (ht : t.size ≤ maxLen) : Calls Tryd.prog 26 #[.string s, .string t] w fun e w' => ∃ y, e = .returned (.agg #[.string s, .int .i64 (fieldK (byt t)).1, .string y]) ∧ byt y = (fieldK (byt t)).2 ∧ Below w.heap.size w w' := by
  simp only [maxLen] at ht
  obtain ⟨hz, hsz⟩ := zero_of_info info_fld3
  have hB0 : Below w.heap.size w ((w.alloc (.cells #[.string ⟨#[]⟩, .int .i64 0, .string ⟨#[]⟩] 40)).alloc (.cells #[.string ⟨#[105, 56]⟩, .string ⟨#[105, 49, 54]⟩, .string ⟨#[105, 51, 50]⟩, .string ⟨#[105, 54, 52]⟩, .string ⟨#[116]⟩] 9)) := ((Below.refl _ w).alloc (Nat.le_refl _) _).alloc (by simp) _
  have b0 := (Blk.new w 40 [.string ⟨#[]⟩, .int .i64 0, .string ⟨#[]⟩]).alloc (.cells #[.string ⟨#[105, 56]⟩, .string ⟨#[105, 49, 54]⟩, .string ⟨#[105, 51, 50]⟩, .string ⟨#[105, 54, 52]⟩, .string ⟨#[116]⟩] 9)
  have k0 := Blk.new (w.alloc (.cells #[.string ⟨#[]⟩, .int .i64 0, .string ⟨#[]⟩] 40)) 9 [.string ⟨#[105, 56]⟩, .string ⟨#[105, 49, 54]⟩, .string ⟨#[105, 51, 50]⟩, .string ⟨#[105, 54, 52]⟩, .string ⟨#[116]⟩]
  simp only [World.size_alloc] at k0
  have Hk : Hid (fieldK (byt t) = fieldJ 0 (byt t)) := Lib.hid (by simp [fieldK, fieldJ])
  have x0 := b0.cell (j := 0) rfl
  have x1 := b0.cell (j := 1) rfl
  have x2 := b0.cell (j := 2) rfl
  have f0 := b0.frozen 0
  have f1 := b0.frozen 1
  have f2 := b0.frozen 2
  have y0 := k0.cell (j := 0) rfl
  have y1 := k0.cell (j := 1) rfl
  have y2 := k0.cell (j := 2) rfl
  have y3 := k0.cell (j := 3) rfl
  have y4 := k0.cell (j := 4) rfl
  generalize fieldK (byt t) = r at *
  go_enter Tryd.func26, Tryd.ntmps26
  go_wp2
  generalize (w.alloc (.cells #[.string ⟨#[]⟩, .int .i64 0, .string ⟨#[]⟩] 40)).alloc (.cells #[.string ⟨#[105, 56]⟩, .string ⟨#[105, 49, 54]⟩, .string ⟨#[105, 51, 50]⟩, .string ⟨#[105, 54, 52]⟩, .string ⟨#[116]⟩] 9) = w1 at *
  go_loop [6] (fun iv => ∃ i : Nat, i ≤ 5 ∧ iv = .int .i64 (i : Int) ∧ Hid (r = fieldJ i (byt t))) (fun iv => 5 - (intOf iv).toNat)
  case atStart => exact ⟨0, by omega, rfl, Hk⟩
  case round =>
    obtain ⟨i, hi, rfl, hr⟩ := hrel
    clear Hk
    have h6 : i = 0 ∨ i = 1 ∨ i = 2 ∨ i = 3 ∨ i = 4 ∨ i = 5 := by omega
    rcases h6 with rfl | rfl | rfl | rfl | rfl | rfl
    · have hq := str_beq ⟨#[105, 56]⟩ t
      rw [show (⟨#[105, 56]⟩ : ByteArray).toList = [105, 56] by rw [ByteArray.toList_eq]] at hq
      have ek : byt ⟨#[105, 56]⟩ = kindT 0 := rfl
      rw [ek] at hq
      by_cases he : kindT 0 = byt t
      · rw [decide_eq_true he] at hq
        have Hr : Hid (r = (0, [])) := Lib.hid (by rw [hr.out, ← he]; rfl)
        have Hrw := Lib.hid (((b0.set 0 (.string s)).set 1 (.int .i64 0)).set 2 (.string ⟨#[]⟩))
        have HBr := Lib.hid (((hB0.setCell (p := ⟨w.heap.size, 0, none⟩) (Nat.le_refl w.heap.size) (.string s)).setCell (p := ⟨w.heap.size, 1, none⟩) (Nat.le_refl w.heap.size) (.int .i64 0)).setCell (p := ⟨w.heap.size, 2, none⟩) (Nat.le_refl w.heap.size) (.string ⟨#[]⟩))
        clear hr ek he
        go_wp2
        refine ret_cell0 rfl Hrw.out Tryd.underlying40 rfl hsz rfl rfl ?_
        exact ⟨⟨#[]⟩, by rw [Hr.out]; rfl, by rw [Hr.out]; rfl, HBr.out⟩
      · rw [decide_eq_false he] at hq
        have Hr : Hid (r = fieldJ 1 (byt t)) := Lib.hid (by
          have h2 : byt t ≠ kindT 0 := fun e => he e.symm
          rw [hr.out]
          simp [fieldJ, h2])
        clear hr ek he
        go_wp2
        go_round
        case rel => exact ⟨1, by omega, by go_num, Hr⟩
        case measure => simp [intOf]
    · have hq := str_beq ⟨#[105, 49, 54]⟩ t
      rw [show (⟨#[105, 49, 54]⟩ : ByteArray).toList = [105, 49, 54] by rw [ByteArray.toList_eq]] at hq
      have ek : byt ⟨#[105, 49, 54]⟩ = kindT 1 := rfl
      rw [ek] at hq
      by_cases he : kindT 1 = byt t
      · rw [decide_eq_true he] at hq
        have Hr : Hid (r = (1, [])) := Lib.hid (by rw [hr.out, ← he]; rfl)
        have Hrw := Lib.hid (((b0.set 0 (.string s)).set 1 (.int .i64 1)).set 2 (.string ⟨#[]⟩))
        have HBr := Lib.hid (((hB0.setCell (p := ⟨w.heap.size, 0, none⟩) (Nat.le_refl w.heap.size) (.string s)).setCell (p := ⟨w.heap.size, 1, none⟩) (Nat.le_refl w.heap.size) (.int .i64 1)).setCell (p := ⟨w.heap.size, 2, none⟩) (Nat.le_refl w.heap.size) (.string ⟨#[]⟩))
        clear hr ek he
        go_wp2
        refine ret_cell0 rfl Hrw.out Tryd.underlying40 rfl hsz rfl rfl ?_
        exact ⟨⟨#[]⟩, by rw [Hr.out]; rfl, by rw [Hr.out]; rfl, HBr.out⟩
      · rw [decide_eq_false he] at hq
        have Hr : Hid (r = fieldJ 2 (byt t)) := Lib.hid (by
          have h2 : byt t ≠ kindT 1 := fun e => he e.symm
          rw [hr.out]
          simp [fieldJ, h2])
        clear hr ek he
        go_wp2
        go_round
        case rel => exact ⟨2, by omega, by go_num, Hr⟩
        case measure => simp [intOf]
    · have hq := str_beq ⟨#[105, 51, 50]⟩ t
      rw [show (⟨#[105, 51, 50]⟩ : ByteArray).toList = [105, 51, 50] by rw [ByteArray.toList_eq]] at hq
      have ek : byt ⟨#[105, 51, 50]⟩ = kindT 2 := rfl
      rw [ek] at hq
      by_cases he : kindT 2 = byt t
      · rw [decide_eq_true he] at hq
        have Hr : Hid (r = (2, [])) := Lib.hid (by rw [hr.out, ← he]; rfl)
        have Hrw := Lib.hid (((b0.set 0 (.string s)).set 1 (.int .i64 2)).set 2 (.string ⟨#[]⟩))
        have HBr := Lib.hid (((hB0.setCell (p := ⟨w.heap.size, 0, none⟩) (Nat.le_refl w.heap.size) (.string s)).setCell (p := ⟨w.heap.size, 1, none⟩) (Nat.le_refl w.heap.size) (.int .i64 2)).setCell (p := ⟨w.heap.size, 2, none⟩) (Nat.le_refl w.heap.size) (.string ⟨#[]⟩))
        clear hr ek he
        go_wp2
        refine ret_cell0 rfl Hrw.out Tryd.underlying40 rfl hsz rfl rfl ?_
        exact ⟨⟨#[]⟩, by rw [Hr.out]; rfl, by rw [Hr.out]; rfl, HBr.out⟩
      · rw [decide_eq_false he] at hq
        have Hr : Hid (r = fieldJ 3 (byt t)) := Lib.hid (by
          have h2 : byt t ≠ kindT 2 := fun e => he e.symm
          rw [hr.out]
          simp [fieldJ, h2])
        clear hr ek he
        go_wp2
        go_round
        case rel => exact ⟨3, by omega, by go_num, Hr⟩
        case measure => simp [intOf]
    · have hq := str_beq ⟨#[105, 54, 52]⟩ t
      rw [show (⟨#[105, 54, 52]⟩ : ByteArray).toList = [105, 54, 52] by rw [ByteArray.toList_eq]] at hq
      have ek : byt ⟨#[105, 54, 52]⟩ = kindT 3 := rfl
      rw [ek] at hq
      by_cases he : kindT 3 = byt t
      · rw [decide_eq_true he] at hq
        have Hr : Hid (r = (3, [])) := Lib.hid (by rw [hr.out, ← he]; rfl)
        have Hrw := Lib.hid (((b0.set 0 (.string s)).set 1 (.int .i64 3)).set 2 (.string ⟨#[]⟩))
        have HBr := Lib.hid (((hB0.setCell (p := ⟨w.heap.size, 0, none⟩) (Nat.le_refl w.heap.size) (.string s)).setCell (p := ⟨w.heap.size, 1, none⟩) (Nat.le_refl w.heap.size) (.int .i64 3)).setCell (p := ⟨w.heap.size, 2, none⟩) (Nat.le_refl w.heap.size) (.string ⟨#[]⟩))
        clear hr ek he
        go_wp2
        refine ret_cell0 rfl Hrw.out Tryd.underlying40 rfl hsz rfl rfl ?_
        exact ⟨⟨#[]⟩, by rw [Hr.out]; rfl, by rw [Hr.out]; rfl, HBr.out⟩
      · rw [decide_eq_false he] at hq
        have Hr : Hid (r = fieldJ 4 (byt t)) := Lib.hid (by
          have h2 : byt t ≠ kindT 3 := fun e => he e.symm
          rw [hr.out]
          simp [fieldJ, h2])
        clear hr ek he
        go_wp2
        go_round
        case rel => exact ⟨4, by omega, by go_num, Hr⟩
        case measure => simp [intOf]
    · have hq := str_beq ⟨#[116]⟩ t
      rw [show (⟨#[116]⟩ : ByteArray).toList = [116] by rw [ByteArray.toList_eq]] at hq
      have ek : byt ⟨#[116]⟩ = kindT 4 := rfl
      rw [ek] at hq
      by_cases he : kindT 4 = byt t
      · rw [decide_eq_true he] at hq
        have Hr : Hid (r = (4, [])) := Lib.hid (by rw [hr.out, ← he]; rfl)
        have Hrw := Lib.hid (((b0.set 0 (.string s)).set 1 (.int .i64 4)).set 2 (.string ⟨#[]⟩))
        have HBr := Lib.hid (((hB0.setCell (p := ⟨w.heap.size, 0, none⟩) (Nat.le_refl w.heap.size) (.string s)).setCell (p := ⟨w.heap.size, 1, none⟩) (Nat.le_refl w.heap.size) (.int .i64 4)).setCell (p := ⟨w.heap.size, 2, none⟩) (Nat.le_refl w.heap.size) (.string ⟨#[]⟩))
        clear hr ek he
        go_wp2
        refine ret_cell0 rfl Hrw.out Tryd.underlying40 rfl hsz rfl rfl ?_
        exact ⟨⟨#[]⟩, by rw [Hr.out]; rfl, by rw [Hr.out]; rfl, HBr.out⟩
      · rw [decide_eq_false he] at hq
        have Hr : Hid (r = fieldJ 5 (byt t)) := Lib.hid (by
          have h2 : byt t ≠ kindT 4 := fun e => he e.symm
          rw [hr.out]
          simp [fieldJ, h2])
        clear hr ek he
        go_wp2
        go_round
        case rel => exact ⟨5, by omega, by go_num, Hr⟩
        case measure => simp [intOf]
    · have hr' : r = if (byt t).getD 0 0 = 42 then (5, (byt t).drop 1) else (-1, []) := by rw [hr.out]; simp [fieldJ]
      have Hr := Lib.hid hr'
      clear hr hr'
      by_cases h0 : t.size = 0
      · have h0' : decide ((0 : Int) < (t.size : Int)) = false := decide_eq_false (by omega)
        have hb : byt t = [] := List.eq_nil_of_length_eq_zero (by rw [byt_length]; exact h0)
        have Hr2 : Hid (r = (-1, [])) := Lib.hid (by rw [Hr.out, hb]; rfl)
        have Hrw := Lib.hid (((b0.set 0 (.string s)).set 1 (.int .i64 (-1))).set 2 (.string ⟨#[]⟩))
        have HBr := Lib.hid (((hB0.setCell (p := ⟨w.heap.size, 0, none⟩) (Nat.le_refl w.heap.size) (.string s)).setCell (p := ⟨w.heap.size, 1, none⟩) (Nat.le_refl w.heap.size) (.int .i64 (-1))).setCell (p := ⟨w.heap.size, 2, none⟩) (Nat.le_refl w.heap.size) (.string ⟨#[]⟩))
        clear hb Hr
        go_wp2
        refine ret_cell0 rfl Hrw.out Tryd.underlying40 rfl hsz rfl rfl ?_
        exact ⟨⟨#[]⟩, by rw [Hr2.out]; rfl, by rw [Hr2.out]; rfl, HBr.out⟩
      · have h0' : decide ((0 : Int) < (t.size : Int)) = true := decide_eq_true (by omega)
        have hlt : 0 < t.size := by omega
        have h1 : (0 : Int) < (t.size : Int) := by omega
        have h2 : (1 : Int) ≤ (t.size : Int) := by omega
        have hg : (byt t).getD 0 0 = (t[0]'hlt).toNat := by rw [List.getD_eq_getElem?_getD, byt_get hlt]; rfl
        by_cases h42 : (t[0]'hlt).toNat = 42
        · have h42' : (((t[0]'hlt).toNat : Int) == 42) = true := by rw [h42]; rfl
          have Hr2 : Hid (r = (5, (byt t).drop 1)) := Lib.hid (by rw [Hr.out, hg, if_pos h42])
          have Hy : Hid (byt (t.extract 1 t.size) = (byt t).drop 1) := Lib.hid (by rw [byt_extract, List.take_of_length_le (by simp)])
          have Hrw := Lib.hid (((b0.set 0 (.string s)).set 1 (.int .i64 5)).set 2 (.string (t.extract 1 t.size)))
          have HBr := Lib.hid (((hB0.setCell (p := ⟨w.heap.size, 0, none⟩) (Nat.le_refl w.heap.size) (.string s)).setCell (p := ⟨w.heap.size, 1, none⟩) (Nat.le_refl w.heap.size) (.int .i64 5)).setCell (p := ⟨w.heap.size, 2, none⟩) (Nat.le_refl w.heap.size) (.string (t.extract 1 t.size)))
          clear hg Hr h42
          go_wp2
          refine ret_cell0 rfl Hrw.out Tryd.underlying40 rfl hsz rfl rfl ?_
          exact ⟨t.extract 1 t.size, by rw [Hr2.out]; rfl, by rw [Hr2.out, Hy.out], HBr.out⟩
        · have h42' : (((t[0]'hlt).toNat : Int) == 42) = false := by simp; omega
          have Hr2 : Hid (r = (-1, [])) := Lib.hid (by rw [Hr.out, hg, if_neg h42])
          have Hrw := Lib.hid (((b0.set 0 (.string s)).set 1 (.int .i64 (-1))).set 2 (.string ⟨#[]⟩))
          have HBr := Lib.hid (((hB0.setCell (p := ⟨w.heap.size, 0, none⟩) (Nat.le_refl w.heap.size) (.string s)).setCell (p := ⟨w.heap.size, 1, none⟩) (Nat.le_refl w.heap.size) (.int .i64 (-1))).setCell (p := ⟨w.heap.size, 2, none⟩) (Nat.le_refl w.heap.size) (.string ⟨#[]⟩))
          clear hg Hr h42
          go_wp2
          refine ret_cell0 rfl Hrw.out Tryd.underlying40 rfl hsz rfl rfl ?_
          exact ⟨⟨#[]⟩, by rw [Hr2.out]; rfl, by rw [Hr2.out]; rfl, HBr.out⟩
end Go.Proofs.YtomndfeifjiljaaDoor
