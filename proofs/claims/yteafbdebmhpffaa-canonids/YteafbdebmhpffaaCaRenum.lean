/- The contract of the laws' Renamed: a graph by other ids. Condition: a graph that may be. -/
import Derived.Test.YteafbdebmhpffaaRowIn
import Derived.Test.YteafbdebmhpffaaCaCanonAll
import Derived.Test.YteafbdebmhpffaaGrRefS
import Derived.Test.YteafbdebmhpffaaCaLead
namespace Go.Proofs.Yteafbdebmhpffaa
open Go.RowKit

/-- Where ids lead in a graph by other ids. -/
def renR (g : Gr) (b : List Int) : Int → Int := ren fun x => idsR b (findG g.2.1 x).toNat
theorem renamed_at {g : Gr} {b : List Int} {i : Nat} {o : Ob} (h : g.2.1[i]? = some o) : (renamedG g b).2.1[i]? = some (idsR b i, o.2.1, leadV (renR g b) (fldsG g.1 o.2.1) o.2.2) := by
  show (g.2.1.mapIdx _)[i]? = _
  rw [List.getElem?_mapIdx, h]
  rfl
theorem renamed_len (g : Gr) (b : List Int) : (renamedG g b).2.1.length = g.2.1.length := by
  show (g.2.1.mapIdx _).length = _
  simp
def idsT (b : List Int) (i : Nat) : List Int := (List.range i).map (idsR b)
theorem idsT_next (b : List Int) (i : Nat) : idsT b (i + 1) = idsT b i ++ [idsR b i] := by rw [idsT, List.range_succ, List.map_append]; rfl
theorem idsT_at (b : List Int) {i j : Nat} (h : j < i) : (idsT b i)[j]? = some (idsR b j) := by simp [idsT, h]
theorem idsT_len (b : List Int) (i : Nat) : (idsT b i).length = i := by simp [idsT]

set_option maxRecDepth 100000 in
set_option maxHeartbeats 8000000 in
theorem renum_any (A B C : Option Addr) (N c M d K e : Nat) (Ab : Option Addr) (nb cb : Nat) (g : Gr) (by' : List Int) (w : World) (hm : mayG g = true) (h : rGr (All w) w [.slice A N c, .slice B M d, .slice C K e] g) (hby : rIds (All w) w [.slice Ab nb cb] by') :
    Calls Try.prog 24 #[.agg #[.slice A N c, .slice B M d, .slice C K e], .slice Ab nb cb] w fun e w' => ∃ B1 d1 C1 e1, e = .returned (.agg #[.slice A N c, .slice B1 M d1, .slice C1 K e1]) ∧ rGr (All w') w' [.slice A N c, .slice B1 M d1, .slice C1 K e1] (renamedG g by') ∧ Below w.heap.size w w' := by
  obtain ⟨i0, hi, hz0, hz1, hz2⟩ := info_parts info_obs
  obtain ⟨j0, hj, hy0, hy1, hy2⟩ := info_parts info_int
  obtain ⟨k0, hk, hx0, hx1, hx2⟩ := info_parts info_vals
  obtain ⟨hN, -, hcm⟩ := slice_len (rGr_open h).1
  obtain ⟨hM, -, -⟩ := slice_len (rGr_open h).2.1
  obtain ⟨hK, -, -⟩ := slice_len (rGr_open h).2.2
  simp only [maxLen] at hcm
  have hM8 := (mayG_parts hm).2.1
  have hK3 := (mayG_parts hm).2.2.2.1
  rw [hM] at hM8
  rw [hK] at hK3
  have hB0 : Below w.heap.size w (((w.alloc (.cells #[.slice A N c, .slice B M d, .slice C K e] 28)).alloc (.cells #[.slice none 0 0, .slice none 0 0, .slice none 0 0] 28)).alloc (.cells #[.slice A N c, .slice none 0 0, .slice none 0 0] 28)) := (((Below.refl _ w).alloc (Nat.le_refl _) _).alloc (by simp) _).alloc (by simp; omega) _
  obtain ⟨p1, p2⟩ := blk_two w 28 28 [.slice A N c, .slice B M d, .slice C K e] [.slice none 0 0, .slice none 0 0, .slice none 0 0]
  replace p1 := p1.alloc (.cells #[.slice A N c, .slice none 0 0, .slice none 0 0] 28)
  replace p2 := p2.alloc (.cells #[.slice A N c, .slice none 0 0, .slice none 0 0] 28)
  have p3 := Blk.new ((w.alloc (.cells #[.slice A N c, .slice B M d, .slice C K e] 28)).alloc (.cells #[.slice none 0 0, .slice none 0 0, .slice none 0 0] 28)) 28 [.slice A N c, .slice none 0 0, .slice none 0 0]
  have s1 : (((w.alloc (.cells #[.slice A N c, .slice B M d, .slice C K e] 28)).alloc (.cells #[.slice none 0 0, .slice none 0 0, .slice none 0 0] 28)).alloc (.cells #[.slice A N c, .slice none 0 0, .slice none 0 0] 28)).heap.size = w.heap.size + 1 + 1 + 1 := by simp
  rw [show ((w.alloc (.cells #[.slice A N c, .slice B M d, .slice C K e] 28)).alloc (.cells #[.slice none 0 0, .slice none 0 0, .slice none 0 0] 28)).heap.size = w.heap.size + 1 + 1 by simp] at p3
  have H0 := Lib.hid hB0
  have Hg : Hid (rGr (fun k => k < w.heap.size) _ [.slice A N c, .slice B M d, .slice C K e] g) := Lib.hid (rGr_stays.to (S := All w) (fun k hk => ⟨hk, hB0.block k hk⟩) h)
  have P1 := Lib.hid p1
  have P2 := Lib.hid p2
  have P3 := Lib.hid p3
  have c0 := p1.cell (j := 0) rfl
  have c1 := p1.cell (j := 1) rfl
  have c2 := p1.cell (j := 2) rfl
  clear h hB0 p1 p2 p3
  go_enter Try.func24, Try.ntmps24
  have Hby := Lib.hid hby
  obtain ⟨hnb, -, hcb⟩ := slice_len hby
  simp only [maxLen] at hcb
  clear hby
  go_wp2
  generalize ((w.alloc (.cells #[.slice A N c, .slice B M d, .slice C K e] 28)).alloc (.cells #[.slice none 0 0, .slice none 0 0, .slice none 0 0] 28)).alloc (.cells #[.slice A N c, .slice none 0 0, .slice none 0 0] 28) = w0 at *
  clear c0 c1 c2
  go_loopw [6, 7, 8] (fun idv lv iv w' => ∃ (i : Nat) (v : Value), i ≤ M ∧ iv = .int .i64 (i : Int) ∧ idv = .int .i64 (idsR by' i) ∧ lv = v ∧ Hid (w'.ownsRow w0.heap.size 3 1 v i (ints (idsT by' i))) ∧ Hid (Below w0.heap.size w0 w')) (fun _ _ iv _ => M - (intOf iv).toNat)
  case atStart => exact ⟨0, .slice none 0 0, by omega, rfl, rfl, rfl, Lib.hid (World.ownsRow_nil _ _ _ _), Lib.hid (Below.refl _ _)⟩
  case round =>
    rename World => wr
    obtain ⟨i, v7, hi', rfl, rfl, rfl, hL, hBr⟩ := hrel
    have hsr := hBr.out.size
    have hidl := idsR_low by' i
    have hml := moreR_low by' i
    have q1 := P1.out.to hBr.out
    have a1 := q1.cell (j := 1) rfl
    obtain ⟨A7, c7, rfl⟩ := own_slice3 hL.out
    by_cases hin : i < M
    · have hil : (i : Int) < (M : Int) := by omega
      have t3 : w0.heap.size ≤ (wr.alloc (.cells #[.int .i64 (idsR by' i)] 3)).heap.size := by simp only [World.size_alloc]; omega
      have t5 := hL.out.alloc (.cells #[.int .i64 (idsR by' i)] 3)
      have Hnx := Lib.hid (show idsR by' (i + 1) = idsR by' i + moreR by' i from rfl)
      have HBr := Lib.hid hBr.out
      generalize hidv : idsR by' i = iv at *
      have hcase : (nb ≤ i ∧ moreR by' i = 1) ∨ (∃ x, by'[i]? = some x ∧ ((1 < x ∧ x < 1000 ∧ moreR by' i = x) ∨ (x ≤ 1 ∧ moreR by' i = 1) ∨ (1 < x ∧ 1000 ≤ x ∧ moreR by' i = 1))) := by
        by_cases hn : i < nb
        · right
          obtain ⟨x, hx⟩ : ∃ x, by'[i]? = some x := ⟨_, List.getElem?_eq_getElem (by omega)⟩
          refine ⟨x, hx, ?_⟩
          unfold moreR
          rw [hx]
          by_cases h1 : 1 < x
          · by_cases h2 : x < 1000
            · exact .inl ⟨h1, h2, if_pos ⟨h1, h2⟩⟩
            · exact .inr (.inr ⟨h1, by omega, if_neg (fun e => h2 e.2)⟩)
          · exact .inr (.inl ⟨by omega, if_neg (fun e => h1 e.1)⟩)
        · exact .inl ⟨by omega, by unfold moreR; rw [List.getElem?_eq_none (by omega)]⟩
      clear hin
      generalize moreR by' i = mr at *
      rcases hcase with ⟨hn, rfl⟩ | ⟨x, hx, hcase⟩
      · have g1 : decide ((i : Int) < (nb : Int)) = false := decide_eq_false (by omega)
        have g2 : decide (i < nb) = false := decide_eq_false (by omega)
        clear hn
        go_wp2_with (first
          | (at_builtin; refine wpList_app rfl (.tmp 26) (.tmp 28) 26 rfl w0.heap.size 3 j0 (.int .i64 0) 8 Try.underlying26 hj hy0 hy1 hy2 rfl (.slice A7 i c7) i (ints (idsT by' i)) rfl t5 (some ⟨wr.heap.size, 0, none⟩) 1 1 (ints [iv]) rfl rfl (lit_ints _ [iv]) (ints_one _) (by simp only [maxLen]; omega) (by omega) t3 ?_; intro v4 w4 hown4 hg4 hv4; have HB4 := Lib.hid ((HBr.out.alloc HBr.out.size _).grown hg4 (by simp only [World.size_alloc]; omega) (fun k hk => (hL.out.lt k hk).1)); obtain ⟨A4, c4, rfl⟩ := own_slice3 hown4; have Hown4 := Lib.hid hown4; clear hown4 hg4 hv4)
          | fail)
        go_roundw
        case rel => exact ⟨i + 1, _, by omega, by go_num, by rw [Hnx.out], rfl, Lib.hid (by rw [idsT_next, hidv, ints_append]; exact Hown4.out), HB4⟩
        case measure => simp [intOf]; omega
      · obtain ⟨b, off, rfl, hb, x0, hxb⟩ := id_at Hby.out hx
        have hilb : (i : Int) < (nb : Int) := by have := (List.getElem?_eq_some_iff.1 hx).1; omega
        have hi00 : (0 : Int) ≤ (i : Int) := by omega
        have g2 : decide (i < nb) = true := decide_eq_true (by omega)
        clear hx
        rcases hcase with ⟨h1, h2, rfl⟩ | ⟨h1, rfl⟩ | ⟨h1, h2, rfl⟩
        · have g3 : decide (1 < mr) = true := decide_eq_true h1
          have g4 : decide (mr < 1000) = true := decide_eq_true h2
          go_wp2_with (first
            | (at_builtin; refine wpList_app rfl (.tmp 26) (.tmp 28) 26 rfl w0.heap.size 3 j0 (.int .i64 0) 8 Try.underlying26 hj hy0 hy1 hy2 rfl (.slice A7 i c7) i (ints (idsT by' i)) rfl t5 (some ⟨wr.heap.size, 0, none⟩) 1 1 (ints [iv]) rfl rfl (lit_ints _ [iv]) (ints_one _) (by simp only [maxLen]; omega) (by omega) t3 ?_; intro v4 w4 hown4 hg4 hv4; have HB4 := Lib.hid ((HBr.out.alloc HBr.out.size _).grown hg4 (by simp only [World.size_alloc]; omega) (fun k hk => (hL.out.lt k hk).1)); obtain ⟨A4, c4, rfl⟩ := own_slice3 hown4; have Hown4 := Lib.hid hown4; clear hown4 hg4 hv4; have x1 := ((H0.out.trans (HB4.out.mono (by omega))).cell (p := ⟨b, off + i, none⟩) hb).trans x0)
            | fail)
          go_roundw
          case rel => exact ⟨i + 1, _, by omega, by go_num, by rw [Hnx.out], rfl, Lib.hid (by rw [idsT_next, hidv, ints_append]; exact Hown4.out), HB4⟩
          case measure => simp [intOf]; omega
        · have g3 : decide (1 < x) = false := decide_eq_false (by omega)
          go_wp2_with (first
            | (at_builtin; refine wpList_app rfl (.tmp 26) (.tmp 28) 26 rfl w0.heap.size 3 j0 (.int .i64 0) 8 Try.underlying26 hj hy0 hy1 hy2 rfl (.slice A7 i c7) i (ints (idsT by' i)) rfl t5 (some ⟨wr.heap.size, 0, none⟩) 1 1 (ints [iv]) rfl rfl (lit_ints _ [iv]) (ints_one _) (by simp only [maxLen]; omega) (by omega) t3 ?_; intro v4 w4 hown4 hg4 hv4; have HB4 := Lib.hid ((HBr.out.alloc HBr.out.size _).grown hg4 (by simp only [World.size_alloc]; omega) (fun k hk => (hL.out.lt k hk).1)); obtain ⟨A4, c4, rfl⟩ := own_slice3 hown4; have Hown4 := Lib.hid hown4; clear hown4 hg4 hv4; have x1 := ((H0.out.trans (HB4.out.mono (by omega))).cell (p := ⟨b, off + i, none⟩) hb).trans x0)
            | fail)
          go_roundw
          case rel => exact ⟨i + 1, _, by omega, by go_num, by rw [Hnx.out], rfl, Lib.hid (by rw [idsT_next, hidv, ints_append]; exact Hown4.out), HB4⟩
          case measure => simp [intOf]; omega
        · have g3 : decide (1 < x) = true := decide_eq_true h1
          have g4 : decide (x < 1000) = false := decide_eq_false (by omega)
          go_wp2_with (first
            | (at_builtin; refine wpList_app rfl (.tmp 26) (.tmp 28) 26 rfl w0.heap.size 3 j0 (.int .i64 0) 8 Try.underlying26 hj hy0 hy1 hy2 rfl (.slice A7 i c7) i (ints (idsT by' i)) rfl t5 (some ⟨wr.heap.size, 0, none⟩) 1 1 (ints [iv]) rfl rfl (lit_ints _ [iv]) (ints_one _) (by simp only [maxLen]; omega) (by omega) t3 ?_; intro v4 w4 hown4 hg4 hv4; have HB4 := Lib.hid ((HBr.out.alloc HBr.out.size _).grown hg4 (by simp only [World.size_alloc]; omega) (fun k hk => (hL.out.lt k hk).1)); obtain ⟨A4, c4, rfl⟩ := own_slice3 hown4; have Hown4 := Lib.hid hown4; clear hown4 hg4 hv4; have x1 := ((H0.out.trans (HB4.out.mono (by omega))).cell (p := ⟨b, off + i, none⟩) hb).trans x0)
            | fail)
          go_roundw
          case rel => exact ⟨i + 1, _, by omega, by go_num, by rw [Hnx.out], rfl, Lib.hid (by rw [idsT_next, hidv, ints_append]; exact Hown4.out), HB4⟩
          case measure => simp [intOf]; omega
    · obtain rfl : M = i := by omega
      have hwfi : ∀ x ∈ idsT by' M, (Lit.int .i64 x).wf = true := fun x hx => by
        obtain ⟨j, hj, rfl⟩ := List.mem_map.1 hx
        have := idsR_low by' j
        have := List.mem_range.1 hj
        exact WalkArith.wf_i64 ⟨by omega, by omega⟩
      have Hids := ids_own hL.out (idsT_len _ _) hwfi
      have HI : Hid (∀ j : Nat, j < M → ∃ bi offi, A7 = some ⟨bi, offi, none⟩ ∧ ∀ W : World, (∀ k, k < wr.heap.size → k ≠ w.heap.size + 1 + 1 → W.heap[k]? = wr.heap[k]?) → W.cell? ⟨bi, offi + j, none⟩ = some (.int .i64 (idsR by' j))) := Lib.hid fun j hj => by
        obtain ⟨bi, offi, e, hbi, hc, -⟩ := id_at Hids (idsT_at by' hj)
        exact ⟨bi, offi, e, fun W hW => (World.cell?_of_block (w := wr) (a := ⟨bi, offi + j, none⟩) (hW bi hbi.2 (by show bi ≠ _; have := hbi.1; omega))).trans hc⟩
      have P1' := Lib.hid (P1.out.to hBr.out)
      have P2' := Lib.hid (P2.out.to hBr.out)
      have P3' := Lib.hid (P3.out.to hBr.out)
      have H0' := Lib.hid (H0.out.trans (hBr.out.mono (by omega)))
      have Hg' : Hid (rGr (fun k => k < w.heap.size) wr [.slice A N c, .slice B M d, .slice C K e] g) := Lib.hid (rGr_stays.to (fun k hk => ⟨hk, hBr.out.block k (by have : k < w.heap.size := hk; omega)⟩) Hg.out)
      have s1' : w.heap.size + 1 + 1 + 1 ≤ wr.heap.size := by omega
      have hidM := idsR_low by' M
      clear P1 P2 P3 H0 Hg s1 hsr hin hi' hidl hml q1 Hby hL hBr Hids hwfi
      rename Hid (Blk wr w.heap.size _ _) => P1
      rename Hid (Blk wr (w.heap.size + 1) _ _) => P2
      rename Hid (Blk wr (w.heap.size + 1 + 1) _ _) => P3
      rename Hid (Below w.heap.size w wr) => H0
      rename Hid (rGr _ wr _ g) => Hg
      rename World => w1
      go_wp2
      clear a1
      go_loopw [10] (fun iv w' => ∃ (i : Nat) (vO : Value) (xs : List Value), i ≤ M ∧ iv = .int .i64 (i : Int) ∧ Hid (RowIn (w.heap.size + 1 + 1) 1 28 38 3 [.slice A N c, .slice none 0 0, .slice none 0 0] w1 vO i xs w') ∧ Hid (Chunks 3 (rOb (fun k => w1.heap.size ≤ k ∧ k < w'.heap.size ∧ some k ≠ vO.ownBlock) w') xs ((renamedG g by').2.1.take i))) (fun iv _ => M - (intOf iv).toNat)
      case atStart => exact ⟨0, .slice none 0 0, [], by omega, rfl, Lib.hid (RowIn.start P3.out rfl), Lib.hid Chunks.nil⟩
      case round =>
        rename World => wr
        obtain ⟨i, vO, xs, hi', rfl, hO, hch⟩ := hrel
        have hsr := hO.out.bel.size
        by_cases hin : i < M
        · obtain ⟨o, ho⟩ : ∃ o, g.2.1[i]? = some o := ⟨_, List.getElem?_eq_getElem (by omega)⟩
          have hom := List.mem_of_getElem? ho
          have htk := take_at (renamed_at (b := by') ho)
          have hmo := mayG_obj hm hom
          have hlv := leadV_len (renR g by') (fldsG g.1 o.2.1) o.2.2 hmo.len
          obtain ⟨bo, offo, A2, c2, rfl, hbo, x0, x1, x2, hov, ob1, ob2⟩ := ob_at (rGr_open Hg.out).2.1 ho
          obtain ⟨t, ht⟩ : ∃ t : Nat, o.2.1 = (t : Int) := ⟨o.2.1.toNat, by have := hmo.t0; omega⟩
          have htb : (t : Int) ≤ 9223372036854775807 := by rw [← ht]; exact ob2.2
          have htN : t < N := by have := hmo.t1; omega
          have hgt : g.1[t]? = some g.1[t] := List.getElem?_eq_getElem (by omega)
          obtain ⟨bt, offt, st, AF, cF, rfl, hbt, -, y1, -, -, hfs⟩ := typ_at (rGr_open Hg.out).1 hgt
          have hFe := fldsG_at ht hgt
          rw [← hFe] at y1 hfs
          have hlen := hmo.len
          have hol5 : o.2.2.length ≤ 5 := by have := fields_few hm o.2.1; omega
          have hfl : (fldsG g.1 o.2.1).length = o.2.2.length := hlen
          rw [hfl] at y1 hfs
          have hlp := Lib.hid (fun k f v hf hv h5 h0 => lead_pos (k := k) (f := f) (v := v) hm hom hf hv h5 h0)
          have hl1 : w.heap.size < w1.heap.size := by omega
          have HX := Lib.hid (fun (W : World) (hW : Below (w.heap.size + 1 + 1) w1 W) => And.intro ((hW.cell (p := ⟨w.heap.size, 0, none⟩) (by show w.heap.size < _; omega)).trans (P1.out.cell (j := 0) rfl)) (And.intro ((hW.cell (p := ⟨w.heap.size, 1, none⟩) (by show w.heap.size < _; omega)).trans (P1.out.cell (j := 1) rfl)) (And.intro ((hW.cell (p := ⟨w.heap.size, 2, none⟩) (by show w.heap.size < _; omega)).trans (P1.out.cell (j := 2) rfl))
            (And.intro ((hW.cell (p := ⟨bo, offo + i * 3, none⟩) (by show bo < _; omega)).trans x0) (And.intro ((hW.cell (p := ⟨bo, offo + i * 3 + 1, none⟩) (by show bo < _; omega)).trans x1) (And.intro ((hW.cell (p := ⟨bo, offo + i * 3 + 2, none⟩) (by show bo < _; omega)).trans x2) ((hW.cell (p := ⟨bt, offt + t * 2 + 1, none⟩) (by show bt < _; omega)).trans y1)))))))
          rw [ht] at HX
          have Htk := Lib.hid htk
          have Hov := Lib.hid hov
          have Hfs := Lib.hid hfs
          have Hlen := Lib.hid hlen
          have Hlv := Lib.hid hlv
          obtain ⟨a0, a1, a2, a3, a4, a5, a6⟩ := HX.out wr hO.out.bel
          have hi00 : (0 : Int) ≤ (i : Int) := by omega
          have hil : (i : Int) < (M : Int) := by omega
          obtain ⟨bi, offi, rfl, hci⟩ := HI.out i hin
          have x3 := hci wr hO.out.kept
          have hidl := idsR_low by' i
          generalize hidv : idsR by' i = iv at *
          have q2 : Blk (wr.alloc (.cells #[.int .i64 iv, .int .i64 (t : Int), .slice none 0 0] 38)).drew wr.heap.size 38 [.int .i64 iv, .int .i64 (t : Int), .slice none 0 0] := Blk.new wr 38 [.int .i64 iv, .int .i64 (t : Int), .slice none 0 0]
          have hB2 : Below wr.heap.size wr ((wr.alloc (.cells #[.int .i64 iv, .int .i64 (t : Int), .slice none 0 0] 38)).drew) := ((Below.refl _ wr).alloc (Nat.le_refl _) _).drew
          have s2 : ((wr.alloc (.cells #[.int .i64 iv, .int .i64 (t : Int), .slice none 0 0] 38)).drew).heap.size = 1 + wr.heap.size := by rw [Nat.add_comm]; exact World.size_alloc ..
          have Q2 : Hid (Blk ((wr.alloc (.cells #[.int .i64 iv, .int .i64 (t : Int), .slice none 0 0] 38)).drew) wr.heap.size 38 [.int .i64 iv, .int .i64 (t : Int), .slice none 0 0]) := Lib.hid q2
          have HB2 := Lib.hid hB2
          have HSr := Lib.hid (fun (W : World) (hW : Below wr.heap.size wr W) => And.intro (HX.out W (hO.out.bel.trans (hW.mono (by omega)))) (hci W (fun k h1 h2 => by rw [hW.block k (by omega), hO.out.kept k h1 h2])))
          clear ho hom htk hmo hlv hov hfs hlen hfl hFe hgt q2 hB2 x0 x1 x2 y1 x3 hci
          generalize hold : o.2.2.length = ol at *
          rw [ht] at Htk
          go_wp2
          refine sch_start [(0, true), (1, true), (2, true), (3, true), (4, true), (5, true), (6, true), (7, true), (8, true), (9, true), (10, true), (11, false), (12, false)] (fun W => Below wr.heap.size wr W) (by kernel_rfl) rfl (by kernel_rfl) (fun _ _ _ _ _ h => h) ((Below.refl _ wr).drew) (fun hH => ?_)
          repeat (first | (refine sch_yes (v := ?_) rfl rfl ?_ hH ?_; rotate_left; (focus ((intro W hW; obtain ⟨⟨b0, b1, b2, b3, b4, b5, b6⟩, b7⟩ := HSr.out W hW; go_simp) <;> with_reducible rfl)); simp only [Act.put, List.setIfInBounds_toArray, List.set_cons_zero, List.set_cons_succ]) | (refine sch_no rfl rfl hH ?_; simp only [Act.put, List.setIfInBounds_toArray, List.set_cons_zero, List.set_cons_succ]))
          refine sch_call rfl rfl (fun K' hK' => ?_)
          go_wp2
          refine hK'.out _ _ (hH.alloc hH.size _) ?_
          clear hK'
          refine sch_call rfl rfl (fun K' hK' => ?_)
          go_wp2
          refine hK'.out _ _ HB2.out ?_
          clear hK' hH
          refine sch_done ?_
          go_wp2
          generalize (wr.alloc (.cells #[.int .i64 iv, .int .i64 (t : Int), .slice none 0 0] 38)).drew = wi at *
          clear a0 a1 a2 a3 a4 a5 a6
          have Hla := Lib.hid (fun (k : Nat) f v (h1 : (fldsG g.1 o.2.1)[k]? = some f) (h2 : o.2.2[k]? = some v) => leadV_at (renR g by') h1 h2)
          rw [ht] at Hla hlp
          generalize hlvd : leadV (renR g by') (fldsG g.1 (t : Int)) o.2.2 = lv at *
          rw [ht] at Hlv Hfs
          rw [hlvd] at Hlv
          clear hlvd
          have hs2 := HB2.out.size
          go_loopw [12] (fun kv w' => ∃ (k : Nat) (vF : Value) (ys : List Value), k ≤ ol ∧ kv = .int .i64 (k : Int) ∧ Hid (RowIn wr.heap.size 2 38 42 3 [.int .i64 iv, .int .i64 (t : Int), .slice none 0 0] wi vF k ys w') ∧ Hid (Chunks 3 (fun cs x => ∀ S W, rVal S W cs x) ys (lv.take k))) (fun kv _ => ol - (intOf kv).toNat)
          case atStart => exact ⟨0, .slice none 0 0, [], by omega, rfl, Lib.hid (RowIn.start Q2.out rfl), Lib.hid Chunks.nil⟩
          case round =>
            rename World => wx
            obtain ⟨k, vF, ys, hk', rfl, hI, hcv⟩ := hrel
            have sx := hI.out.bel.size
            have hBi : Below wr.heap.size wr wx := HB2.out.trans (hI.out.bel.mono (by omega))
            have hBx : Below (w.heap.size + 1 + 1) w1 wx := hO.out.bel.trans (hBi.mono (by omega))
            have q6 := HX.out _ hBx
            obtain ⟨e0, e1, e2, e3, e4, e5, e6⟩ := q6
            obtain ⟨AF2, cF2, rfl⟩ := own_slice3 hI.out.own
            by_cases hkn : k < ol
            · obtain ⟨v, hv⟩ : ∃ v, o.2.2[k]? = some v := ⟨_, List.getElem?_eq_getElem (by omega)⟩
              obtain ⟨f, hf⟩ : ∃ f, (fldsG g.1 (t : Int))[k]? = some f := ⟨_, List.getElem?_eq_getElem (by have := (slice_len Hfs.out).1; omega)⟩
              have hla := Hla.out k f v hf hv
              have Htv := Lib.hid (take_at hla)
              have hlp1 := hlp.out k f v hf hv
              obtain ⟨bv, offv, sv, rfl, hbv, v0, v1, v2, hsv, hsm, hvn, hvb⟩ := val_at Hov.out hv
              obtain ⟨bf, offf, sx', tx, rfl, hbf, -, m1, -, -, -, -, -, -⟩ := fld_at Hfs.out hf
              have hkl : (k : Int) < (ol : Int) := by omega
              have hk00 : (0 : Int) ≤ (k : Int) := by omega
              obtain ⟨vn, vs, vr⟩ := v
              obtain ⟨fa, fk, fb⟩ := f
              simp only at v0 v1 v2 m1 hsv hvn hvb hlp1 hla
              have v0' := (hBx.cell (p := ⟨bv, offv + k * 3, none⟩) (by show bv < _; omega)).trans v0
              have v1' := (hBx.cell (p := ⟨bv, offv + k * 3 + 1, none⟩) (by show bv < _; omega)).trans v1
              have v2' := (hBx.cell (p := ⟨bv, offv + k * 3 + 2, none⟩) (by show bv < _; omega)).trans v2
              have hB9 : Below wx.heap.size wx (wx.alloc (.cells #[.int .i64 vn, .string sv, .int .i64 vr] 42)) := (Below.refl _ wx).alloc (Nat.le_refl _) _
              have n9 := Blk.new wx 42 [.int .i64 vn, .string sv, .int .i64 vr]
              have hIy := hI.out.more (by omega) hB9
              have hBy := hBx.trans (hB9.mono (by omega))
              have m1' := (hBy.cell (p := ⟨bf, offf + k * 3 + 1, none⟩) (by show bf < _; omega)).trans m1
              obtain ⟨a0, a1, a2, a3, a4, a5, a6⟩ := HX.out _ hBy
              have d1 := hIy.bx.cell (j := 1) rfl
              have d2 := hIy.bx.cell (j := 2) rfl
              have n0 := n9.cell (j := 0) rfl
              have n1 := n9.cell (j := 1) rfl
              have n2 := n9.cell (j := 2) rfl
              have f2 := n9.frozen 2
              have Hvs := Lib.hid hsv
              have Hwn : Hid ((Lit.int .i64 vn).wf = true) := Lib.hid (WalkArith.wf_i64 hvn)
              have Hwr : Hid ((Lit.int .i64 vr).wf = true) := Lib.hid (WalkArith.wf_i64 hvb)
              have HB9 := Lib.hid hB9
              have N9 := Lib.hid n9
              have sy : (wx.alloc (.cells #[.int .i64 vn, .string sv, .int .i64 vr] 42)).heap.size = wx.heap.size + 1 := by simp
              have HBx := Lib.hid hBx
              clear hv hf hla v0 v1 v2 m1 hsv hvn hvb hB9 n9 hIy hBy hBx hBi
              have hcase : (fk ≠ 5 ∧ (if fk = 5 then (vn, vs, renR g by' vr) else (vn, vs, vr) : Vl) = (vn, vs, vr)) ∨ (fk = 5 ∧ vr < 0 ∧ (if fk = 5 then (vn, vs, renR g by' vr) else (vn, vs, vr) : Vl) = (vn, vs, vr)) ∨
                  (∃ j : Nat, fk = 5 ∧ 0 ≤ vr ∧ findG g.2.1 vr = (j : Int) ∧ j < M ∧ (if fk = 5 then (vn, vs, renR g by' vr) else (vn, vs, vr) : Vl) = (vn, vs, idsR by' j)) := by
                by_cases h5 : fk = 5
                · right
                  by_cases h0 : vr < 0
                  · exact .inl ⟨h5, h0, by rw [if_pos h5, renR, ren_neg h0]⟩
                  · obtain ⟨j, e1, e2⟩ := hlp1 h5 (by omega)
                    exact .inr ⟨j, h5, by omega, e1, by omega, by rw [if_pos h5, renR, ren_pos (by omega), e1, Int.toNat_natCast]⟩
                · exact .inl ⟨h5, by rw [if_neg h5]⟩
              clear hlp1
              generalize (if fk = 5 then (vn, vs, renR g by' vr) else (vn, vs, vr) : Vl) = z at *
              rcases hcase with ⟨h5, rfl⟩ | ⟨h5, h0, rfl⟩ | ⟨j, h5, h0, hj, hjM, rfl⟩
              · have hk5 : (fk == 5) = false := by simpa using h5
                clear h5
                have hIt := hI.out.more (by omega) (HB9.out)
                have t1 : k + 1 ≤ maxLen := by simp only [maxLen]; omega
                have t2 : (k + 1) * 32 ≤ 140737488355328 := by omega
                have t3 : wi.heap.size ≤ ((wx.alloc (.cells #[.int .i64 vn, .string sv, .int .i64 vr] 42)).alloc (.cells #[.int .i64 vn, .string sv, .int .i64 vr] 42)).heap.size := by have := (HB9.out).size; simp only [World.size_alloc] at this ⊢; omega
                have t4 : Rd ((wx.alloc (.cells #[.int .i64 vn, .string sv, .int .i64 vr] 42)).alloc (.cells #[.int .i64 vn, .string sv, .int .i64 vr] 42)) (some ⟨wx.heap.size + 1, 0, none⟩) [.int .i64 vn, .string sv, .int .i64 vr] := by have := (Blk.new (wx.alloc (.cells #[.int .i64 vn, .string sv, .int .i64 vr] 42)) 42 [.int .i64 vn, .string sv, .int .i64 vr]).rd; rwa [sy] at this
                have t5 := hIt.own.alloc (.cells #[.int .i64 vn, .string sv, .int .i64 vr] 42)
                go_wp2_with (first
                  | (at_builtin; refine wpList_apps rfl (.tmp 120) (.tmp 122) 36 rfl wi.heap.size 42 k0 (.agg #[.int .i64 0, .string ⟨#[]⟩, .int .i64 0]) 3 32 Try.underlying36 hk hx0 hx1 hx2 rfl (by omega) (.slice AF2 k cF2) k ys rfl t5 (some ⟨wx.heap.size + 1, 0, none⟩) 1 1 [.int .i64 vn, .string sv, .int .i64 vr] rfl rfl t4 (by simp [Value.oneCell']) t1 t2 t3 ?_; intro v4 w4 hown4 hg4 hv4; obtain ⟨bx4, hR4⟩ := hI.out.step (by omega) (HB9.out) hg4 hown4; obtain ⟨A4, c4, rfl⟩ := own_slice3 hown4; have e4 := bx4.cell (j := 2) rfl; have f4 := bx4.frozen 2; have HR4 := Lib.hid hR4; clear hR4 hown4 hg4 hv4 bx4)
                  | fail)
                go_roundw
                case rel => exact ⟨k + 1, _, _, by omega, by go_num, HR4, Lib.hid (by rw [Htv.out]; exact hcv.out.append (Chunks.one rfl fun S W => rVal_mk (v := (vn, vs, vr)) Hvs.out hsm Hwn.out Hwr.out))⟩
                case measure => simp [intOf]; omega
              · subst h5
                have h0' : decide (0 ≤ vr) = false := decide_eq_false (by omega)
                clear h0
                have hIt := hI.out.more (by omega) (HB9.out)
                have t1 : k + 1 ≤ maxLen := by simp only [maxLen]; omega
                have t2 : (k + 1) * 32 ≤ 140737488355328 := by omega
                have t3 : wi.heap.size ≤ ((wx.alloc (.cells #[.int .i64 vn, .string sv, .int .i64 vr] 42)).alloc (.cells #[.int .i64 vn, .string sv, .int .i64 vr] 42)).heap.size := by have := (HB9.out).size; simp only [World.size_alloc] at this ⊢; omega
                have t4 : Rd ((wx.alloc (.cells #[.int .i64 vn, .string sv, .int .i64 vr] 42)).alloc (.cells #[.int .i64 vn, .string sv, .int .i64 vr] 42)) (some ⟨wx.heap.size + 1, 0, none⟩) [.int .i64 vn, .string sv, .int .i64 vr] := by have := (Blk.new (wx.alloc (.cells #[.int .i64 vn, .string sv, .int .i64 vr] 42)) 42 [.int .i64 vn, .string sv, .int .i64 vr]).rd; rwa [sy] at this
                have t5 := hIt.own.alloc (.cells #[.int .i64 vn, .string sv, .int .i64 vr] 42)
                go_wp2_with (first
                  | (at_builtin; refine wpList_apps rfl (.tmp 120) (.tmp 122) 36 rfl wi.heap.size 42 k0 (.agg #[.int .i64 0, .string ⟨#[]⟩, .int .i64 0]) 3 32 Try.underlying36 hk hx0 hx1 hx2 rfl (by omega) (.slice AF2 k cF2) k ys rfl t5 (some ⟨wx.heap.size + 1, 0, none⟩) 1 1 [.int .i64 vn, .string sv, .int .i64 vr] rfl rfl t4 (by simp [Value.oneCell']) t1 t2 t3 ?_; intro v4 w4 hown4 hg4 hv4; obtain ⟨bx4, hR4⟩ := hI.out.step (by omega) (HB9.out) hg4 hown4; obtain ⟨A4, c4, rfl⟩ := own_slice3 hown4; have e4 := bx4.cell (j := 2) rfl; have f4 := bx4.frozen 2; have HR4 := Lib.hid hR4; clear hR4 hown4 hg4 hv4 bx4)
                  | fail)
                go_roundw
                case rel => exact ⟨k + 1, _, _, by omega, by go_num, HR4, Lib.hid (by rw [Htv.out]; exact hcv.out.append (Chunks.one rfl fun S W => rVal_mk (v := (vn, vs, vr)) Hvs.out hsm Hwn.out Hwr.out))⟩
                case measure => simp [intOf]; omega
              · subst h5
                have h0' : decide (0 ≤ vr) = true := decide_eq_true h0
                have TF := Lib.hid (rgfind_any _ _ C N c M d K e g vr _ (rGr_stays.to (S' := All _) (fun k hk => ⟨by show k < _; have : k < w.heap.size := hk; omega, (HBx.out.trans (HB9.out.mono (by omega))).block k (by have : k < w.heap.size := hk; omega)⟩) Hg.out))
                rw [hj] at TF
                clear h0 hj
                go_wp2_with fail
                generalize hwy : wx.alloc (.cells #[.int .i64 vn, .string sv, .int .i64 vr] 42) = wy at *
                refine TF.out.mono ?_
                rintro e wz ⟨rfl, hBz⟩
                have sz := hBz.size
                have HBz := Lib.hid (HB9.out.trans (hBz.mono (by omega)))
                obtain ⟨bi', offi', e', hc'⟩ := HI.out j hjM
                injection e' with e'
                injection e' with e1 e2 _
                subst e1 e2
                have x5 := hc' wz (fun k h1 h2 => by rw [HBz.out.block k (by omega), hI.out.bel.block k (by omega), HB2.out.block k (by omega), hO.out.kept k h1 h2])
                have hjl : (j : Int) < (M : Int) := by omega
                have hj00 : (0 : Int) ≤ (j : Int) := by omega
                have hidj := idsR_low by' j
                clear hc'
                have n9 := N9.out.to hBz
                have n0 := n9.cell (j := 0) rfl
                have n1 := n9.cell (j := 1) rfl
                have n2 := n9.cell (j := 2) rfl
                have f2 := n9.frozen 2
                have hIz := hI.out.more (by omega) HBz.out
                have hd2 := hIz.bx.cell (j := 2) rfl
                have d2 := (World.cell?_setCell_far wz ⟨wx.heap.size, 2, none⟩ ⟨wr.heap.size, 2, none⟩ (.int .i64 (idsR by' j)) (by show wx.heap.size ≠ wr.heap.size; omega)).trans hd2
                have Hset := Lib.hid (HBz.out.setCell (p := ⟨wx.heap.size, 2, none⟩) (Nat.le_refl _) (.int .i64 (idsR by' j)))
                have N9' := Lib.hid (n9.set 2 (.int .i64 (idsR by' j)))
                have z0 := N9'.out.cell (j := 0) rfl
                have z1 := N9'.out.cell (j := 1) rfl
                have z2 := N9'.out.cell (j := 2) rfl
                have Hwj : Hid ((Lit.int .i64 (idsR by' j)).wf = true) := Lib.hid (WalkArith.wf_i64 ⟨by omega, by omega⟩)
                clear hBz n9 hIz TF N9 hd2
                have ssz : (wz.setCell ⟨wx.heap.size, 2, none⟩ (.int .i64 (idsR by' j))).heap.size = wz.heap.size := by simp
                have hIt := hI.out.more (by omega) (Hset.out)
                have t1 : k + 1 ≤ maxLen := by simp only [maxLen]; omega
                have t2 : (k + 1) * 32 ≤ 140737488355328 := by omega
                have t3 : wi.heap.size ≤ ((wz.setCell ⟨wx.heap.size, 2, none⟩ (.int .i64 (idsR by' j))).alloc (.cells #[.int .i64 vn, .string sv, .int .i64 (idsR by' j)] 42)).heap.size := by have := (Hset.out).size; simp only [World.size_alloc] at this ⊢; omega
                have t4 : Rd ((wz.setCell ⟨wx.heap.size, 2, none⟩ (.int .i64 (idsR by' j))).alloc (.cells #[.int .i64 vn, .string sv, .int .i64 (idsR by' j)] 42)) (some ⟨wz.heap.size, 0, none⟩) [.int .i64 vn, .string sv, .int .i64 (idsR by' j)] := by have := (Blk.new (wz.setCell ⟨wx.heap.size, 2, none⟩ (.int .i64 (idsR by' j))) 42 [.int .i64 vn, .string sv, .int .i64 (idsR by' j)]).rd; rwa [ssz] at this
                have t5 := hIt.own.alloc (.cells #[.int .i64 vn, .string sv, .int .i64 (idsR by' j)] 42)
                go_wp2_with (first
                  | (at_builtin; refine wpList_apps rfl (.tmp 120) (.tmp 122) 36 rfl wi.heap.size 42 k0 (.agg #[.int .i64 0, .string ⟨#[]⟩, .int .i64 0]) 3 32 Try.underlying36 hk hx0 hx1 hx2 rfl (by omega) (.slice AF2 k cF2) k ys rfl t5 (some ⟨wz.heap.size, 0, none⟩) 1 1 [.int .i64 vn, .string sv, .int .i64 (idsR by' j)] rfl rfl t4 (by simp [Value.oneCell']) t1 t2 t3 ?_; intro v4 w4 hown4 hg4 hv4; obtain ⟨bx4, hR4⟩ := hI.out.step (by omega) (Hset.out) hg4 hown4; obtain ⟨A4, c4, rfl⟩ := own_slice3 hown4; have e4 := bx4.cell (j := 2) rfl; have f4 := bx4.frozen 2; have HR4 := Lib.hid hR4; clear hR4 hown4 hg4 hv4 bx4)
                  | fail)
                go_roundw
                case rel => exact ⟨k + 1, _, _, by omega, by go_num, HR4, Lib.hid (by rw [Htv.out]; exact hcv.out.append (Chunks.one rfl fun S W => rVal_mk (v := (vn, vs, (idsR by' j))) Hvs.out hsm Hwn.out Hwj.out))⟩
                case measure => simp [intOf]; omega
            · have hkol : k = ol := by omega
              rw [List.take_of_length_le (by have := Hlv.out; omega)] at hcv
              have HoF : Hid (wx.ownsRow wi.heap.size 42 3 (.slice AF2 ol cF2) ol ys) := Lib.hid (by have := hI.out.own; rwa [hkol] at this)
              have hval : rOb (fun k => wr.heap.size ≤ k ∧ k < wx.heap.size) wx [.int .i64 iv, .int .i64 (t : Int), .slice AF2 ol cF2] (iv, (t : Int), lv) := by
                have hv := own_vals HoF.out Hlv.out hcv.out
                have hl := HoF.out.lt
                have e := rOb_mk (S := fun k => wr.heap.size ≤ k ∧ k < wx.heap.size) (w := wx) (o := (iv, (t : Int), lv)) (A := AF2) (n := ol) (c := cF2) (show (Lit.int .i64 iv).wf = true from WalkArith.wf_i64 ⟨by omega, by omega⟩) (show (Lit.int .i64 (t : Int)).wf = true from WalkArith.wf_i64 ⟨by omega, by omega⟩) (rVals_stays.to (Keeps.mono fun b hb => by have := hl b hb; omega) hv)
                exact e
              have q0 := hI.out.bx.cell (j := 0) rfl
              have q1 := hI.out.bx.cell (j := 1) rfl
              have q2 : wx.cell? ⟨wr.heap.size, 2, none⟩ = some (.slice AF2 ol cF2) := by have := hI.out.bx.cell (j := 2) rfl; rwa [hkol] at this
              have hOt := hO.out.more (by omega) hBi
              obtain ⟨Av, cv, rfl⟩ := own_slice3 hO.out.own
              have d1 := hOt.bx.cell (j := 1) rfl
              have t1 : i + 1 ≤ maxLen := by simp only [maxLen]; omega
              have t2 : (i + 1) * 40 ≤ 140737488355328 := by omega
              have t3 : w1.heap.size ≤ (wx.alloc (.cells #[.int .i64 iv, .int .i64 (t : Int), .slice AF2 ol cF2] 38)).heap.size := by simp only [World.size_alloc]; omega
              have t4 := (Blk.new wx 38 [.int .i64 iv, .int .i64 (t : Int), .slice AF2 ol cF2]).rd
              have t5 := hOt.own.alloc (.cells #[.int .i64 iv, .int .i64 (t : Int), .slice AF2 ol cF2] 38)
              have HBi := Lib.hid hBi
              have Hval := Lib.hid hval
              clear hkol hBi hval hOt HX Hov Hfs Hla hlp
              go_wp2_with (first
                | (at_builtin; refine wpList_apps rfl (.tmp 126) (.tmp 128) 25 rfl w1.heap.size 38 i0 (.agg #[.int .i64 0, .int .i64 0, .slice none 0 0]) 3 40 Try.underlying25 hi hz0 hz1 hz2 rfl (by omega) (.slice Av i cv) i xs rfl t5 (some ⟨wx.heap.size, 0, none⟩) 1 1 [.int .i64 iv, .int .i64 (t : Int), .slice AF2 ol cF2] rfl rfl t4 (by simp [Value.oneCell']) t1 t2 t3 ?_; intro v4 w4 hown4 hg4 hv4; obtain ⟨bx4, hR4⟩ := hO.out.step (by omega) HBi.out hg4 hown4; have HC4 := Lib.hid (hO.out.obs (by omega) hch.out HBi.out Hval.out rfl hg4 hv4); obtain ⟨A4, c4, rfl⟩ := own_slice3 hown4; have e4 := bx4.cell (j := 1) rfl; have f4 := bx4.frozen 1; have HR4 := Lib.hid hR4; clear hR4 hown4 hg4 hv4 bx4)
                | fail)
              go_roundw
              case rel => exact ⟨i + 1, _, _, by omega, by go_num, HR4, Lib.hid (by rw [Htk.out]; exact HC4.out)⟩
              case measure => simp [intOf]; omega
        · have hiM : i = M := by omega
          rw [List.take_of_length_le (by rw [renamed_len]; omega)] at hch
          obtain ⟨Av, cv, rfl⟩ := own_slice3 hO.out.own
          have hOM : Hid (RowIn (w.heap.size + 1 + 1) 1 28 38 3 [.slice A N c, .slice none 0 0, .slice none 0 0] w1 (.slice Av M cv) M xs wr) := Lib.hid (by have := hO.out; rwa [hiM] at this)
          rw [hiM] at hch
          clear hiM hO
          have hl1 : w.heap.size < w1.heap.size := by omega
          have HX := Lib.hid (fun (W : World) (hW : Below (w.heap.size + 1 + 1) w1 W) => And.intro ((hW.cell (p := ⟨w.heap.size, 0, none⟩) (by show w.heap.size < _; omega)).trans (P1.out.cell (j := 0) rfl)) (And.intro ((hW.cell (p := ⟨w.heap.size, 1, none⟩) (by show w.heap.size < _; omega)).trans (P1.out.cell (j := 1) rfl)) ((hW.cell (p := ⟨w.heap.size, 2, none⟩) (by show w.heap.size < _; omega)).trans (P1.out.cell (j := 2) rfl))))
          obtain ⟨a0, a1, a2⟩ := HX.out wr hOM.out.bel
          have hrl : (g.2.2.map (renR g by')).length = K := by rw [List.length_map, hK]
          go_wp2
          clear a0 a1 a2
          go_loopw [14] (fun jv w' => ∃ (j : Nat) (v : Value), j ≤ K ∧ jv = .int .i64 (j : Int) ∧ Hid (RowIn (w.heap.size + 1 + 1) 2 28 3 1 [.slice A N c, .slice Av M cv, .slice none 0 0] wr v j (ints ((g.2.2.map (renR g by')).take j)) w')) (fun jv _ => K - (intOf jv).toNat)
          case atStart => exact ⟨0, .slice none 0 0, by omega, rfl, Lib.hid (RowIn.start hOM.out.bx rfl)⟩
          case round =>
            rename World => wq
            obtain ⟨j, v2, hj', rfl, hR⟩ := hrel
            have sq := hR.out.bel.size
            have hBq : Below (w.heap.size + 1 + 1) w1 wq := hOM.out.bel.trans hR.out.bel
            obtain ⟨a0, a1, a2⟩ := HX.out wq hBq
            obtain ⟨A2, c2, rfl⟩ := own_slice3 hR.out.own
            by_cases hjn : j < K
            · obtain ⟨x, hx⟩ : ∃ x, g.2.2[j]? = some x := ⟨_, List.getElem?_eq_getElem (by omega)⟩
              have hax : (g.2.2.map (renR g by'))[j]? = some (renR g by' x) := by rw [List.getElem?_map, hx]; rfl
              have Htk := Lib.hid (take_at hax)
              have hlp1 := root_pos hm (List.mem_of_getElem? hx)
              obtain ⟨b, off, rfl, hb, x0, hxb⟩ := id_at (rGr_open Hg.out).2.2 hx
              have x0' := (hBq.cell (p := ⟨b, off + j, none⟩) (by show b < _; omega)).trans x0
              have hjl : (j : Int) < (K : Int) := by omega
              have hj0 : (0 : Int) ≤ (j : Int) := by omega
              have t1 : j + 1 < maxLen := by simp only [maxLen]; omega
              have HBq := Lib.hid hBq
              clear hx hax hBq x0
              generalize (g.2.2.map (renR g by')).take j = ra at *
              have e6 := hR.out.bx.cell (j := 2) rfl
              by_cases h0 : x < 0
              · have hz : renR g by' x = x := by rw [renR, ren_neg h0]
                rw [hz] at Htk
                have h0' : decide (0 ≤ x) = false := decide_eq_false (by omega)
                have t3 : wr.heap.size ≤ (wq.alloc (.cells #[.int .i64 x] 3)).heap.size := by simp only [World.size_alloc]; omega
                have t5 := hR.out.own.alloc (.cells #[.int .i64 x] 3)
                clear h0 hz hlp1
                go_wp2_with (first
                  | (at_builtin; refine wpList_app rfl (.tmp 152) (.tmp 154) 26 rfl wr.heap.size 3 j0 (.int .i64 0) 8 Try.underlying26 hj hy0 hy1 hy2 rfl (.slice A2 j c2) j (ints ra) rfl t5 (some ⟨wq.heap.size, 0, none⟩) 1 1 (ints [x]) rfl rfl (lit_ints _ [x]) (ints_one _) (by simp only [maxLen]; omega) (by omega) t3 ?_; intro v4 w4 hown4 hg4 hv4; obtain ⟨bx4, hR4⟩ := hR.out.step (by omega) (Below.refl _ wq) hg4 hown4; obtain ⟨A4, c4, rfl⟩ := own_slice3 hown4; have e4 := bx4.cell (j := 2) rfl; have f4 := bx4.frozen 2; have HR4 := Lib.hid hR4; clear hR4 hown4 hg4 hv4 bx4)
                  | fail)
                go_roundw
                case rel => exact ⟨j + 1, _, by omega, by go_num, Lib.hid (by rw [Htk.out, ints_append]; exact HR4.out)⟩
                case measure => simp [intOf]; omega
              · obtain ⟨J, hJ, hJM⟩ := hlp1 (by omega)
                have hz : renR g by' x = idsR by' J := by rw [renR, ren_pos (by omega), hJ, Int.toNat_natCast]
                rw [hz] at Htk
                rw [hM] at hJM
                have h0' : decide (0 ≤ x) = true := decide_eq_true (by omega)
                have TF := Lib.hid (rgfind_any _ _ _ N c M d K e g x wq (rGr_stays.to (S' := All _) (fun k hk => ⟨by show k < _; have : k < w.heap.size := hk; omega, HBq.out.block k (by have : k < w.heap.size := hk; omega)⟩) Hg.out))
                rw [hJ] at TF
                clear h0 hz hJ
                go_wp2_with fail
                refine TF.out.mono ?_
                rintro e wz ⟨rfl, hBz⟩
                have sz := hBz.size
                have HBz := Lib.hid hBz
                obtain ⟨bi, offi, rfl, hc'⟩ := HI.out J hJM
                have x5 := hc' wz (fun k h1 h2 => by rw [hBz.block k (by omega), hR.out.kept k (by omega) h2, hOM.out.kept k h1 h2])
                have hJl : (J : Int) < (M : Int) := by omega
                have hJ00 : (0 : Int) ≤ (J : Int) := by omega
                clear hc'
                have hRz := hR.out.more (by omega) hBz
                have e7 := hRz.bx.cell (j := 2) rfl
                have t3 : wr.heap.size ≤ (wz.alloc (.cells #[.int .i64 (idsR by' J)] 3)).heap.size := by simp only [World.size_alloc]; omega
                have t5 := hRz.own.alloc (.cells #[.int .i64 (idsR by' J)] 3)
                clear hBz TF hRz
                go_wp2_with (first
                  | (at_builtin; refine wpList_app rfl (.tmp 152) (.tmp 154) 26 rfl wr.heap.size 3 j0 (.int .i64 0) 8 Try.underlying26 hj hy0 hy1 hy2 rfl (.slice A2 j c2) j (ints ra) rfl t5 (some ⟨wz.heap.size, 0, none⟩) 1 1 (ints [idsR by' J]) rfl rfl (lit_ints _ [idsR by' J]) (ints_one _) (by simp only [maxLen]; omega) (by omega) t3 ?_; intro v4 w4 hown4 hg4 hv4; obtain ⟨bx4, hR4⟩ := hR.out.step (by omega) HBz.out hg4 hown4; obtain ⟨A4, c4, rfl⟩ := own_slice3 hown4; have e4 := bx4.cell (j := 2) rfl; have f4 := bx4.frozen 2; have HR4 := Lib.hid hR4; clear hR4 hown4 hg4 hv4 bx4)
                  | fail)
                go_roundw
                case rel => exact ⟨j + 1, _, by omega, by go_num, Lib.hid (by rw [Htk.out, ints_append]; exact HR4.out)⟩
                case measure => simp [intOf]; omega
            · have hjK : j = K := by omega
              have HRK : Hid (RowIn (w.heap.size + 1 + 1) 2 28 3 1 [.slice A N c, .slice Av M cv, .slice none 0 0] wr (.slice A2 K c2) K (ints (g.2.2.map (renR g by'))) wq) := Lib.hid (by have := hR.out; rwa [List.take_of_length_le (by omega), hjK] at this)
              clear hR hjK
              have e0 := HRK.out.bx.cell (j := 0) rfl
              have e1 := HRK.out.bx.cell (j := 1) rfl
              have e2 := HRK.out.bx.cell (j := 2) rfl
              have r2 : Blk wq (w.heap.size + 1) 28 [.slice none 0 0, .slice none 0 0, .slice none 0 0] := (hBq.block (w.heap.size + 1) (by omega)).trans P2.out
              have y0 := r2.cell (j := 0) rfl
              have y1 := r2.cell (j := 1) rfl
              have y2 := r2.cell (j := 2) rfl
              have g0 := r2.frozen 0
              have g1 := r2.frozen 1
              have g2 := r2.frozen 2
              have HBq := Lib.hid hBq
              clear hBq
              go_wp2
              have P9 := ((r2.set 0 (.slice A N c)).set 1 (.slice Av M cv)).set 2 (.slice A2 K c2)
              refine ret_cell0 (d := .struct _) (cs := [.slice A N c, .slice Av M cv, .slice A2 K c2]) rfl P9 rfl rfl rfl rfl rfl ?_
              refine ⟨Av, cv, A2, c2, rfl, ?_, ?_⟩
              · refine built_graph (S := fun k => k < w.heap.size) (r2 := w.heap.size + 1) (s := g.1) hOM.out hch.out HRK.out (rGr_open Hg.out).1 (fun k hk => ⟨by omega, by omega⟩) (by omega) (by omega) (fun k h1 h2 => ?_) (by simp) ((renamed_len g by').trans hM) hrl (fun r hr => ?_)
                · rw [Below.heap_setCell _ _ _ _ h1, Below.heap_setCell _ _ _ _ h1, Below.heap_setCell _ _ _ _ h1]
                · obtain ⟨y, hy, rfl⟩ := List.mem_map.1 hr
                  show (Lit.int .i64 (renR g by' y)).wf = true
                  by_cases h0 : y < 0
                  · rw [renR, ren_neg h0]
                    obtain ⟨_, _, _, _, _, hyb⟩ := id_at (rGr_open Hg.out).2.2 (List.getElem?_of_mem hy).choose_spec
                    exact WalkArith.wf_i64 hyb
                  · obtain ⟨J, hJ, hJM⟩ := root_pos hm hy (by omega)
                    rw [renR, ren_pos (by omega), hJ, Int.toNat_natCast]
                    have := idsR_low by' J
                    exact WalkArith.wf_i64 ⟨by omega, by omega⟩
              · have hz9 := H0.out.trans (HBq.out.mono (by omega))
                exact ((hz9.setCell (p := ⟨w.heap.size + 1, 0, none⟩) (by simp) (.slice A N c)).setCell (p := ⟨w.heap.size + 1, 1, none⟩) (by simp) (.slice Av M cv)).setCell (p := ⟨w.heap.size + 1, 2, none⟩) (by simp) (.slice A2 K c2)
end Go.Proofs.Yteafbdebmhpffaa
