/- The contract of the document's own Read (layer 6): what 'readS' tells; what is read is of the call's own; nothing that was there is changed. Condition: at most 1000 bytes. -/
import Derived.Test.YtomndfeifjiljaaDoorScGuess
import Derived.Test.YtomndfeifjiljaaDoorScRef2
import Derived.Test.YtomndfeifjiljaaDoorScRead
import Derived.Test.YtomndfeifjiljaaDoorSchedL
namespace Go.Proofs.YtomndfeifjiljaaDoor
open Go.RowKit

theorem own_keep {w w' : World} {base e size n : Nat} {v : Value} {xs : List Value} (h : w.ownsRow base e size v n xs) (hk : ∀ b, v.ownBlock = some b → w'.heap[b]? = w.heap[b]?) : w'.ownsRow base e size v n xs := by
  refine ⟨h.1, ?_⟩
  rcases h.2 with h | ⟨g, cap, cur, h1, h2, h3, h4⟩
  · exact .inl h
  · exact .inr ⟨g, cap, cur, h1, h2, (hk g (by rw [h1]; rfl)).trans h3, h4⟩
/-- A block that lies below a row's base stays when the row has grown. -/
theorem Blk.grown {w w' : World} {g : Nat} {t : TypeId} {cs : List Value} {base e size n : Nat} {v : Value} {xs : List Value} (h : Blk w g t cs) (ho : w.ownsRow base e size v n xs) (hg : w.grownBy w' v.ownBlock) (hlt : g < base) : Blk w' g t cs :=
  (hg.block g h.lt (fun e => by have := (ho.lt g e.symm).1; omega)).trans h

/-- Where the document's own Read stands between two types. -/
structure RdAt (w : World) (l : List Nat) (N : Nat) (r : ByteArray) (pre : Sch) (vO : Value) (xs : List Value) (w' : World) : Prop where
  room : r.size ≤ N
  few : pre.length ≤ 5
  tame : tameS pre
  bel : Below w.heap.size w w'
  bR : Blk w' w.heap.size 24 [.slice none 0 0]
  bO : Blk w' (w.heap.size + 1) 24 [vO]
  own : w'.ownsRow (w.heap.size + 1 + 1) 34 2 vO pre.length xs
  ahead : Chunks 2 (rTyp (Oth (w.heap.size + 1 + 1) vO w') w') xs pre
  oi : OI l pre (byt r)
/-- .. between two fields. -/
structure RfAt (wo : World) (l : List Nat) (N : Nat) (pre : Sch) (nm r : ByteArray) (fs : List Fld) (vF : Value) (ys : List Value) (w' : World) : Prop where
  room : r.size ≤ N
  few : fs.length ≤ 6
  tame : ∀ f ∈ fs, tame f.1
  bel : Below wo.heap.size wo w'
  bT : Blk w' wo.heap.size 34 [.string nm, vF]
  own : w'.ownsRow (wo.heap.size + 1) 40 3 vF fs.length ys
  ahead : Chunks 3 (rFld (fun _ => False) wo) ys fs
  ii : II l pre (byt nm) fs (byt r)

set_option maxRecDepth 100000 in
set_option maxHeartbeats 16000000 in
theorem rread_any (s : ByteArray) (w : World) (hs : s.size ≤ 1000) :
    Calls Tryd.prog 12 #[.string s] w fun e w' => ∃ A n c b, e = .returned (.tuple #[.agg #[.slice A n c], .bool b]) ∧ SIs (fun b => w.heap.size ≤ b ∧ b < w'.heap.size) w' (readS (byt s)) A n c b ∧ Below w.heap.size w w' := by
  obtain ⟨hz, hsz⟩ := zero_of_info info_sch
  obtain ⟨hzt, hszt⟩ := zero_of_info info_typ
  obtain ⟨i0, hi, hz0, hz1, hz2⟩ := info_parts info_typ4
  obtain ⟨j0, hj, hy0, hy1, hy2⟩ := info_parts info_fld4
  have hB0 : Below w.heap.size w ((w.alloc (.cells #[.slice none 0 0] 24)).alloc (.cells #[.slice none 0 0] 24)) := ((Below.refl _ w).alloc (Nat.le_refl _) _).alloc (by simp) _
  have bR0 := (Blk.new w 24 [.slice none 0 0]).alloc (.cells #[.slice none 0 0] 24)
  have bO0 := Blk.new (w.alloc (.cells #[.slice none 0 0] 24)) 24 [.slice none 0 0]
  simp only [World.size_alloc] at bO0
  have H0 : RdAt w (byt s) s.size s [] (.slice none 0 0) [] ((w.alloc (.cells #[.slice none 0 0] 24)).alloc (.cells #[.slice none 0 0] 24)) :=
    ⟨Nat.le_refl _, by simp, fun t ht => by simp at ht, hB0, bR0, bO0, World.ownsRow_nil _ _ _ _, Chunks.nil, oi_start _⟩
  have Hg := Lib.hid (fun pre => read_guess (l := byt s) (pre := pre))
  generalize readS (byt s) = ro at *
  go_enter Tryd.func12, Tryd.ntmps12
  go_wp2
  go_loopw [5] (fun rv w' => ∃ r pre vO xs, rv = .string r ∧ RdAt w (byt s) s.size r pre vO xs w') (fun rv _ => sizeS rv)
  case atStart => exact ⟨s, [], _, [], rfl, H0⟩
  case round =>
    rename World => wo0
    obtain ⟨r, pre, vO, xs, rfl, H⟩ := hrel
    clear H0 hB0 bR0 bO0
    obtain ⟨hroom, hfew, htame, hBo0, bR0, bO0, hownO0, hchO0, hoi⟩ := H
    obtain ⟨AO, cO, hvO⟩ : ∃ A c, vO = .slice A pre.length c := by
      obtain ⟨A, c, hv, _⟩ := own_in hownO0
      exact ⟨A, c, hv⟩
    subst hvO
    have cO0 := bO0.cell (j := 0) rfl
    by_cases hr0 : r.size = 0
    · have hr0' : decide ((0 : Int) < (r.size : Int)) = false := decide_eq_false (by omega)
      have hrn : byt r = [] := List.eq_nil_of_length_eq_zero (by rw [byt_length]; exact hr0)
      have hoi2 := oi_end hoi (.inl hrn)
      have Ho := Lib.hid (Hg.out pre hoi2)
      obtain ⟨A1, c1, hv1, hsl⟩ := own_rSlice' rTyp_stays hownO0 rfl hchO0
      injection hv1 with e1 e2 e3
      subst e1 e3
      have hslA : rSch (All wo0) wo0 [.slice AO pre.length cO] pre := rSch_stays.to (Keeps.mono fun b hb => hb.2) hsl
      have M1 := Lib.hid (rsmay_any AO pre.length cO pre wo0 hslA htame)
      have X1 := Lib.hid (fun W (hW : Below wo0.heap.size wo0 W) => rtext_any AO pre.length cO pre W (sch_below hW hslA) htame)
      have hnil : ∀ (S : Nat → Prop) (W : World), rSch S W [.slice none 0 0] [] := fun S W => ⟨none, 0, [], rfl, Nat.le_refl _, Nat.zero_le _, .inl rfl, Chunks.nil⟩
      clear hoi2 hoi hchO0 hownO0 Hg htame
      have hko : ∀ (W : World) (v : Value), Below wo0.heap.size wo0 W → Keeps (fun b => w.heap.size + 1 + 1 ≤ b ∧ b < wo0.heap.size) (fun b => w.heap.size ≤ b ∧ b < (W.setCell ⟨w.heap.size, 0, none⟩ v).heap.size) wo0 (W.setCell ⟨w.heap.size, 0, none⟩ v) := fun W v hW b hb => by
        have h1 := Keeps.set (S := fun b => w.heap.size + 1 + 1 ≤ b ∧ b < wo0.heap.size) (w := W) (g := w.heap.size) (fun b hb => by omega) 0 v b hb
        refine ⟨⟨by omega, ?_⟩, ?_⟩
        · have := hW.size
          simp
          omega
        · rw [h1.2]
          exact hW.block b hb.2
      have Hko := Lib.hid hko
      have Hsl := Lib.hid hsl
      clear hko hsl hslA
      generalize hmp : mayS pre = mp at *
      clear hmp
      go_wp2_with fail
      refine M1.out.mono ?_
      rintro e v1 ⟨rfl, hE1⟩
      have bR1 := bR0.to hE1
      have bO1 := bO0.to hE1
      have hBv1 := hBo0.trans (hE1.mono hBo0.size)
      cases mp
      · have Hn : Hid (ro = none) := Lib.hid (by rw [Ho.out, if_neg (by simp)])
        have x0 := bR1.cell (j := 0) rfl
        have f0 := bR1.frozen 0
        have Hrw := Lib.hid (bR1.set 0 (.slice none 0 0))
        have HBr := Lib.hid (hBv1.setCell (p := ⟨w.heap.size, 0, none⟩) (Nat.le_refl w.heap.size) (.slice none 0 0))
        go_wp2
        refine ret_cell1 rfl Hrw.out Tryd.underlying24 rfl hsz rfl rfl ?_
        exact ⟨_, _, _, _, rfl, by rw [Hn.out]; exact ⟨rfl, rfl, hnil _ _, fun _ => ⟨rfl, rfl⟩⟩, HBr.out⟩
      · have y0 := bO1.cell (j := 0) rfl
        go_wp2_with fail
        refine (X1.out _ hE1).mono ?_
        rintro e v2 ⟨tx, rfl, htx, hE2⟩
        have bR2 := bR1.to hE2
        have bO2 := bO1.to hE2
        have hBv2 := hBv1.trans (hE2.mono hBv1.size)
        have hE12 := hE1.trans (hE2.mono hE1.size)
        have x0 := bR2.cell (j := 0) rfl
        have f0 := bR2.frozen 0
        have y1 := bO2.cell (j := 0) rfl
        have hq := str_beq tx s
        rw [htx] at hq
        by_cases he : textS pre = byt s
        · rw [decide_eq_true he] at hq
          have Hn : Hid (ro = some pre) := Lib.hid (by rw [Ho.out, if_pos ⟨by simp, he⟩])
          have Hrw := Lib.hid (bR2.set 0 (.slice AO pre.length cO))
          have HBr := Lib.hid (hBv2.setCell (p := ⟨w.heap.size, 0, none⟩) (Nat.le_refl w.heap.size) (.slice AO pre.length cO))
          clear he htx
          go_wp2
          refine ret_cell1 rfl Hrw.out Tryd.underlying24 rfl hsz rfl rfl ?_
          exact ⟨_, _, _, _, rfl, by rw [Hn.out]; exact ⟨rfl, rfl, rSch_stays.to (Hko.out _ _ hE12) Hsl.out, fun h => by cases h⟩, HBr.out⟩
        · rw [decide_eq_false he] at hq
          have Hn : Hid (ro = none) := Lib.hid (by rw [Ho.out, if_neg (fun h => he h.2)])
          have Hrw := Lib.hid (bR2.set 0 (.slice none 0 0))
          have HBr := Lib.hid (hBv2.setCell (p := ⟨w.heap.size, 0, none⟩) (Nat.le_refl w.heap.size) (.slice none 0 0))
          clear he htx
          go_wp2
          refine ret_cell1 rfl Hrw.out Tryd.underlying24 rfl hsz rfl rfl ?_
          exact ⟨_, _, _, _, rfl, by rw [Hn.out]; exact ⟨rfl, rfl, hnil _ _, fun _ => ⟨rfl, rfl⟩⟩, HBr.out⟩
    by_cases hp4 : pre.length ≤ 4
    · have hr0' : decide ((0 : Int) < (r.size : Int)) = true := decide_eq_true (by omega)
      have hp4' : decide ((pre.length : Int) ≤ 4) = true := decide_eq_true (by omega)
      have hne : byt r ≠ [] := fun e => by have := congrArg List.length e; rw [byt_length, List.length_nil] at this; omega
      have T1 := Lib.hid (upto_any r ⟨#[123]⟩ wo0 (by simp only [maxLen]; omega) (by decide))
      rw [show byt ⟨#[123]⟩ = [123] from rfl] at T1
      have hii := ii_start hoi hne
      have hul := uptoL_len [123] (byt r)
      rw [byt_length] at hul
      have Htame := Lib.hid htame
      have HchO0 := Lib.hid hchO0
      clear hne hoi htame hchO0
      go_wp2_with fail
      refine T1.out.mono ?_
      rintro e wo ⟨nm, q0, rfl, hnm, hq0, hC1⟩
      rw [← hnm, ← hq0] at hii
      have hnms : nm.size ≤ r.size := by rw [← byt_length, hnm]; exact hul.1
      have hq0s : q0.size ≤ r.size := by rw [← byt_length, hq0]; exact hul.2
      have hBo := hBo0.trans (hC1.mono hBo0.size)
      have bR := bR0.to hC1
      have bO := bO0.to hC1
      have hownO := own_below hownO0 hC1
      have HchO := Lib.hid (HchO0.out.imp fun cs a h => rTyp_stays.to (S' := Oth (w.heap.size + 1 + 1) (.slice AO pre.length cO) wo) (fun b hb => ⟨⟨⟨hb.1.1, Nat.lt_of_lt_of_le hb.1.2 hC1.size⟩, hb.2⟩, hC1.block b hb.1.2⟩) h)
      clear T1 hC1 hBo0 bR0 bO0 hownO0 HchO0 hnm hq0 hul cO0
      have hBt : Below wo.heap.size wo (wo.alloc (.cells #[.string nm, .slice none 0 0] 34)) := (Below.refl _ wo).alloc (Nat.le_refl _) _
      have HF0 : Hid (RfAt wo (byt s) r.size pre nm q0 [] (.slice none 0 0) [] (wo.alloc (.cells #[.string nm, .slice none 0 0] 34))) := Lib.hid
        ⟨hq0s, by simp, by simp, hBt, Blk.new wo 34 [.string nm, .slice none 0 0], World.ownsRow_nil _ _ _ _, Chunks.nil, hii⟩
      clear hBt hii
      go_wp2
      go_loopw [5] (fun rv w' => ∃ q fs vF ys, rv = .string q ∧ Hid (RfAt wo (byt s) r.size pre nm q fs vF ys w')) (fun rv _ => sizeS rv)
      case atStart => exact ⟨q0, [], _, [], rfl, HF0⟩
      case round =>
        rename World => v0
        obtain ⟨q, fs, vF, ys, rfl, HR⟩ := hrel
        clear HF0
        obtain ⟨hqr, hfs6, htameF, hC, bT, hownF, hchF, hII⟩ := HR.out
        clear HR
        have HtameF := Lib.hid htameF
        have HchF := Lib.hid hchF
        have HI := Lib.hid hII
        clear htameF hchF hII
        obtain ⟨AF, cF, hvF, hnF, hmF, hrdF⟩ := own_in hownF
        subst hvF
        by_cases h1 : 1 < q.size
        · have h1' : decide ((1 : Int) < (q.size : Int)) = true := decide_eq_true (by omega)
          have h1a : (0 : Int) < (q.size : Int) := by omega
          have h1b : (1 : Int) < (q.size : Int) := by omega
          have h1c : (1 : Int) ≤ (q.size : Int) := by omega
          have h0' : decide ((0 : Int) < (q.size : Int)) = true := decide_eq_true (by omega)
          have h0lt : 0 < q.size := by omega
          have hb0 := byt_get h0lt
          have hb1 := byt_get h1
          have hsplit : byt q = (q[0]'h0lt).toNat :: (byt q).drop 1 := by
            cases hb : byt q with
            | nil => rw [hb] at hb0; simp at hb0
            | cons a l => rw [hb] at hb0; simp at hb0; rw [hb0]; rfl
          have hd1 : ((byt q).drop 1).getD 0 0 = (q[1]'h1).toNat := by rw [List.getD_eq_getElem?_getD, List.getElem?_drop, hb1]; rfl
          have hex : byt (q.extract 1 q.size) = (byt q).drop 1 := by rw [byt_extract, List.take_of_length_le (by simp)]
          have hexs : (q.extract 1 q.size).size = q.size - 1 := by simp
          have hg0 : (byt q).getD 0 0 = (q[0]'h0lt).toNat := by rw [List.getD_eq_getElem?_getD, hb0]; rfl
          clear hb0 hb1
          by_cases h125 : (q[0]'h0lt).toNat = 125
          · have h125' : (((q[0]'h0lt).toNat : Int) != 125) = false := by rw [h125]; rfl
            have bTc0 := bT.cell (j := 0) rfl
            have bTc1 := bT.cell (j := 1) rfl
            have hBW := hBo.trans (hC.mono hBo.size)
            have hOlt := bO.lt
            have bO2 := bO.to hC
            have bR2 := bR.to hC
            have cO2 := bO2.cell (j := 0) rfl
            have fO2 := bO2.frozen 0
            have hltO := hownO.lt
            have hownO2 := own_below hownO hC
            have hA : Below v0.heap.size v0 (v0.alloc (.cells #[.string nm, .slice AF fs.length cF] 34)) := (Below.refl _ v0).alloc (Nat.le_refl _) _
            have hbx : Rd (v0.alloc (.cells #[.string nm, .slice AF fs.length cF] 34)) (some ⟨v0.heap.size, 0, none⟩) [.string nm, .slice AF fs.length cF] := (Blk.new v0 34 [.string nm, .slice AF fs.length cF]).rd
            have hown3 := own_below hownO2 hA
            have hB3 := hBW.trans (hA.mono hBW.size)
            have hsz3 : w.heap.size + 1 + 1 ≤ (v0.alloc (.cells #[.string nm, .slice AF fs.length cF] 34)).heap.size := by
              have h1 := hC.size
              have h2 := hA.size
              omega
            have bO3 := bO2.to hA
            have bR3 := bR2.to hA
            have hsizes : wo.heap.size + 1 ≤ v0.heap.size := bT.lt
            have hkn : Keeps (fun b => wo.heap.size + 1 ≤ b ∧ b < v0.heap.size) (Oth (w.heap.size + 1 + 1) (.slice AO pre.length cO) (v0.alloc (.cells #[.string nm, .slice AF fs.length cF] 34))) v0 _ := fun b ⟨h1, h2⟩ =>
              ⟨⟨⟨by omega, Nat.lt_of_lt_of_le h2 hA.size⟩, fun e => by have := (hltO b e.symm).2; omega⟩, hA.block b h2⟩
            have hko : Keeps (Oth (w.heap.size + 1 + 1) (.slice AO pre.length cO) wo) (Oth (w.heap.size + 1 + 1) (.slice AO pre.length cO) (v0.alloc (.cells #[.string nm, .slice AF fs.length cF] 34))) wo _ := fun b ⟨⟨h1, h2⟩, h3⟩ =>
              ⟨⟨⟨h1, by have := hC.size; have := hA.size; omega⟩, h3⟩, (hA.block b (by have := hC.size; omega)).trans (hC.block b h2)⟩
            have Hch3 := Lib.hid ((HchO.out.imp (fun cs a h => rTyp_stays.to hko h)).append (Chunks.one (size := 2) rfl (rTyp_mk (t := (byt nm, fs)) rfl (by simp only [maxLen]; omega) (rFlds_stays.to hkn (cs := [.slice AF fs.length cF]) ⟨AF, cF, ys, rfl, hnF, hmF, hrdF, HchF.out.imp fun cs a h => rFld_free h⟩))))
            have Hoi := Lib.hid (ii_end HI.out (.inr (.inl (by rw [hg0]; exact h125))))
            clear hkn hko HchO HchF hA hownO2 hownO hltO hownF hrdF HI hC hBo bO bR bT
            go_wp2_with (first
              | (at_builtin; refine wpList_apps rfl (.tmp 87) (.tmp 89) 22 rfl (w.heap.size + 1 + 1) 34 i0 (.agg #[.string ⟨#[]⟩, .slice none 0 0]) 2 40 Tryd.underlying22 hi hz0 hz1 hz2 rfl (by omega) (.slice AO pre.length cO) pre.length xs rfl hown3 (some ⟨v0.heap.size, 0, none⟩) 1 1 [.string nm, .slice AF fs.length cF] rfl rfl hbx (by simp [Value.oneCell']) (by simp only [maxLen]; omega) (by omega) hsz3 ?_; intro v4 w4 hown4 hg4 hv4; obtain ⟨A4, c4, hv4e, -⟩ := own_in hown4; subst hv4e; have bO4 : Blk w4 (w.heap.size + 1) 24 [.slice AO pre.length cO] := (Blk.grown bO3 hown3 hg4 (by omega)); have cO4 := bO4.cell (j := 0) rfl; have fO4 := bO4.frozen 0)
              | fail)
            go_roundw
            case rel =>
              have bR4 := Blk.grown bR3 hown3 hg4 (by omega)
              have hB4 := hB3.grown hg4 hB3.size (fun k hk => by have := (hown3.lt k hk).1; omega)
              refine ⟨q.extract 1 q.size, pre ++ [(byt nm, fs)], .slice A4 (pre.length + 1) c4, xs ++ [.string nm, .slice AF fs.length cF], rfl, ?_⟩
              refine ⟨?_, by rw [List.length_append, List.length_cons, List.length_nil]; omega, ?_, hB4.setCell (p := ⟨w.heap.size + 1, 0, none⟩) (by show w.heap.size ≤ w.heap.size + 1; omega) (.slice A4 (pre.length + 1) c4), bR4.other ⟨w.heap.size + 1, 0, none⟩ (.slice A4 (pre.length + 1) c4) (by show w.heap.size ≠ w.heap.size + 1; omega), bO4.set 0 (.slice A4 (pre.length + 1) c4), ?_, ?_, ?_⟩
              · rw [hexs]; omega
              · intro t ht
                rcases List.mem_append.1 ht with ht | ht
                · exact Htame.out t ht
                · simp at ht
                  subst ht
                  exact ⟨by unfold tame; show (byt nm).length ≤ _; rw [byt_length]; omega, HtameF.out⟩
              · rw [List.length_append]
                exact own_keep hown4 fun b hb => heap_setCell_other w4 ⟨w.heap.size + 1, 0, none⟩ b (.slice A4 (pre.length + 1) c4) (by have := (hown4.lt b hb).1; show b ≠ w.heap.size + 1; omega)
              · exact (Hch3.out.imp fun cs a h => rTyp_stays.to (Keeps.oth hg4 hv4) h).imp fun cs a h => rTyp_stays.to (S' := Oth (w.heap.size + 1 + 1) (.slice A4 (pre.length + 1) c4) (w4.setCell ⟨w.heap.size + 1, 0, none⟩ (.slice A4 (pre.length + 1) c4))) (fun b hb => ⟨⟨⟨hb.1.1, by have := hb.1.2; simpa using this⟩, hb.2⟩, heap_setCell_other w4 ⟨w.heap.size + 1, 0, none⟩ b (.slice A4 (pre.length + 1) c4) (by have := hb.1.1; show b ≠ w.heap.size + 1; omega)⟩) h
              · exact by rw [hex]; exact Hoi.out
            case measure =>
              show (q.extract 1 q.size).size < r.size; rw [hexs]; omega
          · have h125' : (((q[0]'h0lt).toNat : Int) != 125) = true := by rw [bne_iff_ne]; omega
            have cT1 := bT.cell (j := 1) rfl
            have cT0 := bT.cell (j := 0) rfl
            by_cases h5 : fs.length ≤ 5
            · have h5' : decide ((fs.length : Int) ≤ 5) = true := decide_eq_true (by omega)
              by_cases hcc : (q[1]'h1).toNat = 125 ∧ (q[0]'h0lt).toNat = 123
              · have hc1 : (((q[1]'h1).toNat : Int) == 125) = true := by rw [hcc.1]; rfl
                have hc0 : (((q[0]'h0lt).toNat : Int) == 123) = true := by rw [hcc.2]; rfl
                have Hn : Hid (RfAt wo (byt s) r.size pre nm (q.extract 1 q.size) fs (.slice AF fs.length cF) ys v0) := Lib.hid (by
                  refine ⟨by rw [hexs]; omega, hfs6, HtameF.out, hC, bT, hownF, HchF.out, ?_⟩
                  rw [hex]
                  have e1 : (byt q).drop 1 = 125 :: (byt q).drop 2 := by
                    have : (byt q).drop 1 = (byt q).getD 1 0 :: (byt q).drop 2 := by
                      rw [List.drop_eq_getElem_cons (by rw [byt_length]; exact h1), List.getD_eq_getElem?_getD, List.getElem?_eq_getElem (by rw [byt_length]; exact h1)]
                      rfl
                    rw [this]
                    rw [List.getD_eq_getElem?_getD, byt_get h1, hcc.1]; rfl
                  have := HI.out
                  rw [hsplit, hcc.2, e1] at this
                  rw [e1]
                  exact ii_none this)
                clear HI hsplit hd1 hex hcc hownF bT HchF HtameF hg0
                go_wp2
                go_roundw
                case rel => exact ⟨q.extract 1 q.size, fs, _, ys, rfl, Hn⟩
                case measure =>
                  show (q.extract 1 q.size).size < q.size
                  rw [hexs]; omega
              · by_cases hq1 : (q[1]'h1).toNat = 125
                · have hc1 : (((q[1]'h1).toNat : Int) == 125) = true := by rw [hq1]; rfl
                  have hc0 : (((q[0]'h0lt).toNat : Int) == 123) = false := by rw [beq_eq_false_iff_ne]; intro e; exact hcc ⟨hq1, by omega⟩
                  have h58 : byt ⟨#[58]⟩ = [58] := rfl
                  have h44 : byt ⟨#[44, 125]⟩ = [44, 125] := rfl
                  have U1 := Lib.hid (fun W => upto_any (q.extract 1 q.size) ⟨#[58]⟩ W (by rw [hexs]; simp only [maxLen]; omega) (by decide))
                  rw [h58, hex] at U1
                  have HSF : Hid (seenF ((byt q).drop 1) = ((uptoL [58] ((byt q).drop 1)).1, fieldK ((uptoL [44, 125] (uptoL [58] ((byt q).drop 1)).2).1.drop 1))) := Lib.hid rfl
                  have HSR : Hid (seenR ((byt q).drop 1) = (uptoL [44, 125] (uptoL [58] ((byt q).drop 1)).2).2) := Lib.hid rfl
                  have hul1 := uptoL_len [58] ((byt q).drop 1)
                  rw [List.length_drop, byt_length] at hul1
                  have HII := Lib.hid (ii_field (by have := HI.out; rwa [hsplit] at this) h125 (fun e => hcc ⟨by rw [← hd1]; exact e.2, e.1⟩))
                  clear HI hsplit hd1 hg0 hcc
                  go_wp2_with fail
                  refine (U1.out _).mono ?_
                  rintro e v1 ⟨fN, beh, rfl, hfN, hbeh, hE1⟩
                  have hfNs : fN.size ≤ q.size - 1 := by rw [← byt_length, hfN]; exact hul1.1
                  have hbehs : beh.size ≤ q.size - 1 := by rw [← byt_length, hbeh]; exact hul1.2
                  have U2 := Lib.hid (fun W => upto_any beh ⟨#[44, 125]⟩ W (by simp only [maxLen]; omega) (by decide))
                  rw [h44] at U2
                  have hul2 := uptoL_len [44, 125] (byt beh)
                  rw [byt_length] at hul2
                  rw [← hfN, ← hbeh] at HSF
                  rw [← hbeh] at HSR
                  clear U1 hul1 hfN hbeh h58 h44
                  go_wp2_with fail
                  refine (U2.out _).mono ?_
                  rintro e v2 ⟨kd, nx, rfl, hkd, hnx, hE2⟩
                  have hkds : kd.size ≤ beh.size := by rw [← byt_length, hkd]; exact hul2.1
                  have hnxs : nx.size ≤ beh.size := by rw [← byt_length, hnx]; exact hul2.2
                  rw [← hkd] at HSF
                  rw [← hnx] at HSR
                  clear U2 hul2 hkd hnx
                  have hE : Below v0.heap.size v0 v2 := hE1.trans (hE2.mono hE1.size)
                  have hDr : Below v2.heap.size v2 v2.drew := (Below.refl _ v2).drew
                  have hEd := hE.trans (hDr.mono hE.size)
                  have bTd := bT.to hEd
                  have hownd := own_below hownF hEd
                  have cTd := bTd.cell (j := 1) rfl
                  clear hE1 hE2 bT hownF hrdF cT0 cT1
                  by_cases hk0 : kd.size = 0
                  · have hk1 : decide ((0 : Int) < (kd.size : Int)) = false := decide_eq_false (by omega)
                    have hkb : byt kd = (byt kd).drop 1 := by rw [List.eq_nil_of_length_eq_zero (by rw [byt_length]; exact hk0 : (byt kd).length = 0)]; rfl
                    have TK := Lib.hid (fun W => rfldk_any fN kd W (by simp only [maxLen]; omega))
                    conv at TK => enter [1, W]; rw [hkb]
                    have hfs := fieldK_small ((byt kd).drop 1)
                    have HSF2 : Hid (seenF ((byt q).drop 1) = (byt fN, (fieldK ((byt kd).drop 1)).1, (fieldK ((byt kd).drop 1)).2)) := Lib.hid HSF.out
                    clear HSF hkb
                    generalize fieldK ((byt kd).drop 1) = FK at *
                    obtain ⟨K1, K2⟩ := FK
                    have hwf : (Lit.int .i64 K1).wf = true := by
                      have h1 := hfs.1
                      have h2 := hfs.2.1
                      simp only at h1 h2
                      simp [Lit.wf, IntKind.min, IntKind.max, IntKind.signed, IntKind.bits]
                      omega
                    have hK2 : K2.length ≤ kd.size := by have := hfs.2.2; rw [List.length_drop, byt_length] at this; simp only at this; omega
                    clear hfs
                    go_wp2_with fail
                    refine scl_start 8 [(0, true), (1, true), (2, true), (3, true), (4, false), (5, false), (6, false), (7, true), (8, false)]
                      (fun W => W.cell? ⟨wo.heap.size, 1, none⟩ = some (.slice AF fs.length cF)) (by kernel_rfl) rfl (by kernel_rfl) (fun _ _ _ _ _ h => h) cTd (fun hH => ?_)
                    generalize v2.drew = vd at *
                    repeat (first | (refine scl_yes (v := ?_) rfl rfl ?_ hH ?_; rotate_left; (focus ((intro W hW; go_simp) <;> with_reducible rfl)); simp only [Act.put, List.setIfInBounds_toArray, List.set_cons_zero, List.set_cons_succ]) | (refine scl_no rfl rfl hH ?_; simp only [Act.put, List.setIfInBounds_toArray, List.set_cons_zero, List.set_cons_succ]))
                    refine scl_call rfl rfl (fun K hK => ?_)
                    go_wp2_with (go_at_call 26; refine (TK.out _).mono ?_; rintro e v3 ⟨y, rfl, hy, hE3⟩)
                    have hEv3 := hEd.trans (hE3.mono hEd.size)
                    have bT3 := bTd.to hE3
                    have hown3 := own_below hownd hE3
                    refine hK.out _ _ (fun _ => bT3.cell (j := 1) rfl) ?_
                    clear hK hH
                    have hA : Below v3.heap.size v3 (v3.alloc (.cells #[.string fN, .int .i64 K1, .string y] 40)) := (Below.refl _ v3).alloc (Nat.le_refl _) _
                    have hbx : Rd (v3.alloc (.cells #[.string fN, .int .i64 K1, .string y] 40)) (some ⟨v3.heap.size, 0, none⟩) [.string fN, .int .i64 K1, .string y] := (Blk.new v3 40 [.string fN, .int .i64 K1, .string y]).rd
                    have bT4 := bT3.to hA
                    have hown4 := own_below hown3 hA
                    have hEv4 := hEv3.trans (hA.mono hEv3.size)
                    have hsz4 : wo.heap.size + 1 ≤ (v3.alloc (.cells #[.string fN, .int .i64 K1, .string y] 40)).heap.size := bT4.lt
                    refine scl_call rfl rfl (fun K hK => ?_)
                    go_wp2
                    refine hK.out _ _ (fun _ => bT4.cell (j := 1) rfl) ?_
                    clear hK
                    generalize v3.alloc (.cells #[.string fN, .int .i64 K1, .string y] 40) = v4 at *
                    refine scl_call rfl rfl (fun K hK => ?_)
                    refine wp_apps (.tmp 74) (.tmp 78) 32 rfl (wo.heap.size + 1) 40 j0 (.agg #[.string ⟨#[]⟩, .int .i64 0, .string ⟨#[]⟩]) 3 40 Tryd.underlying32 hj hy0 hy1 hy2 rfl (by omega) (.slice AF fs.length cF) fs.length ys rfl hown4 (some ⟨v3.heap.size, 0, none⟩) 1 1 [.string fN, .int .i64 K1, .string y] rfl rfl hbx (by simp [Value.oneCell']) (by simp only [maxLen]; omega) (by omega) hsz4 ?_
                    intro v5 w5 hown5 hg5 hv5
                    obtain ⟨A5, c5, hv5e, -⟩ := own_in hown5
                    subst hv5e
                    have bT5 := Blk.grown bT4 hown4 hg5 (Nat.lt_succ_self _)
                    have cT5 := bT5.cell (j := 1) rfl
                    have fT5 := bT5.frozen 1
                    have hH := cT5
                    refine hK.out _ _ (fun _ => cT5) ?_
                    clear hK
                    repeat (first | (refine scl_yes (v := ?_) rfl rfl ?_ hH ?_; rotate_left; (focus ((intro W hW; go_simp) <;> with_reducible rfl)); simp only [Act.put, List.setIfInBounds_toArray, List.set_cons_zero, List.set_cons_succ]) | (refine scl_no rfl rfl hH ?_; simp only [Act.put, List.setIfInBounds_toArray, List.set_cons_zero, List.set_cons_succ]))
                    refine scl_call rfl rfl (fun K hK => ?_)
                    go_wp2
                    refine hK.out _ _ (fun e => absurd rfl e) ?_
                    clear hK hH
                    refine scl_done ?_
                    have hlo4 := hown4.lt
                    have hsz0 : wo.heap.size ≤ v0.heap.size := by have := hC.size; omega
                    have Hn : Hid (RfAt wo (byt s) r.size pre nm nx (fs ++ [seenF ((byt q).drop 1)]) (.slice A5 (fs.length + 1) c5) (ys ++ [.string fN, .int .i64 K1, .string y]) (w5.setCell ⟨wo.heap.size, 1, none⟩ (.slice A5 (fs.length + 1) c5))) := Lib.hid (by
                      refine ⟨by omega, by rw [List.length_append, List.length_cons, List.length_nil]; omega, ?_, ?_, bT5.set 1 (.slice A5 (fs.length + 1) c5), ?_, ?_, by rw [← HSR.out]; exact HII.out⟩
                      · intro f hf
                        rcases List.mem_append.1 hf with hf | hf
                        · exact HtameF.out f hf
                        · rw [List.mem_singleton] at hf
                          subst hf
                          rw [HSF2.out]
                          unfold tame
                          show (byt fN).length ≤ _
                          rw [byt_length]; omega
                      · have h1 := hC.trans (hEv4.mono hC.size)
                        exact (h1.grown hg5 h1.size (fun k hk => by have := (hlo4 k hk).1; omega)).setCell (p := ⟨wo.heap.size, 1, none⟩) (Nat.le_refl _) _
                      · rw [List.length_append]
                        exact own_keep hown5 fun b hb => heap_setCell_other w5 ⟨wo.heap.size, 1, none⟩ b (.slice A5 (fs.length + 1) c5) (by have := (hown5.lt b hb).1; show b ≠ wo.heap.size; omega)
                      · refine HchF.out.append ?_
                        rw [HSF2.out]
                        exact Chunks.one (size := 3) rfl (rFld_mk (f := (byt fN, K1, K2)) rfl hy (by simp only [maxLen]; omega) (by rw [← byt_length, hy]; show K2.length ≤ _; simp only [maxLen]; omega) hwf))
                    clear HSR HII HSF2 HchF HtameF hown5 hg5 hv5 hbx hown4 bT4 hown3 bT3 hlo4
                    go_wp2
                    go_roundw
                    case rel => exact ⟨nx, _, _, _, rfl, Hn⟩
                    case measure =>
                      show nx.size < q.size
                      omega
                  · have hk1 : decide ((0 : Int) < (kd.size : Int)) = true := decide_eq_true (by omega)
                    have hk2 : (1 : Int) ≤ (kd.size : Int) := by omega
                    have hkb : byt (kd.extract 1 kd.size) = (byt kd).drop 1 := by rw [byt_extract, List.take_of_length_le (by simp)]
                    have hkx : (kd.extract 1 kd.size).size = kd.size - 1 := by simp
                    have TK := Lib.hid (fun W => rfldk_any fN (kd.extract 1 kd.size) W (by rw [hkx]; simp only [maxLen]; omega))
                    rw [hkb] at TK
                    have hfs := fieldK_small ((byt kd).drop 1)
                    have HSF2 : Hid (seenF ((byt q).drop 1) = (byt fN, (fieldK ((byt kd).drop 1)).1, (fieldK ((byt kd).drop 1)).2)) := Lib.hid HSF.out
                    clear HSF hkb
                    generalize fieldK ((byt kd).drop 1) = FK at *
                    obtain ⟨K1, K2⟩ := FK
                    have hwf : (Lit.int .i64 K1).wf = true := by
                      have h1 := hfs.1
                      have h2 := hfs.2.1
                      simp only at h1 h2
                      simp [Lit.wf, IntKind.min, IntKind.max, IntKind.signed, IntKind.bits]
                      omega
                    have hK2 : K2.length ≤ kd.size := by have := hfs.2.2; rw [List.length_drop, byt_length] at this; simp only at this; omega
                    clear hfs
                    go_wp2_with fail
                    refine scl_start 8 [(0, true), (1, true), (2, true), (3, true), (4, false), (5, false), (6, false), (7, true), (8, false)]
                      (fun W => W.cell? ⟨wo.heap.size, 1, none⟩ = some (.slice AF fs.length cF)) (by kernel_rfl) rfl (by kernel_rfl) (fun _ _ _ _ _ h => h) cTd (fun hH => ?_)
                    generalize v2.drew = vd at *
                    repeat (first | (refine scl_yes (v := ?_) rfl rfl ?_ hH ?_; rotate_left; (focus ((intro W hW; go_simp) <;> with_reducible rfl)); simp only [Act.put, List.setIfInBounds_toArray, List.set_cons_zero, List.set_cons_succ]) | (refine scl_no rfl rfl hH ?_; simp only [Act.put, List.setIfInBounds_toArray, List.set_cons_zero, List.set_cons_succ]))
                    refine scl_call rfl rfl (fun K hK => ?_)
                    go_wp2_with (go_at_call 26; refine (TK.out _).mono ?_; rintro e v3 ⟨y, rfl, hy, hE3⟩)
                    have hEv3 := hEd.trans (hE3.mono hEd.size)
                    have bT3 := bTd.to hE3
                    have hown3 := own_below hownd hE3
                    refine hK.out _ _ (fun _ => bT3.cell (j := 1) rfl) ?_
                    clear hK hH
                    have hA : Below v3.heap.size v3 (v3.alloc (.cells #[.string fN, .int .i64 K1, .string y] 40)) := (Below.refl _ v3).alloc (Nat.le_refl _) _
                    have hbx : Rd (v3.alloc (.cells #[.string fN, .int .i64 K1, .string y] 40)) (some ⟨v3.heap.size, 0, none⟩) [.string fN, .int .i64 K1, .string y] := (Blk.new v3 40 [.string fN, .int .i64 K1, .string y]).rd
                    have bT4 := bT3.to hA
                    have hown4 := own_below hown3 hA
                    have hEv4 := hEv3.trans (hA.mono hEv3.size)
                    have hsz4 : wo.heap.size + 1 ≤ (v3.alloc (.cells #[.string fN, .int .i64 K1, .string y] 40)).heap.size := bT4.lt
                    refine scl_call rfl rfl (fun K hK => ?_)
                    go_wp2
                    refine hK.out _ _ (fun _ => bT4.cell (j := 1) rfl) ?_
                    clear hK
                    generalize v3.alloc (.cells #[.string fN, .int .i64 K1, .string y] 40) = v4 at *
                    refine scl_call rfl rfl (fun K hK => ?_)
                    refine wp_apps (.tmp 74) (.tmp 78) 32 rfl (wo.heap.size + 1) 40 j0 (.agg #[.string ⟨#[]⟩, .int .i64 0, .string ⟨#[]⟩]) 3 40 Tryd.underlying32 hj hy0 hy1 hy2 rfl (by omega) (.slice AF fs.length cF) fs.length ys rfl hown4 (some ⟨v3.heap.size, 0, none⟩) 1 1 [.string fN, .int .i64 K1, .string y] rfl rfl hbx (by simp [Value.oneCell']) (by simp only [maxLen]; omega) (by omega) hsz4 ?_
                    intro v5 w5 hown5 hg5 hv5
                    obtain ⟨A5, c5, hv5e, -⟩ := own_in hown5
                    subst hv5e
                    have bT5 := Blk.grown bT4 hown4 hg5 (Nat.lt_succ_self _)
                    have cT5 := bT5.cell (j := 1) rfl
                    have fT5 := bT5.frozen 1
                    have hH := cT5
                    refine hK.out _ _ (fun _ => cT5) ?_
                    clear hK
                    repeat (first | (refine scl_yes (v := ?_) rfl rfl ?_ hH ?_; rotate_left; (focus ((intro W hW; go_simp) <;> with_reducible rfl)); simp only [Act.put, List.setIfInBounds_toArray, List.set_cons_zero, List.set_cons_succ]) | (refine scl_no rfl rfl hH ?_; simp only [Act.put, List.setIfInBounds_toArray, List.set_cons_zero, List.set_cons_succ]))
                    refine scl_call rfl rfl (fun K hK => ?_)
                    go_wp2
                    refine hK.out _ _ (fun e => absurd rfl e) ?_
                    clear hK hH
                    refine scl_done ?_
                    have hlo4 := hown4.lt
                    have hsz0 : wo.heap.size ≤ v0.heap.size := by have := hC.size; omega
                    have Hn : Hid (RfAt wo (byt s) r.size pre nm nx (fs ++ [seenF ((byt q).drop 1)]) (.slice A5 (fs.length + 1) c5) (ys ++ [.string fN, .int .i64 K1, .string y]) (w5.setCell ⟨wo.heap.size, 1, none⟩ (.slice A5 (fs.length + 1) c5))) := Lib.hid (by
                      refine ⟨by omega, by rw [List.length_append, List.length_cons, List.length_nil]; omega, ?_, ?_, bT5.set 1 (.slice A5 (fs.length + 1) c5), ?_, ?_, by rw [← HSR.out]; exact HII.out⟩
                      · intro f hf
                        rcases List.mem_append.1 hf with hf | hf
                        · exact HtameF.out f hf
                        · rw [List.mem_singleton] at hf
                          subst hf
                          rw [HSF2.out]
                          unfold tame
                          show (byt fN).length ≤ _
                          rw [byt_length]; omega
                      · have h1 := hC.trans (hEv4.mono hC.size)
                        exact (h1.grown hg5 h1.size (fun k hk => by have := (hlo4 k hk).1; omega)).setCell (p := ⟨wo.heap.size, 1, none⟩) (Nat.le_refl _) _
                      · rw [List.length_append]
                        exact own_keep hown5 fun b hb => heap_setCell_other w5 ⟨wo.heap.size, 1, none⟩ b (.slice A5 (fs.length + 1) c5) (by have := (hown5.lt b hb).1; show b ≠ wo.heap.size; omega)
                      · refine HchF.out.append ?_
                        rw [HSF2.out]
                        exact Chunks.one (size := 3) rfl (rFld_mk (f := (byt fN, K1, K2)) rfl hy (by simp only [maxLen]; omega) (by rw [← byt_length, hy]; show K2.length ≤ _; simp only [maxLen]; omega) hwf))
                    clear HSR HII HSF2 HchF HtameF hown5 hg5 hv5 hbx hown4 bT4 hown3 bT3 hlo4
                    go_wp2
                    go_roundw
                    case rel => exact ⟨nx, _, _, _, rfl, Hn⟩
                    case measure =>
                      show nx.size < q.size
                      omega
                · have hc1 : (((q[1]'h1).toNat : Int) == 125) = false := by rw [beq_eq_false_iff_ne]; omega
                  have h58 : byt ⟨#[58]⟩ = [58] := rfl
                  have h44 : byt ⟨#[44, 125]⟩ = [44, 125] := rfl
                  have U1 := Lib.hid (fun W => upto_any (q.extract 1 q.size) ⟨#[58]⟩ W (by rw [hexs]; simp only [maxLen]; omega) (by decide))
                  rw [h58, hex] at U1
                  have HSF : Hid (seenF ((byt q).drop 1) = ((uptoL [58] ((byt q).drop 1)).1, fieldK ((uptoL [44, 125] (uptoL [58] ((byt q).drop 1)).2).1.drop 1))) := Lib.hid rfl
                  have HSR : Hid (seenR ((byt q).drop 1) = (uptoL [44, 125] (uptoL [58] ((byt q).drop 1)).2).2) := Lib.hid rfl
                  have hul1 := uptoL_len [58] ((byt q).drop 1)
                  rw [List.length_drop, byt_length] at hul1
                  have HII := Lib.hid (ii_field (by have := HI.out; rwa [hsplit] at this) h125 (fun e => hcc ⟨by rw [← hd1]; exact e.2, e.1⟩))
                  clear HI hsplit hd1 hg0 hcc
                  go_wp2_with fail
                  refine (U1.out _).mono ?_
                  rintro e v1 ⟨fN, beh, rfl, hfN, hbeh, hE1⟩
                  have hfNs : fN.size ≤ q.size - 1 := by rw [← byt_length, hfN]; exact hul1.1
                  have hbehs : beh.size ≤ q.size - 1 := by rw [← byt_length, hbeh]; exact hul1.2
                  have U2 := Lib.hid (fun W => upto_any beh ⟨#[44, 125]⟩ W (by simp only [maxLen]; omega) (by decide))
                  rw [h44] at U2
                  have hul2 := uptoL_len [44, 125] (byt beh)
                  rw [byt_length] at hul2
                  rw [← hfN, ← hbeh] at HSF
                  rw [← hbeh] at HSR
                  clear U1 hul1 hfN hbeh h58 h44
                  go_wp2_with fail
                  refine (U2.out _).mono ?_
                  rintro e v2 ⟨kd, nx, rfl, hkd, hnx, hE2⟩
                  have hkds : kd.size ≤ beh.size := by rw [← byt_length, hkd]; exact hul2.1
                  have hnxs : nx.size ≤ beh.size := by rw [← byt_length, hnx]; exact hul2.2
                  rw [← hkd] at HSF
                  rw [← hnx] at HSR
                  clear U2 hul2 hkd hnx
                  have hE : Below v0.heap.size v0 v2 := hE1.trans (hE2.mono hE1.size)
                  have hDr : Below v2.heap.size v2 v2.drew := (Below.refl _ v2).drew
                  have hEd := hE.trans (hDr.mono hE.size)
                  have bTd := bT.to hEd
                  have hownd := own_below hownF hEd
                  have cTd := bTd.cell (j := 1) rfl
                  clear hE1 hE2 bT hownF hrdF cT0 cT1
                  by_cases hk0 : kd.size = 0
                  · have hk1 : decide ((0 : Int) < (kd.size : Int)) = false := decide_eq_false (by omega)
                    have hkb : byt kd = (byt kd).drop 1 := by rw [List.eq_nil_of_length_eq_zero (by rw [byt_length]; exact hk0 : (byt kd).length = 0)]; rfl
                    have TK := Lib.hid (fun W => rfldk_any fN kd W (by simp only [maxLen]; omega))
                    conv at TK => enter [1, W]; rw [hkb]
                    have hfs := fieldK_small ((byt kd).drop 1)
                    have HSF2 : Hid (seenF ((byt q).drop 1) = (byt fN, (fieldK ((byt kd).drop 1)).1, (fieldK ((byt kd).drop 1)).2)) := Lib.hid HSF.out
                    clear HSF hkb
                    generalize fieldK ((byt kd).drop 1) = FK at *
                    obtain ⟨K1, K2⟩ := FK
                    have hwf : (Lit.int .i64 K1).wf = true := by
                      have h1 := hfs.1
                      have h2 := hfs.2.1
                      simp only at h1 h2
                      simp [Lit.wf, IntKind.min, IntKind.max, IntKind.signed, IntKind.bits]
                      omega
                    have hK2 : K2.length ≤ kd.size := by have := hfs.2.2; rw [List.length_drop, byt_length] at this; simp only at this; omega
                    clear hfs
                    go_wp2_with fail
                    refine scl_start 8 [(0, true), (1, true), (2, true), (3, true), (4, false), (5, false), (6, false), (7, true), (8, false)]
                      (fun W => W.cell? ⟨wo.heap.size, 1, none⟩ = some (.slice AF fs.length cF)) (by kernel_rfl) rfl (by kernel_rfl) (fun _ _ _ _ _ h => h) cTd (fun hH => ?_)
                    generalize v2.drew = vd at *
                    repeat (first | (refine scl_yes (v := ?_) rfl rfl ?_ hH ?_; rotate_left; (focus ((intro W hW; go_simp) <;> with_reducible rfl)); simp only [Act.put, List.setIfInBounds_toArray, List.set_cons_zero, List.set_cons_succ]) | (refine scl_no rfl rfl hH ?_; simp only [Act.put, List.setIfInBounds_toArray, List.set_cons_zero, List.set_cons_succ]))
                    refine scl_call rfl rfl (fun K hK => ?_)
                    go_wp2_with (go_at_call 26; refine (TK.out _).mono ?_; rintro e v3 ⟨y, rfl, hy, hE3⟩)
                    have hEv3 := hEd.trans (hE3.mono hEd.size)
                    have bT3 := bTd.to hE3
                    have hown3 := own_below hownd hE3
                    refine hK.out _ _ (fun _ => bT3.cell (j := 1) rfl) ?_
                    clear hK hH
                    have hA : Below v3.heap.size v3 (v3.alloc (.cells #[.string fN, .int .i64 K1, .string y] 40)) := (Below.refl _ v3).alloc (Nat.le_refl _) _
                    have hbx : Rd (v3.alloc (.cells #[.string fN, .int .i64 K1, .string y] 40)) (some ⟨v3.heap.size, 0, none⟩) [.string fN, .int .i64 K1, .string y] := (Blk.new v3 40 [.string fN, .int .i64 K1, .string y]).rd
                    have bT4 := bT3.to hA
                    have hown4 := own_below hown3 hA
                    have hEv4 := hEv3.trans (hA.mono hEv3.size)
                    have hsz4 : wo.heap.size + 1 ≤ (v3.alloc (.cells #[.string fN, .int .i64 K1, .string y] 40)).heap.size := bT4.lt
                    refine scl_call rfl rfl (fun K hK => ?_)
                    go_wp2
                    refine hK.out _ _ (fun _ => bT4.cell (j := 1) rfl) ?_
                    clear hK
                    generalize v3.alloc (.cells #[.string fN, .int .i64 K1, .string y] 40) = v4 at *
                    refine scl_call rfl rfl (fun K hK => ?_)
                    refine wp_apps (.tmp 74) (.tmp 78) 32 rfl (wo.heap.size + 1) 40 j0 (.agg #[.string ⟨#[]⟩, .int .i64 0, .string ⟨#[]⟩]) 3 40 Tryd.underlying32 hj hy0 hy1 hy2 rfl (by omega) (.slice AF fs.length cF) fs.length ys rfl hown4 (some ⟨v3.heap.size, 0, none⟩) 1 1 [.string fN, .int .i64 K1, .string y] rfl rfl hbx (by simp [Value.oneCell']) (by simp only [maxLen]; omega) (by omega) hsz4 ?_
                    intro v5 w5 hown5 hg5 hv5
                    obtain ⟨A5, c5, hv5e, -⟩ := own_in hown5
                    subst hv5e
                    have bT5 := Blk.grown bT4 hown4 hg5 (Nat.lt_succ_self _)
                    have cT5 := bT5.cell (j := 1) rfl
                    have fT5 := bT5.frozen 1
                    have hH := cT5
                    refine hK.out _ _ (fun _ => cT5) ?_
                    clear hK
                    repeat (first | (refine scl_yes (v := ?_) rfl rfl ?_ hH ?_; rotate_left; (focus ((intro W hW; go_simp) <;> with_reducible rfl)); simp only [Act.put, List.setIfInBounds_toArray, List.set_cons_zero, List.set_cons_succ]) | (refine scl_no rfl rfl hH ?_; simp only [Act.put, List.setIfInBounds_toArray, List.set_cons_zero, List.set_cons_succ]))
                    refine scl_call rfl rfl (fun K hK => ?_)
                    go_wp2
                    refine hK.out _ _ (fun e => absurd rfl e) ?_
                    clear hK hH
                    refine scl_done ?_
                    have hlo4 := hown4.lt
                    have hsz0 : wo.heap.size ≤ v0.heap.size := by have := hC.size; omega
                    have Hn : Hid (RfAt wo (byt s) r.size pre nm nx (fs ++ [seenF ((byt q).drop 1)]) (.slice A5 (fs.length + 1) c5) (ys ++ [.string fN, .int .i64 K1, .string y]) (w5.setCell ⟨wo.heap.size, 1, none⟩ (.slice A5 (fs.length + 1) c5))) := Lib.hid (by
                      refine ⟨by omega, by rw [List.length_append, List.length_cons, List.length_nil]; omega, ?_, ?_, bT5.set 1 (.slice A5 (fs.length + 1) c5), ?_, ?_, by rw [← HSR.out]; exact HII.out⟩
                      · intro f hf
                        rcases List.mem_append.1 hf with hf | hf
                        · exact HtameF.out f hf
                        · rw [List.mem_singleton] at hf
                          subst hf
                          rw [HSF2.out]
                          unfold tame
                          show (byt fN).length ≤ _
                          rw [byt_length]; omega
                      · have h1 := hC.trans (hEv4.mono hC.size)
                        exact (h1.grown hg5 h1.size (fun k hk => by have := (hlo4 k hk).1; omega)).setCell (p := ⟨wo.heap.size, 1, none⟩) (Nat.le_refl _) _
                      · rw [List.length_append]
                        exact own_keep hown5 fun b hb => heap_setCell_other w5 ⟨wo.heap.size, 1, none⟩ b (.slice A5 (fs.length + 1) c5) (by have := (hown5.lt b hb).1; show b ≠ wo.heap.size; omega)
                      · refine HchF.out.append ?_
                        rw [HSF2.out]
                        exact Chunks.one (size := 3) rfl (rFld_mk (f := (byt fN, K1, K2)) rfl hy (by simp only [maxLen]; omega) (by rw [← byt_length, hy]; show K2.length ≤ _; simp only [maxLen]; omega) hwf))
                    clear HSR HII HSF2 HchF HtameF hown5 hg5 hv5 hbx hown4 bT4 hown3 bT3 hlo4
                    go_wp2
                    go_roundw
                    case rel => exact ⟨nx, _, _, _, rfl, Hn⟩
                    case measure =>
                      show nx.size < q.size
                      omega
                  · have hk1 : decide ((0 : Int) < (kd.size : Int)) = true := decide_eq_true (by omega)
                    have hk2 : (1 : Int) ≤ (kd.size : Int) := by omega
                    have hkb : byt (kd.extract 1 kd.size) = (byt kd).drop 1 := by rw [byt_extract, List.take_of_length_le (by simp)]
                    have hkx : (kd.extract 1 kd.size).size = kd.size - 1 := by simp
                    have TK := Lib.hid (fun W => rfldk_any fN (kd.extract 1 kd.size) W (by rw [hkx]; simp only [maxLen]; omega))
                    rw [hkb] at TK
                    have hfs := fieldK_small ((byt kd).drop 1)
                    have HSF2 : Hid (seenF ((byt q).drop 1) = (byt fN, (fieldK ((byt kd).drop 1)).1, (fieldK ((byt kd).drop 1)).2)) := Lib.hid HSF.out
                    clear HSF hkb
                    generalize fieldK ((byt kd).drop 1) = FK at *
                    obtain ⟨K1, K2⟩ := FK
                    have hwf : (Lit.int .i64 K1).wf = true := by
                      have h1 := hfs.1
                      have h2 := hfs.2.1
                      simp only at h1 h2
                      simp [Lit.wf, IntKind.min, IntKind.max, IntKind.signed, IntKind.bits]
                      omega
                    have hK2 : K2.length ≤ kd.size := by have := hfs.2.2; rw [List.length_drop, byt_length] at this; simp only at this; omega
                    clear hfs
                    go_wp2_with fail
                    refine scl_start 8 [(0, true), (1, true), (2, true), (3, true), (4, false), (5, false), (6, false), (7, true), (8, false)]
                      (fun W => W.cell? ⟨wo.heap.size, 1, none⟩ = some (.slice AF fs.length cF)) (by kernel_rfl) rfl (by kernel_rfl) (fun _ _ _ _ _ h => h) cTd (fun hH => ?_)
                    generalize v2.drew = vd at *
                    repeat (first | (refine scl_yes (v := ?_) rfl rfl ?_ hH ?_; rotate_left; (focus ((intro W hW; go_simp) <;> with_reducible rfl)); simp only [Act.put, List.setIfInBounds_toArray, List.set_cons_zero, List.set_cons_succ]) | (refine scl_no rfl rfl hH ?_; simp only [Act.put, List.setIfInBounds_toArray, List.set_cons_zero, List.set_cons_succ]))
                    refine scl_call rfl rfl (fun K hK => ?_)
                    go_wp2_with (go_at_call 26; refine (TK.out _).mono ?_; rintro e v3 ⟨y, rfl, hy, hE3⟩)
                    have hEv3 := hEd.trans (hE3.mono hEd.size)
                    have bT3 := bTd.to hE3
                    have hown3 := own_below hownd hE3
                    refine hK.out _ _ (fun _ => bT3.cell (j := 1) rfl) ?_
                    clear hK hH
                    have hA : Below v3.heap.size v3 (v3.alloc (.cells #[.string fN, .int .i64 K1, .string y] 40)) := (Below.refl _ v3).alloc (Nat.le_refl _) _
                    have hbx : Rd (v3.alloc (.cells #[.string fN, .int .i64 K1, .string y] 40)) (some ⟨v3.heap.size, 0, none⟩) [.string fN, .int .i64 K1, .string y] := (Blk.new v3 40 [.string fN, .int .i64 K1, .string y]).rd
                    have bT4 := bT3.to hA
                    have hown4 := own_below hown3 hA
                    have hEv4 := hEv3.trans (hA.mono hEv3.size)
                    have hsz4 : wo.heap.size + 1 ≤ (v3.alloc (.cells #[.string fN, .int .i64 K1, .string y] 40)).heap.size := bT4.lt
                    refine scl_call rfl rfl (fun K hK => ?_)
                    go_wp2
                    refine hK.out _ _ (fun _ => bT4.cell (j := 1) rfl) ?_
                    clear hK
                    generalize v3.alloc (.cells #[.string fN, .int .i64 K1, .string y] 40) = v4 at *
                    refine scl_call rfl rfl (fun K hK => ?_)
                    refine wp_apps (.tmp 74) (.tmp 78) 32 rfl (wo.heap.size + 1) 40 j0 (.agg #[.string ⟨#[]⟩, .int .i64 0, .string ⟨#[]⟩]) 3 40 Tryd.underlying32 hj hy0 hy1 hy2 rfl (by omega) (.slice AF fs.length cF) fs.length ys rfl hown4 (some ⟨v3.heap.size, 0, none⟩) 1 1 [.string fN, .int .i64 K1, .string y] rfl rfl hbx (by simp [Value.oneCell']) (by simp only [maxLen]; omega) (by omega) hsz4 ?_
                    intro v5 w5 hown5 hg5 hv5
                    obtain ⟨A5, c5, hv5e, -⟩ := own_in hown5
                    subst hv5e
                    have bT5 := Blk.grown bT4 hown4 hg5 (Nat.lt_succ_self _)
                    have cT5 := bT5.cell (j := 1) rfl
                    have fT5 := bT5.frozen 1
                    have hH := cT5
                    refine hK.out _ _ (fun _ => cT5) ?_
                    clear hK
                    repeat (first | (refine scl_yes (v := ?_) rfl rfl ?_ hH ?_; rotate_left; (focus ((intro W hW; go_simp) <;> with_reducible rfl)); simp only [Act.put, List.setIfInBounds_toArray, List.set_cons_zero, List.set_cons_succ]) | (refine scl_no rfl rfl hH ?_; simp only [Act.put, List.setIfInBounds_toArray, List.set_cons_zero, List.set_cons_succ]))
                    refine scl_call rfl rfl (fun K hK => ?_)
                    go_wp2
                    refine hK.out _ _ (fun e => absurd rfl e) ?_
                    clear hK hH
                    refine scl_done ?_
                    have hlo4 := hown4.lt
                    have hsz0 : wo.heap.size ≤ v0.heap.size := by have := hC.size; omega
                    have Hn : Hid (RfAt wo (byt s) r.size pre nm nx (fs ++ [seenF ((byt q).drop 1)]) (.slice A5 (fs.length + 1) c5) (ys ++ [.string fN, .int .i64 K1, .string y]) (w5.setCell ⟨wo.heap.size, 1, none⟩ (.slice A5 (fs.length + 1) c5))) := Lib.hid (by
                      refine ⟨by omega, by rw [List.length_append, List.length_cons, List.length_nil]; omega, ?_, ?_, bT5.set 1 (.slice A5 (fs.length + 1) c5), ?_, ?_, by rw [← HSR.out]; exact HII.out⟩
                      · intro f hf
                        rcases List.mem_append.1 hf with hf | hf
                        · exact HtameF.out f hf
                        · rw [List.mem_singleton] at hf
                          subst hf
                          rw [HSF2.out]
                          unfold tame
                          show (byt fN).length ≤ _
                          rw [byt_length]; omega
                      · have h1 := hC.trans (hEv4.mono hC.size)
                        exact (h1.grown hg5 h1.size (fun k hk => by have := (hlo4 k hk).1; omega)).setCell (p := ⟨wo.heap.size, 1, none⟩) (Nat.le_refl _) _
                      · rw [List.length_append]
                        exact own_keep hown5 fun b hb => heap_setCell_other w5 ⟨wo.heap.size, 1, none⟩ b (.slice A5 (fs.length + 1) c5) (by have := (hown5.lt b hb).1; show b ≠ wo.heap.size; omega)
                      · refine HchF.out.append ?_
                        rw [HSF2.out]
                        exact Chunks.one (size := 3) rfl (rFld_mk (f := (byt fN, K1, K2)) rfl hy (by simp only [maxLen]; omega) (by rw [← byt_length, hy]; show K2.length ≤ _; simp only [maxLen]; omega) hwf))
                    clear HSR HII HSF2 HchF HtameF hown5 hg5 hv5 hbx hown4 bT4 hown3 bT3 hlo4
                    go_wp2
                    go_roundw
                    case rel => exact ⟨nx, _, _, _, rfl, Hn⟩
                    case measure =>
                      show nx.size < q.size
                      omega
            · have h5' : decide ((fs.length : Int) ≤ 5) = false := decide_eq_false (by omega)
              have bTc0 := bT.cell (j := 0) rfl
              have bTc1 := bT.cell (j := 1) rfl
              have hBW := hBo.trans (hC.mono hBo.size)
              have hOlt := bO.lt
              have bO2 := bO.to hC
              have bR2 := bR.to hC
              have cO2 := bO2.cell (j := 0) rfl
              have fO2 := bO2.frozen 0
              have hltO := hownO.lt
              have hownO2 := own_below hownO hC
              have hA : Below v0.heap.size v0 (v0.alloc (.cells #[.string nm, .slice AF fs.length cF] 34)) := (Below.refl _ v0).alloc (Nat.le_refl _) _
              have hbx : Rd (v0.alloc (.cells #[.string nm, .slice AF fs.length cF] 34)) (some ⟨v0.heap.size, 0, none⟩) [.string nm, .slice AF fs.length cF] := (Blk.new v0 34 [.string nm, .slice AF fs.length cF]).rd
              have hown3 := own_below hownO2 hA
              have hB3 := hBW.trans (hA.mono hBW.size)
              have hsz3 : w.heap.size + 1 + 1 ≤ (v0.alloc (.cells #[.string nm, .slice AF fs.length cF] 34)).heap.size := by
                have h1 := hC.size
                have h2 := hA.size
                omega
              have bO3 := bO2.to hA
              have bR3 := bR2.to hA
              have hsizes : wo.heap.size + 1 ≤ v0.heap.size := bT.lt
              have hkn : Keeps (fun b => wo.heap.size + 1 ≤ b ∧ b < v0.heap.size) (Oth (w.heap.size + 1 + 1) (.slice AO pre.length cO) (v0.alloc (.cells #[.string nm, .slice AF fs.length cF] 34))) v0 _ := fun b ⟨h1, h2⟩ =>
                ⟨⟨⟨by omega, Nat.lt_of_lt_of_le h2 hA.size⟩, fun e => by have := (hltO b e.symm).2; omega⟩, hA.block b h2⟩
              have hko : Keeps (Oth (w.heap.size + 1 + 1) (.slice AO pre.length cO) wo) (Oth (w.heap.size + 1 + 1) (.slice AO pre.length cO) (v0.alloc (.cells #[.string nm, .slice AF fs.length cF] 34))) wo _ := fun b ⟨⟨h1, h2⟩, h3⟩ =>
                ⟨⟨⟨h1, by have := hC.size; have := hA.size; omega⟩, h3⟩, (hA.block b (by have := hC.size; omega)).trans (hC.block b h2)⟩
              have Hch3 := Lib.hid ((HchO.out.imp (fun cs a h => rTyp_stays.to hko h)).append (Chunks.one (size := 2) rfl (rTyp_mk (t := (byt nm, fs)) rfl (by simp only [maxLen]; omega) (rFlds_stays.to hkn (cs := [.slice AF fs.length cF]) ⟨AF, cF, ys, rfl, hnF, hmF, hrdF, HchF.out.imp fun cs a h => rFld_free h⟩))))
              have Hoi := Lib.hid (ii_end HI.out (.inr (.inr (by omega))))
              clear hkn hko HchO HchF hA hownO2 hownO hltO hownF hrdF HI hC hBo bO bR bT
              go_wp2_with (first
                | (at_builtin; refine wpList_apps rfl (.tmp 87) (.tmp 89) 22 rfl (w.heap.size + 1 + 1) 34 i0 (.agg #[.string ⟨#[]⟩, .slice none 0 0]) 2 40 Tryd.underlying22 hi hz0 hz1 hz2 rfl (by omega) (.slice AO pre.length cO) pre.length xs rfl hown3 (some ⟨v0.heap.size, 0, none⟩) 1 1 [.string nm, .slice AF fs.length cF] rfl rfl hbx (by simp [Value.oneCell']) (by simp only [maxLen]; omega) (by omega) hsz3 ?_; intro v4 w4 hown4 hg4 hv4; obtain ⟨A4, c4, hv4e, -⟩ := own_in hown4; subst hv4e; have bO4 : Blk w4 (w.heap.size + 1) 24 [.slice AO pre.length cO] := (Blk.grown bO3 hown3 hg4 (by omega)); have cO4 := bO4.cell (j := 0) rfl; have fO4 := bO4.frozen 0)
                | fail)
              go_roundw
              case rel =>
                have bR4 := Blk.grown bR3 hown3 hg4 (by omega)
                have hB4 := hB3.grown hg4 hB3.size (fun k hk => by have := (hown3.lt k hk).1; omega)
                refine ⟨q.extract 1 q.size, pre ++ [(byt nm, fs)], .slice A4 (pre.length + 1) c4, xs ++ [.string nm, .slice AF fs.length cF], rfl, ?_⟩
                refine ⟨?_, by rw [List.length_append, List.length_cons, List.length_nil]; omega, ?_, hB4.setCell (p := ⟨w.heap.size + 1, 0, none⟩) (by show w.heap.size ≤ w.heap.size + 1; omega) (.slice A4 (pre.length + 1) c4), bR4.other ⟨w.heap.size + 1, 0, none⟩ (.slice A4 (pre.length + 1) c4) (by show w.heap.size ≠ w.heap.size + 1; omega), bO4.set 0 (.slice A4 (pre.length + 1) c4), ?_, ?_, ?_⟩
                · rw [hexs]; omega
                · intro t ht
                  rcases List.mem_append.1 ht with ht | ht
                  · exact Htame.out t ht
                  · simp at ht
                    subst ht
                    exact ⟨by unfold tame; show (byt nm).length ≤ _; rw [byt_length]; omega, HtameF.out⟩
                · rw [List.length_append]
                  exact own_keep hown4 fun b hb => heap_setCell_other w4 ⟨w.heap.size + 1, 0, none⟩ b (.slice A4 (pre.length + 1) c4) (by have := (hown4.lt b hb).1; show b ≠ w.heap.size + 1; omega)
                · exact (Hch3.out.imp fun cs a h => rTyp_stays.to (Keeps.oth hg4 hv4) h).imp fun cs a h => rTyp_stays.to (S' := Oth (w.heap.size + 1 + 1) (.slice A4 (pre.length + 1) c4) (w4.setCell ⟨w.heap.size + 1, 0, none⟩ (.slice A4 (pre.length + 1) c4))) (fun b hb => ⟨⟨⟨hb.1.1, by have := hb.1.2; simpa using this⟩, hb.2⟩, heap_setCell_other w4 ⟨w.heap.size + 1, 0, none⟩ b (.slice A4 (pre.length + 1) c4) (by have := hb.1.1; show b ≠ w.heap.size + 1; omega)⟩) h
                · exact by rw [hex]; exact Hoi.out
              case measure =>
                show (q.extract 1 q.size).size < r.size; rw [hexs]; omega
        · have h1' : decide ((1 : Int) < (q.size : Int)) = false := decide_eq_false (by omega)
          by_cases h0 : q.size = 0
          · have h0' : decide ((0 : Int) < (q.size : Int)) = false := decide_eq_false (by omega)
            have hqn : (byt q).drop 1 = byt q := by rw [List.eq_nil_of_length_eq_zero (by rw [byt_length]; exact h0 : (byt q).length = 0)]; rfl
            have bTc0 := bT.cell (j := 0) rfl
            have bTc1 := bT.cell (j := 1) rfl
            have hBW := hBo.trans (hC.mono hBo.size)
            have hOlt := bO.lt
            have bO2 := bO.to hC
            have bR2 := bR.to hC
            have cO2 := bO2.cell (j := 0) rfl
            have fO2 := bO2.frozen 0
            have hltO := hownO.lt
            have hownO2 := own_below hownO hC
            have hA : Below v0.heap.size v0 (v0.alloc (.cells #[.string nm, .slice AF fs.length cF] 34)) := (Below.refl _ v0).alloc (Nat.le_refl _) _
            have hbx : Rd (v0.alloc (.cells #[.string nm, .slice AF fs.length cF] 34)) (some ⟨v0.heap.size, 0, none⟩) [.string nm, .slice AF fs.length cF] := (Blk.new v0 34 [.string nm, .slice AF fs.length cF]).rd
            have hown3 := own_below hownO2 hA
            have hB3 := hBW.trans (hA.mono hBW.size)
            have hsz3 : w.heap.size + 1 + 1 ≤ (v0.alloc (.cells #[.string nm, .slice AF fs.length cF] 34)).heap.size := by
              have h1 := hC.size
              have h2 := hA.size
              omega
            have bO3 := bO2.to hA
            have bR3 := bR2.to hA
            have hsizes : wo.heap.size + 1 ≤ v0.heap.size := bT.lt
            have hkn : Keeps (fun b => wo.heap.size + 1 ≤ b ∧ b < v0.heap.size) (Oth (w.heap.size + 1 + 1) (.slice AO pre.length cO) (v0.alloc (.cells #[.string nm, .slice AF fs.length cF] 34))) v0 _ := fun b ⟨h1, h2⟩ =>
              ⟨⟨⟨by omega, Nat.lt_of_lt_of_le h2 hA.size⟩, fun e => by have := (hltO b e.symm).2; omega⟩, hA.block b h2⟩
            have hko : Keeps (Oth (w.heap.size + 1 + 1) (.slice AO pre.length cO) wo) (Oth (w.heap.size + 1 + 1) (.slice AO pre.length cO) (v0.alloc (.cells #[.string nm, .slice AF fs.length cF] 34))) wo _ := fun b ⟨⟨h1, h2⟩, h3⟩ =>
              ⟨⟨⟨h1, by have := hC.size; have := hA.size; omega⟩, h3⟩, (hA.block b (by have := hC.size; omega)).trans (hC.block b h2)⟩
            have Hch3 := Lib.hid ((HchO.out.imp (fun cs a h => rTyp_stays.to hko h)).append (Chunks.one (size := 2) rfl (rTyp_mk (t := (byt nm, fs)) rfl (by simp only [maxLen]; omega) (rFlds_stays.to hkn (cs := [.slice AF fs.length cF]) ⟨AF, cF, ys, rfl, hnF, hmF, hrdF, HchF.out.imp fun cs a h => rFld_free h⟩))))
            have Hoi := Lib.hid (ii_end HI.out (.inl (by rw [byt_length]; omega)))
            clear hkn hko HchO HchF hA hownO2 hownO hltO hownF hrdF HI hC hBo bO bR bT
            go_wp2_with (first
              | (at_builtin; refine wpList_apps rfl (.tmp 87) (.tmp 89) 22 rfl (w.heap.size + 1 + 1) 34 i0 (.agg #[.string ⟨#[]⟩, .slice none 0 0]) 2 40 Tryd.underlying22 hi hz0 hz1 hz2 rfl (by omega) (.slice AO pre.length cO) pre.length xs rfl hown3 (some ⟨v0.heap.size, 0, none⟩) 1 1 [.string nm, .slice AF fs.length cF] rfl rfl hbx (by simp [Value.oneCell']) (by simp only [maxLen]; omega) (by omega) hsz3 ?_; intro v4 w4 hown4 hg4 hv4; obtain ⟨A4, c4, hv4e, -⟩ := own_in hown4; subst hv4e; have bO4 : Blk w4 (w.heap.size + 1) 24 [.slice AO pre.length cO] := (Blk.grown bO3 hown3 hg4 (by omega)); have cO4 := bO4.cell (j := 0) rfl; have fO4 := bO4.frozen 0)
              | fail)
            go_roundw
            case rel =>
              have bR4 := Blk.grown bR3 hown3 hg4 (by omega)
              have hB4 := hB3.grown hg4 hB3.size (fun k hk => by have := (hown3.lt k hk).1; omega)
              refine ⟨q, pre ++ [(byt nm, fs)], .slice A4 (pre.length + 1) c4, xs ++ [.string nm, .slice AF fs.length cF], rfl, ?_⟩
              refine ⟨?_, by rw [List.length_append, List.length_cons, List.length_nil]; omega, ?_, hB4.setCell (p := ⟨w.heap.size + 1, 0, none⟩) (by show w.heap.size ≤ w.heap.size + 1; omega) (.slice A4 (pre.length + 1) c4), bR4.other ⟨w.heap.size + 1, 0, none⟩ (.slice A4 (pre.length + 1) c4) (by show w.heap.size ≠ w.heap.size + 1; omega), bO4.set 0 (.slice A4 (pre.length + 1) c4), ?_, ?_, ?_⟩
              · omega
              · intro t ht
                rcases List.mem_append.1 ht with ht | ht
                · exact Htame.out t ht
                · simp at ht
                  subst ht
                  exact ⟨by unfold tame; show (byt nm).length ≤ _; rw [byt_length]; omega, HtameF.out⟩
              · rw [List.length_append]
                exact own_keep hown4 fun b hb => heap_setCell_other w4 ⟨w.heap.size + 1, 0, none⟩ b (.slice A4 (pre.length + 1) c4) (by have := (hown4.lt b hb).1; show b ≠ w.heap.size + 1; omega)
              · exact (Hch3.out.imp fun cs a h => rTyp_stays.to (Keeps.oth hg4 hv4) h).imp fun cs a h => rTyp_stays.to (S' := Oth (w.heap.size + 1 + 1) (.slice A4 (pre.length + 1) c4) (w4.setCell ⟨w.heap.size + 1, 0, none⟩ (.slice A4 (pre.length + 1) c4))) (fun b hb => ⟨⟨⟨hb.1.1, by have := hb.1.2; simpa using this⟩, hb.2⟩, heap_setCell_other w4 ⟨w.heap.size + 1, 0, none⟩ b (.slice A4 (pre.length + 1) c4) (by have := hb.1.1; show b ≠ w.heap.size + 1; omega)⟩) h
              · exact by have := Hoi.out; rw [hqn] at this; exact this
            case measure =>
              show q.size < r.size; omega
          · have h0' : decide ((0 : Int) < (q.size : Int)) = true := decide_eq_true (by omega)
            have h1c : (1 : Int) ≤ (q.size : Int) := by omega
            have hex : byt (q.extract 1 q.size) = (byt q).drop 1 := by rw [byt_extract, List.take_of_length_le (by simp)]
            have hexs : (q.extract 1 q.size).size = q.size - 1 := by simp
            have bTc0 := bT.cell (j := 0) rfl
            have bTc1 := bT.cell (j := 1) rfl
            have hBW := hBo.trans (hC.mono hBo.size)
            have hOlt := bO.lt
            have bO2 := bO.to hC
            have bR2 := bR.to hC
            have cO2 := bO2.cell (j := 0) rfl
            have fO2 := bO2.frozen 0
            have hltO := hownO.lt
            have hownO2 := own_below hownO hC
            have hA : Below v0.heap.size v0 (v0.alloc (.cells #[.string nm, .slice AF fs.length cF] 34)) := (Below.refl _ v0).alloc (Nat.le_refl _) _
            have hbx : Rd (v0.alloc (.cells #[.string nm, .slice AF fs.length cF] 34)) (some ⟨v0.heap.size, 0, none⟩) [.string nm, .slice AF fs.length cF] := (Blk.new v0 34 [.string nm, .slice AF fs.length cF]).rd
            have hown3 := own_below hownO2 hA
            have hB3 := hBW.trans (hA.mono hBW.size)
            have hsz3 : w.heap.size + 1 + 1 ≤ (v0.alloc (.cells #[.string nm, .slice AF fs.length cF] 34)).heap.size := by
              have h1 := hC.size
              have h2 := hA.size
              omega
            have bO3 := bO2.to hA
            have bR3 := bR2.to hA
            have hsizes : wo.heap.size + 1 ≤ v0.heap.size := bT.lt
            have hkn : Keeps (fun b => wo.heap.size + 1 ≤ b ∧ b < v0.heap.size) (Oth (w.heap.size + 1 + 1) (.slice AO pre.length cO) (v0.alloc (.cells #[.string nm, .slice AF fs.length cF] 34))) v0 _ := fun b ⟨h1, h2⟩ =>
              ⟨⟨⟨by omega, Nat.lt_of_lt_of_le h2 hA.size⟩, fun e => by have := (hltO b e.symm).2; omega⟩, hA.block b h2⟩
            have hko : Keeps (Oth (w.heap.size + 1 + 1) (.slice AO pre.length cO) wo) (Oth (w.heap.size + 1 + 1) (.slice AO pre.length cO) (v0.alloc (.cells #[.string nm, .slice AF fs.length cF] 34))) wo _ := fun b ⟨⟨h1, h2⟩, h3⟩ =>
              ⟨⟨⟨h1, by have := hC.size; have := hA.size; omega⟩, h3⟩, (hA.block b (by have := hC.size; omega)).trans (hC.block b h2)⟩
            have Hch3 := Lib.hid ((HchO.out.imp (fun cs a h => rTyp_stays.to hko h)).append (Chunks.one (size := 2) rfl (rTyp_mk (t := (byt nm, fs)) rfl (by simp only [maxLen]; omega) (rFlds_stays.to hkn (cs := [.slice AF fs.length cF]) ⟨AF, cF, ys, rfl, hnF, hmF, hrdF, HchF.out.imp fun cs a h => rFld_free h⟩))))
            have Hoi := Lib.hid (ii_end HI.out (.inl (by rw [byt_length]; omega)))
            clear hkn hko HchO HchF hA hownO2 hownO hltO hownF hrdF HI hC hBo bO bR bT
            go_wp2_with (first
              | (at_builtin; refine wpList_apps rfl (.tmp 87) (.tmp 89) 22 rfl (w.heap.size + 1 + 1) 34 i0 (.agg #[.string ⟨#[]⟩, .slice none 0 0]) 2 40 Tryd.underlying22 hi hz0 hz1 hz2 rfl (by omega) (.slice AO pre.length cO) pre.length xs rfl hown3 (some ⟨v0.heap.size, 0, none⟩) 1 1 [.string nm, .slice AF fs.length cF] rfl rfl hbx (by simp [Value.oneCell']) (by simp only [maxLen]; omega) (by omega) hsz3 ?_; intro v4 w4 hown4 hg4 hv4; obtain ⟨A4, c4, hv4e, -⟩ := own_in hown4; subst hv4e; have bO4 : Blk w4 (w.heap.size + 1) 24 [.slice AO pre.length cO] := (Blk.grown bO3 hown3 hg4 (by omega)); have cO4 := bO4.cell (j := 0) rfl; have fO4 := bO4.frozen 0)
              | fail)
            go_roundw
            case rel =>
              have bR4 := Blk.grown bR3 hown3 hg4 (by omega)
              have hB4 := hB3.grown hg4 hB3.size (fun k hk => by have := (hown3.lt k hk).1; omega)
              refine ⟨q.extract 1 q.size, pre ++ [(byt nm, fs)], .slice A4 (pre.length + 1) c4, xs ++ [.string nm, .slice AF fs.length cF], rfl, ?_⟩
              refine ⟨?_, by rw [List.length_append, List.length_cons, List.length_nil]; omega, ?_, hB4.setCell (p := ⟨w.heap.size + 1, 0, none⟩) (by show w.heap.size ≤ w.heap.size + 1; omega) (.slice A4 (pre.length + 1) c4), bR4.other ⟨w.heap.size + 1, 0, none⟩ (.slice A4 (pre.length + 1) c4) (by show w.heap.size ≠ w.heap.size + 1; omega), bO4.set 0 (.slice A4 (pre.length + 1) c4), ?_, ?_, ?_⟩
              · rw [hexs]; omega
              · intro t ht
                rcases List.mem_append.1 ht with ht | ht
                · exact Htame.out t ht
                · simp at ht
                  subst ht
                  exact ⟨by unfold tame; show (byt nm).length ≤ _; rw [byt_length]; omega, HtameF.out⟩
              · rw [List.length_append]
                exact own_keep hown4 fun b hb => heap_setCell_other w4 ⟨w.heap.size + 1, 0, none⟩ b (.slice A4 (pre.length + 1) c4) (by have := (hown4.lt b hb).1; show b ≠ w.heap.size + 1; omega)
              · exact (Hch3.out.imp fun cs a h => rTyp_stays.to (Keeps.oth hg4 hv4) h).imp fun cs a h => rTyp_stays.to (S' := Oth (w.heap.size + 1 + 1) (.slice A4 (pre.length + 1) c4) (w4.setCell ⟨w.heap.size + 1, 0, none⟩ (.slice A4 (pre.length + 1) c4))) (fun b hb => ⟨⟨⟨hb.1.1, by have := hb.1.2; simpa using this⟩, hb.2⟩, heap_setCell_other w4 ⟨w.heap.size + 1, 0, none⟩ b (.slice A4 (pre.length + 1) c4) (by have := hb.1.1; show b ≠ w.heap.size + 1; omega)⟩) h
              · exact by rw [hex]; exact Hoi.out
            case measure =>
              show (q.extract 1 q.size).size < r.size; rw [hexs]; omega
    · have hr0' : decide ((0 : Int) < (r.size : Int)) = true := decide_eq_true (by omega)
      have hp4' : decide ((pre.length : Int) ≤ 4) = false := decide_eq_false (by omega)
      have hoi2 := oi_end hoi (.inr (by omega))
      have Ho := Lib.hid (Hg.out pre hoi2)
      obtain ⟨A1, c1, hv1, hsl⟩ := own_rSlice' rTyp_stays hownO0 rfl hchO0
      injection hv1 with e1 e2 e3
      subst e1 e3
      have hslA : rSch (All wo0) wo0 [.slice AO pre.length cO] pre := rSch_stays.to (Keeps.mono fun b hb => hb.2) hsl
      have M1 := Lib.hid (rsmay_any AO pre.length cO pre wo0 hslA htame)
      have X1 := Lib.hid (fun W (hW : Below wo0.heap.size wo0 W) => rtext_any AO pre.length cO pre W (sch_below hW hslA) htame)
      have hnil : ∀ (S : Nat → Prop) (W : World), rSch S W [.slice none 0 0] [] := fun S W => ⟨none, 0, [], rfl, Nat.le_refl _, Nat.zero_le _, .inl rfl, Chunks.nil⟩
      clear hoi2 hoi hchO0 hownO0 Hg htame
      have hko : ∀ (W : World) (v : Value), Below wo0.heap.size wo0 W → Keeps (fun b => w.heap.size + 1 + 1 ≤ b ∧ b < wo0.heap.size) (fun b => w.heap.size ≤ b ∧ b < (W.setCell ⟨w.heap.size, 0, none⟩ v).heap.size) wo0 (W.setCell ⟨w.heap.size, 0, none⟩ v) := fun W v hW b hb => by
        have h1 := Keeps.set (S := fun b => w.heap.size + 1 + 1 ≤ b ∧ b < wo0.heap.size) (w := W) (g := w.heap.size) (fun b hb => by omega) 0 v b hb
        refine ⟨⟨by omega, ?_⟩, ?_⟩
        · have := hW.size
          simp
          omega
        · rw [h1.2]
          exact hW.block b hb.2
      have Hko := Lib.hid hko
      have Hsl := Lib.hid hsl
      clear hko hsl hslA
      generalize hmp : mayS pre = mp at *
      clear hmp
      go_wp2_with fail
      refine M1.out.mono ?_
      rintro e v1 ⟨rfl, hE1⟩
      have bR1 := bR0.to hE1
      have bO1 := bO0.to hE1
      have hBv1 := hBo0.trans (hE1.mono hBo0.size)
      cases mp
      · have Hn : Hid (ro = none) := Lib.hid (by rw [Ho.out, if_neg (by simp)])
        have x0 := bR1.cell (j := 0) rfl
        have f0 := bR1.frozen 0
        have Hrw := Lib.hid (bR1.set 0 (.slice none 0 0))
        have HBr := Lib.hid (hBv1.setCell (p := ⟨w.heap.size, 0, none⟩) (Nat.le_refl w.heap.size) (.slice none 0 0))
        go_wp2
        refine ret_cell1 rfl Hrw.out Tryd.underlying24 rfl hsz rfl rfl ?_
        exact ⟨_, _, _, _, rfl, by rw [Hn.out]; exact ⟨rfl, rfl, hnil _ _, fun _ => ⟨rfl, rfl⟩⟩, HBr.out⟩
      · have y0 := bO1.cell (j := 0) rfl
        go_wp2_with fail
        refine (X1.out _ hE1).mono ?_
        rintro e v2 ⟨tx, rfl, htx, hE2⟩
        have bR2 := bR1.to hE2
        have bO2 := bO1.to hE2
        have hBv2 := hBv1.trans (hE2.mono hBv1.size)
        have hE12 := hE1.trans (hE2.mono hE1.size)
        have x0 := bR2.cell (j := 0) rfl
        have f0 := bR2.frozen 0
        have y1 := bO2.cell (j := 0) rfl
        have hq := str_beq tx s
        rw [htx] at hq
        by_cases he : textS pre = byt s
        · rw [decide_eq_true he] at hq
          have Hn : Hid (ro = some pre) := Lib.hid (by rw [Ho.out, if_pos ⟨by simp, he⟩])
          have Hrw := Lib.hid (bR2.set 0 (.slice AO pre.length cO))
          have HBr := Lib.hid (hBv2.setCell (p := ⟨w.heap.size, 0, none⟩) (Nat.le_refl w.heap.size) (.slice AO pre.length cO))
          clear he htx
          go_wp2
          refine ret_cell1 rfl Hrw.out Tryd.underlying24 rfl hsz rfl rfl ?_
          exact ⟨_, _, _, _, rfl, by rw [Hn.out]; exact ⟨rfl, rfl, rSch_stays.to (Hko.out _ _ hE12) Hsl.out, fun h => by cases h⟩, HBr.out⟩
        · rw [decide_eq_false he] at hq
          have Hn : Hid (ro = none) := Lib.hid (by rw [Ho.out, if_neg (fun h => he h.2)])
          have Hrw := Lib.hid (bR2.set 0 (.slice none 0 0))
          have HBr := Lib.hid (hBv2.setCell (p := ⟨w.heap.size, 0, none⟩) (Nat.le_refl w.heap.size) (.slice none 0 0))
          clear he htx
          go_wp2
          refine ret_cell1 rfl Hrw.out Tryd.underlying24 rfl hsz rfl rfl ?_
          exact ⟨_, _, _, _, rfl, by rw [Hn.out]; exact ⟨rfl, rfl, hnil _ _, fun _ => ⟨rfl, rfl⟩⟩, HBr.out⟩
end Go.Proofs.YtomndfeifjiljaaDoor
