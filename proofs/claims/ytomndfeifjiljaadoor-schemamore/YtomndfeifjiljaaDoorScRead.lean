/- The contracts of schema's readTypes and Read: what 'pTs' and 'readS' tell; what is read is of the call's own; nothing that was there is changed. Conditions: at most 2^47 bytes; the table of kinds lies as the program's text lays it. -/
import Derived.Test.YtomndfeifjiljaaDoorScReadT
namespace Go.Proofs.YtomndfeifjiljaaDoor
open Go.RowKit

theorem info_typ4 : (Tryd.prog.info? 34).map (fun i => (i.zero, i.size, i.bytes)) = some (some (.agg #[.string ⟨#[]⟩, .slice none 0 0]), 2, 40) := by kernel_rfl
theorem info_sch : (Tryd.prog.info? 24).map (fun i => (i.zero, i.size)) = some (some (.agg #[.slice none 0 0]), 1) := by kernel_rfl
/-- The blocks of the call's own, but the row's. -/
abbrev Oth (base : Nat) (v : Value) (w : World) : Nat → Prop := fun b => (base ≤ b ∧ b < w.heap.size) ∧ some b ≠ v.ownBlock
theorem own_rSlice' {α : Type} {R : Reader α} (hR : Stays R) {w : World} {base e size n : Nat} {v : Value} {xs : List Value} {l : List α} (h : w.ownsRow base e size v n xs) (hn : l.length = n) (hc : Chunks size (R (Oth base v w) w) xs l) :
    ∃ A c, v = .slice A n c ∧ rSlice size R (fun b => base ≤ b ∧ b < w.heap.size) w [v] l := by
  have hch := hc.imp (R' := R (fun b => base ≤ b ∧ b < w.heap.size) w) fun cs a h => hR.to (Keeps.mono fun b hb => hb.1) h
  obtain ⟨A, c, rfl, hnc, hcm, hrd⟩ := own_in h
  exact ⟨A, c, rfl, A, c, xs, by rw [hn], by omega, hcm, hrd, hch⟩
/-- What types that are read are, or none. -/
def TsIs (S : Nat → Prop) (w : World) (o : Option Sch) (v : Value) (b : Bool) : Prop := match o with
  | none => b = false ∧ v = .slice none 0 0
  | some l => b = true ∧ ∃ A c, v = .slice A l.length c ∧ rSch S w [.slice A l.length c] l
def sizeS : Value → Nat
  | .string r => r.size
  | _ => 0
/-- Where the reading of types stands. -/
structure TsAt (w : World) (o : Option Sch) (N : Nat) (r : ByteArray) (v : Value) (w' : World) (pre : Sch) (xs : List Value) : Prop where
  room : r.size ≤ N
  few : pre.length ≤ 4
  own : w'.ownsRow w.heap.size 34 2 v pre.length xs
  ahead : Chunks 2 (rTyp (Oth w.heap.size v w') w') xs pre
  rest : Hid (o = (pTs (4 - pre.length) (byt r)).map (pre ++ ·))
  bel : Below w.heap.size w w'
theorem pTs_nil (n : Nat) : pTs n [] = some [] := by cases n <;> rfl
theorem pTs_0 {l : List Nat} (h : l ≠ []) : pTs 0 l = none := by rw [pTs, if_neg h]
theorem pTs_s {l : List Nat} (h : l ≠ []) (n : Nat) : pTs (n + 1) l = match pT l with
    | none => none
    | some x => (pTs n x.2).map (x.1 :: ·) := by rw [pTs, if_neg h]; cases pT l <;> rfl
theorem Keeps.oth {base : Nat} {w w' : World} {v v' : Value} (hg : w.grownBy w' v.ownBlock) (hv : v'.ownBlock = v.ownBlock ∨ v'.ownBlock = some w.heap.size) : Keeps (Oth base v w) (Oth base v' w') w w' := fun b h => by
  have := Keeps.grown hg hv b ⟨h.1.2, h.2⟩
  exact ⟨⟨⟨h.1.1, this.1.1⟩, this.1.2⟩, this.2⟩

set_option maxRecDepth 100000 in
set_option maxHeartbeats 4000000 in
theorem readTypes_any (s : ByteArray) (w : World) (hK : Kt w) (hs : s.size ≤ 140737488355328) :
    Calls Tryd.prog 24 #[.string s] w fun e w' => ∃ v b, e = .returned (.tuple #[v, .bool b]) ∧ TsIs (fun b => w.heap.size ≤ b ∧ b < w'.heap.size) w' (pTs 4 (byt s)) v b ∧ Below w.heap.size w w' := by
  obtain ⟨i0, hi, hz0, hz1, hz2⟩ := info_parts info_typ4
  have h0 : TsAt w (pTs 4 (byt s)) s.size s (.slice none 0 0) w [] [] := ⟨Nat.le_refl _, by simp, World.ownsRow_nil _ _ _ _, Chunks.nil, Lib.hid (by simp), Below.refl _ _⟩
  generalize pTs 4 (byt s) = o at *
  go_enter Tryd.func24, Tryd.ntmps24
  go_wp2
  go_loopw [0, 4] (fun rv lv w' => ∃ r v pre xs, rv = .string r ∧ lv = v ∧ TsAt w o s.size r v w' pre xs) (fun rv _ _ => sizeS rv)
  case atStart => exact ⟨s, _, [], [], rfl, rfl, h0⟩
  case round =>
    rename_i iv wr
    obtain ⟨r, v, pre, xs, rfl, hv, H⟩ := hrel
    subst hv
    clear h0
    obtain ⟨hroom, hfew, hown, hch, hrest, hB⟩ := H
    have hemp := str_empty r
    by_cases hr0 : byt r = []
    · have hrest' := hrest.out
      rw [hr0, pTs_nil] at hrest'
      rw [hr0] at hemp
      simp only [List.isEmpty_nil] at hemp
      have Hr := Lib.hid hrest'
      clear hrest hrest' hr0
      go_wp2
      go_ret2
      obtain ⟨A, c, rfl, hsl⟩ := own_rSlice' rTyp_stays hown rfl hch
      refine ⟨_, _, rfl, ?_, hB⟩
      rw [Hr.out]
      exact ⟨rfl, A, c, by simp, by simpa using hsl⟩
    · have hemp' : r.toList.isEmpty = false := by rw [hemp]; cases hb : byt r with
        | nil => exact absurd hb hr0
        | cons a l => rfl
      clear hemp
      have T1 := Lib.hid (readType_any r wr (hK.below hB) (by omega))
      have Hless := Lib.hid (fun x => pT_less (l := byt r) (x := x))
      have Hs := Lib.hid (fun n => pTs_s hr0 n)
      have Hz := Lib.hid (pTs_0 hr0)
      have Hch := Lib.hid hch
      clear hch hr0
      generalize pT (byt r) = q at *
      go_wp2_with fail
      refine T1.out.mono ?_
      rintro e w1 ⟨x, A2, n2, c2, y, b, rfl, hti, hxs, hys, hB1⟩
      clear T1
      have hBw := hB.trans (hB1.mono hB.size)
      have hown1 := own_below hown hB1
      have hlt0 := hown.lt
      obtain ⟨A, c, hv⟩ : ∃ A c, u4 = .slice A pre.length c := by
        obtain ⟨A, c, hv, _⟩ := own_in hown1
        exact ⟨A, c, hv⟩
      subst hv
      cases q with
      | none =>
        have hb : b = false := hti
        subst hb
        have Ho : Hid (o = none) := Lib.hid (by
          rw [hrest.out]
          cases 4 - pre.length with
          | zero => rw [Hz.out]; rfl
          | succ n => rw [Hs.out]; rfl)
        clear Hs Hz hrest
        go_wp2
        go_ret2
        exact ⟨_, _, rfl, by rw [Ho.out]; exact ⟨rfl, rfl⟩, hBw.alloc hBw.size _⟩
      | some t =>
        obtain ⟨rfl, htx, hty, htf⟩ := hti
        by_cases h4 : pre.length = 4
        · have Ho : Hid (o = none) := Lib.hid (by rw [hrest.out, h4, Hz.out]; rfl)
          have h4' : ((pre.length : Int) == 4) = true := by rw [h4]; rfl
          clear Hs Hz hrest
          go_wp2
          go_ret2
          exact ⟨_, _, rfl, by rw [Ho.out]; exact ⟨rfl, rfl⟩, hBw.alloc hBw.size _⟩
        · have h4' : ((pre.length : Int) == 4) = false := by simp; omega
          have Ho : Hid (o = (pTs (4 - (pre ++ [t.1]).length) (byt y)).map ((pre ++ [t.1]) ++ ·)) := Lib.hid (by
            obtain ⟨n, hn⟩ : ∃ n, 4 - pre.length = n + 1 := ⟨3 - pre.length, by omega⟩
            have hn' : 4 - (pre ++ [t.1]).length = n := by rw [List.length_append, List.length_cons, List.length_nil]; omega
            rw [hrest.out, hn, Hs.out, hn', hty]
            simp only [Option.map_map]
            congr 1
            funext z
            simp)
          have hyl : y.size < r.size := by
            have := Hless.out t rfl
            rw [← hty, byt_length, byt_length] at this
            exact this
          clear Hs Hz hrest Hless
          have hA : Below w1.heap.size w1 ((w1.alloc (.cells #[.string x, .slice A2 n2 c2] 34)).alloc (.cells #[.string x, .slice A2 n2 c2] 34)) := ((Below.refl _ w1).alloc (Nat.le_refl _) _).alloc (by simp) _
          have hbx : Rd ((w1.alloc (.cells #[.string x, .slice A2 n2 c2] 34)).alloc (.cells #[.string x, .slice A2 n2 c2] 34)) (some ⟨w1.heap.size + 1, 0, none⟩) [.string x, .slice A2 n2 c2] := by
            have := (Blk.new (w1.alloc (.cells #[.string x, .slice A2 n2 c2] 34)) 34 [.string x, .slice A2 n2 c2]).rd
            rw [show (w1.alloc (.cells #[.string x, .slice A2 n2 c2] 34)).heap.size = w1.heap.size + 1 by simp] at this
            exact this
          have hown3 := own_below hown1 hA
          have hB3 := hBw.trans (hA.mono hBw.size)
          generalize hW3 : ((w1.alloc (.cells #[.string x, .slice A2 n2 c2] 34)).alloc (.cells #[.string x, .slice A2 n2 c2] 34)) = w3 at hA hbx hown3 hB3
          have hkn : Keeps (fun b => wr.heap.size < b ∧ b < w1.heap.size) (Oth w.heap.size (.slice A pre.length c) w3) w1 w3 := fun b ⟨h1, h2⟩ =>
            ⟨⟨⟨by have := hB.size; omega, Nat.lt_of_lt_of_le h2 hA.size⟩, fun e => by have := (hlt0 b e.symm).2; omega⟩, hA.block b h2⟩
          have hko : Keeps (Oth w.heap.size (.slice A pre.length c) wr) (Oth w.heap.size (.slice A pre.length c) w3) wr w3 := fun b ⟨⟨h1, h2⟩, h3⟩ =>
            ⟨⟨⟨h1, by have := hB1.size; have := hA.size; omega⟩, h3⟩, (hA.block b (by have := hB1.size; omega)).trans (hB1.block b h2)⟩
          have Hch3 := Lib.hid ((Hch.out.imp (fun cs a h => rTyp_stays.to hko h)).append (Chunks.one (size := 2) rfl (rTyp_mk (t := t.1) htx (by simp only [maxLen]; omega) (rFlds_stays.to hkn htf))))
          clear Hch hkn hko htx hty htf hB hB1 hown hown1 hlt0 hA hBw
          subst hW3
          go_wp2_with (first
            | (at_builtin; refine wpList_apps rfl (.tmp 23) (.tmp 25) 22 rfl w.heap.size 34 i0 (.agg #[.string ⟨#[]⟩, .slice none 0 0]) 2 40 Tryd.underlying22 hi hz0 hz1 hz2 rfl (by omega) (.slice A pre.length c) pre.length xs rfl hown3 (some ⟨w1.heap.size + 1, 0, none⟩) 1 1 [.string x, .slice A2 n2 c2] rfl rfl hbx (by simp [Value.oneCell']) (by simp only [maxLen]; omega) (by omega) hB3.size ?_; intro v4 w4 hown4 hg4 hv4)
            | fail)
          go_roundw
          case rel =>
            exact ⟨y, v4, pre ++ [t.1], _, rfl, rfl, by omega, by rw [List.length_append, List.length_cons, List.length_nil]; omega, by rw [List.length_append]; exact hown4, Hch3.out.imp (fun cs a h => rTyp_stays.to (Keeps.oth hg4 hv4) h), Ho, hB3.grown hg4 hB3.size (fun k hk => (hown3.lt k hk).1)⟩
          case measure =>
            show y.size < r.size
            exact hyl

/-- What is read, as the caller gets it. -/
def SIs (S : Nat → Prop) (w : World) (o : Option Sch) (A : Option Addr) (n c : Nat) (b : Bool) : Prop := b = o.isSome ∧ n = (o.getD []).length ∧ rSch S w [.slice A n c] (o.getD []) ∧ (o = none → A = none ∧ c = 0)

set_option maxRecDepth 100000 in
set_option maxHeartbeats 4000000 in
theorem read_any (s : ByteArray) (w : World) (hK : Kt w) (hs : s.size ≤ 140737488355328) :
    Calls Tryd.prog 11 #[.string s] w fun e w' => ∃ A n c b, e = .returned (.tuple #[.agg #[.slice A n c], .bool b]) ∧ SIs (fun b => w.heap.size ≤ b ∧ b < w'.heap.size) w' (readS (byt s)) A n c b ∧ Below w.heap.size w w' := by
  obtain ⟨hz, hsz⟩ := zero_of_info info_sch
  have hB0 : Below w.heap.size w (w.alloc (.cells #[.slice none 0 0] 24)) := (Below.refl _ w).alloc (Nat.le_refl _) _
  have b0 := Blk.new w 24 [.slice none 0 0]
  have T1 := Lib.hid (readTypes_any s (w.alloc (.cells #[.slice none 0 0] 24)) (hK.below hB0) hs)
  have hrs : readS (byt s) = match pTs 4 (byt s) with
    | none => none
    | some l => if mayS l = true then some l else none := rfl
  have Hrs := Lib.hid hrs
  clear hrs
  generalize readS (byt s) = o at *
  generalize pTs 4 (byt s) = p at *
  go_enter Tryd.func11, Tryd.ntmps11
  go_wp2_with fail
  refine T1.out.mono ?_
  rintro e w1 ⟨v, b, rfl, hti, hB1⟩
  have hBw := hB0.trans (hB1.mono hB0.size)
  have b1 : Blk w1 w.heap.size 24 [.slice none 0 0] := b0.to hB1
  have hnil : ∀ (S : Nat → Prop) (W : World), rSch S W [.slice none 0 0] [] := fun S W => ⟨none, 0, [], rfl, Nat.le_refl _, Nat.zero_le _, .inl rfl, Chunks.nil⟩
  have hlt := b1.lt
  simp only [World.size_alloc] at hti
  clear T1 b0 hB0 hB1
  cases p with
  | none =>
    obtain ⟨rfl, rfl⟩ := hti
    have Ho := Lib.hid Hrs.out
    clear Hrs
    have b2 := b1.alloc (.cells #[.slice none 0 0] 24)
    have hx0 := b2.cell (j := 0) rfl
    have hf0 := b2.frozen 0
    have Hrw := Lib.hid ((b1.set 0 (.slice none 0 0)).alloc (.cells #[.slice none 0 0] 24))
    have HBr := Lib.hid ((hBw.setCell (p := ⟨w.heap.size, 0, none⟩) (Nat.le_refl w.heap.size) (.slice none 0 0)).alloc (by simp; exact hBw.size) (.cells #[.slice none 0 0] 24))
    go_wp2
    refine ret_cell1 rfl Hrw.out Tryd.underlying24 rfl hsz rfl rfl ?_
    exact ⟨_, _, _, _, rfl, by rw [Ho.out]; exact ⟨rfl, rfl, hnil _ _, fun _ => ⟨rfl, rfl⟩⟩, HBr.out⟩
  | some l =>
    obtain ⟨rfl, A, c, rfl, hl⟩ := hti
    have hB2 : Below w1.heap.size w1 (w1.alloc (.cells #[.slice A l.length c] 24)) := (Below.refl _ w1).alloc (Nat.le_refl _) _
    have hl2 : rSch (All (w1.alloc (.cells #[.slice A l.length c] 24))) (w1.alloc (.cells #[.slice A l.length c] 24)) [.slice A l.length c] l := rSch_stays.to (fun b hb => ⟨Nat.lt_of_lt_of_le hb.2 hB2.size, hB2.block b hb.2⟩) hl
    have T2 := Lib.hid (may_any A l.length c l _ hl2)
    have b2 := b1.to hB2
    have b3 := Blk.new w1 24 [.slice A l.length c]
    have hBw2 := hBw.trans (hB2.mono hBw.size)
    have ho : o = if mayS l = true then some l else none := Hrs.out
    have Ho := Lib.hid ho
    clear Hrs hl2 ho
    generalize mayS l = m at *
    go_wp2_with fail
    refine T2.out.mono ?_
    rintro e w3 ⟨rfl, hB3⟩
    have b2' := b2.to hB3
    have b3' : Blk w3 w1.heap.size 24 [.slice A l.length c] := b3.to hB3
    have hBw3 := hBw2.trans (hB3.mono hBw2.size)
    have hx0 := b2'.cell (j := 0) rfl
    have hf0 := b2'.frozen 0
    have hx1 := b3'.cell (j := 0) rfl
    cases m
    · have Hrw := Lib.hid (b2'.set 0 (.slice none 0 0))
      have HBr := Lib.hid (hBw3.setCell (p := ⟨w.heap.size, 0, none⟩) (Nat.le_refl w.heap.size) (.slice none 0 0))
      go_wp2
      refine ret_cell1 rfl Hrw.out Tryd.underlying24 rfl hsz rfl rfl ?_
      exact ⟨_, _, _, _, rfl, by have := Ho.out; simp at this; rw [this]; exact ⟨rfl, rfl, hnil _ _, fun _ => ⟨rfl, rfl⟩⟩, HBr.out⟩
    · have Hrw := Lib.hid (b2'.set 0 (.slice A l.length c))
      have HBr := Lib.hid (hBw3.setCell (p := ⟨w.heap.size, 0, none⟩) (Nat.le_refl w.heap.size) (.slice A l.length c))
      have Hkeep : Hid (Keeps (fun b => w.heap.size + 1 ≤ b ∧ b < w1.heap.size) (fun b => w.heap.size ≤ b ∧ b < (w3.setCell ⟨w.heap.size, 0, none⟩ (.slice A l.length c)).heap.size) w1 (w3.setCell ⟨w.heap.size, 0, none⟩ (.slice A l.length c))) := Lib.hid (fun b hb => by
        have h1 := Keeps.set (S := fun b => w.heap.size + 1 ≤ b ∧ b < w1.heap.size) (w := w3) (g := w.heap.size) (fun b hb => by omega) 0 (.slice A l.length c) b hb
        refine ⟨⟨by omega, ?_⟩, ?_⟩
        · have := hB3.size
          have := hB2.size
          simp
          omega
        · rw [h1.2, hB3.block b (by have := hB2.size; omega)]
          exact hB2.block b hb.2)
      have Hl := Lib.hid hl
      clear hl
      go_wp2
      refine ret_cell1 rfl Hrw.out Tryd.underlying24 rfl hsz rfl rfl ?_
      refine ⟨_, _, _, _, rfl, ?_, HBr.out⟩
      have := Ho.out
      simp at this
      rw [this]
      exact ⟨rfl, rfl, rSch_stays.to Hkeep.out Hl.out, fun h => by cases h⟩
end Go.Proofs.YtomndfeifjiljaaDoor
