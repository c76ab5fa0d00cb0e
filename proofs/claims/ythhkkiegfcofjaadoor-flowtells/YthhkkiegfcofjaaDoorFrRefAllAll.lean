/- The texts FlGuess, FrRefAll in one; what each proves, and its conditions, stands before it. -/
import Derived.Test.YthhkkiegfcofjaaDoorFlPlain
import Derived.Test.YthhkkiegfcofjaaDoorFrRef
/- The document's own Get of a flow, plainly: the base and the parts that frames seem to have. No program. No condition. -/
namespace Go.Proofs.YthhkkiegfcofjaaDoor

def bodyDrop (F : Fra) : List Nat := F.2.drop (getL F.2).2
def guessBase : List Fra → Nat
  | [] => 0
  | F :: _ => (getL (bodyDrop F)).1 % 4294967296
/-- What stands in Base, and in Parts, ahead of the frame number i. -/
def bAt (l : List Fra) (i : Nat) : Nat := if i = 0 then 0 else guessBase l
def pAt (l : List Fra) (i : Nat) : List (List Nat) := ((l.take (min i (l.length - 1))).drop 1).map bodyDrop
def guessF (l : List Fra) : Flo := ((bAt l l.length : Nat), pAt l l.length)
theorem pAt_zero (l : List Fra) : pAt l 0 = [] := by simp [pAt]
theorem pAt_one (l : List Fra) : pAt l 1 = [] := by
  rw [pAt]
  have : ((l.take (min 1 (l.length - 1))).drop 1) = [] := List.eq_nil_of_length_eq_zero (by rw [List.length_drop, List.length_take]; omega)
  rw [this]; rfl
theorem pAt_mid {l : List Fra} {i : Nat} {F : Fra} (h0 : 0 < i) (h1 : i < l.length - 1) (hF : l[i]? = some F) : pAt l (i + 1) = pAt l i ++ [bodyDrop F] := by
  rw [pAt, pAt, Nat.min_eq_left (by omega), Nat.min_eq_left (by omega), List.take_add_one, hF, List.drop_append_of_le_length (by rw [List.length_take]; omega), List.map_append]
  rfl
theorem pAt_last {l : List Fra} {i : Nat} (h : l.length - 1 ≤ i) : pAt l (i + 1) = pAt l i := by rw [pAt, pAt, Nat.min_eq_right (by omega), Nat.min_eq_right (by omega)]
theorem pAt_len (l : List Fra) (i : Nat) : (pAt l i).length ≤ i := by rw [pAt, List.length_map, List.length_drop, List.length_take]; omega
theorem bAt_lt (l : List Fra) (i : Nat) : bAt l i < 4294967296 := by
  rw [bAt]
  split
  · omega
  · cases l with
    | nil => simp [guessBase]
    | cons F l => exact Nat.mod_lt _ (by omega)
theorem map_parts : ∀ (ps : List (List Nat)) (k : Nat), k + ps.length ≤ 18446744073709551616 → (partsF k ps).map bodyDrop = ps
  | [], _, _ => rfl
  | p :: r, k, h => by
    simp only [List.length_cons] at h
    simp only [partsF, List.map_cons]
    rw [map_parts r (k + 1) (by omega)]
    congr 1
    rw [bodyDrop]
    simp only
    rw [getL_put k p (by omega), List.drop_left]
theorem guess_frames {f : Flo} (hf : OkF f) : guessF (framesF f) = f := by
  have hfew := hf.few
  have hb := hf.base
  have hlen := framesF_length f
  refine Prod.ext ?_ ?_
  · have h1 : bodyDrop ((1 : Int), headL f.1.toNat f.2.length) = vputL f.1.toNat ++ vputL f.2.length := by
      rw [bodyDrop]
      simp only
      rw [headL, List.append_assoc, getL_put 1 _ (by omega), List.drop_left]
    have h2 : guessBase (framesF f) = f.1.toNat := by
      show (getL (bodyDrop ((1 : Int), headL f.1.toNat f.2.length))).1 % 4294967296 = _
      rw [h1, getL_put _ _ (by omega)]
      exact Nat.mod_eq_of_lt hb.1
    show ((bAt (framesF f) (framesF f).length : Nat) : Int) = f.1
    rw [bAt, if_neg (by omega), h2, hb.2]
  · show pAt (framesF f) (framesF f).length = f.2
    rw [pAt, hlen, Nat.min_eq_right (by omega)]
    have h3 : ((framesF f).take (f.2.length + 2 - 1)).drop 1 = partsF 0 f.2 := by
      rw [show f.2.length + 2 - 1 = f.2.length + 1 by omega, framesF, List.take_succ_cons, List.drop_succ_cons, List.drop_zero, List.take_append_of_le_length (by rw [partsF_length]; omega), List.take_of_length_le (by rw [partsF_length]; omega)]
    rw [h3, map_parts _ _ (by omega)]
theorem guess_byte {l : List Fra} (hl : ∀ x ∈ l, Fit x) (i : Nat) : ∀ p ∈ pAt l i, ∀ x ∈ p, x < 256 := by
  intro p hp x hx
  rw [pAt] at hp
  obtain ⟨F, hF, rfl⟩ := List.mem_map.1 hp
  exact (hl F (List.mem_of_mem_take (List.mem_of_mem_drop hF))).2.2.2 x (List.mem_of_mem_drop hx)
theorem getFl_guess {bs : List Nat} (hb : ∀ x ∈ bs, x < 256) (he : (allL bs).1 = 0) :
    (mayB (guessF (allL bs).2) = true ∧ flowB (guessF (allL bs).2) = bs → getFl bs = (guessF (allL bs).2, 0)) ∧ (¬ (mayB (guessF (allL bs).2) = true ∧ flowB (guessF (allL bs).2) = bs) → getFl bs = ((0, []), 4)) := by
  obtain ⟨_, hfit⟩ := allL_back bs.length bs (Nat.le_refl _) hb he
  constructor
  · rintro ⟨hm, hf⟩
    have hlt := bAt_lt (allL bs).2 (allL bs).2.length
    have hok : OkF (guessF (allL bs).2) := ⟨by simp [guessF], by simp only [guessF]; omega, hm, guess_byte hfit _⟩
    have := getFl_put hok
    rw [hf] at this
    exact this
  · intro hno
    have hne : flowOf (allL bs).2 = none := by
      cases h : flowOf (allL bs).2 with
      | none => rfl
      | some f =>
        obtain ⟨hok, hl⟩ := flowOf_back hfit h
        have hg := guess_frames hok
        rw [← hl] at hg
        refine absurd ⟨by rw [hg]; exact hok.may, ?_⟩ hno
        rw [hg, flowB, ← hl]
        exact (allL_back bs.length bs (Nat.le_refl _) hb he).1
    rw [getFl, if_neg (by simpa using he), hne]
end Go.Proofs.YthhkkiegfcofjaaDoor

/- The contract of the document's own All: as the program's. Condition: at most 1,000,000,000 bytes. -/
namespace Go.Proofs.YthhkkiegfcofjaaDoor
open Go.RowKit

set_option maxRecDepth 100000 in
set_option maxHeartbeats 1000000 in
theorem rall_any (A : Option Addr) (c n : Nat) (bs : List Nat) (w : World) (hn : bs.length = n) (hc : n ≤ c) (hb : ∀ x ∈ bs, x < 256) (hr : Rd w A (u8s bs)) (hlen : n ≤ 1000000000) :
    Calls Tryd.prog 31 #[.slice A n c] w fun e w' => ∃ v, e = .returned (.tuple #[v, .int .i64 ((allL bs).1 : Int)]) ∧ rSlice 2 rFra (All w') w' [v] (allL bs).2 ∧ Below w.heap.size w w' := by
  have h0 : AllAt w bs A n c (.slice none 0 0) w bs [] [] := ⟨hn, hc, by simp; omega, hb, hr, World.ownsRow_nil _ _ _ _, Chunks.nil, joinL_nil bs, Below.refl _ _⟩
  obtain ⟨hz, hsz⟩ := zero_of_info info_fr
  obtain ⟨i0, hi, hz0, hz1, hz2⟩ := info_parts info_fr4
  go_enter Tryd.func31, Tryd.ntmps31
  go_wp2
  go_loopw [4, 5] (fun lv iv wr => ∃ (k : Nat) (B : Option Addr) (pre : List Fra) (xs : List Value), k ≤ n ∧ iv = .int .i64 (k : Int) ∧ AllAt w bs B (n - k) (c - k) lv wr (bs.drop k) pre xs) (fun _ iv _ => n - (intOf iv).toNat)
  case atStart => exact ⟨0, A, [], [], by omega, rfl, by simpa using h0⟩
  case round =>
    obtain ⟨k, B, pre, xs, hk, rfl, H⟩ := hrel
    obtain ⟨hm, hd, hroom, hby, hrd, hown, hch, hall, hB⟩ := H
    by_cases hkn : k < n
    · have hA : ∃ b off, A = some ⟨b, off, none⟩ := by
        obtain ⟨b, off, e, _⟩ := hr.at (k := 0) (by simp; omega)
        exact ⟨b, off, e⟩
      obtain ⟨b, off, rfl⟩ := hA
      have hrd' : Rd w (some ⟨b, off + k, none⟩) (u8s (bs.drop k)) := by rw [← u8s_drop]; exact hr.drop k
      have hbn : bs.drop k ≠ [] := fun h => by rw [h] at hm; simp at hm; omega
      have G := rget_any (some ⟨b, off + k, none⟩) (c - k) (n - k) (bs.drop k) wr hm hd hby (hrd'.below hB) (by omega)
      have hjb := fun h => joinL_bad (pre := pre) hbn h
      have hjs := fun h => joinL_step (pre := pre) hbn h
      have hfb := getF_byte hby
      have hgp := fun h => getN_pos (bs := bs.drop k) h
      have hkf : getE (bs.drop k) = 0 → (Lit.int .i64 (getF (bs.drop k)).1).wf = true := fun h => by
        obtain ⟨hf, _⟩ := get_fine h
        rw [hf]
        have : (bs.drop k).getD 0 0 < 256 := by
          have hp : 0 < (bs.drop k).length := by omega
          simp only [List.getD_eq_getElem?_getD, List.getElem?_eq_getElem hp, Option.getD_some]
          exact hby _ (List.getElem_mem _)
        generalize (bs.drop k).getD 0 0 = q at this
        simp [Lit.wf, IntKind.min, IntKind.max, IntKind.signed, IntKind.bits]
        omega
      generalize hE : getE (bs.drop k) = E at *
      generalize hF : getF (bs.drop k) = F at *
      generalize hN : getN (bs.drop k) = N at *
      have Hall := Lib.hid hall
      have HG := Lib.hid G
      have Hjb := Lib.hid hjb
      have Hjs := Lib.hid hjs
      have Hgp := Lib.hid hgp
      have Hkf := Lib.hid hkf
      have Hch := Lib.hid hch
      clear hall G hjb hjs hgp hE hF hN hkf hch hrd hrd'
      have hk1 : (k : Int) < (n : Int) := by omega
      have hk2 : (k : Int) ≤ (n : Int) := by omega
      have hk3 : (n : Int) ≤ (c : Int) := by omega
      have hk4 : ¬ c = k := by omega
      have hk5 : k ≤ n := hk
      go_wp2_with fail
      refine HG.out.mono ?_
      rintro e w1 ⟨A', c', rfl, hc', hm', hrd1, hB1⟩
      clear HG
      by_cases hE : E = 0
      · subst hE
        obtain ⟨hN1, hN2⟩ := Hgp.out rfl
        rw [hm] at hN2
        have hA : Below w1.heap.size w1 ((w1.alloc (.cells #[.int .i64 F.1, .slice A' F.2.length c'] 50)).alloc (.cells #[.int .i64 F.1, .slice A' F.2.length c'] 50)) := ((Below.refl _ w1).alloc (Nat.le_refl _) _).alloc (by simp) _
        have hB3 : Below wr.heap.size wr _ := hB1.trans (hA.mono hB1.size)
        have hbx : Rd ((w1.alloc (.cells #[.int .i64 F.1, .slice A' F.2.length c'] 50)).alloc (.cells #[.int .i64 F.1, .slice A' F.2.length c'] 50)) (some ⟨w1.heap.size + 1, 0, none⟩) [.int .i64 F.1, .slice A' F.2.length c'] := by
          have := (Blk.new (w1.alloc (.cells #[.int .i64 F.1, .slice A' F.2.length c'] 50)) 50 [.int .i64 F.1, .slice A' F.2.length c']).rd
          rw [show (w1.alloc (.cells #[.int .i64 F.1, .slice A' F.2.length c'] 50)).heap.size = w1.heap.size + 1 by simp] at this
          exact this
        have hown3 := own_below hown hB3
        have hvl := hown.lt
        have hkn : Keeps (fun x => wr.heap.size ≤ x ∧ x < w1.heap.size) (fun x => x < ((w1.alloc (.cells #[.int .i64 F.1, .slice A' F.2.length c'] 50)).alloc (.cells #[.int .i64 F.1, .slice A' F.2.length c'] 50)).heap.size ∧ some x ≠ u4.ownBlock) w1 _ := fun x ⟨h1, h2⟩ =>
          ⟨⟨Nat.lt_of_lt_of_le h2 hA.size, fun e => by have := (hvl x e.symm).2; omega⟩, hA.block x h2⟩
        have hko : Keeps (fun x => x < wr.heap.size ∧ some x ≠ u4.ownBlock) (fun x => x < ((w1.alloc (.cells #[.int .i64 F.1, .slice A' F.2.length c'] 50)).alloc (.cells #[.int .i64 F.1, .slice A' F.2.length c'] 50)).heap.size ∧ some x ≠ u4.ownBlock) wr _ := fun x ⟨h1, h2⟩ =>
          ⟨⟨Nat.lt_of_lt_of_le h1 hB3.size, h2⟩, hB3.block x h1⟩
        have hch3 := (Hch.out.imp (fun cs a h => rFra_stays.to hko h)).append (Chunks.one (size := 2) rfl (rFra_mk (f := F) hc' hm' hfb (Hkf.out rfl) (hrd1.keeps hkn)))
        have hB3' : Below w.heap.size w _ := hB.trans (hB3.mono hB.size)
        have Hch3 := Lib.hid hch3
        have Hjs3 := Lib.hid (Hall.out.symm.trans (Hjs.out rfl)).symm
        clear hch3 hkn hko Hch Hjs Hjb Hgp Hkf hrd1 hB1 hA hown hB3 Hall
        rw [List.drop_drop] at Hjs3
        have hw1 : IntKind.i64.wrap ((k : Int) + (N : Int)) = (k : Int) + (N : Int) := IntWalk.i64_in _ (by omega)
        go_wp2_with (first
          | (at_builtin; refine wpList_apps rfl (.tmp 24) (.tmp 26) 46 rfl w.heap.size 50 i0 (.agg #[.int .i64 0, .slice none 0 0]) 2 32 Tryd.underlying46 hi hz0 hz1 hz2 rfl (by omega) u4 pre.length xs rfl hown3 (some ⟨w1.heap.size + 1, 0, none⟩) 1 1 [.int .i64 F.1, .slice A' F.2.length c'] rfl rfl hbx (by simp [Value.oneCell']) (by simp only [maxLen]; omega) (by omega) hB3'.size ?_; intro v4 w4 hown4 hg4 hv4)
          | fail)
        go_roundw
        case rel =>
          refine ⟨k + N, some ⟨b, off + (k + N), none⟩, pre ++ [F], xs ++ [.int .i64 F.1, .slice A' F.2.length c'], by omega, by go_num, ?_⟩
          exact ⟨by rw [List.length_drop]; omega, by omega, by rw [List.length_append]; simp only [List.length_cons, List.length_nil]; omega, fun x hx => hb x (List.mem_of_mem_drop hx), by rw [← u8s_drop]; exact hr.drop (k + N), by rw [List.length_append]; exact hown4,
            Hch3.out.imp (fun cs a h => rFra_stays.to (Keeps.grown hg4 hv4) h), Hjs3.out, hB3'.grown hg4 hB3'.size (fun k hk => (hown3.lt k hk).1)⟩
        case measure => simp [intOf]; omega
      · have hE' : ((E : Int) != 0) = true := by rw [bne_iff_ne]; omega
        go_wp2
        go_ret2
        rw [← Hall.out, Hjb.out hE]
        exact ⟨.slice none 0 0, rfl, ⟨none, 0, [], rfl, Nat.le_refl _, Nat.zero_le _, .inl rfl, Chunks.nil⟩, (hB.trans (hB1.mono hB.size)).alloc (Nat.le_trans hB.size hB1.size) _⟩
    · obtain rfl : k = n := by omega
      rw [List.drop_of_length_le (by omega), joinL_end] at hall
      have Hall := Lib.hid hall
      clear hall
      go_wp2
      go_ret2
      rw [← Hall.out]
      exact ⟨_, rfl, own_rSlice rFra_stays hown rfl hch, hB⟩
end Go.Proofs.YthhkkiegfcofjaaDoor
