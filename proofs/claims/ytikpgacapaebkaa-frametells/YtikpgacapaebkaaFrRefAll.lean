/- The contract of the document's own All: as the program's. Condition: at most 1,000,000,000 bytes. -/
import Derived.Test.YtikpgacapaebkaaFrRef
namespace Go.Proofs.Ytikpgacapaebkaa
open Go.RowKit

set_option maxRecDepth 100000 in
set_option maxHeartbeats 1000000 in
theorem rall_any (A : Option Addr) (c n : Nat) (bs : List Nat) (w : World) (hn : bs.length = n) (hc : n ≤ c) (hb : ∀ x ∈ bs, x < 256) (hr : Rd w A (u8s bs)) (hlen : n ≤ 1000000000) :
    Calls Try.prog 16 #[.slice A n c] w fun e w' => ∃ v, e = .returned (.tuple #[v, .int .i64 ((allL bs).1 : Int)]) ∧ rSlice 2 rFra (All w') w' [v] (allL bs).2 ∧ Below w.heap.size w w' := by
  have h0 : AllAt w bs A n c (.slice none 0 0) w bs [] [] := ⟨hn, hc, by simp; omega, hb, hr, World.ownsRow_nil _ _ _ _, Chunks.nil, joinL_nil bs, Below.refl _ _⟩
  obtain ⟨hz, hsz⟩ := zero_of_info info_fr
  obtain ⟨i0, hi, hz0, hz1, hz2⟩ := info_parts info_fr4
  go_enter Try.func16, Try.ntmps16
  go_wp2
  go_loopw [4, 5] (fun lv iv wr => ∃ (k : Nat) (B : Option Addr) (pre : List Fra) (xs : List Value), k ≤ n ∧ iv = .int .i64 (k : Int) ∧ AllAt w bs B (n - k) (c - k) lv wr (bs.drop k) pre xs) (fun _ iv _ => n - (intOf iv).toNat)
  case atStart => exact ⟨0, A, [], [], by omega, rfl, by simpa using h0⟩
  case round =>
    obtain ⟨k, B, pre, xs, hk, rfl, H⟩ := hrel
    obtain ⟨hm, hd, hroom, hby, hrd, hown, hch, hall, hB⟩ := H
    by_cases hkn : k < n
    · have hA : ∃ b off, A = some ⟨b, off, none⟩ := by
        obtain ⟨b, off, e, _⟩ := hr.at (k := 0) (by simp; omega)
        exact ⟨b, off, e⟩
      obtain ⟨b, off, rfl⟩ := hA
      have hrd' : Rd w (some ⟨b, off + k, none⟩) (u8s (bs.drop k)) := by rw [← u8s_drop]; exact hr.drop k
      have hbn : bs.drop k ≠ [] := fun h => by rw [h] at hm; simp at hm; omega
      have G := rget_any (some ⟨b, off + k, none⟩) (c - k) (n - k) (bs.drop k) wr hm hd hby (hrd'.below hB) (by omega)
      have hjb := fun h => joinL_bad (pre := pre) hbn h
      have hjs := fun h => joinL_step (pre := pre) hbn h
      have hfb := getF_byte hby
      have hgp := fun h => getN_pos (bs := bs.drop k) h
      have hkf : getE (bs.drop k) = 0 → (Lit.int .i64 (getF (bs.drop k)).1).wf = true := fun h => by
        obtain ⟨hf, _⟩ := get_fine h
        rw [hf]
        have : (bs.drop k).getD 0 0 < 256 := by
          have hp : 0 < (bs.drop k).length := by omega
          simp only [List.getD_eq_getElem?_getD, List.getElem?_eq_getElem hp, Option.getD_some]
          exact hby _ (List.getElem_mem _)
        generalize (bs.drop k).getD 0 0 = q at this
        simp [Lit.wf, IntKind.min, IntKind.max, IntKind.signed, IntKind.bits]
        omega
      generalize hE : getE (bs.drop k) = E at *
      generalize hF : getF (bs.drop k) = F at *
      generalize hN : getN (bs.drop k) = N at *
      have Hall := Lib.hid hall
      have HG := Lib.hid G
      have Hjb := Lib.hid hjb
      have Hjs := Lib.hid hjs
      have Hgp := Lib.hid hgp
      have Hkf := Lib.hid hkf
      have Hch := Lib.hid hch
      clear hall G hjb hjs hgp hE hF hN hkf hch hrd hrd'
      have hk1 : (k : Int) < (n : Int) := by omega
      have hk2 : (k : Int) ≤ (n : Int) := by omega
      have hk3 : (n : Int) ≤ (c : Int) := by omega
      have hk4 : ¬ c = k := by omega
      have hk5 : k ≤ n := hk
      go_wp2_with fail
      refine HG.out.mono ?_
      rintro e w1 ⟨A', c', rfl, hc', hm', hrd1, hB1⟩
      clear HG
      by_cases hE : E = 0
      · subst hE
        obtain ⟨hN1, hN2⟩ := Hgp.out rfl
        rw [hm] at hN2
        have hA : Below w1.heap.size w1 ((w1.alloc (.cells #[.int .i64 F.1, .slice A' F.2.length c'] 24)).alloc (.cells #[.int .i64 F.1, .slice A' F.2.length c'] 24)) := ((Below.refl _ w1).alloc (Nat.le_refl _) _).alloc (by simp) _
        have hB3 : Below wr.heap.size wr _ := hB1.trans (hA.mono hB1.size)
        have hbx : Rd ((w1.alloc (.cells #[.int .i64 F.1, .slice A' F.2.length c'] 24)).alloc (.cells #[.int .i64 F.1, .slice A' F.2.length c'] 24)) (some ⟨w1.heap.size + 1, 0, none⟩) [.int .i64 F.1, .slice A' F.2.length c'] := by
          have := (Blk.new (w1.alloc (.cells #[.int .i64 F.1, .slice A' F.2.length c'] 24)) 24 [.int .i64 F.1, .slice A' F.2.length c']).rd
          rw [show (w1.alloc (.cells #[.int .i64 F.1, .slice A' F.2.length c'] 24)).heap.size = w1.heap.size + 1 by simp] at this
          exact this
        have hown3 := own_below hown hB3
        have hvl := hown.lt
        have hkn : Keeps (fun x => wr.heap.size ≤ x ∧ x < w1.heap.size) (fun x => x < ((w1.alloc (.cells #[.int .i64 F.1, .slice A' F.2.length c'] 24)).alloc (.cells #[.int .i64 F.1, .slice A' F.2.length c'] 24)).heap.size ∧ some x ≠ u4.ownBlock) w1 _ := fun x ⟨h1, h2⟩ =>
          ⟨⟨Nat.lt_of_lt_of_le h2 hA.size, fun e => by have := (hvl x e.symm).2; omega⟩, hA.block x h2⟩
        have hko : Keeps (fun x => x < wr.heap.size ∧ some x ≠ u4.ownBlock) (fun x => x < ((w1.alloc (.cells #[.int .i64 F.1, .slice A' F.2.length c'] 24)).alloc (.cells #[.int .i64 F.1, .slice A' F.2.length c'] 24)).heap.size ∧ some x ≠ u4.ownBlock) wr _ := fun x ⟨h1, h2⟩ =>
          ⟨⟨Nat.lt_of_lt_of_le h1 hB3.size, h2⟩, hB3.block x h1⟩
        have hch3 := (Hch.out.imp (fun cs a h => rFra_stays.to hko h)).append (Chunks.one (size := 2) rfl (rFra_mk (f := F) hc' hm' hfb (Hkf.out rfl) (hrd1.keeps hkn)))
        have hB3' : Below w.heap.size w _ := hB.trans (hB3.mono hB.size)
        have Hch3 := Lib.hid hch3
        have Hjs3 := Lib.hid (Hall.out.symm.trans (Hjs.out rfl)).symm
        clear hch3 hkn hko Hch Hjs Hjb Hgp Hkf hrd1 hB1 hA hown hB3 Hall
        rw [List.drop_drop] at Hjs3
        have hw1 : IntKind.i64.wrap ((k : Int) + (N : Int)) = (k : Int) + (N : Int) := IntWalk.i64_in _ (by omega)
        go_wp2_with (first
          | (at_builtin; refine wpList_apps rfl (.tmp 24) (.tmp 26) 31 rfl w.heap.size 24 i0 (.agg #[.int .i64 0, .slice none 0 0]) 2 32 Try.underlying31 hi hz0 hz1 hz2 rfl (by omega) u4 pre.length xs rfl hown3 (some ⟨w1.heap.size + 1, 0, none⟩) 1 1 [.int .i64 F.1, .slice A' F.2.length c'] rfl rfl hbx (by simp [Value.oneCell']) (by simp only [maxLen]; omega) (by omega) hB3'.size ?_; intro v4 w4 hown4 hg4 hv4)
          | fail)
        go_roundw
        case rel =>
          refine ⟨k + N, some ⟨b, off + (k + N), none⟩, pre ++ [F], xs ++ [.int .i64 F.1, .slice A' F.2.length c'], by omega, by go_num, ?_⟩
          exact ⟨by rw [List.length_drop]; omega, by omega, by rw [List.length_append]; simp only [List.length_cons, List.length_nil]; omega, fun x hx => hb x (List.mem_of_mem_drop hx), by rw [← u8s_drop]; exact hr.drop (k + N), by rw [List.length_append]; exact hown4,
            Hch3.out.imp (fun cs a h => rFra_stays.to (Keeps.grown hg4 hv4) h), Hjs3.out, hB3'.grown hg4 hB3'.size (fun k hk => (hown3.lt k hk).1)⟩
        case measure => simp [intOf]; omega
      · have hE' : ((E : Int) != 0) = true := by rw [bne_iff_ne]; omega
        go_wp2
        go_ret2
        rw [← Hall.out, Hjb.out hE]
        exact ⟨.slice none 0 0, rfl, ⟨none, 0, [], rfl, Nat.le_refl _, Nat.zero_le _, .inl rfl, Chunks.nil⟩, (hB.trans (hB1.mono hB.size)).alloc (Nat.le_trans hB.size hB1.size) _⟩
    · obtain rfl : k = n := by omega
      rw [List.drop_of_length_le (by omega), joinL_end] at hall
      have Hall := Lib.hid hall
      clear hall
      go_wp2
      go_ret2
      rw [← Hall.out]
      exact ⟨_, rfl, own_rSlice rFra_stays hown rfl hch, hB⟩
end Go.Proofs.Ytikpgacapaebkaa
