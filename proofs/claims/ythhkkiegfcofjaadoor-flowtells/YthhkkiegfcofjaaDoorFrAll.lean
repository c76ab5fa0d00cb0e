/- The contract of frame.All: at every slice of bytes what 'allL' tells: the frames, of the call's own, and the first error; nothing that was there is changed. Condition: at most 1,000,000,000 bytes. -/
import Derived.Test.YthhkkiegfcofjaaDoorFrGet
import Derived.Test.YthhkkiegfcofjaaDoorJump
namespace Go.Proofs.YthhkkiegfcofjaaDoor
open Go.RowKit

def lenOf : Value → Nat | .slice _ m _ => m | _ => 0
theorem info_fr4 : (Tryd.prog.info? 50).map (fun i => (i.zero, i.size, i.bytes)) = some (some (.agg #[.int .i64 0, .slice none 0 0]), 2, 32) := by kernel_rfl
/-- What a run of All has at the label: the rest of the bytes, the frames ahead of it. -/
structure AllAt (w : World) (bs : List Nat) (B : Option Addr) (m d : Nat) (v : Value) (w' : World) (bs' : List Nat) (pre : List Fra) (xs : List Value) : Prop where
  len : bs'.length = m
  cap : m ≤ d
  room : pre.length + m ≤ bs.length
  byte : ∀ x ∈ bs', x < 256
  rest : Rd w B (u8s bs')
  own : w'.ownsRow w.heap.size 50 2 v pre.length xs
  ahead : Chunks 2 (rFra (fun b => b < w'.heap.size ∧ some b ≠ v.ownBlock) w') xs pre
  all : joinL pre (allL bs') = allL bs
  bel : Below w.heap.size w w'
def AllJ (w : World) (bs : List Nat) (a' : Act) (w' : World) : Prop :=
  ∃ (B : Option Addr) (m d : Nat) (v : Value) (bs' : List Nat) (pre : List Fra) (xs : List Value) (u5 u6 u7 u8 u9 u10 u11 u12 u13 u14 u15 u16 u17 u18 u19 u20 u21 u22 u23 u24 u25 u26 u27 u28 u29 u30 u31 : Value), a' = { tmps := #[.slice B m d, undef, .slice none 0 0, .int .i64 0, v, u5, u6, u7, u8, u9, u10, u11, u12, u13, u14, u15, u16, u17, u18, u19, u20, u21, u22, u23, u24, u25, u26, u27, u28, u29, u30, u31], defers := [] } ∧ AllAt w bs B m d v w' bs' pre xs
theorem own_slice2 {w : World} {base e size n : Nat} {v : Value} {xs : List Value} (h : w.ownsRow base e size v n xs) : ∃ A c, v = .slice A n c := by
  rcases h.2 with ⟨rfl, rfl⟩ | ⟨g, cap, cur, rfl, _⟩
  · exact ⟨none, 0, rfl⟩
  · exact ⟨_, cap, rfl⟩

set_option maxRecDepth 100000 in
set_option maxHeartbeats 1000000 in
theorem all_any (A : Option Addr) (c n : Nat) (bs : List Nat) (w : World) (hn : bs.length = n) (hc : n ≤ c) (hb : ∀ x ∈ bs, x < 256) (hr : Rd w A (u8s bs)) (hlen : n ≤ 1000000000) :
    Calls Tryd.prog 24 #[.slice A n c] w fun e w' => ∃ v, e = .returned (.tuple #[v, .int .i64 ((allL bs).1 : Int)]) ∧ rSlice 2 rFra (All w') w' [v] (allL bs).2 ∧ Below w.heap.size w w' := by
  have h0 : AllAt w bs A n c (.slice none 0 0) w bs [] [] := ⟨hn, hc, by simp; omega, hb, hr, World.ownsRow_nil _ _ _ _, Chunks.nil, joinL_nil bs, Below.refl _ _⟩
  obtain ⟨hz, hsz⟩ := zero_of_info info_fr
  obtain ⟨i0, hi, hz0, hz1, hz2⟩ := info_parts info_fr4
  go_enter Tryd.func24, Tryd.ntmps24
  go_wp2
  refine wp_scope_after 0 (AllJ w bs) (fun a' _ => lenOf (a'.tmps.getD 0 undef)) ?_ ?_ ?_
  · rfl
  · go_wp2
    exact ⟨_, _, _, _, bs, [], [], _, _, _, _, _, _, _, _, _, _, _, _, _, _, _, _, _, _, _, _, _, _, _, _, _, _, _, rfl, h0⟩
  · rintro a' w' ⟨B, m, d, v, bs', pre, xs, u5, u6, u7, u8, u9, u10, u11, u12, u13, u14, u15, u16, u17, u18, u19, u20, u21, u22, u23, u24, u25, u26, u27, u28, u29, u30, u31, rfl, H⟩
    clear hr hc hb h0
    obtain ⟨hm, hd, hroom, hby, hrd, hown, hch, hall, hB⟩ := H
    by_cases hmz : m = 0
    · subst hmz
      obtain rfl : bs' = [] := List.eq_nil_of_length_eq_zero hm
      rw [joinL_end] at hall
      have Hall := Lib.hid hall
      clear hall
      go_wp2
      simp only [Exit.jump]
      go_ret2
      rw [← Hall.out]
      exact ⟨v, rfl, own_rSlice rFra_stays hown rfl hch, hB⟩
    · have hbn : bs' ≠ [] := fun h => hmz (by rw [← hm, h]; rfl)
      have hm0 : ((m : Int) == 0) = false := by rw [beq_eq_false_iff_ne]; omega
      have G := get_any B d m bs' w' hm hd hby (hrd.below hB) (by omega)
      have hjb := fun h => joinL_bad (pre := pre) hbn h
      have hjs := fun h => joinL_step (pre := pre) hbn h
      have hfb := getF_byte hby
      have hfl := getF_len (bs := bs')
      have hgp := fun h => getN_pos (bs := bs') h
      have hkf : getE bs' = 0 → (Lit.int .i64 (getF bs').1).wf = true := fun h => by
        obtain ⟨hf, _⟩ := get_fine h
        rw [hf]
        have : bs'.getD 0 0 < 256 := by
          have hp : 0 < bs'.length := by omega
          simp only [List.getD_eq_getElem?_getD, List.getElem?_eq_getElem hp, Option.getD_some]
          exact hby _ (List.getElem_mem _)
        generalize bs'.getD 0 0 = q at this
        simp [Lit.wf, IntKind.min, IntKind.max, IntKind.signed, IntKind.bits]
        omega
      generalize hE : getE bs' = E at *
      generalize hF : getF bs' = F at *
      generalize hN : getN bs' = N at *
      have Hall := Lib.hid hall
      have HG := Lib.hid G
      have Hjb := Lib.hid hjb
      have Hjs := Lib.hid hjs
      have Hgp := Lib.hid hgp
      have Hkf := Lib.hid hkf
      have Hch := Lib.hid hch
      clear hall G hjb hjs hgp hE hF hN hkf hch
      go_wp2_with fail
      refine HG.out.mono ?_
      rintro e w1 ⟨A', c', rfl, hc', hm', hrd1, hB1⟩
      clear HG
      by_cases hE : E = 0
      · subst hE
        obtain ⟨hN1, hN2⟩ := Hgp.out rfl
        rw [hm] at hN2
        obtain ⟨b, off, rfl, hblt, _⟩ := hrd.at (k := 0) (by simp; omega)
        have hA : Below w1.heap.size w1 ((w1.alloc (.cells #[.int .i64 F.1, .slice A' F.2.length c'] 50)).alloc (.cells #[.int .i64 F.1, .slice A' F.2.length c'] 50)) := ((Below.refl _ w1).alloc (Nat.le_refl _) _).alloc (by simp) _
        have hB3 : Below w'.heap.size w' _ := hB1.trans (hA.mono hB1.size)
        have hbx : Rd ((w1.alloc (.cells #[.int .i64 F.1, .slice A' F.2.length c'] 50)).alloc (.cells #[.int .i64 F.1, .slice A' F.2.length c'] 50)) (some ⟨w1.heap.size + 1, 0, none⟩) [.int .i64 F.1, .slice A' F.2.length c'] := by
          have := (Blk.new (w1.alloc (.cells #[.int .i64 F.1, .slice A' F.2.length c'] 50)) 50 [.int .i64 F.1, .slice A' F.2.length c']).rd
          rw [show (w1.alloc (.cells #[.int .i64 F.1, .slice A' F.2.length c'] 50)).heap.size = w1.heap.size + 1 by simp] at this
          exact this
        have hown3 := own_below hown hB3
        have hvl := hown.lt
        have hkn : Keeps (fun x => w'.heap.size ≤ x ∧ x < w1.heap.size) (fun x => x < ((w1.alloc (.cells #[.int .i64 F.1, .slice A' F.2.length c'] 50)).alloc (.cells #[.int .i64 F.1, .slice A' F.2.length c'] 50)).heap.size ∧ some x ≠ v.ownBlock) w1 _ := fun x ⟨h1, h2⟩ =>
          ⟨⟨Nat.lt_of_lt_of_le h2 hA.size, fun e => by have := (hvl x e.symm).2; omega⟩, hA.block x h2⟩
        have hko : Keeps (fun x => x < w'.heap.size ∧ some x ≠ v.ownBlock) (fun x => x < ((w1.alloc (.cells #[.int .i64 F.1, .slice A' F.2.length c'] 50)).alloc (.cells #[.int .i64 F.1, .slice A' F.2.length c'] 50)).heap.size ∧ some x ≠ v.ownBlock) w' _ := fun x ⟨h1, h2⟩ =>
          ⟨⟨Nat.lt_of_lt_of_le h1 hB3.size, h2⟩, hB3.block x h1⟩
        have hch3 := (Hch.out.imp (fun cs a h => rFra_stays.to hko h)).append (Chunks.one (size := 2) rfl (rFra_mk (f := F) hc' hm' hfb (Hkf.out rfl) (hrd1.keeps hkn)))
        have hB3' : Below w.heap.size w _ := hB.trans (hB3.mono hB.size)
        have Hch3 := Lib.hid hch3
        have Hjs3 := Lib.hid (Hall.out.symm.trans (Hjs.out rfl)).symm
        clear hch3 hkn hko Hch Hjs Hjb Hgp Hkf hrd1 hB1 hA hown hB3 hB Hall
        have hN3 : (N : Int) ≤ (m : Int) := by omega
        have hN4 : (m : Int) ≤ (d : Int) := by omega
        go_wp2_with (first
          | (at_builtin; refine wpList_apps rfl (.tmp 21) (.tmp 23) 46 rfl w.heap.size 50 i0 (.agg #[.int .i64 0, .slice none 0 0]) 2 32 Tryd.underlying46 hi hz0 hz1 hz2 rfl (by omega) v pre.length xs rfl hown3 (some ⟨w1.heap.size + 1, 0, none⟩) 1 1 [.int .i64 F.1, .slice A' F.2.length c'] rfl rfl hbx (by simp [Value.oneCell']) (by simp only [maxLen]; omega) (by omega) hB3'.size ?_; intro v4 w4 hown4 hg4 hv4)
          | fail)
        all_goals
          go_step3
          have hfin : ∀ B4, Rd w B4 (u8s (bs'.drop N)) → AllAt w bs B4 (bs'.length - N) (bs'.length - N) v4 w4 (bs'.drop N) (pre ++ [F]) (xs ++ [.int .i64 F.1, .slice A' F.2.length c']) := fun B4 hB4 =>
            ⟨by rw [List.length_drop], Nat.le_refl _, by rw [List.length_append]; simp only [List.length_cons, List.length_nil]; omega, fun x hx => hby x (List.mem_of_mem_drop hx), hB4, by rw [List.length_append]; exact hown4,
              Hch3.out.imp (fun cs a h => rFra_stays.to (Keeps.grown hg4 hv4) h), Hjs3.out, hB3'.grown hg4 hB3'.size (fun k hk => (hown3.lt k hk).1)⟩
        · have h4 := hfin (some ⟨b, off, none⟩) (by rw [List.drop_of_length_le (by omega)]; exact .inl rfl)
          rw [show bs'.length - N = 0 by omega] at h4
          exact ⟨rfl, ⟨_, _, _, _, _, _, _, _, _, _, _, _, _, _, _, _, _, _, _, _, _, _, _, _, _, _, _, _, _, _, _, _, _, _, rfl, h4⟩, by simp only [lenOf]; simp; omega⟩
        · have h4 := hfin (some ⟨b, off + N, none⟩) (by rw [← u8s_drop]; exact hrd.drop N)
          rw [hm] at h4
          exact ⟨rfl, ⟨_, _, _, _, _, _, _, _, _, _, _, _, _, _, _, _, _, _, _, _, _, _, _, _, _, _, _, _, _, _, _, _, _, _, rfl, h4⟩, by simp only [lenOf]; simp; omega⟩
      · have hE' : ((E : Int) != 0) = true := by rw [bne_iff_ne]; omega
        go_wp2
        simp only [Exit.jump]
        go_ret2
        rw [← Hall.out, Hjb.out hE]
        exact ⟨.slice none 0 0, rfl, ⟨none, 0, [], rfl, Nat.le_refl _, Nat.zero_le _, .inl rfl, Chunks.nil⟩, (hB.trans (hB1.mono hB.size)).alloc (Nat.le_trans hB.size hB1.size) _⟩
end Go.Proofs.YthhkkiegfcofjaaDoor
