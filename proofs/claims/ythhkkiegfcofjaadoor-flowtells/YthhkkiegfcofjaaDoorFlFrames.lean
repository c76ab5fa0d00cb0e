/- The contract of flow's frames: the frames of a flow that may be, in memory of the call's own. Condition: the flow may be. -/
import Derived.Test.YthhkkiegfcofjaaDoorFlNum
namespace Go.Proofs.YthhkkiegfcofjaaDoor
open Go.RowKit

/-- One frame more, laid for an append to a list of frames of the call's own. -/
theorem fr_step {w wr w3 : World} {v : Value} {k : Nat} {xs : List Value} {pre : List Fra} {F : Fra} {A3 : Option Addr} {c3 : Nat}
    (hB : Below w.heap.size w wr) (hown : wr.ownsRow w.heap.size 50 2 v k xs) (hch : Chunks 2 (rFra (fun b => b < wr.heap.size ∧ some b ≠ v.ownBlock) wr) xs pre)
    (hB3 : Below wr.heap.size wr w3) (hrd : RdIn (fun b => wr.heap.size ≤ b ∧ b < w3.heap.size) w3 A3 (u8s F.2)) (hc : F.2.length ≤ c3) (hm : c3 ≤ maxLen) (hby : ∀ x ∈ F.2, x < 256) (hw : (Lit.int .i64 F.1).wf = true) :
    (w3.alloc (.cells #[.int .i64 F.1, .slice A3 F.2.length c3] 50)).ownsRow w.heap.size 50 2 v k xs ∧ Rd (w3.alloc (.cells #[.int .i64 F.1, .slice A3 F.2.length c3] 50)) (some ⟨w3.heap.size, 0, none⟩) [.int .i64 F.1, .slice A3 F.2.length c3] ∧
    Below w.heap.size w (w3.alloc (.cells #[.int .i64 F.1, .slice A3 F.2.length c3] 50)) ∧
    Chunks 2 (rFra (fun b => b < (w3.alloc (.cells #[.int .i64 F.1, .slice A3 F.2.length c3] 50)).heap.size ∧ some b ≠ v.ownBlock) (w3.alloc (.cells #[.int .i64 F.1, .slice A3 F.2.length c3] 50))) (xs ++ [.int .i64 F.1, .slice A3 F.2.length c3]) (pre ++ [F]) := by
  have hA : Below w3.heap.size w3 (w3.alloc (.cells #[.int .i64 F.1, .slice A3 F.2.length c3] 50)) := (Below.refl _ w3).alloc (Nat.le_refl _) _
  have hB4 := hB3.trans (hA.mono hB3.size)
  refine ⟨own_below hown hB4, (Blk.new w3 50 [.int .i64 F.1, .slice A3 F.2.length c3]).rd, hB.trans (hB4.mono hB.size), ?_⟩
  have hvl := hown.lt
  have hkn : Keeps (fun x => wr.heap.size ≤ x ∧ x < w3.heap.size) (fun x => x < (w3.alloc (.cells #[.int .i64 F.1, .slice A3 F.2.length c3] 50)).heap.size ∧ some x ≠ v.ownBlock) w3 _ := fun x ⟨h1, h2⟩ =>
    ⟨⟨Nat.lt_of_lt_of_le h2 hA.size, fun e => by have := (hvl x e.symm).2; omega⟩, hA.block x h2⟩
  have hko : Keeps (fun x => x < wr.heap.size ∧ some x ≠ v.ownBlock) (fun x => x < (w3.alloc (.cells #[.int .i64 F.1, .slice A3 F.2.length c3] 50)).heap.size ∧ some x ≠ v.ownBlock) wr _ := fun x ⟨h1, h2⟩ =>
    ⟨⟨Nat.lt_of_lt_of_le h1 hB4.size, h2⟩, hB4.block x h1⟩
  exact (hch.imp (fun cs a h => rFra_stays.to hko h)).append (Chunks.one (size := 2) rfl (rFra_mk (f := F) hc hm hby hw (hrd.keeps hkn)))

set_option maxRecDepth 100000 in
set_option maxHeartbeats 1000000 in
theorem frames_any (A : Option Addr) (n c b : Nat) (ps : List (List Nat)) (w : World) (hb : b < 4294967296) (h : rPts (All w) w [.slice A n c] ps) (hn40 : n ≤ 40) (hp : ∀ p ∈ ps, p.length ≤ 200) :
    Calls Tryd.prog 25 #[.agg #[.int .u32 (b : Int), .slice A n c]] w fun e w' => ∃ B d, e = .returned (.slice B (n + 2) d) ∧ rSlice 2 rFra (All w') w' [.slice B (n + 2) d] (framesF ((b : Int), ps)) ∧ Below w.heap.size w w' := by
  obtain ⟨hn, hnc, hcm⟩ := pts_len h
  have hcm2 := hcm
  simp only [maxLen] at hcm2
  obtain ⟨i0, hi, hz0, hz1, hz2⟩ := info_parts info_fr4
  obtain ⟨j0, hj, hy0, hy1, hy2⟩ := info_parts info_u8
  have hB1 : Below w.heap.size w ((w.alloc (.cells #[.int .u32 (b : Int), .slice A n c] 25)).alloc (.cells #[.int .u64 1, .int .u64 (b : Int), .int .u64 (n : Int)] 62)) := ((Below.refl _ w).alloc (Nat.le_refl _) _).alloc (by simp) _
  have hbox := ((Blk.new w 25 [.int .u32 (b : Int), .slice A n c]).alloc (.cells #[.int .u64 1, .int .u64 (b : Int), .int .u64 (n : Int)] 62))
  have hrd1 : Rd ((w.alloc (.cells #[.int .u32 (b : Int), .slice A n c] 25)).alloc (.cells #[.int .u64 1, .int .u64 (b : Int), .int .u64 (n : Int)] 62)) (some ⟨w.heap.size + 1, 0, none⟩) (u64s [1, b, n]) := by
    have := (Blk.new (w.alloc (.cells #[.int .u32 (b : Int), .slice A n c] 25)) 62 [.int .u64 1, .int .u64 (b : Int), .int .u64 (n : Int)]).rd
    rw [World.size_alloc] at this
    exact this
  have N1 := Lib.hid (fnumbers_any (some ⟨w.heap.size + 1, 0, none⟩) 3 3 [1, b, n] _ rfl (by omega) (by intro x hx; simp at hx; omega) hrd1)
  have hl := headL_len hb hn40
  rw [← headL_cat] at N1
  have hlb := headL_byte b n
  have hfr : framesF ((b : Int), ps) = ((1 : Int), headL b n) :: (partsF 0 ps ++ [((3 : Int), vputL n)]) := by rw [framesF]; simp only; rw [hn]; rfl
  rw [hfr]
  clear hfr
  generalize headL b n = hd at *
  have Hbox := Lib.hid hbox
  have HB1 := Lib.hid hB1
  clear hbox hB1 hrd1
  go_enter Tryd.func25, Tryd.ntmps25
  go_wp2_with fail
  refine N1.out.mono ?_
  rintro e w2 ⟨v2, rfl, hown2, hB2⟩
  have hbox := Hbox.out.below Hbox.out.lt hB2
  have hBx := HB1.out.trans (hB2.mono HB1.out.size)
  obtain ⟨A2, c2, rfl, hc2, hm2, hr2⟩ := own_in hown2
  have hr2' : RdIn (fun b => w.heap.size ≤ b ∧ b < w2.heap.size) w2 A2 (u8s hd) := hr2.keeps (Keeps.mono fun x hx => ⟨Nat.le_trans HB1.out.size hx.1, hx.2⟩)
  clear Hbox HB1 N1 hown2 hr2 hB2
  have hx0 := hbox.cell (j := 0) rfl
  have hx1 := hbox.cell (j := 1) rfl
  have hlt2 := hbox.lt
  have hB3 : Below w.heap.size w (w2.alloc (.cells #[.int .i64 1, .slice A2 hd.length c2] 50)) := hBx.alloc hBx.size _
  have hown3 := World.ownsRow_lit (base := w.heap.size) (e := 50) (size := 2) w2 #[.int .i64 1, .slice A2 hd.length c2] 1 hBx.size (by simp [maxLen]) rfl
  have hch3 : Chunks 2 (rFra (fun b => b < (w2.alloc (.cells #[.int .i64 1, .slice A2 hd.length c2] 50)).heap.size ∧ some b ≠ (Value.slice (some ⟨w2.heap.size, 0, none⟩) 1 1).ownBlock) (w2.alloc (.cells #[.int .i64 1, .slice A2 hd.length c2] 50))) [.int .i64 1, .slice A2 hd.length c2] [((1 : Int), hd)] :=
    Chunks.one (size := 2) rfl (rFra_mk (f := ((1 : Int), hd)) hc2 hm2 hlb (show (Lit.int .i64 1).wf = true by decide) (hr2'.keeps fun x hx => ⟨⟨by rw [World.size_alloc]; omega, by simp [Value.ownBlock]; omega⟩, Below.heap_alloc w2 _ x hx.2⟩))
  have Hch3 := Lib.hid hch3
  clear hch3 hr2'
  go_wp2_with fail
  go_loopw [4, 23] (fun v iv wr => ∃ (i : Nat) (xs : List Value), i ≤ n ∧ iv = .int .i64 (i : Int) ∧ wr.ownsRow w.heap.size 50 2 v (i + 1) xs ∧ Hid (Chunks 2 (rFra (fun b => b < wr.heap.size ∧ some b ≠ v.ownBlock) wr) xs (((1 : Int), hd) :: partsF 0 (ps.take i))) ∧ Below w.heap.size w wr) (fun _ iv _ => n - (intOf iv).toNat)
  case atStart => exact ⟨0, _, by omega, rfl, hown3, Hch3, hB3⟩
  case round =>
    obtain ⟨i, xs, hile, rfl, hown, Hch, hB⟩ := hrel
    clear Hch3 hown3 hB3 hbox hx0 hx1 hBx
    by_cases hin : i < n
    · have hli : ps[i]? = some ps[i] := List.getElem?_eq_getElem (by omega)
      obtain ⟨b1, off1, A1, c1, rfl, hb1, hx1, hpc1, hpm1, hpb1, hr1⟩ := pts_at h hli
      have hcell := (hB.cell (p := ⟨b1, off1 + i, none⟩) hb1).trans hx1
      have hpl := hp ps[i] (List.getElem_mem _)
      have htk : partsF 0 (ps.take (i + 1)) = partsF 0 (ps.take i) ++ [((2 : Int), vputL i ++ ps[i])] := by
        rw [List.take_add_one, hli, partsF_append, List.length_take, Nat.min_eq_left (by omega), Nat.zero_add]
        rfl
      have hvl := vputL_len5 (n := i) (by omega)
      have hvb := vputL_byte i
      have hrdi : Rd (wr.alloc (.cells #[.int .u64 (i : Int)] 62)) (some ⟨wr.heap.size, 0, none⟩) (u64s [i]) := (Blk.new wr 62 [.int .u64 (i : Int)]).rd
      have N2 := fnumbers_any (some ⟨wr.heap.size, 0, none⟩) 1 1 [i] _ rfl (by omega) (by intro x hx; simp at hx; omega) hrdi
      rw [show catV [i] = vputL i by simp [catV]] at N2
      have HN2 := Lib.hid N2
      have Htk := Lib.hid htk
      have hr1' := Lib.hid (RdIn.rd hr1)
      clear N2 htk hrdi hli hx1 hr1
      have hBa : Below wr.heap.size wr (wr.alloc (.cells #[.int .u64 (i : Int)] 62)) := (Below.refl _ wr).alloc (Nat.le_refl _) _
      generalize ps[i] = p at *
      generalize vputL i = vi at *
      have hil : (i : Int) < (n : Int) := by omega
      have hi0 : (0 : Int) ≤ (i : Int) := by omega
      go_wp2_with (first
        | (go_at_call 38; refine HN2.out.mono ?_; rintro e w2 ⟨v2, rfl, hown2, hB2⟩; obtain ⟨A2, c2, rfl, _⟩ := own_slice hown2; have hBy : Below wr.heap.size wr w2 := hBa.trans (hB2.mono hBa.size); have hr1w := hr1'.out.below (hB.trans (hBy.mono hB.size)); have hsy := hBy.size; have hs2 := hB2.size; rw [World.size_alloc] at hs2)
        | (at_builtin; refine wpList_app rfl (.tmp 31) (.tmp 32) 26 rfl _ 5 j0 (.int .u8 0) 1 Tryd.underlying26 hj hy0 hy1 hy2 rfl _ vi.length (u8s vi) rfl hown2 A1 p.length c1 (u8s p) rfl (by rw [u8s_length]) hr1w (u8s_one _) (by simp only [maxLen]; omega) (by omega) (by rw [World.size_alloc]; omega) ?_; intro v3 w3 hown3 hg3 _; have hB3 : Below wr.heap.size wr w3 := hBy.grown hg3 hBy.size (fun k hk => Nat.le_trans (by rw [World.size_alloc]; omega) (hown2.lt k hk).1); rw [← u8s_append, ← List.length_append] at hown3; generalize hq : vi ++ p = q at hown3; obtain ⟨A3, c3, rfl, hc3, hm3, hr3⟩ := own_in hown3; obtain ⟨hown4, hrd4, hB4, hch4⟩ := fr_step (F := ((2 : Int), q)) hB hown Hch.out hB3 (hr3.keeps (Keeps.mono fun x hx => ⟨Nat.le_trans (by rw [World.size_alloc]; omega) hx.1, hx.2⟩)) hc3 hm3 (by intro x hx; rw [← hq] at hx; rcases List.mem_append.1 hx with hx | hx; exact hvb x hx; exact hpb1 x hx) (show (Lit.int .i64 2).wf = true by decide); have Hch4 := Lib.hid hch4; have Hq := Lib.hid hq; clear hch4 hr3 Hch hq)
        | (at_builtin; refine wpList_apps rfl (.tmp 34) (.tmp 37) 46 rfl w.heap.size 50 i0 (.agg #[.int .i64 0, .slice none 0 0]) 2 32 Tryd.underlying46 hi hz0 hz1 hz2 rfl (by omega) _ (i + 1) xs rfl hown4 (some ⟨w3.heap.size, 0, none⟩) 1 1 [.int .i64 2, .slice A3 q.length c3] rfl rfl hrd4 (by simp [Value.oneCell']) (by simp only [maxLen]; omega) (by omega) hB4.size ?_; intro v5 w5 hown5 hg5 hv5)
        | fail)
      go_roundw
      case rel =>
        refine ⟨i + 1, _, by omega, by go_num, hown5, Lib.hid ?_, hB4.grown hg5 hB4.size (fun k hk => (hown4.lt k hk).1)⟩
        rw [Htk.out, Hq.out, ← List.cons_append]
        exact Hch4.out.imp (fun cs a h => rFra_stays.to (Keeps.grown hg5 hv5) h)
      case measure => simp [intOf]; omega
    · obtain rfl : i = n := by omega
      rw [List.take_of_length_le (by omega)] at Hch
      have hvl := vputL_len5 (n := i) (by omega)
      have hvb := vputL_byte i
      have hrdi : Rd (wr.alloc (.cells #[.int .u64 (i : Int)] 62)) (some ⟨wr.heap.size, 0, none⟩) (u64s [i]) := (Blk.new wr 62 [.int .u64 (i : Int)]).rd
      have N2 := fnumbers_any (some ⟨wr.heap.size, 0, none⟩) 1 1 [i] _ rfl (by omega) (by intro x hx; simp at hx; omega) hrdi
      rw [show catV [i] = vputL i by simp [catV]] at N2
      have HN2 := Lib.hid N2
      clear N2 hrdi
      have hBa : Below wr.heap.size wr (wr.alloc (.cells #[.int .u64 (i : Int)] 62)) := (Below.refl _ wr).alloc (Nat.le_refl _) _
      generalize hvi : vputL i = vi at *
      have Hvi := Lib.hid hvi
      clear hvi
      go_wp2_with (first
        | (go_at_call 38; refine HN2.out.mono ?_; rintro e w2 ⟨v2, rfl, hown2, hB2⟩; obtain ⟨A2, c2, rfl, hc3, hm3, hr3⟩ := own_in hown2; have hBy : Below wr.heap.size wr w2 := hBa.trans (hB2.mono hBa.size); obtain ⟨hown4, hrd4, hB4, hch4⟩ := fr_step (F := ((3 : Int), vi)) hB hown Hch.out hBy (hr3.keeps (Keeps.mono fun x hx => ⟨Nat.le_trans hBa.size hx.1, hx.2⟩)) hc3 hm3 hvb (show (Lit.int .i64 3).wf = true by decide); have Hch4 := Lib.hid hch4; clear hch4 hr3 Hch)
        | (at_builtin; refine wpList_apps rfl (.tmp 40) (.tmp 45) 46 rfl w.heap.size 50 i0 (.agg #[.int .i64 0, .slice none 0 0]) 2 32 Tryd.underlying46 hi hz0 hz1 hz2 rfl (by omega) _ (i + 1) xs rfl hown4 (some ⟨w2.heap.size, 0, none⟩) 1 1 [.int .i64 3, .slice A2 vi.length c2] rfl rfl hrd4 (by simp [Value.oneCell']) (by simp only [maxLen]; omega) (by omega) hB4.size ?_; intro v5 w5 hown5 hg5 hv5; obtain ⟨A5, c5, rfl⟩ := own_slice2 hown5)
        | fail)
      go_ret
      have hvi := Hvi.out
      subst hvi
      have hch5 := Hch4.out.imp (fun cs a h => rFra_stays.to (Keeps.grown hg5 hv5) h)
      exact ⟨_, _, rfl, own_rSlice rFra_stays hown5 (by simp [partsF_length]; omega) hch5, hB4.grown hg5 hB4.size (fun k hk => (hown4.lt k hk).1)⟩
end Go.Proofs.YthhkkiegfcofjaaDoor
