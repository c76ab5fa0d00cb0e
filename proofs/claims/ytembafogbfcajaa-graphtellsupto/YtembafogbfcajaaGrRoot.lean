/- The contract of graph's Root. Condition: sizes that memory can hold. -/
import Derived.Test.YtembafogbfcajaaGrNew
import Derived.Test.YtembafogbfcajaaGrReach
namespace Go.Proofs.Ytembafogbfcajaa
open Go.RowKit

def rootN (g : Gr) (i id : Int) : Gr := if rootE g i id = 0 then (g.1, g.2.1, if i = (g.2.2.length : Int) then g.2.2 ++ [id] else g.2.2.set i.toNat id) else g
theorem rootE_0 {g : Gr} {i id : Int} (h : rootE g i id = 0) : mayG g = true ∧ 0 ≤ i ∧ i < 3 ∧ i ≤ (g.2.2.length : Int) ∧ rootG g.2.1 id = true := by
  rw [rootE] at h
  split at h
  · rename_i h1
    split at h
    · rename_i h2
      obtain ⟨h3, h4, h5⟩ := h2
      simp at h3
      exact ⟨h1, h3.1, h3.2, h4, h5⟩
    · cases h
  · cases h
theorem root_read {H b1 b2 m K c3 : Nat} {w1 W : World} {g : Gr} {A3 A : Option Addr} {n c : Nat} {l : List Int} (hG : OwnG H w1 g b1 b2 m (.slice A3 K c3)) (hs : w1.heap.size ≤ W.heap.size) (hk : ∀ b, b1 ≤ b → b < m → W.heap[b]? = w1.heap[b]?)
    (hown : W.ownsRow m 3 1 (.slice A n c) n (ints l)) (hl : l.length = n) (hw : ∀ x ∈ l, (Lit.int .i64 x).wf = true) :
    rGr (All W) W [.slice (some ⟨b1, 0, none⟩) g.1.length g.1.length, .slice (some ⟨b2, 0, none⟩) g.2.1.length g.2.1.length, .slice A n c] (g.1, g.2.1, l) := by
  have := hG.low; have := hG.one; have := hG.two; have := hG.top
  obtain ⟨ds, h1, h2⟩ := hG.obs
  refine rGr_mk (rSch_stays.to (fun b hb => ⟨by show b < _; omega, hk b hb.1 (by omega)⟩) hG.sch) ?_ (rIds_stays.to (Keeps.mono fun b hb => hb.2) (ids_own hown hl hw))
  exact blk_slice ((hk b2 (by omega) (by omega)).trans h1) ((h2.keep fun b h3 h4 => hk b (by omega) (by omega)).chunks.imp fun cs a hq => rOb_stays.to (Keeps.mono fun b hb => by show b < _; omega) hq) (by show b2 < _; omega) hG.len
theorem below_own {w w' : World} {base e size n : Nat} {v : Value} {xs : List Value} (h : w.ownsRow base e size v n xs) (hB : Below w.heap.size w w') : w'.ownsRow base e size v n xs := own_below h hB

set_option maxRecDepth 100000 in
set_option maxHeartbeats 4000000 in
theorem groot_any (A B C : Option Addr) (N c M d K e : Nat) (g : Gr) (i id : Int) (w : World) (h : rGr (All w) w [.slice A N c, .slice B M d, .slice C K e] g) (htame : tameG g) (hid : (Lit.int .i64 id).wf = true) :
    Calls Try.prog 16 #[.agg #[.slice A N c, .slice B M d, .slice C K e], .int .i64 i, .int .i64 id] w fun e w' => ∃ A1 c1 B1 d1 C1 e1, e = .returned (.tuple #[.agg #[.slice A1 (rootN g i id).1.length c1, .slice B1 (rootN g i id).2.1.length d1, .slice C1 (rootN g i id).2.2.length e1], .int .i64 (rootE g i id)]) ∧
      rGr (All w') w' [.slice A1 (rootN g i id).1.length c1, .slice B1 (rootN g i id).2.1.length d1, .slice C1 (rootN g i id).2.2.length e1] (rootN g i id) ∧ Below w.heap.size w w' := by
  obtain ⟨hN, hNc, hcm⟩ := slice_len (rGr_open h).1
  obtain ⟨hM, hMd, hdm⟩ := slice_len (rGr_open h).2.1
  obtain ⟨hK, hKe, hem⟩ := slice_len (rGr_open h).2.2
  have hB0 : Below w.heap.size w ((w.alloc (.cells #[.slice A N c, .slice B M d, .slice C K e] 28)).alloc (.cells #[.slice none 0 0, .slice none 0 0, .slice none 0 0] 28)) := ((Below.refl _ w).alloc (Nat.le_refl _) _).alloc (by simp) _
  obtain ⟨p1, p2⟩ := blk_two w 28 28 [.slice A N c, .slice B M d, .slice C K e] [.slice none 0 0, .slice none 0 0, .slice none 0 0]
  have T1 := Lib.hid (copyGraph_any A B C N c M d K e g _ (gr_below hB0 h) htame)
  have T2 := Lib.hid (fun W (hW : Below w.heap.size w W) => whyNoRoot_any A B C N c M d K e g i id W (gr_below hW h))
  have HB0 := Lib.hid hB0
  have s0 : w.heap.size + 2 = ((w.alloc (.cells #[.slice A N c, .slice B M d, .slice C K e] 28)).alloc (.cells #[.slice none 0 0, .slice none 0 0, .slice none 0 0] 28)).heap.size := by simp
  clear hB0 h htame
  go_enter Try.func16, Try.ntmps16
  go_wp2_with fail
  refine T1.out.mono ?_
  rintro e w1 ⟨b1, b2, m, A3, c3, rfl, hG, hB1⟩
  have a1 := hG.low
  have a2 := hG.one
  have a3 := hG.two
  have a4 := hG.top
  have hB2 : Below w1.heap.size w1 (w1.alloc (.cells #[.slice (some ⟨b1, 0, none⟩) N N, .slice (some ⟨b2, 0, none⟩) M M, .slice A3 K c3] 28)) := (Below.refl _ w1).alloc (Nat.le_refl _) _
  have hB12 := hB1.trans (hB2.mono hB1.size)
  have H2 := Lib.hid (HB0.out.trans (hB12.mono HB0.out.size))
  have p7 := Blk.new w1 28 [.slice (some ⟨b1, 0, none⟩) N N, .slice (some ⟨b2, 0, none⟩) M M, .slice A3 K c3]
  replace p1 := p1.to hB12
  replace p2 := p2.to hB12
  have HB2 := Lib.hid hB2
  rw [← s0] at a1
  have HG := Lib.hid hG
  clear hB1 hB12 HB0 T1 s0 hB2 hG
  have c0 := p1.cell (j := 0) rfl
  have c1 := p1.cell (j := 1) rfl
  have c2 := p1.cell (j := 2) rfl
  go_wp2_with fail
  refine (T2.out _ H2.out).mono ?_
  rintro e w3 ⟨rfl, hB3⟩
  have hB13 := Lib.hid (HB2.out.trans (hB3.mono HB2.out.size))
  have H3 := Lib.hid (H2.out.trans (hB3.mono H2.out.size))
  replace p1 := p1.to hB3
  replace p2 := p2.to hB3
  replace p7 := p7.to hB3
  clear hB3 HB2 H2 T2 c0 c1 c2
  have x0 := p7.cell (j := 0) rfl
  have x1 := p7.cell (j := 1) rfl
  have x2 := p7.cell (j := 2) rfl
  by_cases he : rootE g i id = 0
  · obtain ⟨hm, hi0, hi3, hiK, hrt⟩ := rootE_0 he
    have hk3 := (mayG_parts hm).2.2.2.1
    obtain ⟨I, hI⟩ : ∃ I : Nat, i = (I : Int) := ⟨i.toNat, by omega⟩
    have Hn : Hid (rootN g i id = (g.1, g.2.1, if i = (g.2.2.length : Int) then g.2.2 ++ [id] else g.2.2.set i.toNat id)) := Lib.hid (if_pos he)
    obtain ⟨i0, hi, hz0, hz1, hz2⟩ := info_parts info_int
    have He := Lib.hid he
    subst hI
    rw [hK] at Hn
    rw [he]
    clear he hm
    have own1 := HG.out.ids
    rw [hK] at own1
    have own3 := below_own own1 hB13.out
    have hwf := HG.out.wf
    have hlt := own1.lt
    have s13 := hB13.out.size
    have l7 := p7.lt
    have H3s := H3.out.size
    by_cases hIK : I = K
    · have hIK' : ((I : Int) == (K : Int)) = true := by simp [hIK]
      rw [if_pos (by omega)] at Hn
      have own4 := own3.alloc (.cells #[.int .i64 id] 3)
      have Hrd := Lib.hid (lit_ints w3 [id])
      have Hown := Lib.hid own4
      subst hIK
      clear own1 own3 own4
      go_wp2_with (first
        | (at_builtin; refine wpList_app rfl (.tmp 26) (.tmp 28) 26 rfl m 3 i0 (.int .i64 0) 8 Try.underlying26 hi hz0 hz1 hz2 rfl (.slice A3 I c3) I (ints g.2.2) rfl Hown.out (some ⟨w3.heap.size, 0, none⟩) 1 1 (ints [id]) rfl rfl Hrd.out (ints_one _) (by simp only [maxLen]; omega) (by omega) (by simp; omega) ?_; intro v4 w4 hown4 hg4 hv4
           obtain ⟨A4, c4, rfl, -⟩ := own_in hown4
           have hG4 : w3.grownBy w4 (Value.slice A3 I c3).ownBlock := (World.grownBy_alloc _ _ _).trans hg4
           have q7 : Blk w4 w1.heap.size 28 [.slice (some ⟨b1, 0, none⟩) N N, .slice (some ⟨b2, 0, none⟩) M M, .slice A3 I c3] := (hG4.block _ p7.lt (fun e => by have := (hlt _ e.symm).2; omega)).trans p7
           have q2 : Blk w4 (w.heap.size + 1) 28 [.slice none 0 0, .slice none 0 0, .slice none 0 0] := (hG4.block _ p2.lt (fun e => by have := (hlt _ e.symm).1; omega)).trans p2
           have f7 := q7.frozen 2
           have e7 := q7.cell (j := 2) rfl
           have r7 := q7.set 2 (.slice A4 (I + 1) c4)
           have r2 := q2.other ⟨w1.heap.size, 2, none⟩ (.slice A4 (I + 1) c4) (by simp; omega)
           have xx0 := r7.cell (j := 0) rfl
           have xx1 := r7.cell (j := 1) rfl
           have xx2 := r7.cell (j := 2) rfl
           have y0 := r2.cell (j := 0) rfl
           have y1 := r2.cell (j := 1) rfl
           have y2 := r2.cell (j := 2) rfl
           have g0 := r2.frozen 0
           have g1 := r2.frozen 1
           have g2 := r2.frozen 2)
        | fail)
      have P9 := ((r2.set 0 (.slice (some ⟨b1, 0, none⟩) N N)).set 1 (.slice (some ⟨b2, 0, none⟩) M M)).set 2 (.slice A4 (I + 1) c4)
      refine ret_cell1 (d := .struct _) (cs := [.slice (some ⟨b1, 0, none⟩) N N, .slice (some ⟨b2, 0, none⟩) M M, .slice A4 (I + 1) c4]) rfl P9 rfl rfl rfl rfl rfl ?_
      have hkeep : ∀ b, b ≠ w1.heap.size → b ≠ w.heap.size + 1 → ((((w4.setCell ⟨w1.heap.size, 2, none⟩ (.slice A4 (I + 1) c4)).setCell ⟨w.heap.size + 1, 0, none⟩ (.slice (some ⟨b1, 0, none⟩) N N)).setCell ⟨w.heap.size + 1, 1, none⟩ (.slice (some ⟨b2, 0, none⟩) M M)).setCell ⟨w.heap.size + 1, 2, none⟩ (.slice A4 (I + 1) c4)).heap[b]? = w4.heap[b]? := fun b n1 n2 => by
        rw [Below.heap_setCell _ _ _ _ n2, Below.heap_setCell _ _ _ _ n2, Below.heap_setCell _ _ _ _ n2, Below.heap_setCell _ _ _ _ n1]
      have hs4 := hG4.size
      have hv8 : ∀ b, (Value.slice A4 (I + 1) c4).ownBlock = some b → b ≠ w1.heap.size ∧ b ≠ w.heap.size + 1 := fun b hb => by
        rcases hv4 with hv | hv
        · have := hlt b (hv.symm.trans hb); omega
        · rw [hb] at hv; injection hv with hv; simp at hv; omega
      have hrd := root_read HG.out (W := (((w4.setCell ⟨w1.heap.size, 2, none⟩ (.slice A4 (I + 1) c4)).setCell ⟨w.heap.size + 1, 0, none⟩ (.slice (some ⟨b1, 0, none⟩) N N)).setCell ⟨w.heap.size + 1, 1, none⟩ (.slice (some ⟨b2, 0, none⟩) M M)).setCell ⟨w.heap.size + 1, 2, none⟩ (.slice A4 (I + 1) c4)) (by simp; omega) (fun b n1 n2 => by rw [hkeep b (by omega) (by omega), hG4.block b (by omega) (fun e => by have := (hlt _ e.symm).1; omega), hB13.out.block b (by omega)])
        (own_at (w := w4) (by rw [ints_append]; exact hown4) fun b hb => hkeep b (hv8 b hb).1 (hv8 b hb).2) (l := g.2.2 ++ [id]) (by rw [List.length_append, hK]; rfl) (fun x hx => by
          rcases List.mem_append.1 hx with h1 | h1
          · exact hwf x h1
          · simp at h1; subst h1; exact hid)
      rw [Hn.out, He.out]
      simp only [List.length_append, List.length_singleton]
      rw [hN, hM, hK]
      rw [hN, hM] at hrd
      have hq4 := H3.out.grown hG4 H3.out.size (fun k hk => by have := (hlt k hk).1; omega)
      exact ⟨some ⟨b1, 0, none⟩, N, some ⟨b2, 0, none⟩, M, A4, c4, rfl, hrd, (((hq4.setCell (p := ⟨w1.heap.size, 2, none⟩) (by show w.heap.size ≤ w1.heap.size; omega) _).setCell (p := ⟨w.heap.size + 1, 0, none⟩) (by simp) _).setCell (p := ⟨w.heap.size + 1, 1, none⟩) (by simp) _).setCell (p := ⟨w.heap.size + 1, 2, none⟩) (by simp) _⟩
    · have hIK' : ((I : Int) == (K : Int)) = false := by rw [beq_eq_false_iff_ne]; omega
      rw [if_neg (by omega), Int.toNat_natCast] at Hn
      rcases own3.2 with ⟨-, h0⟩ | ⟨g3, cap, cur, e3, hge, hheap, hnc, hcm3, hsz, htk⟩
      · omega
      injection e3 with e31 e32 e33
      subst e31 e33
      have hg3 := hlt g3 rfl
      have b3 : Blk w3 g3 3 cur.toList := by unfold Blk; simpa using hheap
      have hcl : cur.toList.length = c3 := by simpa using hsz
      obtain ⟨x, hx⟩ : ∃ x, cur.toList[I]? = some x := ⟨_, List.getElem?_eq_getElem (by omega)⟩
      have xc := b3.cell hx
      have xf := b3.frozen I
      have hil : (I : Int) < (K : Int) := by omega
      have r7 := p7.other ⟨g3, I, none⟩ (.int .i64 id) (by simp; omega)
      have r2 := p2.other ⟨g3, I, none⟩ (.int .i64 id) (by simp; omega)
      have xx0 := r7.cell (j := 0) rfl
      have xx1 := r7.cell (j := 1) rfl
      have xx2 := r7.cell (j := 2) rfl
      have y0 := r2.cell (j := 0) rfl
      have y1 := r2.cell (j := 1) rfl
      have y2 := r2.cell (j := 2) rfl
      have f0 := r2.frozen 0
      have f1 := r2.frozen 1
      have f2 := r2.frozen 2
      have B3 := Lib.hid (b3.set I (.int .i64 id))
      have Htk := Lib.hid htk
      have Hcl := Lib.hid hcl
      clear own1 own3 hx hheap hsz htk b3 hcl
      go_wp2
      have P9 := ((r2.set 0 (.slice (some ⟨b1, 0, none⟩) N N)).set 1 (.slice (some ⟨b2, 0, none⟩) M M)).set 2 (.slice (some ⟨g3, 0, none⟩) K c3)
      refine ret_cell1 (d := .struct _) (cs := [.slice (some ⟨b1, 0, none⟩) N N, .slice (some ⟨b2, 0, none⟩) M M, .slice (some ⟨g3, 0, none⟩) K c3]) rfl P9 rfl rfl rfl rfl rfl ?_
      have hkeep : ∀ b, b ≠ w.heap.size + 1 → ((((w3.setCell ⟨g3, I, none⟩ (.int .i64 id)).setCell ⟨w.heap.size + 1, 0, none⟩ (.slice (some ⟨b1, 0, none⟩) N N)).setCell ⟨w.heap.size + 1, 1, none⟩ (.slice (some ⟨b2, 0, none⟩) M M)).setCell ⟨w.heap.size + 1, 2, none⟩ (.slice (some ⟨g3, 0, none⟩) K c3)).heap[b]? = (w3.setCell ⟨g3, I, none⟩ (.int .i64 id)).heap[b]? := fun b n2 => by
        rw [Below.heap_setCell _ _ _ _ n2, Below.heap_setCell _ _ _ _ n2, Below.heap_setCell _ _ _ _ n2]
      have hown9 : (w3.setCell ⟨g3, I, none⟩ (.int .i64 id)).ownsRow m 3 1 (.slice (some ⟨g3, 0, none⟩) K c3) K (ints (g.2.2.set I id)) := by
        refine ⟨by rw [ints_length, List.length_set, hK, Nat.mul_one], .inr ⟨g3, c3, (cur.toList.set I (.int .i64 id)).toArray, rfl, hge, B3.out, hnc, hcm3, by simp [Hcl.out], ?_⟩⟩
        have := Htk.out
        simp only [Nat.mul_one] at this ⊢
        rw [List.take_set, this, ints, ints, List.map_set]
      have hrd := root_read HG.out (W := (((w3.setCell ⟨g3, I, none⟩ (.int .i64 id)).setCell ⟨w.heap.size + 1, 0, none⟩ (.slice (some ⟨b1, 0, none⟩) N N)).setCell ⟨w.heap.size + 1, 1, none⟩ (.slice (some ⟨b2, 0, none⟩) M M)).setCell ⟨w.heap.size + 1, 2, none⟩ (.slice (some ⟨g3, 0, none⟩) K c3)) (by simp; omega) (fun b n1 n2 => by rw [hkeep b (by omega), Below.heap_setCell _ _ _ _ (by show b ≠ g3; omega), hB13.out.block b (by omega)])
        (own_at hown9 fun b hb => hkeep b (fun e => by subst e; simp [Value.ownBlock] at hb; omega)) (by rw [List.length_set, hK]) (fun x hx => by
          rcases List.mem_or_eq_of_mem_set hx with h1 | h1
          · exact hwf x h1
          · subst h1; exact hid)
      rw [Hn.out, He.out]
      simp only [List.length_set]
      rw [hN, hM, hK]
      rw [hN, hM] at hrd
      exact ⟨some ⟨b1, 0, none⟩, N, some ⟨b2, 0, none⟩, M, some ⟨g3, 0, none⟩, c3, rfl, hrd, (((H3.out.setCell (p := ⟨g3, I, none⟩) (by show w.heap.size ≤ g3; omega) _).setCell (p := ⟨w.heap.size + 1, 0, none⟩) (by simp) _).setCell (p := ⟨w.heap.size + 1, 1, none⟩) (by simp) _).setCell (p := ⟨w.heap.size + 1, 2, none⟩) (by simp) _⟩
  · have he' : (rootE g i id != 0) = true := by simp [he]
    have Hn : Hid (rootN g i id = g) := Lib.hid (if_neg he)
    clear he
    have y0 := p2.cell (j := 0) rfl
    have y1 := p2.cell (j := 1) rfl
    have y2 := p2.cell (j := 2) rfl
    have g0 := p2.frozen 0
    have g1 := p2.frozen 1
    have g2 := p2.frozen 2
    generalize hne : rootE g i id = er at *
    have Hne := Lib.hid hne
    clear hne
    go_wp2
    have P9 := ((p2.set 0 (.slice (some ⟨b1, 0, none⟩) N N)).set 1 (.slice (some ⟨b2, 0, none⟩) M M)).set 2 (.slice A3 K c3)
    refine ret_cell1 (d := .struct _) (cs := [.slice (some ⟨b1, 0, none⟩) N N, .slice (some ⟨b2, 0, none⟩) M M, .slice A3 K c3]) rfl P9 rfl rfl rfl rfl rfl ?_
    have hG9 := (HG.out.below hB13.out).keep (w' := ((w3.setCell ⟨w.heap.size + 1, 0, none⟩ (.slice (some ⟨b1, 0, none⟩) N N)).setCell ⟨w.heap.size + 1, 1, none⟩ (.slice (some ⟨b2, 0, none⟩) M M)).setCell ⟨w.heap.size + 1, 2, none⟩ (.slice A3 K c3)) (by simp) fun b hb _ => by
      rw [Below.heap_setCell _ _ _ _ (by show b ≠ w.heap.size + 1; simp at hb; omega), Below.heap_setCell _ _ _ _ (by show b ≠ w.heap.size + 1; simp at hb; omega), Below.heap_setCell _ _ _ _ (by show b ≠ w.heap.size + 1; simp at hb; omega)]
    have hrd := hG9.read hK
    rw [Hn.out, hN, hM, hK, Hne.out]
    rw [hN, hM] at hrd
    exact ⟨some ⟨b1, 0, none⟩, N, some ⟨b2, 0, none⟩, M, A3, c3, rfl, hrd, ((H3.out.setCell (p := ⟨w.heap.size + 1, 0, none⟩) (by simp) _).setCell (p := ⟨w.heap.size + 1, 1, none⟩) (by simp) _).setCell (p := ⟨w.heap.size + 1, 2, none⟩) (by simp) _⟩
end Go.Proofs.Ytembafogbfcajaa
