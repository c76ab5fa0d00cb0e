/- The texts CaClone, CaRenamed, CaCanonW, CaCanon in one; what each proves, and its conditions, stands before it. -/
import Derived.Test.YteafbdebmhpffaaGrRows3
import Derived.Test.YteafbdebmhpffaaGrSweepAll
import Derived.Test.YteafbdebmhpffaaCaMeetAll
/- The contract of slices.Clone of values. Condition: sizes that memory can hold. -/
namespace Go.Proofs.Yteafbdebmhpffaa
open Go.RowKit

set_option maxRecDepth 100000 in
set_option maxHeartbeats 1000000 in
theorem vclone_any (A : Option Addr) (N c : Nat) (l : List Vl) (w : World) (h : rVals (All w) w [.slice A N c] l) (hN : N ≤ 4398046511104) :
    Calls Try.prog 60 #[.slice A N c] w fun e w' => ∃ A1 c1 xs, e = .returned (.slice A1 N c1) ∧ w'.ownsRow w.heap.size 42 3 (.slice A1 N c1) N xs ∧ Chunks 3 (fun cs x => ∀ S W, rVal S W cs x) xs l ∧ Below w.heap.size w w' := by
  obtain ⟨hl, _, _⟩ := slice_len h
  obtain ⟨i0, hi, hz0, hz1, hz2⟩ := info_parts info_vals
  obtain ⟨xs, hr, hxl, hch⟩ := slice_cells h
  have h1 := chunks_all1 val_one hch
  have Hch : Hid (Chunks 3 (fun cs x => ∀ S W, rVal S W cs x) xs l) := Lib.hid (hch.imp fun _ _ hq _ _ => hq)
  clear h hch
  cases A with
  | none =>
    have h0 : xs = [] := by
      rcases hr with h | ⟨_, _, h, _⟩
      · exact h
      · cases h
    subst h0
    obtain rfl : N = 0 := by simp at hxl; omega
    have hq := fun W : World => Lib.run_eql_slice_nil (P := Try.prog) W 36 42 none 0 c 0 0 rfl
    go_enter Try.func60, Try.ntmps60
    go_wp2
    go_ret
    exact ⟨none, 0, [], rfl, World.ownsRow_nil _ _ _ _, Hch.out, Below.refl _ _⟩
  | some a =>
    have hq := fun W : World => Lib.run_eql_slice_nil (P := Try.prog) W 36 42 (some a) N c 0 0 rfl
    have hB0 : Below w.heap.size w (w.alloc (.cells #[] 42)) := (Below.refl _ w).alloc (Nat.le_refl _) _
    have hown : (w.alloc (.cells #[] 42)).ownsRow w.heap.size 42 3 (.slice (some ⟨w.heap.size, 0, none⟩) 0 0) 0 [] :=
      ⟨rfl, .inr ⟨w.heap.size, 0, #[], rfl, Nat.le_refl _, heap_alloc_new w _, Nat.le_refl _, by simp [maxLen], rfl, rfl⟩⟩
    have hr0 := hr.below hB0
    have Hown := Lib.hid hown
    clear hown hr
    go_enter Try.func60, Try.ntmps60
    go_wp2_with (first | (at_builtin; refine wpList_apps rfl _ _ 36 rfl w.heap.size 42 i0 (.agg #[.int .i64 0, .string ⟨#[]⟩, .int .i64 0]) 3 32 rfl hi hz0 hz1 hz2 rfl (by omega) _ 0 [] rfl Hown.out (some a) N c xs rfl hxl hr0 h1 (by simp only [maxLen]; omega) (by omega) (by simp) ?_; intro v1 w1 hown1 hg1 hv1) | fail)
    obtain ⟨A1, c1, hv⟩ := own_slice3 hown1
    rw [Nat.zero_add] at hv hown1
    subst hv
    go_ret
    exact ⟨A1, c1, xs, rfl, by simpa using hown1, Hch.out, hB0.grown hg1 (by simp) (fun k hk => by injection hk with hk; exact Nat.le_of_eq hk)⟩
end Go.Proofs.Yteafbdebmhpffaa

/- The contract of canon's renamed: an object that has its place as its id, and places as what its Refs lead to. Condition: a graph that may be, an object of it, and places of it and of all that it leads to. -/
namespace Go.Proofs.Yteafbdebmhpffaa
open Go.RowKit Go.Maps

/-- Values, the first of which lead elsewhere. -/
def leadT (f : Int → Int) (fs : List Fld) (vs : List Vl) (i : Nat) : List Vl := (leadV f fs vs).take i ++ vs.drop i
section
variable {f : Int → Int} {fs : List Fld} {vs : List Vl} {i : Nat} {a : Fld} {v : Vl}
theorem leadT_all (hl : fs.length = vs.length) : leadT f fs vs fs.length = leadV f fs vs := by
  have := leadV_len f fs vs hl
  rw [leadT, List.take_of_length_le (by omega), List.drop_eq_nil_of_le (by omega), List.append_nil]
theorem leadT_len (hl : fs.length = vs.length) : (leadT f fs vs i).length = vs.length := by
  have := leadV_len f fs vs hl
  rw [leadT, List.length_append, List.length_take, List.length_drop]
  omega
theorem leadT_parts (hl : fs.length = vs.length) (hv : vs[i]? = some v) : ((leadV f fs vs).take i).length = i ∧ vs.drop i = v :: vs.drop (i + 1) := by
  have := leadV_len f fs vs hl
  obtain ⟨h1, h2⟩ := List.getElem?_eq_some_iff.1 hv
  exact ⟨by rw [List.length_take]; omega, by rw [List.drop_eq_getElem_cons h1, h2]⟩
theorem leadT_at (hl : fs.length = vs.length) (hv : vs[i]? = some v) : (leadT f fs vs i)[i]? = some v := by
  obtain ⟨h1, h2⟩ := leadT_parts (f := f) hl hv
  rw [leadT, List.getElem?_append_right (by omega), h1, h2, Nat.sub_self]
  rfl
theorem leadT_yes (hl : fs.length = vs.length) (ha : fs[i]? = some a) (hv : vs[i]? = some v) (h5 : a.2.1 = 5) : leadT f fs vs (i + 1) = (leadT f fs vs i).set i (v.1, v.2.1, f v.2.2) := by
  obtain ⟨h1, h2⟩ := leadT_parts (f := f) hl hv
  have h3 := leadV_at f ha hv
  rw [if_pos h5] at h3
  rw [leadT, leadT, take_at h3, List.set_append_right _ _ (by omega), h1, h2, Nat.sub_self, List.set_cons_zero, List.append_assoc]
  rfl
theorem leadT_no (hl : fs.length = vs.length) (ha : fs[i]? = some a) (h5 : a.2.1 ≠ 5) : leadT f fs vs (i + 1) = leadT f fs vs i := by
  have hi := (List.getElem?_eq_some_iff.1 ha).1
  have hv : vs[i]? = some (vs[i]'(by omega)) := List.getElem?_eq_getElem (by omega)
  obtain ⟨h1, h2⟩ := leadT_parts (f := f) hl hv
  have h3 := leadV_at f ha hv
  rw [if_neg h5] at h3
  rw [leadT, leadT, take_at h3, h2, List.append_assoc]
  rfl
end
theorem set_here {α : Type} {xs : List α} {p : Nat} {a : α} (h : xs[p]? = some a) : xs.set p a = xs := by
  obtain ⟨h1, h2⟩ := List.getElem?_eq_some_iff.1 h
  rw [← h2]
  exact List.set_getElem_self h1
/-- One value of a row leads elsewhere. -/
theorem chunks_lead {xs : List Value} {l : List Vl} {i : Nat} {v : Vl} {r : Int} (h : Chunks 3 (fun cs x => ∀ S W, rVal S W cs x) xs l) (hv : l[i]? = some v) (hr : (Lit.int .i64 r).wf = true) : Chunks 3 (fun cs x => ∀ S W, rVal S W cs x) (xs.set (i * 3 + 2) (.int .i64 r)) (l.set i (v.1, v.2.1, r)) := by
  obtain ⟨x, y, z, h1, h2, h3, h4⟩ := chunks_at3 h hv
  obtain ⟨s, e, e1, e2, e3, -⟩ := rVal_open (h4 (fun _ => True) default)
  simp only [List.cons.injEq, and_true] at e
  obtain ⟨rfl, rfl, rfl⟩ := e
  have := chunks_set3 (a := .int .i64 v.1) (b := .string s) (c := .int .i64 r) (v := (v.1, v.2.1, r)) (k := i) h (List.getElem?_eq_some_iff.1 hv).1 (fun S W => rVal_mk (v := (v.1, v.2.1, r)) e1 e2 (WalkArith.wf_i64 e3) hr)
  rwa [set_here h1, set_here h2] at this

set_option maxRecDepth 100000 in
set_option maxHeartbeats 4000000 in
theorem renamed_any (A B C : Option Addr) (N c M d K e : Nat) (g : Gr) (o : Ob) (Mb : Nat) (L : List Int) (w : World) (hmay : mayG g = true) (ho : o ∈ g.2.1) (h : rGr (All w) w [.slice A N c, .slice B M d, .slice C K e] g) (hpl : PlM w Mb L) (hL8 : L.length ≤ 8) (hoL : o.1 ∈ L) (hrefs : ∀ r ∈ refsL g.1 o, r = -1 ∨ r ∈ L) :
    Calls Try.prog 37 #[.agg #[.slice A N c, .slice B M d, .slice C K e], .int .i64 o.1, .map (some Mb)] w fun e w' => ∃ A1 c1 xs, e = .returned (.agg #[.int .i64 (atL L o.1), .int .i64 o.2.1, .slice A1 o.2.2.length c1]) ∧ w'.ownsRow w.heap.size 42 3 (.slice A1 o.2.2.length c1) o.2.2.length xs ∧ Chunks 3 (fun cs x => ∀ S W, rVal S W cs x) xs (leadV (atL L) (fldsG g.1 o.2.1) o.2.2) ∧ Below w.heap.size w w' := by
  have Hmo := Lib.hid (mayG_obj hmay ho)
  obtain ⟨I, hI, hgi⟩ := obj_place hmay ho
  obtain ⟨hM, hMd, hdm⟩ := slice_len (rGr_open h).2.1
  have hIM : I < M := by have := (List.getElem?_eq_some_iff.1 hgi).1; omega
  have hB0 : Below w.heap.size w ((w.alloc (.cells #[.slice A N c, .slice B M d, .slice C K e] 28)).alloc (.cells #[.int .i64 0, .int .i64 0, .slice none 0 0] 38)) := ((Below.refl _ w).alloc (Nat.le_refl _) _).alloc (by simp) _
  obtain ⟨p0, p6⟩ := blk_two w 28 38 [.slice A N c, .slice B M d, .slice C K e] [.int .i64 0, .int .i64 0, .slice none 0 0]
  have h1 := gr_below hB0 h
  have HB0 := Lib.hid hB0
  have hs1 : w.heap.size < ((w.alloc (.cells #[.slice A N c, .slice B M d, .slice C K e] 28)).alloc (.cells #[.int .i64 0, .int .i64 0, .slice none 0 0] 38)).heap.size := by simp; omega
  have hs2 : w.heap.size + 1 < ((w.alloc (.cells #[.slice A N c, .slice B M d, .slice C K e] 28)).alloc (.cells #[.int .i64 0, .int .i64 0, .slice none 0 0] 38)).heap.size := by simp
  have Hpl := Lib.hid (hpl.kept (((World.grownBy_alloc w (.cells #[.slice A N c, .slice B M d, .slice C K e] 28) none)).trans (World.grownBy_alloc _ (.cells #[.int .i64 0, .int .i64 0, .slice none 0 0] 38) none)) (by simp))
  clear h hB0 hpl
  go_enter Try.func37, Try.ntmps37
  go_wp2
  generalize (w.alloc (.cells #[.slice A N c, .slice B M d, .slice C K e] 28)).alloc (.cells #[.int .i64 0, .int .i64 0, .slice none 0 0] 38) = w1 at *
  obtain ⟨b, off, A2, c2, rfl, hb, x0, x1, x2, hvs, -, -⟩ := ob_at (rGr_open h1).2.1 hgi
  have g0 := p0.cell (j := 0) rfl
  have g1 := p0.cell (j := 1) rfl
  have g2 := p0.cell (j := 2) rfl
  have hil : (I : Int) < (M : Int) := by omega
  have hi0 : (0 : Int) ≤ (I : Int) := by omega
  have T1 := Lib.hid (fun W (hW : Below w1.heap.size w1 W) => gfind_any A (some ⟨b, off, none⟩) C N c M d K e g o.1 W (gr_below hW h1))
  rw [hI] at T1
  have H1 := Lib.hid h1
  have Hvs := Lib.hid hvs
  have P0 := Lib.hid p0
  have P6 := Lib.hid p6
  clear h1 hvs p0 p6
  go_cut [7] (fun v7 wx => ∃ b7 : Nat, v7 = .pointer (some ⟨b7, 0, none⟩) ∧ Blk wx b7 38 [.int .i64 o.1, .int .i64 o.2.1, .slice A2 o.2.2.length c2] ∧ w1.heap.size ≤ b7 ∧ Below w1.heap.size w1 wx)
  case first =>
    have HS := Lib.hid (fun (W : World) (hW : Below w1.heap.size w1 W) => And.intro ((hW.cell (p := ⟨w.heap.size, 0, none⟩) hs1).trans g0) (And.intro ((hW.cell (p := ⟨w.heap.size, 1, none⟩) hs1).trans g1) (And.intro ((hW.cell (p := ⟨w.heap.size, 2, none⟩) hs1).trans g2)
      (And.intro ((hW.cell (p := ⟨b, off + I * 3, none⟩) hb).trans x0) (And.intro ((hW.cell (p := ⟨b, off + I * 3 + 1, none⟩) hb).trans x1) ((hW.cell (p := ⟨b, off + I * 3 + 2, none⟩) hb).trans x2))))))
    clear g0 g1 g2 x0 x1 x2
    refine fr_start (fun W => W.cell? ⟨w.heap.size, 0, none⟩ = some (.slice A N c) ∧ W.cell? ⟨w.heap.size, 1, none⟩ = some (.slice (some ⟨b, off, none⟩) M d) ∧ W.cell? ⟨w.heap.size, 2, none⟩ = some (.slice C K e) ∧ W.cell? ⟨b, off + I * 3, none⟩ = some (.int .i64 o.1) ∧ W.cell? ⟨b, off + I * 3 + 1, none⟩ = some (.int .i64 o.2.1) ∧ W.cell? ⟨b, off + I * 3 + 2, none⟩ = some (.slice A2 o.2.2.length c2)) 9 (by kernel_rfl) rfl (fun _ _ _ _ _ h => h) (HS.out _ (Below.refl _ w1).drew) (fun hH => ?_)
    have hD := (Below.refl w1.heap.size w1).drew
    have hDs : w1.heap.size ≤ w1.drew.heap.size := hD.size
    generalize w1.drew = wd at *
    (refine fr_yes 0 (v := ?_) rfl (by kernel_rfl) rfl ?_ hH ?_; rotate_left; (focus ((rintro W ⟨hW1, hW2, hW3, hW4, hW5, hW6⟩; go_simp) <;> with_reducible rfl)); simp only [Act.put, List.setIfInBounds_toArray, List.set_cons_zero, List.set_cons_succ]); (refine fr_yes 1 (v := ?_) rfl (by kernel_rfl) rfl ?_ hH ?_; rotate_left; (focus ((rintro W ⟨hW1, hW2, hW3, hW4, hW5, hW6⟩; go_simp) <;> with_reducible rfl)); simp only [Act.put, List.setIfInBounds_toArray, List.set_cons_zero, List.set_cons_succ]); (refine fr_yes 2 (v := ?_) rfl (by kernel_rfl) rfl ?_ hH ?_; rotate_left; (focus ((rintro W ⟨hW1, hW2, hW3, hW4, hW5, hW6⟩; go_simp) <;> with_reducible rfl)); simp only [Act.put, List.setIfInBounds_toArray, List.set_cons_zero, List.set_cons_succ]); (refine fr_yes 3 (v := ?_) rfl (by kernel_rfl) rfl ?_ hH ?_; rotate_left; (focus ((rintro W ⟨hW1, hW2, hW3, hW4, hW5, hW6⟩; go_simp) <;> with_reducible rfl)); simp only [Act.put, List.setIfInBounds_toArray, List.set_cons_zero, List.set_cons_succ])
    refine fr_op [4, 7] (by kernel_rfl) (by simp) ?_; intro jj hjj; simp only [List.mem_cons, List.not_mem_nil, or_false] at hjj; rcases hjj with rfl | rfl
    · refine ⟨_, rfl, rfl, fun K hK => ?_⟩
      go_wp2_with (go_at_call 29; refine (T1.out _ hD).mono ?_; rintro e wg ⟨rfl, hCg⟩)
      have hDg := hD.trans (hCg.mono hD.size)
      refine hK.out _ _ (HS.out _ hDg) ?_
      clear hK hH hCg
      have hH := HS.out _ hDg
      (refine fr_yes 5 (v := ?_) rfl (by kernel_rfl) rfl ?_ hH ?_; rotate_left; (focus ((rintro W ⟨hW1, hW2, hW3, hW4, hW5, hW6⟩; go_simp) <;> with_reducible rfl)); simp only [Act.put, List.setIfInBounds_toArray, List.set_cons_zero, List.set_cons_succ]); (refine fr_yes 6 (v := ?_) rfl (by kernel_rfl) rfl ?_ hH ?_; rotate_left; (focus ((rintro W ⟨hW1, hW2, hW3, hW4, hW5, hW6⟩; go_simp) <;> with_reducible rfl)); simp only [Act.put, List.setIfInBounds_toArray, List.set_cons_zero, List.set_cons_succ])
      refine fr_op [7] (by kernel_rfl) (by simp) ?_; intro jj hjj; simp only [List.mem_cons, List.not_mem_nil, or_false] at hjj; subst hjj; refine ⟨_, rfl, rfl, fun K hK => ?_⟩
      go_wp2
      have hDz := hDg.alloc hDg.size (.cells #[.int .i64 0, .int .i64 0, .slice none 0 0] 38)
      refine hK.out _ _ (HS.out _ hDz) ?_
      clear hK hH
      refine fr_op [8] (by kernel_rfl) (by simp) ?_; intro jj hjj; simp only [List.mem_cons, List.not_mem_nil, or_false] at hjj; subst hjj; refine ⟨_, rfl, rfl, fun K hK => ?_⟩
      go_wp2
      have hDe := hDg.alloc hDg.size (.cells #[.int .i64 o.1, .int .i64 o.2.1, .slice A2 o.2.2.length c2] 38)
      refine hK.out _ _ (HS.out _ hDe) ?_
      clear hK
      refine fr_done (by kernel_rfl) ?_
      go_wp2
      go_meet
      case rel => exact ⟨_, rfl, Blk.new _ _ [.int .i64 o.1, .int .i64 o.2.1, .slice A2 o.2.2.length c2], hDg.size, hDe⟩
    · refine ⟨_, rfl, rfl, fun K hK => ?_⟩
      go_wp2
      have hDz := hD.alloc hD.size (.cells #[.int .i64 0, .int .i64 0, .slice none 0 0] 38)
      have vz := Blk.new wd 38 [.int .i64 0, .int .i64 0, .slice none 0 0]
      refine hK.out _ _ (HS.out _ hDz) ?_
      clear hK hH
      have hH := HS.out _ hDz
      generalize wd.alloc (.cells #[.int .i64 0, .int .i64 0, .slice none 0 0] 38) = wz at *
      refine fr_op [4] (by kernel_rfl) (by simp) ?_; intro jj hjj; simp only [List.mem_cons, List.not_mem_nil, or_false] at hjj; subst hjj; refine ⟨_, rfl, rfl, fun K hK => ?_⟩
      go_wp2_with (go_at_call 29; refine (T1.out _ hDz).mono ?_; rintro e wg ⟨rfl, hCg⟩)
      have hDg := hDz.trans (hCg.mono hDz.size)
      have vg := vz.to hCg
      refine hK.out _ _ (HS.out _ hDg) ?_
      clear hK hH hCg hDz vz
      have hH := HS.out _ hDg
      (refine fr_yes 5 (v := ?_) rfl (by kernel_rfl) rfl ?_ hH ?_; rotate_left; (focus ((rintro W ⟨hW1, hW2, hW3, hW4, hW5, hW6⟩; go_simp) <;> with_reducible rfl)); simp only [Act.put, List.setIfInBounds_toArray, List.set_cons_zero, List.set_cons_succ]); (refine fr_yes 6 (v := ?_) rfl (by kernel_rfl) rfl ?_ hH ?_; rotate_left; (focus ((rintro W ⟨hW1, hW2, hW3, hW4, hW5, hW6⟩; go_simp) <;> with_reducible rfl)); simp only [Act.put, List.setIfInBounds_toArray, List.set_cons_zero, List.set_cons_succ])
      have z0 := vg.cell (j := 0) rfl
      have z1 := vg.cell (j := 1) rfl
      have z2 := vg.cell (j := 2) rfl
      have f0 := vg.frozen 0
      have f1 := vg.frozen 1
      have f2 := vg.frozen 2
      refine fr_op [8] (by kernel_rfl) (by simp) ?_; intro jj hjj; simp only [List.mem_cons, List.not_mem_nil, or_false] at hjj; subst hjj; refine ⟨_, rfl, rfl, fun K hK => ?_⟩
      go_wp2
      have hDe := ((hDg.setCell (p := ⟨wd.heap.size, 0, none⟩) hDs (.int .i64 o.1)).setCell (p := ⟨wd.heap.size, 1, none⟩) hDs (.int .i64 o.2.1)).setCell (p := ⟨wd.heap.size, 2, none⟩) hDs (.slice A2 o.2.2.length c2)
      refine hK.out _ _ (HS.out _ hDe) ?_
      clear hK hH
      refine fr_done (by kernel_rfl) ?_
      go_wp2
      go_meet
      case rel => exact ⟨_, rfl, ((vg.set 0 (.int .i64 o.1)).set 1 (.int .i64 o.2.1)).set 2 (.slice A2 o.2.2.length c2), hDs, hDe⟩
  case rest =>
    obtain ⟨b7, rfl, p7, hb7, hBx⟩ := hcut
    clear T1 x0 x1 x2 g0 g1 g2 hI hil hi0
    have HBx := Lib.hid (HB0.out.trans (hBx.mono HB0.out.size))
    have hHx := gr_below hBx H1.out
    have hvx := vals_below hBx Hvs.out
    have p0x := P0.out.below hs1 hBx
    have p6x := P6.out.below hs2 hBx
    have hplx := Hpl.out.below hBx
    have hsx := hBx.size
    clear hBx H1 Hvs P0 P6 hb7 HB0 Hpl
    obtain ⟨t, ht⟩ : ∃ t : Nat, o.2.1 = (t : Int) := ⟨o.2.1.toNat, by have := Hmo.out.t0; omega⟩
    obtain ⟨hN, hNc, hcm⟩ := slice_len (rGr_open hHx).1
    have htN : t < N := by have := Hmo.out.t1; omega
    have hgt : g.1[t]? = some g.1[t] := List.getElem?_eq_getElem (by omega)
    obtain ⟨bt, offt, st, AF, cF, rfl, hbt, -, y1, -, -, hfs⟩ := typ_at (rGr_open hHx).1 hgt
    have hFe := fldsG_at ht hgt
    rw [← hFe] at y1 hfs
    obtain ⟨hF, hFc, hFm⟩ := slice_len hfs
    have hlen := Hmo.out.len
    have h10 := fields_few hmay o.2.1
    have T3 := Lib.hid (vclone_any A2 o.2.2.length c2 o.2.2 wc hvx (by omega))
    rw [ht] at p7
    have k3 := p7.cell (j := 2) rfl
    have htl : (t : Int) < (N : Int) := by omega
    have ht0 : (0 : Int) ≤ (t : Int) := by omega
    simp only [maxLen] at hFm
    have Hfs := Lib.hid hfs
    have P7 := Lib.hid p7
    have Hlen := Lib.hid hlen
    have Hall : Hid (leadT (atL L) (fldsG g.1 o.2.1) o.2.2 (fldsG g.1 o.2.1).length = leadV (atL L) (fldsG g.1 o.2.1) o.2.2) := Lib.hid (leadT_all hlen)
    have Hr5 : Hid (∀ (i : Nat) f v, (fldsG g.1 o.2.1)[i]? = some f → o.2.2[i]? = some v → f.2.1 = 5 → v.2.2 = -1 ∨ v.2.2 ∈ L) := Lib.hid fun i f v hf hv h5 => hrefs _ (refsL_mem.2 ⟨i, f, v, hf, hv, h5, rfl⟩)
    have hid : (Lit.int .i64 o.1).wf = true := WalkArith.wf_i64 ⟨by have := Hmo.out.id0; omega, by have := Hmo.out.id1; omega⟩
    have Hy1 := Lib.hid y1
    have P0 := Lib.hid p0x
    have P6 := Lib.hid p6x
    have Hpl := Lib.hid hplx
    have HoL := Lib.hid hoL
    have h7lt := p7.lt
    clear hfs p7 hlen hF hHx p0x p6x hplx hFe hgt Hmo hrefs hvx hoL
    generalize hfs0 : fldsG g.1 o.2.1 = fs at *
    generalize hfl : fs.length = fl at *
    generalize hvl : o.2.2.length = vl at *
    have hlv := Hlen.out
    go_wp2_with fail
    refine T3.out.mono ?_
    rintro e w9 ⟨A9, c9, xs0, rfl, hown9, hch9, hB9⟩
    have k1 := (P0.out.below P0.out.lt hB9).cell (j := 0) rfl
    have k2 := (P7.out.below P7.out.lt hB9).cell (j := 1) rfl
    have y1' := (hB9.cell (p := _) hbt).trans Hy1.out
    clear T3 k3 y1
    have Hc0 : Hid (Chunks 3 (fun cs x => ∀ S W, rVal S W cs x) xs0 (leadT (atL L) fs o.2.2 0)) := Lib.hid (by rw [leadT]; simpa using hch9)
    have Ho9 := Lib.hid hown9
    have H9 := Lib.hid hB9
    clear hch9 hown9 hB9
    go_wp2
    clear k1 k2 y1'
    go_loopw [30] (fun iv w' => ∃ (i : Nat) (xs : List Value), i ≤ fl ∧ iv = .int .i64 (i : Int) ∧ Hid (w'.ownsRow wc.heap.size 42 3 (.slice A9 vl c9) vl xs) ∧ Hid (Chunks 3 (fun cs x => ∀ S W, rVal S W cs x) xs (leadT (atL L) fs o.2.2 i)) ∧ Hid (Below wc.heap.size wc w')) (fun iv _ => fl - (intOf iv).toNat)
    case atStart => exact ⟨0, xs0, by omega, rfl, Ho9, Hc0, H9⟩
    case round =>
      rename_i iv wr
      clear Ho9 Hc0
      obtain ⟨i, xs, hi', rfl, hown, hch, hg⟩ := hrel
      have hgs := hg.out.size
      by_cases hin : i < fl
      · obtain ⟨f, hfi⟩ : ∃ f, fs[i]? = some f := ⟨_, List.getElem?_eq_getElem (by omega)⟩
        obtain ⟨bf, offf, sx, tx, rfl, hbf, q0, q1, q2, -, -, -, -, -⟩ := fld_at (rFlds_stays.to (Keeps.below hg.out) Hfs.out) hfi
        have hil : (i : Int) < (fl : Int) := by omega
        have hi0 : (0 : Int) ≤ (i : Int) := by omega
        have HA := Lib.hid (hg.out.alloc hgs (.cells #[.string sx, .int .i64 f.2.1, .string tx] 48))
        by_cases h5 : f.2.1 = 5
        · have h5' : (f.2.1 == 5) = true := by simp [h5]
          obtain ⟨v2, hvi⟩ : ∃ v, o.2.2[i]? = some v := ⟨_, List.getElem?_eq_getElem (by omega)⟩
          have hTi := leadT_at (f := atL L) (fs := fs) (i := i) (by omega) hvi
          have hownA := hown.out.alloc (.cells #[.string sx, .int .i64 f.2.1, .string tx] 48)
          obtain ⟨gb, y, rfl, hgb, hgl, hy1, hy2, hy3, hy4⟩ := own_set hownA (p := i * 3 + 2) (by omega)
          obtain ⟨_, _, z, -, -, hz3, hz4⟩ := chunks_at3 hch.out hTi
          obtain ⟨s, ez, -, -, -, hvb⟩ := rVal_open (hz4 (fun _ => True) default)
          simp only [List.cons.injEq, and_true] at ez
          rw [hz3, ez.2.2] at hy1
          injection hy1 with hy1
          subst hy1
          have hlk := (Hpl.out.below HA.out).look (Hr5.out i f v2 hfi hvi h5) (WalkArith.wf_i64 hvb)
          have hb8 := atL_wf hL8 v2.2.2
          have Hst := Lib.hid (leadT_yes (f := atL L) (by omega) hfi hvi h5)
          have Hcl := Lib.hid (chunks_lead (r := atL L v2.2.2) hch.out hTi (WalkArith.wf_i64 ⟨by omega, by omega⟩))
          have Hown := Lib.hid (hy4 (.int .i64 (atL L v2.2.2)))
          have hilv : (i : Int) < (vl : Int) := by omega
          clear hfi hvi h5 hvb hTi hy4 hownA ez hz3 hz4 hb8
          generalize hkk : f.2.1 = kk at *
          generalize hrr : v2.2.2 = rr at *
          clear hkk
          go_wp2
          go_roundw
          case rel =>
            refine ⟨i + 1, xs.set (i * 3 + 2) (.int .i64 (atL L rr)), by omega, by go_num, Hown, Lib.hid ?_, Lib.hid ?_⟩
            · rw [Hst.out]; exact Hcl.out
            · exact HA.out.setCell (p := ⟨gb, i * 3 + 2, none⟩) hgb _
          case measure => simp [intOf]; omega
        · have h5' : (f.2.1 == 5) = false := by simp [h5]
          have Hp := Lib.hid (leadT_no (f := atL L) (vs := o.2.2) (by omega) hfi h5)
          clear hfi h5
          generalize f.2.1 = kk at *
          go_wp2
          go_roundw
          case rel => exact ⟨i + 1, xs, by omega, by go_num, Lib.hid (hown.out.alloc _), Lib.hid (by rw [Hp.out]; exact hch.out), HA⟩
          case measure => simp [intOf]; omega
      · obtain rfl : i = fl := by omega
        rw [Hall.out] at hch
        have hlk := (Hpl.out.below hg.out).look (.inr HoL.out) hid
        have r7 := P7.out.below P7.out.lt hg.out
        have r6 := P6.out.below P6.out.lt hg.out
        have k2 := r7.cell (j := 1) rfl
        have y0 := r6.cell (j := 0) rfl
        have y1 := r6.cell (j := 1) rfl
        have y2 := r6.cell (j := 2) rfl
        have f0 := r6.frozen 0
        have f1 := r6.frozen 1
        have f2 := r6.frozen 2
        have h6lt := P6.out.lt
        go_wp2
        have P9 := ((r6.set 0 (.int .i64 (atL L o.1))).set 1 (.int .i64 (t : Int))).set 2 (.slice A9 vl c9)
        refine ret_cell0 (d := .struct _) (cs := [.int .i64 (atL L o.1), .int .i64 (t : Int), .slice A9 vl c9]) rfl P9 rfl rfl rfl rfl rfl ?_
        rw [hfs0, hvl]
        refine ⟨A9, c9, xs, by rw [ht], ?_, hch.out, ?_⟩
        · refine own_mono (own_keep hown.out fun b h1 h2 => ?_) HBx.out.size
          rw [Below.heap_setCell _ _ _ _ (by show b ≠ w.heap.size + 1; omega), Below.heap_setCell _ _ _ _ (by show b ≠ w.heap.size + 1; omega), Below.heap_setCell _ _ _ _ (by show b ≠ w.heap.size + 1; omega)]
        · have hz9 := HBx.out.trans (hg.out.mono HBx.out.size)
          exact ((hz9.setCell (p := ⟨w.heap.size + 1, 0, none⟩) (by simp) (.int .i64 (atL L o.1))).setCell (p := ⟨w.heap.size + 1, 1, none⟩) (by simp) (.int .i64 (t : Int))).setCell (p := ⟨w.heap.size + 1, 2, none⟩) (by simp) (.slice A9 vl c9)
end Go.Proofs.Yteafbdebmhpffaa

/- What stands in memory while canon's Canon makes its objects; the objects of a swept graph, by their places. No condition. -/
namespace Go.Proofs.Yteafbdebmhpffaa
open Go.RowKit Go.Maps

theorem sweep_ord {g : Gr} (hm : mayG g = true) : sweepG g = (g.1, g.2.1.filter (fun o => decide (o.1 ∈ ordG g)), g.2.2) := sweepG_set hm fun _ => ordG_mem hm
/-- The object at a place of a Canon, as what is swept has it. -/
theorem sweep_obj {g : Gr} (hm : mayG g = true) {i : Nat} {x : Int} (h : (ordG g)[i]? = some x) : ∃ o, o ∈ (sweepG g).2.1 ∧ o.1 = x ∧ (∀ r ∈ refsL (sweepG g).1 o, r = -1 ∨ r ∈ ordG g) ∧
    (canonG g).2.1[i]? = some (atL (ordG g) o.1, o.2.1, leadV (atL (ordG g)) (fldsG (sweepG g).1 o.2.1) o.2.2) := by
  have hx := List.mem_of_getElem? h
  obtain ⟨o, ho, rfl, he⟩ := ord_obj hm hx
  rw [sweep_ord hm]
  refine ⟨o, by simp [ho, hx], rfl, fun r hr => ?_, ?_⟩
  · rcases refs_led hm ho r hr with e | e
    · exact .inl e
    · exact .inr (ordG_shut hm o.1 hx r (by rw [obj_of hm ho]; exact hr) (id_pos hm e))
  · rw [canon_at hm h, canO, he, atL_at (ordG_nodup hm) h]

/-- What stands while objects are made: the graph that is made (in the block b6), its objects in a row of the call's own, all their values in blocks from base on. -/
structure CanW (b6 base : Nat) (w5 : World) (SV v : Value) (objs : List Ob) (xs : List Value) (w : World) : Prop where
  bel : Below b6 w5 w
  bx : Blk w b6 28 [SV, v, .slice none 0 0]
  own : w.ownsRow base 38 3 v objs.length xs
  ch : Chunks 3 (rOb (fun b => base ≤ b ∧ b < w.heap.size ∧ some b ≠ v.ownBlock) w) xs objs
section
variable {b6 base : Nat} {w5 w wq wa : World} {SV v v' : Value} {objs : List Ob} {xs ys : List Value} {o : Ob} {ob : Obj}
theorem CanW.step (h : CanW b6 base w5 SV v objs xs w) (hb : b6 < base) (hq : Below w.heap.size w wq) (ho : rOb (fun b => w.heap.size ≤ b ∧ b < wq.heap.size) wq ys o) (hy : ys.length = 3) (hbs : base ≤ w.heap.size)
    (hg : (wq.alloc ob).grownBy wa v.ownBlock) (hown : wa.ownsRow base 38 3 v' (objs.length + 1) (xs ++ ys)) (hv : v'.ownBlock = v.ownBlock ∨ v'.ownBlock = some (wq.alloc ob).heap.size) :
    Blk wa b6 28 [SV, v, .slice none 0 0] ∧ CanW b6 base w5 SV v' (objs ++ [o]) (xs ++ ys) (wa.setCell ⟨b6, 1, none⟩ v') := by
  have hlo : ∀ k, v.ownBlock = some k → base ≤ k ∧ k < w.heap.size := fun k hk => h.own.lt k hk
  have s1 := hq.size
  have s2 : (wq.alloc ob).heap.size = wq.heap.size + 1 := by simp
  have s3 := hg.size
  have hbl := h.bx.lt
  have hB1 : Below b6 w5 wq := h.bel.trans (hq.mono (by omega))
  have hB2 := hB1.alloc (by omega) ob
  have hB3 : Below b6 w5 wa := hB2.grown hg (by omega) (fun k hk => by have := (hlo k hk).1; omega)
  have keep : ∀ b, b < wq.heap.size → some b ≠ v.ownBlock → wa.heap[b]? = wq.heap[b]? := fun b h1 h2 => by rw [hg.block b (by omega) h2, Below.heap_alloc _ _ _ h1]
  have nb6 : some b6 ≠ v.ownBlock := fun e => by have := (hlo b6 e.symm).1; omega
  have bxa : Blk wa b6 28 [SV, v, .slice none 0 0] := by
    show wa.heap[b6]? = _
    rw [keep b6 (by omega) nb6, hq.block b6 hbl]
    exact h.bx
  have nv : ∀ b, b < wq.heap.size → some b ≠ v.ownBlock → some b ≠ v'.ownBlock := fun b h1 h2 => by
    rcases hv with e | e
    · rw [e]; exact h2
    · rw [e]; intro e2; injection e2 with e2; omega
  have sz : (wa.setCell ⟨b6, 1, none⟩ v').heap.size = wa.heap.size := by simp
  have kset : ∀ b, b ≠ b6 → (wa.setCell ⟨b6, 1, none⟩ v').heap[b]? = wa.heap[b]? := fun b hb => Below.heap_setCell _ _ _ _ hb
  refine ⟨bxa, hB3.setCell (p := ⟨b6, 1, none⟩) (Nat.le_refl _) _, bxa.set 1 v', ?_, ?_⟩
  · rw [List.length_append]
    exact own_keep hown fun b h1 _ => kset b (by omega)
  · refine Chunks.append (h.ch.imp fun cs a hr => rOb_stays.to (fun b hb' => ?_) hr) (Chunks.one hy (rOb_stays.to (fun b hb' => ?_) ho))
    · obtain ⟨c1, c2, c3⟩ := hb'
      refine ⟨⟨c1, by omega, nv b (by omega) c3⟩, ?_⟩
      rw [kset b (by omega), keep b (by omega) c3, hq.block b c2]
    · obtain ⟨c1, c2⟩ := hb'
      have c3 : some b ≠ v.ownBlock := fun e => by have := (hlo b e.symm).2; omega
      refine ⟨⟨by omega, by omega, nv b c2 c3⟩, ?_⟩
      rw [kset b (by omega), keep b c2 c3]
end
/-- What stands in memory while roots are made: all of the world w6 but the graph that is made, whose roots are in a row of the call's own. -/
structure RootW (b6 : Nat) (SV vO : Value) (w6 : World) (v : Value) (rs : List Int) (w : World) : Prop where
  bel : Below b6 w6 w
  kept : ∀ b, b < w6.heap.size → b ≠ b6 → w.heap[b]? = w6.heap[b]?
  bx : Blk w b6 28 [SV, vO, v]
  own : w.ownsRow w6.heap.size 3 1 v rs.length (ints rs)
section
variable {b6 : Nat} {w6 w wa : World} {SV vO v v' : Value} {rs : List Int} {x : Int} {ob : Obj}
theorem RootW.step (h : RootW b6 SV vO w6 v rs w) (hb : b6 < w6.heap.size) (hg : (w.alloc ob).grownBy wa v.ownBlock) (hown : wa.ownsRow w6.heap.size 3 1 v' (rs.length + 1) (ints rs ++ ints [x])) :
    Blk wa b6 28 [SV, vO, v] ∧ RootW b6 SV vO w6 v' (rs ++ [x]) (wa.setCell ⟨b6, 2, none⟩ v') := by
  have hlo : ∀ k, v.ownBlock = some k → w6.heap.size ≤ k ∧ k < w.heap.size := fun k hk => h.own.lt k hk
  have s0 := h.bel.size
  have s2 : (w.alloc ob).heap.size = w.heap.size + 1 := by simp
  have s3 := hg.size
  have keep : ∀ b, b < w6.heap.size → wa.heap[b]? = w.heap[b]? := fun b hb1 => by rw [hg.block b (by omega) (fun e => by have := (hlo b e.symm).1; omega), Below.heap_alloc _ _ _ (by omega)]
  have bxa : Blk wa b6 28 [SV, vO, v] := by
    show wa.heap[b6]? = _
    rw [keep b6 hb]
    exact h.bx
  have kset : ∀ b, b ≠ b6 → (wa.setCell ⟨b6, 2, none⟩ v').heap[b]? = wa.heap[b]? := fun b hb => Below.heap_setCell _ _ _ _ hb
  refine ⟨bxa, ?_, fun b h1 h2 => by rw [kset b h2, keep b h1, h.kept b h1 h2], bxa.set 2 v', ?_⟩
  · exact ((h.bel.alloc (by omega) ob).grown hg (by omega) (fun k hk => by have := (hlo k hk).1; omega)).setCell (p := ⟨b6, 2, none⟩) (Nat.le_refl _) _
  · rw [List.length_append, ints_append]
    exact own_keep hown fun b h1 _ => kset b (by omega)
/-- What is made, in the end, also where blocks below lo are written then. -/
theorem RootW.all {lo base n nR nS c5 d e : Nat} {w5 W : World} {A5 B C : Option Addr} {s : Sch} {objs : List Ob} {xs : List Value} (hC : CanW b6 base w5 (.slice A5 nS c5) (.slice B n d) objs xs w6) (hb : b6 < base)
    (h : RootW b6 (.slice A5 nS c5) (.slice B n d) w6 (.slice C nR e) rs w) (hS : rSch (fun b => lo ≤ b ∧ b < b6) w5 [.slice A5 nS c5] s) (hn : objs.length = n) (hR : rs.length = nR) (hwf : ∀ r ∈ rs, (Lit.int .i64 r).wf = true)
    (hlo : lo ≤ b6) (hW : ∀ b, lo ≤ b → b < w.heap.size → W.heap[b]? = w.heap[b]?) (hsz : w.heap.size ≤ W.heap.size) :
    rGr (All W) W [.slice A5 nS c5, .slice B n d, .slice C nR e] (s, objs, rs) := by
  have h6 := hC.bx.lt
  have s0 := h.bel.size
  have s5 := hC.bel.size
  have ho := hC.own
  rw [hn] at ho
  have hr := h.own
  rw [hR] at hr
  refine rGr_mk (rSch_stays.to (fun b hb => ⟨by show b < _; omega, ?_⟩) hS) ?_ ?_
  · rw [hW b hb.1 (by omega), h.bel.block b hb.2, hC.bel.block b hb.2]
  · have hlt := ho.lt
    refine own_rSlice rOb_stays (own_keep ho fun b h1 h2 => ?_) hn (hC.ch.imp fun cs o hq => rOb_stays.to (fun b hb' => ⟨⟨by omega, hb'.2.2⟩, ?_⟩) hq)
    · rw [hW b (by omega) (by omega), h.kept b h2 (by omega)]
    · rw [hW b (by omega) (by omega), h.kept b hb'.2.1 (by omega)]
  · exact rIds_stays.to (fun b hb' => ⟨by show b < _; omega, hW b (by omega) (by omega)⟩) (ids_own hr hR hwf)
end
end Go.Proofs.Yteafbdebmhpffaa

/- The contract of canon's Canon: the document's one. No condition. -/
namespace Go.Proofs.Yteafbdebmhpffaa
open Go.RowKit Go.Maps

theorem info_obs : (Try.prog.info? 38).map (fun i => (i.zero, i.size, i.bytes)) = some (some (.agg #[.int .i64 0, .int .i64 0, .slice none 0 0]), 3, 40) := by kernel_rfl
theorem canonG_no {g : Gr} (h : mayG g = false) : canonG g = ([], [], []) := by rw [canonG, if_neg (by rw [h]; decide)]
theorem canonG_yes {g : Gr} (h : mayG g = true) : canonG g = (g.1, (ordG g).mapIdx (canO g (ordG g)), g.2.2.map (atL (ordG g))) := if_pos h
theorem root_at {g : Gr} (hm : mayG g = true) {r : Int} (hr : r ∈ g.2.2) : r = -1 ∨ r ∈ ordG g := by
  rcases roots_led hm r hr with e | e
  · exact .inl e
  · exact .inr (ordG_root hm hr (id_pos hm e))
theorem rGr_none (w : World) : rGr (All w) w [.slice none 0 0, .slice none 0 0, .slice none 0 0] ([], [], []) := rGr_mk ⟨none, 0, [], rfl, Nat.le_refl _, Nat.zero_le _, .inl rfl, Chunks.nil⟩ ⟨none, 0, [], rfl, Nat.le_refl _, Nat.zero_le _, .inl rfl, Chunks.nil⟩ ⟨none, 0, [], rfl, Nat.le_refl _, Nat.zero_le _, .inl rfl, Chunks.nil⟩

set_option maxRecDepth 100000 in
set_option maxHeartbeats 4000000 in
theorem canon_any (A B C : Option Addr) (N c M d K e : Nat) (g : Gr) (w : World) (h : rGr (All w) w [.slice A N c, .slice B M d, .slice C K e] g) :
    Calls Try.prog 16 #[.agg #[.slice A N c, .slice B M d, .slice C K e]] w fun e w' => ∃ A1 c1 B1 d1 C1 e1, e = .returned (.agg #[.slice A1 (canonG g).1.length c1, .slice B1 (canonG g).2.1.length d1, .slice C1 (canonG g).2.2.length e1]) ∧
      rGr (All w') w' [.slice A1 (canonG g).1.length c1, .slice B1 (canonG g).2.1.length d1, .slice C1 (canonG g).2.2.length e1] (canonG g) ∧ Below w.heap.size w w' := by
  obtain ⟨i0, hi, hz0, hz1, hz2⟩ := info_parts info_obs
  obtain ⟨j0, hj, hy0, hy1, hy2⟩ := info_parts info_int
  have hB0 : Below w.heap.size w ((w.alloc (.cells #[.slice A N c, .slice B M d, .slice C K e] 28)).alloc (.cells #[.slice none 0 0, .slice none 0 0, .slice none 0 0] 28)) := ((Below.refl _ w).alloc (Nat.le_refl _) _).alloc (by simp) _
  obtain ⟨p1, p2⟩ := blk_two w 28 28 [.slice A N c, .slice B M d, .slice C K e] [.slice none 0 0, .slice none 0 0, .slice none 0 0]
  have T1 := Lib.hid (gmay_any A B C N c M d K e g _ (gr_below hB0 h))
  have HB0 := Lib.hid hB0
  have s0 : w.heap.size + 2 = ((w.alloc (.cells #[.slice A N c, .slice B M d, .slice C K e] 28)).alloc (.cells #[.slice none 0 0, .slice none 0 0, .slice none 0 0] 28)).heap.size := by simp
  clear hB0
  go_enter Try.func16, Try.ntmps16
  go_wp2_with fail
  refine T1.out.mono ?_
  rintro e w1 ⟨rfl, hB1⟩
  have H1 := Lib.hid (HB0.out.trans (hB1.mono HB0.out.size))
  have s1 : w.heap.size + 2 ≤ w1.heap.size := by rw [s0]; exact hB1.size
  replace p1 := p1.to hB1
  replace p2 := p2.to hB1
  clear hB1 HB0 T1 s0
  by_cases hm : mayG g = true
  · rw [hm]
    have T2 := Lib.hid (meet_any A B C N c M d K e g w1 hm (gr_below H1.out h))
    have T3 := Lib.hid (fun W (hW : Below w.heap.size w W) => gsweep_in A B C N c M d K e g W (gr_below hW h))
    clear h
    have c0 := p1.cell (j := 0) rfl
    have c1 := p1.cell (j := 1) rfl
    have c2 := p1.cell (j := 2) rfl
    go_wp2_with fail
    refine T2.out.mono ?_
    rintro e w2 ⟨A3, c3, Mb, rfl, hown2, hpl2, hMb, hB2⟩
    have H2 := Lib.hid (H1.out.trans (hB2.mono H1.out.size))
    have s2 := hB2.size
    replace p1 := p1.to hB2
    replace p2 := p2.to hB2
    clear c0 c1 c2 hB2 H1 T2
    have c0 := p1.cell (j := 0) rfl
    have c1 := p1.cell (j := 1) rfl
    have c2 := p1.cell (j := 2) rfl
    go_wp2_with fail
    refine (T3.out _ H2.out).mono ?_
    rintro e w3 ⟨A5, c5, B5, d5, C5, e5, rfl, h5, hB3⟩
    have H3 := Lib.hid (H2.out.trans (hB3.mono H2.out.size))
    have s3 := hB3.size
    replace p1 := p1.to hB3
    replace p2 := p2.to hB3
    have hown3 := own_below hown2 hB3
    have hpl3 := hpl2.below hB3
    clear c0 c1 c2 hB3 H2 T3 hown2 hpl2 p1
    go_wp2
    obtain ⟨q5, q6⟩ := blk_two w3 28 28 [.slice A5 (sweepG g).1.length c5, .slice B5 (sweepG g).2.1.length d5, .slice C5 (sweepG g).2.2.length e5] [.slice A5 (sweepG g).1.length c5, .slice none 0 0, .slice none 0 0]
    have hB5 : Below w3.heap.size w3 ((w3.alloc (.cells #[.slice A5 (sweepG g).1.length c5, .slice B5 (sweepG g).2.1.length d5, .slice C5 (sweepG g).2.2.length e5] 28)).alloc (.cells #[.slice A5 (sweepG g).1.length c5, .slice none 0 0, .slice none 0 0] 28)) := ((Below.refl _ w3).alloc (Nat.le_refl _) _).alloc (by simp) _
    have s5 : ((w3.alloc (.cells #[.slice A5 (sweepG g).1.length c5, .slice B5 (sweepG g).2.1.length d5, .slice C5 (sweepG g).2.2.length e5] 28)).alloc (.cells #[.slice A5 (sweepG g).1.length c5, .slice none 0 0, .slice none 0 0] 28)).heap.size = w3.heap.size + 2 := by simp
    generalize (w3.alloc (.cells #[.slice A5 (sweepG g).1.length c5, .slice B5 (sweepG g).2.1.length d5, .slice C5 (sweepG g).2.2.length e5] 28)).alloc (.cells #[.slice A5 (sweepG g).1.length c5, .slice none 0 0, .slice none 0 0] 28) = w5 at *
    have hwfo : ∀ x ∈ ordG g, (Lit.int .i64 x).wf = true := fun x hx => by
      obtain ⟨o, ho, rfl⟩ := ordG_ids hm x hx
      have := (mayG_obj hm ho).id0
      have := (mayG_obj hm ho).id1
      exact WalkArith.wf_i64 ⟨by omega, by omega⟩
    have Hids : Hid (rIds (All w3) w3 [.slice A3 (ordG g).length c3] (ordG g)) := Lib.hid (rIds_stays.to (Keeps.mono fun b hb => hb.2) (ids_own hown3 rfl hwfo))
    have HswS := Lib.hid (rGr_open h5).1
    have Hsw : Hid (rGr (All w3) w3 [.slice A5 (sweepG g).1.length c5, .slice B5 (sweepG g).2.1.length d5, .slice C5 (sweepG g).2.2.length e5] (sweepG g)) := Lib.hid (rGr_stays.to (Keeps.mono fun b hb => hb.2) h5)
    have Hse : Hid (canonG g = ((sweepG g).1, (canonG g).2.1, g.2.2.map (atL (ordG g)))) := Lib.hid (by rw [sweep_ord hm, canonG_yes hm])
    have Hrt : Hid (rIds (All w3) w3 [.slice C5 (sweepG g).2.2.length e5] g.2.2) := Lib.hid (by have := (rGr_open Hsw.out).2.2; rw [sweep_ord hm] at this ⊢; exact this)
    have Hpl := Lib.hid hpl3
    have h8 := ordG_few hm
    have HB5 := Lib.hid hB5
    have Q5 := Lib.hid q5
    have Q6 := Lib.hid q6
    have P2 := Lib.hid p2
    have Hcl : Hid ((canonG g).2.1.length = (ordG g).length) := Lib.hid (canon_len hm)
    have Hso := Lib.hid (fun i x => sweep_obj (i := i) (x := x) hm)
    have T4 := Lib.hid (fun o W (hW : Below w3.heap.size w3 W) h1 h2 h3 => renamed_any A5 B5 C5 (sweepG g).1.length c5 (sweepG g).2.1.length d5 (sweepG g).2.2.length e5 (sweepG g) o Mb (ordG g) W (sweepG_may hm) h1 (gr_below hW Hsw.out) (Hpl.out.below hW) h8 h2 h3)
    have hl := canon_len hm
    clear hown3 h5 hpl3 hwfo hB5 q5 q6 p2
    generalize hS : (sweepG g).1.length = nS at *
    generalize hO : (sweepG g).2.1.length = nO at *
    generalize hR : (sweepG g).2.2.length = nR at *
    generalize hn : (ordG g).length = n at *
    go_loopw [27] (fun iv w' => ∃ (i : Nat) (v : Value) (xs : List Value), i ≤ n ∧ iv = .int .i64 (i : Int) ∧ Hid (CanW (w3.heap.size + 1) (w3.heap.size + 2) w5 (.slice A5 nS c5) v ((canonG g).2.1.take i) xs w')) (fun iv _ => n - (intOf iv).toNat)
    case atStart => exact ⟨0, .slice none 0 0, [], by omega, rfl, Lib.hid ⟨Below.refl _ _, Q6.out, World.ownsRow_nil _ _ _ _, Chunks.nil⟩⟩
    case round =>
      rename_i iv wr
      obtain ⟨i, v, xs, hi', rfl, hC⟩ := hrel
      have hBr : Below w3.heap.size w3 wr := HB5.out.trans (hC.out.bel.mono (by omega))
      by_cases hin : i < n
      · obtain ⟨x, hx⟩ : ∃ x, (ordG g)[i]? = some x := ⟨_, List.getElem?_eq_getElem (by omega)⟩
        obtain ⟨b, off, rfl, hb, hx1, hxb⟩ := id_at (ids_below hBr Hids.out) hx
        obtain ⟨o, hos, hox, hrefs, hcan⟩ := Hso.out i x hx
        have hxm : o.1 ∈ ordG g := by rw [hox]; exact List.mem_of_getElem? hx
        have hil : (i : Int) < (n : Int) := by omega
        have hi0 : (0 : Int) ≤ (i : Int) := by omega
        have T5 := Lib.hid (fun W (hW : Below w3.heap.size w3 W) => T4.out o W hW hos hxm hrefs)
        rw [hox] at T5
        have hlen : ((canonG g).2.1.take i).length = i := by rw [List.length_take]; omega
        have Htk := Lib.hid (take_at hcan)
        rw [hox] at Htk
        have hat := atL_wf (L := ordG g) (by omega) x
        have hot : (Lit.int .i64 o.2.1).wf = true := by
          have := mayG_obj (sweepG_may hm) hos
          have h1 := this.t0
          have h2 := this.t1
          have h3 := (slice_len (rGr_open Hsw.out).1).2
          simp only [maxLen] at h3
          exact WalkArith.wf_i64 ⟨by omega, by omega⟩
        have hfl := leadV_len (atL (ordG g)) (fldsG (sweepG g).1 o.2.1) o.2.2 (mayG_obj (sweepG_may hm) hos).len
        generalize (canonG g).2.1.take i = os at *
        generalize atL (ordG g) x = ax at *
        generalize leadV (atL (ordG g)) (fldsG (sweepG g).1 o.2.1) o.2.2 = lv at *
        generalize o.2.1 = ot at *
        generalize o.2.2.length = ol at *
        obtain ⟨Av, cv, rfl⟩ := own_slice3 hC.out.own
        have HoI : Hid (wr.ownsRow (w3.heap.size + 2) 38 3 (.slice Av i cv) i xs) := Lib.hid (by have := hC.out.own; rwa [hlen] at this)
        have e6 := hC.out.bx.cell (j := 1) rfl
        have Q5r := Q5.out.below (by omega) hC.out.bel
        have S0 := And.intro e6 (And.intro (Q5r.cell (j := 0) rfl) (And.intro (Q5r.cell (j := 1) rfl) (Q5r.cell (j := 2) rfl)))
        have l6 := hC.out.bx.lt
        have HSt := Lib.hid (fun (W : World) (hW : Below wr.heap.size wr W) => And.intro ((hW.cell (p := ⟨w3.heap.size + 1, 1, none⟩) l6).trans S0.1) (And.intro ((hW.cell (p := ⟨w3.heap.size, 0, none⟩) Q5r.lt).trans S0.2.1) (And.intro ((hW.cell (p := ⟨w3.heap.size, 1, none⟩) Q5r.lt).trans S0.2.2.1) ((hW.cell (p := ⟨w3.heap.size, 2, none⟩) Q5r.lt).trans S0.2.2.2))))
        have HBr := Lib.hid hBr
        clear hx hcan hrefs hos hxm e6 Q5r hBr T4
        go_wp2
        refine scl_start 9 [(0, true), (1, true), (2, true), (3, true), (4, true), (5, false), (6, false), (7, false), (8, true), (9, false)]
          (fun W => W.cell? ⟨w3.heap.size + 1, 1, none⟩ = some (.slice Av os.length cv) ∧ W.cell? ⟨w3.heap.size, 0, none⟩ = some (.slice A5 nS c5) ∧ W.cell? ⟨w3.heap.size, 1, none⟩ = some (.slice B5 nO d5) ∧ W.cell? ⟨w3.heap.size, 2, none⟩ = some (.slice C5 nR e5)) (by kernel_rfl) rfl (by kernel_rfl) (fun _ _ _ _ _ h => h) (HSt.out _ (Below.refl _ wr).drew) (fun hH => ?_)
        repeat (first | (refine scl_yes (v := ?_) rfl rfl ?_ hH ?_; rotate_left; (focus ((rintro W ⟨hW1, hW2, hW3, hW4⟩; go_simp) <;> with_reducible rfl)); simp only [Act.put, List.setIfInBounds_toArray, List.set_cons_zero, List.set_cons_succ]) | (refine scl_no rfl rfl hH ?_; simp only [Act.put, List.setIfInBounds_toArray, List.set_cons_zero, List.set_cons_succ]))
        refine scl_call rfl rfl (fun K hK => ?_)
        go_wp2_with (go_at_call 37; refine (T5.out _ (HBr.out.trans ((Below.refl _ wr).drew.mono HBr.out.size))).mono ?_; rintro e wq ⟨Aq, cq, zs, rfl, hownq, hchq, hBq⟩)
        have hQ : Below wr.heap.size wr wq := ((Below.refl wr.heap.size wr).drew).trans (hBq.mono (Nat.le_refl _))
        refine hK.out _ _ (fun _ => HSt.out _ hQ) ?_
        clear hK hH
        refine scl_call rfl rfl (fun K hK => ?_)
        go_wp2
        have hQ2 := hQ.alloc hQ.size (.cells #[.int .i64 ax, .int .i64 ot, .slice Aq ol cq] 38)
        refine hK.out _ _ (fun _ => HSt.out _ hQ2) ?_
        clear hK
        have hH := HSt.out _ hQ2
        have hval : rOb (fun b => wr.heap.size ≤ b ∧ b < wq.heap.size) wq [.int .i64 ax, .int .i64 ot, .slice Aq ol cq] (ax, ot, lv) :=
          rOb_mk (o := (ax, ot, lv)) (WalkArith.wf_i64 ⟨by show -9223372036854775808 ≤ ax; omega, by show ax ≤ 9223372036854775807; omega⟩) hot (rVals_stays.to (S' := fun b => wr.heap.size ≤ b ∧ b < wq.heap.size) (Keeps.mono fun b hb => hownq.lt b hb) (own_vals hownq hfl hchq))
        have rdq := (Blk.new wq 38 [.int .i64 ax, .int .i64 ot, .slice Aq ol cq]).rd
        have sq := hQ2.size
        have hbs : w3.heap.size + 2 ≤ wr.heap.size := by have := hC.out.bx.lt; omega
        refine scl_call rfl rfl (fun K hK => ?_)
        refine wp_apps (.tmp 32) (.tmp 37) 25 rfl (w3.heap.size + 2) 38 i0 (.agg #[.int .i64 0, .int .i64 0, .slice none 0 0]) 3 40 Try.underlying25 hi hz0 hz1 hz2 rfl (by omega) (.slice Av i cv) i xs rfl ((own_below HoI.out hQ).alloc _) (some ⟨wq.heap.size, 0, none⟩) 1 1 [.int .i64 ax, .int .i64 ot, .slice Aq ol cq] rfl rfl rdq (by simp [Value.oneCell']) (by simp only [maxLen]; omega) (by omega) (by omega) ?_
        intro v4 w4 hown4 hg4 hv4
        obtain ⟨bx4, hC4⟩ := hC.out.step (by omega) hQ hval rfl hbs (by rw [hlen]; exact hg4) (by rw [hlen]; exact hown4) (by rw [hlen]; exact hv4)
        obtain ⟨A4, c4, rfl⟩ := own_slice3 hown4
        have e4 := bx4.cell (j := 1) rfl
        have f4 := bx4.frozen 1
        have HC4 := Lib.hid hC4
        have S4 := And.intro e4 (And.intro ((hg4.cell (row := _) (hH.2.1) (fun e => by have := (HoI.out.lt w3.heap.size e.symm).1; omega))) (And.intro (hg4.cell hH.2.2.1 (fun e => by have := (HoI.out.lt w3.heap.size e.symm).1; omega)) (hg4.cell hH.2.2.2 (fun e => by have := (HoI.out.lt w3.heap.size e.symm).1; omega))))
        clear hC4 hown4 hg4 hv4 bx4 hval rdq hownq hchq hC
        refine hK.out _ _ (fun _ => S4) ?_
        clear hK hH
        have hH := S4
        repeat (first | (refine scl_yes (v := ?_) rfl rfl ?_ hH ?_; rotate_left; (focus ((rintro W ⟨hW1, hW2, hW3, hW4⟩; go_simp) <;> with_reducible rfl)); simp only [Act.put, List.setIfInBounds_toArray, List.set_cons_zero, List.set_cons_succ]) | (refine scl_no rfl rfl hH ?_; simp only [Act.put, List.setIfInBounds_toArray, List.set_cons_zero, List.set_cons_succ]))
        refine scl_call rfl rfl (fun K hK => ?_)
        go_wp2
        refine hK.out _ _ (fun h => absurd rfl h) ?_
        clear hK hH
        refine scl_done ?_
        go_wp2
        go_roundw
        case rel => exact ⟨i + 1, _, _, by omega, by go_num, Lib.hid (by rw [Htk.out]; exact HC4.out)⟩
        case measure => simp [intOf]; omega
      · have hin' : i = n := by omega
        rw [List.take_of_length_le (by omega)] at hC
        obtain ⟨Av, cv, rfl⟩ := own_slice3 hC.out.own
        have q2 := (Q5.out.below (by omega) hC.out.bel).cell (j := 2) rfl
        have s6 := hC.out.bel.size
        have l6 := hC.out.bx.lt
        rw [hl] at hC
        have HBr := Lib.hid hBr
        have hlR : (g.2.2.map (atL (ordG g))).length = nR := by rw [List.length_map]; exact (slice_len Hrt.out).1
        have hr3 : nR ≤ 3 := by rw [← (slice_len Hrt.out).1]; exact (mayG_parts hm).2.2.2.1
        clear hBr Hso T4 hin'
        generalize hos : (canonG g).2.1 = os at *
        generalize hrs : g.2.2.map (atL (ordG g)) = rs at *
        go_wp2
        go_loopw [44] (fun jv w' => ∃ (j : Nat) (v : Value), j ≤ nR ∧ jv = .int .i64 (j : Int) ∧ Hid (RootW (w3.heap.size + 1) (.slice A5 nS c5) (.slice Av n cv) wr v (rs.take j) w')) (fun jv _ => nR - (intOf jv).toNat)
        case atStart => exact ⟨0, .slice none 0 0, by omega, rfl, Lib.hid ⟨Below.refl _ _, fun _ _ _ => rfl, by rw [hl] at *; exact hC.out.bx, World.ownsRow_nil _ _ _ _⟩⟩
        case round =>
          rename World => wq
          obtain ⟨j, v2, hj', rfl, hR⟩ := hrel
          have hBq : Below w3.heap.size w3 wq := HBr.out.trans (hR.out.bel.mono (by omega))
          by_cases hjn : j < nR
          · obtain ⟨x, hx⟩ : ∃ x, g.2.2[j]? = some x := ⟨_, List.getElem?_eq_getElem (by have := (slice_len Hrt.out).1; omega)⟩
            have hax : rs[j]? = some (atL (ordG g) x) := by rw [← hrs, List.getElem?_map, hx]; rfl
            obtain ⟨b, off, rfl, hb, hx1, hxb⟩ := id_at (ids_below hBq Hrt.out) hx
            have hlk := (Hpl.out.below hBq).look (root_at hm (List.mem_of_getElem? hx)) (WalkArith.wf_i64 hxb)
            have hlen : (rs.take j).length = j := by rw [List.length_take]; omega
            have Htk := Lib.hid (take_at hax)
            obtain ⟨A2, c2, rfl⟩ := own_slice3 hR.out.own
            have HoI : Hid (wq.ownsRow wr.heap.size 3 1 (.slice A2 j c2) j (ints (rs.take j))) := Lib.hid (by have := hR.out.own; rwa [hlen] at this)
            have e6 := hR.out.bx.cell (j := 2) rfl
            rw [hlen] at e6
            have sq := hR.out.bel.size
            have hjl : (j : Int) < (nR : Int) := by omega
            have hj0 : (0 : Int) ≤ (j : Int) := by omega
            clear hx hax hBq
            generalize rs.take j = ra at *
            generalize atL (ordG g) x = ax at *
            go_wp2_with (first
              | (at_builtin; refine wpList_app rfl (.tmp 49) (.tmp 53) 26 rfl wr.heap.size 3 j0 (.int .i64 0) 8 Try.underlying26 hj hy0 hy1 hy2 rfl (.slice A2 j c2) j (ints ra) rfl (HoI.out.alloc _) (some ⟨wq.heap.size, 0, none⟩) 1 1 (ints [ax]) rfl rfl (lit_ints _ [ax]) (ints_one _) (by simp only [maxLen]; omega) (by omega) (by simp; omega) ?_; intro v4 w4 hown4 hg4 hv4; obtain ⟨bx4, hR4⟩ := hR.out.step (by omega) (by rw [hlen]; exact hg4) (by rw [hlen]; exact hown4); obtain ⟨A4, c4, rfl⟩ := own_slice3 hown4; have e4 := bx4.cell (j := 2) rfl; have f4 := bx4.frozen 2; have HR4 := Lib.hid hR4; clear hR4 hown4 hg4 hv4 bx4 hlk)
              | fail)
            go_roundw
            case rel => exact ⟨j + 1, _, by omega, by go_num, Lib.hid (by rw [Htk.out]; exact HR4.out)⟩
            case measure => simp [intOf]; omega
          · have hjn' : j = nR := by omega
            rw [List.take_of_length_le (by omega)] at hR
            have sq := hR.out.bel.size
            obtain ⟨A2, c2, rfl⟩ := own_slice3 hR.out.own
            have HoI : Hid (RootW (w3.heap.size + 1) (.slice A5 nS c5) (.slice Av n cv) wr (.slice A2 nR c2) rs wq) := Lib.hid (by have := hR.out; rwa [hlR] at this)
            have e0 := HoI.out.bx.cell (j := 0) rfl
            have e1 := HoI.out.bx.cell (j := 1) rfl
            have e2 := HoI.out.bx.cell (j := 2) rfl
            have r2 := P2.out.below P2.out.lt hBq
            have y0 := r2.cell (j := 0) rfl
            have y1 := r2.cell (j := 1) rfl
            have y2 := r2.cell (j := 2) rfl
            have g0 := r2.frozen 0
            have g1 := r2.frozen 1
            have g2 := r2.frozen 2
            have hH9 := Lib.hid (H3.out.trans (hBq.mono H3.out.size))
            clear hBq
            go_wp2
            have P9 := ((r2.set 0 (.slice A5 nS c5)).set 1 (.slice Av n cv)).set 2 (.slice A2 nR c2)
            refine ret_cell0 (d := .struct _) (cs := [.slice A5 nS c5, .slice Av n cv, .slice A2 nR c2]) rfl P9 rfl rfl rfl rfl rfl ?_
            rw [Hse.out]
            have hwf : ∀ r ∈ rs, (Lit.int .i64 r).wf = true := fun r hr => by
              rw [← hrs] at hr
              obtain ⟨y, -, rfl⟩ := List.mem_map.1 hr
              have := atL_wf (L := ordG g) (by omega) y
              exact WalkArith.wf_i64 ⟨by omega, by omega⟩
            refine ⟨A5, c5, Av, cv, A2, c2, ?_, ?_, ?_⟩
            · show _ = Ending.returned (Value.agg #[.slice A5 (sweepG g).1.length c5, .slice Av os.length cv, .slice A2 rs.length c2])
              rw [hS, hl, hlR]
            · show rGr _ _ [.slice A5 (sweepG g).1.length c5, .slice Av os.length cv, .slice A2 rs.length c2] _
              rw [hS, hl, hlR]
              refine RootW.all (lo := w2.heap.size) hC.out (by omega) HoI.out (rSch_stays.to (S := fun b => w2.heap.size ≤ b ∧ b < w3.heap.size) (fun b hb => ⟨⟨hb.1, by omega⟩, ?_⟩) HswS.out) hl hlR hwf (by omega) (fun b h1 h2 => ?_) (by simp)
              · exact HB5.out.block b hb.2
              · rw [Below.heap_setCell _ _ _ _ (by show b ≠ w.heap.size + 1; omega), Below.heap_setCell _ _ _ _ (by show b ≠ w.heap.size + 1; omega), Below.heap_setCell _ _ _ _ (by show b ≠ w.heap.size + 1; omega)]
            · exact ((hH9.out.setCell (p := ⟨w.heap.size + 1, 0, none⟩) (by simp) (.slice A5 nS c5)).setCell (p := ⟨w.heap.size + 1, 1, none⟩) (by simp) (.slice Av n cv)).setCell (p := ⟨w.heap.size + 1, 2, none⟩) (by simp) (.slice A2 nR c2)
  · replace hm : mayG g = false := by simpa using hm
    rw [hm]
    have y0 := p2.cell (j := 0) rfl
    have y1 := p2.cell (j := 1) rfl
    have y2 := p2.cell (j := 2) rfl
    have g0 := p2.frozen 0
    have g1 := p2.frozen 1
    have g2 := p2.frozen 2
    go_wp2
    have P9 := ((p2.set 0 (.slice none 0 0)).set 1 (.slice none 0 0)).set 2 (.slice none 0 0)
    refine ret_cell0 (d := .struct _) (cs := [.slice none 0 0, .slice none 0 0, .slice none 0 0]) rfl P9 rfl rfl rfl rfl rfl ?_
    rw [canonG_no hm]
    refine ⟨none, 0, none, 0, none, 0, rfl, rGr_none _, ?_⟩
    exact ((H1.out.setCell (p := ⟨w.heap.size + 1, 0, none⟩) (by simp) (.slice none 0 0)).setCell (p := ⟨w.heap.size + 1, 1, none⟩) (by simp) (.slice none 0 0)).setCell (p := ⟨w.heap.size + 1, 2, none⟩) (by simp) (.slice none 0 0)
end Go.Proofs.Yteafbdebmhpffaa
