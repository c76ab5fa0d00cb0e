/- The contract of the document's own Order. Condition: short names. -/
import Derived.Test.YteafbdebmhpffaaCaRef1
import Derived.Deep.DeepCutAuto
namespace Go.Proofs.Yteafbdebmhpffaa
open Go.RowKit

/-- What stands while the document meets objects: those that were met are ids, each once; from the place i on so many are to be gone through. -/
structure MeetN (g : Gr) (l : List Int) (i : Nat) : Prop where
  nd : l.Nodup
  ids : ∀ x ∈ l, IdG g x
  ord : ∃ n, i + n = 8 ∧ ordG g = ordN g n l i
theorem MeetN.start {g : Gr} (hm : mayG g = true) : MeetN g (g.2.2.foldl metL []) 0 := ⟨mets_nodup (by simp), roots_ids hm, 8, rfl, ordG_yes hm⟩
theorem MeetN.few {g : Gr} {l : List Int} {i : Nat} (hm : mayG g = true) (h : MeetN g l i) : l.length ≤ 8 := ids_few hm l h.nd h.ids
theorem mets_ids {g : Gr} {rs l : List Int} (hl : ∀ x ∈ l, IdG g x) (hr : ∀ r ∈ rs, r = -1 ∨ IdG g r) : ∀ x ∈ rs.foldl metL l, IdG g x := fun x hx => by
  rcases mets_mem.1 hx with h | ⟨h1, h2⟩
  · exact hl x h
  · exact (hr x h1).resolve_left (by omega)
theorem MeetN.next {g : Gr} {l : List Int} {i : Nat} {o : Ob} (hm : mayG g = true) (h : MeetN g l i) (hi : l[i]? = some o.1) (ho : o ∈ g.2.1) : MeetN g ((refsL g.1 o).foldl metL l) (i + 1) := by
  obtain ⟨n, h1, h2⟩ := h.ord
  have h8 := h.few hm
  have hl := (List.getElem?_eq_some_iff.1 hi).1
  obtain ⟨k, rfl⟩ : ∃ k, n = k + 1 := ⟨n - 1, by omega⟩
  refine ⟨mets_nodup h.nd, mets_ids h.ids (refs_led hm ho), k, by omega, ?_⟩
  rw [h2, ordN, hi]
  show ordN g k ((refsL g.1 (objG g.2.1 o.1)).foldl metL l) (i + 1) = _
  rw [obj_of hm ho]
theorem MeetN.done {g : Gr} {l : List Int} {i : Nat} (h : MeetN g l i) (hi : l.length = i) : ordG g = l := by
  obtain ⟨n, -, h2⟩ := h.ord
  rw [h2, ← hi]
  exact q_end g n l
theorem preR_led {g : Gr} (hm : mayG g = true) (i : Nat) : (∀ x ∈ preR g i, IdG g x) ∧ (preR g i).length ≤ 8 := by
  have h := mets_ids (l := []) (rs := g.2.2.take i) (by simp) (fun r hr => roots_led hm r (List.mem_of_mem_take hr))
  exact ⟨h, ids_few hm _ (preR_nodup g i) h⟩
theorem id_wf {g : Gr} (hm : mayG g = true) {x : Int} (h : IdG g x) : (Lit.int .i64 x).wf = true := by
  obtain ⟨o, ho, rfl⟩ := h
  have := (mayG_obj hm ho).id0
  have := (mayG_obj hm ho).id1
  exact WalkArith.wf_i64 ⟨by omega, by omega⟩
theorem refsT_led {g : Gr} (hm : mayG g = true) {o : Ob} (ho : o ∈ g.2.1) (k : Nat) : ∀ r ∈ refsT (fldsG g.1 o.2.1) o.2.2 k, r = -1 ∨ IdG g r := fun r hr => by
  refine refs_led hm ho r ?_
  rw [refsT] at hr
  rw [refsL]
  obtain ⟨p, hp, e⟩ := List.mem_filterMap.1 hr
  exact List.mem_filterMap.2 ⟨p, List.mem_of_mem_take hp, e⟩

set_option maxRecDepth 100000 in
set_option maxHeartbeats 4000000 in
theorem rorder_any (A B C : Option Addr) (N c M d K e : Nat) (g : Gr) (w : World) (h : rGr (All w) w [.slice A N c, .slice B M d, .slice C K e] g) (htame : tameS g.1) :
    Calls Try.prog 14 #[.agg #[.slice A N c, .slice B M d, .slice C K e]] w fun e w' => ∃ A1 c1, e = .returned (.slice A1 (ordG g).length c1) ∧ rIds (fun b => w.heap.size ≤ b ∧ b < w'.heap.size) w' [.slice A1 (ordG g).length c1] (ordG g) ∧ Below w.heap.size w w' := by
  have hB0 : Below w.heap.size w (w.alloc (.cells #[.slice A N c, .slice B M d, .slice C K e] 28)) := (Below.refl _ w).alloc (Nat.le_refl _) _
  obtain ⟨hN, -, hcm⟩ := slice_len (rGr_open h).1
  obtain ⟨hM, -, -⟩ := slice_len (rGr_open h).2.1
  obtain ⟨hK, -, -⟩ := slice_len (rGr_open h).2.2
  simp only [maxLen] at hcm
  have p1 := Blk.new w 28 [.slice A N c, .slice B M d, .slice C K e]
  have s0 : (w.alloc (.cells #[.slice A N c, .slice B M d, .slice C K e] 28)).heap.size = w.heap.size + 1 := by simp
  have T1 := Lib.hid (rgmay_any A B C N c M d K e g _ (gr_below hB0 h) htame)
  have HB0 := Lib.hid hB0
  have c0 := p1.cell (j := 0) rfl
  have c1 := p1.cell (j := 1) rfl
  have c2 := p1.cell (j := 2) rfl
  clear hB0
  go_enter Try.func14, Try.ntmps14
  go_wp2_with fail
  refine T1.out.mono ?_
  rintro e w1 ⟨rfl, hB1⟩
  have H1 := Lib.hid (HB0.out.trans (hB1.mono HB0.out.size))
  have s1 : w.heap.size + 1 ≤ w1.heap.size := by rw [← s0]; exact hB1.size
  replace p1 := p1.to hB1
  clear hB1 HB0 T1 c0 c1 c2 s0
  by_cases hm : mayG g = true
  rotate_left
  · replace hm : mayG g = false := by simpa using hm
    rw [hm]
    go_wp2
    go_ret
    rw [ordG_no hm]
    exact ⟨none, 0, rfl, ⟨none, 0, [], rfl, Nat.le_refl _, Nat.zero_le _, .inl rfl, Chunks.nil⟩, H1.out⟩
  rw [hm]
  have hM8 := (mayG_parts hm).2.1
  have hK3 := (mayG_parts hm).2.2.2.1
  rw [hM] at hM8
  rw [hK] at hK3
  have Hg := Lib.hid (gr_below H1.out h)
  have c2 := p1.cell (j := 2) rfl
  clear h
  go_wp2
  go_loopw [4, 5] (fun lv iv w' => ∃ (i : Nat) (v : Value), i ≤ K ∧ iv = .int .i64 (i : Int) ∧ lv = v ∧ Hid (w'.ownsRow w1.heap.size 3 1 v (preR g i).length (ints (preR g i))) ∧ Hid (Below w1.heap.size w1 w')) (fun _ iv _ => K - (intOf iv).toNat)
  case atStart => exact ⟨0, .slice none 0 0, by omega, rfl, rfl, Lib.hid (World.ownsRow_nil _ _ _ _), Lib.hid (Below.refl _ _)⟩
  case round =>
    rename World => wr
    obtain ⟨i, v, hi, rfl, rfl, ho, hB⟩ := hrel
    have hs := hB.out.size
    have c2' := (p1.to hB.out).cell (j := 2) rfl
    obtain ⟨hpi, hp8⟩ := preR_led hm i
    by_cases hin : i < K
    · obtain ⟨r, hr⟩ : ∃ r, g.2.2[i]? = some r := ⟨_, List.getElem?_eq_getElem (by omega)⟩
      obtain ⟨b, off, rfl, hb, x1, xb⟩ := id_at (ids_below hB.out (rGr_open Hg.out).2.2) hr
      have hil : (i : Int) < (K : Int) := by omega
      have hi0 : (0 : Int) ≤ (i : Int) := by omega
      have TM := Lib.hid (rmet_any w1.heap.size _ (preR g i) r wr ho.out hs (by omega) (fun y hy => id_wf hm (hpi y hy)))
      rw [← preR_next hr] at TM
      have HB := Lib.hid hB.out
      clear hr hpi hp8 ho hB
      go_wp2_with fail
      refine TM.out.mono ?_
      rintro e wz ⟨v', rfl, hown, hgo⟩
      have HB2 := Lib.hid (HB.out.trans hgo.bel)
      have Ho2 := Lib.hid hown
      clear hgo hown TM
      go_wp2
      go_roundw
      case rel => exact ⟨i + 1, _, by omega, by go_num, rfl, Ho2, HB2⟩
      case measure => simp [intOf]; omega
    · have hiK : i = K := by omega
      have hpre : preR g i = g.2.2.foldl metL [] := by rw [preR, List.take_of_length_le (by omega)]
      rw [hpre] at ho
      clear hiK hpre hpi hp8
      go_wp2
      clear c2'
      go_loopw [4, 6] (fun lv iv w' => ∃ (i : Nat) (v : Value) (l : List Int), i ≤ l.length ∧ iv = .int .i64 (i : Int) ∧ lv = v ∧ Hid (w'.ownsRow w1.heap.size 3 1 v l.length (ints l)) ∧ Hid (Below w1.heap.size w1 w') ∧ Hid (MeetN g l i)) (fun _ iv _ => 8 - (intOf iv).toNat)
      case atStart => exact ⟨0, _, _, by omega, rfl, rfl, ho, hB, Lib.hid (MeetN.start hm)⟩
      case round =>
        clear ho hB hs
        rename World => wx
        obtain ⟨i, v, l, hi, rfl, rfl, ho, hB, hN8⟩ := hrel
        have hs := hB.out.size
        have h8 := hN8.out.few hm
        obtain ⟨Al, cl, rfl⟩ := own_slice3 ho.out
        by_cases hin : i < l.length
        · obtain ⟨x, hx⟩ : ∃ x, l[i]? = some x := ⟨_, List.getElem?_eq_getElem (by omega)⟩
          obtain ⟨o, hob, rfl⟩ := hN8.out.ids x (List.mem_of_getElem? hx)
          obtain ⟨J, hJ, hgo⟩ := obj_place hm hob
          have hmo := mayG_obj hm hob
          have Hnx := Lib.hid (hN8.out.next hm hx hob)
          have hrd := ids_own ho.out rfl (fun y hy => id_wf hm (hN8.out.ids y hy))
          obtain ⟨b4, off4, rfl, hb4, x4, -⟩ := id_at hrd hx
          obtain ⟨bo, offo, A2, c2o, rfl, hbo, x0, x1, x2, hov, ob1, ob2⟩ := ob_at (rGr_open Hg.out).2.1 hgo
          obtain ⟨t, ht⟩ : ∃ t : Nat, o.2.1 = (t : Int) := ⟨o.2.1.toNat, by have := hmo.t0; omega⟩
          have htN : t < N := by have := hmo.t1; omega
          have hgt : g.1[t]? = some g.1[t] := List.getElem?_eq_getElem (by omega)
          obtain ⟨bt, offt, st, AF, cF, rfl, hbt, -, y1, -, -, hfs⟩ := typ_at (rGr_open Hg.out).1 hgt
          have hFe := fldsG_at ht hgt
          rw [← hFe] at y1 hfs
          have hlen := hmo.len
          have hfl : (fldsG g.1 o.2.1).length = o.2.2.length := hlen
          have hol5 : o.2.2.length ≤ 5 := by have := fields_few hm o.2.1; omega
          rw [hfl] at y1 hfs
          have hJM : J < M := by have := (List.getElem?_eq_some_iff.1 hgo).1; omega
          have hil : (i : Int) < (l.length : Int) := by omega
          have hi0 : (0 : Int) ≤ (i : Int) := by omega
          have hjl : (J : Int) < (M : Int) := by omega
          have hj0 : (0 : Int) ≤ (J : Int) := by omega
          rw [ht] at x1
          have l1 := p1.lt
          have HX := Lib.hid (fun (W : World) (hW : Below w1.heap.size w1 W) => And.intro (And.intro ((hW.cell (p := ⟨w.heap.size, 0, none⟩) l1).trans (p1.cell (j := 0) rfl)) (And.intro ((hW.cell (p := ⟨w.heap.size, 1, none⟩) l1).trans (p1.cell (j := 1) rfl)) ((hW.cell (p := ⟨w.heap.size, 2, none⟩) l1).trans (p1.cell (j := 2) rfl))))
            (And.intro (And.intro ((hW.cell (p := ⟨bo, offo + J * 3, none⟩) hbo).trans x0) (And.intro ((hW.cell (p := ⟨bo, offo + J * 3 + 1, none⟩) hbo).trans x1) ((hW.cell (p := ⟨bo, offo + J * 3 + 2, none⟩) hbo).trans x2))) ((hW.cell (p := ⟨bt, offt + t * 2 + 1, none⟩) hbt).trans y1)))
          have TF := Lib.hid (fun W (hW : Below w1.heap.size w1 W) => rgfind_any _ _ C N c M d K e g o.1 W (gr_below hW Hg.out))
          rw [hJ] at TF
          have Hov := Lib.hid hov
          have Hfs := Lib.hid hfs
          have Hob := Lib.hid hob
          have Hlen := Lib.hid hlen
          have hb4' : b4 < wx.heap.size := hb4.2
          have HSx := Lib.hid (fun (W : World) (hW : Below wx.heap.size wx W) => And.intro (HX.out W (hB.out.trans (hW.mono (by omega)))) ((hW.cell (p := ⟨b4, off4 + i, none⟩) hb4').trans x4))
          have Hids := Lib.hid hN8.out.ids
          have hnd0 := Lib.hid hN8.out.nd
          clear x0 x1 x2 y1 x4 hov hfs hFe hgt hlen hfl hob hmo hJ hgo hx hrd hN8 hb4
          generalize hol : o.2.2.length = ol at *
          go_wp2
          have TFx := Lib.hid (fun W (hW : Below wx.heap.size wx W) => TF.out W (hB.out.trans (hW.mono (by omega))))
          clear TF
          go_cut [7] (fun vb wy => ∃ b7 : Nat, vb = .pointer (some ⟨b7, 0, none⟩) ∧ Blk wy b7 38 [.int .i64 o.1, .int .i64 (t : Int), .slice A2 ol c2o] ∧ wx.heap.size ≤ b7 ∧ Hid (Below wx.heap.size wx wy))
          case first =>
            refine fr_start (fun W => Below wx.heap.size wx W) 12 (by kernel_rfl) rfl (fun _ _ _ _ _ h => h) (Below.refl _ wx).drew (fun hH => ?_)
            have hDs : wx.heap.size ≤ wx.drew.heap.size := hH.size
            generalize wx.drew = wd at *
            (refine fr_yes 0 (v := ?_) rfl (by kernel_rfl) rfl ?_ hH ?_; rotate_left; (focus ((intro W hW; obtain ⟨⟨⟨a0, a1, a2⟩, ⟨b0, b1, b2⟩, d0⟩, n0⟩ := HSx.out W hW; go_simp) <;> with_reducible rfl)); simp only [Act.put, List.setIfInBounds_toArray, List.set_cons_zero, List.set_cons_succ]); (refine fr_yes 1 (v := ?_) rfl (by kernel_rfl) rfl ?_ hH ?_; rotate_left; (focus ((intro W hW; obtain ⟨⟨⟨a0, a1, a2⟩, ⟨b0, b1, b2⟩, d0⟩, n0⟩ := HSx.out W hW; go_simp) <;> with_reducible rfl)); simp only [Act.put, List.setIfInBounds_toArray, List.set_cons_zero, List.set_cons_succ]); (refine fr_yes 2 (v := ?_) rfl (by kernel_rfl) rfl ?_ hH ?_; rotate_left; (focus ((intro W hW; obtain ⟨⟨⟨a0, a1, a2⟩, ⟨b0, b1, b2⟩, d0⟩, n0⟩ := HSx.out W hW; go_simp) <;> with_reducible rfl)); simp only [Act.put, List.setIfInBounds_toArray, List.set_cons_zero, List.set_cons_succ]); (refine fr_yes 3 (v := ?_) rfl (by kernel_rfl) rfl ?_ hH ?_; rotate_left; (focus ((intro W hW; obtain ⟨⟨⟨a0, a1, a2⟩, ⟨b0, b1, b2⟩, d0⟩, n0⟩ := HSx.out W hW; go_simp) <;> with_reducible rfl)); simp only [Act.put, List.setIfInBounds_toArray, List.set_cons_zero, List.set_cons_succ]); (refine fr_yes 4 (v := ?_) rfl (by kernel_rfl) rfl ?_ hH ?_; rotate_left; (focus ((intro W hW; obtain ⟨⟨⟨a0, a1, a2⟩, ⟨b0, b1, b2⟩, d0⟩, n0⟩ := HSx.out W hW; go_simp) <;> with_reducible rfl)); simp only [Act.put, List.setIfInBounds_toArray, List.set_cons_zero, List.set_cons_succ]); (refine fr_yes 5 (v := ?_) rfl (by kernel_rfl) rfl ?_ hH ?_; rotate_left; (focus ((intro W hW; obtain ⟨⟨⟨a0, a1, a2⟩, ⟨b0, b1, b2⟩, d0⟩, n0⟩ := HSx.out W hW; go_simp) <;> with_reducible rfl)); simp only [Act.put, List.setIfInBounds_toArray, List.set_cons_zero, List.set_cons_succ]); (refine fr_yes 6 (v := ?_) rfl (by kernel_rfl) rfl ?_ hH ?_; rotate_left; (focus ((intro W hW; obtain ⟨⟨⟨a0, a1, a2⟩, ⟨b0, b1, b2⟩, d0⟩, n0⟩ := HSx.out W hW; go_simp) <;> with_reducible rfl)); simp only [Act.put, List.setIfInBounds_toArray, List.set_cons_zero, List.set_cons_succ])
            refine fr_op [7, 10] (by kernel_rfl) (by simp) ?_; intro jj hjj; simp only [List.mem_cons, List.not_mem_nil, or_false] at hjj; rcases hjj with rfl | rfl
            · refine ⟨_, rfl, rfl, fun K hK => ?_⟩
              go_wp2_with (go_at_call 28; refine (TFx.out _ hH).mono ?_; rintro e wg ⟨rfl, hCg⟩)
              have hDg := hH.trans (hCg.mono hH.size)
              refine hK.out _ _ hDg ?_
              clear hK hH hCg
              have hH := hDg
              (refine fr_yes 8 (v := ?_) rfl (by kernel_rfl) rfl ?_ hH ?_; rotate_left; (focus ((intro W hW; obtain ⟨⟨⟨a0, a1, a2⟩, ⟨b0, b1, b2⟩, d0⟩, n0⟩ := HSx.out W hW; go_simp) <;> with_reducible rfl)); simp only [Act.put, List.setIfInBounds_toArray, List.set_cons_zero, List.set_cons_succ]); (refine fr_yes 9 (v := ?_) rfl (by kernel_rfl) rfl ?_ hH ?_; rotate_left; (focus ((intro W hW; obtain ⟨⟨⟨a0, a1, a2⟩, ⟨b0, b1, b2⟩, d0⟩, n0⟩ := HSx.out W hW; go_simp) <;> with_reducible rfl)); simp only [Act.put, List.setIfInBounds_toArray, List.set_cons_zero, List.set_cons_succ])
              refine fr_op [10] (by kernel_rfl) (by simp) ?_; intro jj hjj; simp only [List.mem_cons, List.not_mem_nil, or_false] at hjj; subst hjj; refine ⟨_, rfl, rfl, fun K hK => ?_⟩
              go_wp2
              refine hK.out _ _ (hDg.alloc hDg.size (.cells #[.int .i64 0, .int .i64 0, .slice none 0 0] 38)) ?_
              clear hK hH
              refine fr_op [11] (by kernel_rfl) (by simp) ?_; intro jj hjj; simp only [List.mem_cons, List.not_mem_nil, or_false] at hjj; subst hjj; refine ⟨_, rfl, rfl, fun K hK => ?_⟩
              go_wp2
              have hDe := hDg.alloc hDg.size (.cells #[.int .i64 o.1, .int .i64 (t : Int), .slice A2 ol c2o] 38)
              refine hK.out _ _ hDe ?_
              clear hK
              refine fr_done (by kernel_rfl) ?_
              go_wp2
              go_meet
              case rel => exact ⟨_, rfl, Blk.new _ _ [.int .i64 o.1, .int .i64 (t : Int), .slice A2 ol c2o], hDg.size, Lib.hid hDe⟩
            · refine ⟨_, rfl, rfl, fun K hK => ?_⟩
              go_wp2
              have hDz := hH.alloc hH.size (.cells #[.int .i64 0, .int .i64 0, .slice none 0 0] 38)
              have vz := Blk.new wd 38 [.int .i64 0, .int .i64 0, .slice none 0 0]
              refine hK.out _ _ hDz ?_
              clear hK hH
              have hH := hDz
              generalize wd.alloc (.cells #[.int .i64 0, .int .i64 0, .slice none 0 0] 38) = wz at *
              refine fr_op [7] (by kernel_rfl) (by simp) ?_; intro jj hjj; simp only [List.mem_cons, List.not_mem_nil, or_false] at hjj; subst hjj; refine ⟨_, rfl, rfl, fun K hK => ?_⟩
              go_wp2_with (go_at_call 28; refine (TFx.out _ hDz).mono ?_; rintro e wg ⟨rfl, hCg⟩)
              have hDg := hDz.trans (hCg.mono hDz.size)
              have vg := vz.to hCg
              refine hK.out _ _ hDg ?_
              clear hK hH hCg hDz vz
              have hH := hDg
              (refine fr_yes 8 (v := ?_) rfl (by kernel_rfl) rfl ?_ hH ?_; rotate_left; (focus ((intro W hW; obtain ⟨⟨⟨a0, a1, a2⟩, ⟨b0, b1, b2⟩, d0⟩, n0⟩ := HSx.out W hW; go_simp) <;> with_reducible rfl)); simp only [Act.put, List.setIfInBounds_toArray, List.set_cons_zero, List.set_cons_succ]); (refine fr_yes 9 (v := ?_) rfl (by kernel_rfl) rfl ?_ hH ?_; rotate_left; (focus ((intro W hW; obtain ⟨⟨⟨a0, a1, a2⟩, ⟨b0, b1, b2⟩, d0⟩, n0⟩ := HSx.out W hW; go_simp) <;> with_reducible rfl)); simp only [Act.put, List.setIfInBounds_toArray, List.set_cons_zero, List.set_cons_succ])
              have z0 := vg.cell (j := 0) rfl
              have z1 := vg.cell (j := 1) rfl
              have z2 := vg.cell (j := 2) rfl
              have f0 := vg.frozen 0
              have f1 := vg.frozen 1
              have f2 := vg.frozen 2
              refine fr_op [11] (by kernel_rfl) (by simp) ?_; intro jj hjj; simp only [List.mem_cons, List.not_mem_nil, or_false] at hjj; subst hjj; refine ⟨_, rfl, rfl, fun K hK => ?_⟩
              go_wp2
              have hDe := ((hDg.setCell (p := ⟨wd.heap.size, 0, none⟩) hDs (.int .i64 o.1)).setCell (p := ⟨wd.heap.size, 1, none⟩) hDs (.int .i64 (t : Int))).setCell (p := ⟨wd.heap.size, 2, none⟩) hDs (.slice A2 ol c2o)
              refine hK.out _ _ hDe ?_
              clear hK hH
              refine fr_done (by kernel_rfl) ?_
              go_wp2
              go_meet
              case rel => exact ⟨_, rfl, ((vg.set 0 (.int .i64 o.1)).set 1 (.int .i64 (t : Int))).set 2 (.slice A2 ol c2o), hDs, Lib.hid hDe⟩
          case rest =>
            obtain ⟨b7, rfl, p7, hb7, hBx⟩ := hcut
            have HBc := Lib.hid (hB.out.trans (hBx.out.mono (by omega)))
            have Hoc := Lib.hid (own_below ho.out hBx.out)
            have hbn : some b7 ≠ (Value.slice (some ⟨b4, off4, none⟩) l.length cl).ownBlock := fun e => by have := (ho.out.lt b7 e.symm).2; omega
            have P7 := Lib.hid p7
            have hnd := hnd0.out
            have Hst := Lib.hid (fun k => mets_ids (l := l) (rs := refsT (fldsG g.1 o.2.1) o.2.2 k) Hids.out (refsT_led hm Hob.out k))
            have Hfw := Lib.hid (fun k => ids_few hm _ (mets_nodup (rs := refsT (fldsG g.1 o.2.1) o.2.2 k) hnd) (Hst.out k))
            have Hall : Hid (refsT (fldsG g.1 o.2.1) o.2.2 ol = refsL g.1 o) := Lib.hid (by have := refsT_all (s := g.1) (o := o); rwa [Hlen.out] at this)
            have Hyes := Lib.hid (fun (k : Nat) f v h1 h2 h5 => refsT_yes (fs := fldsG g.1 o.2.1) (vs := o.2.2) (i := k) (f := f) (v := v) h1 h2 h5)
            have Hno := Lib.hid (fun (k : Nat) f h1 h5 => refsT_no (fs := fldsG g.1 o.2.1) (vs := o.2.2) (i := k) (f := f) h1 (by rw [Hlen.out]; exact hol.symm) h5)
            have Hpre := Lib.hid (mets_pre (refsL g.1 o) l)
            rw [ht] at Hfs Hst Hfw Hall Hyes Hno
            have hl0 : refsT (fldsG g.1 (t : Int)) o.2.2 0 = [] := rfl
            clear p7 hB ho hnd
            go_wp2
            go_loopw [4, 8] (fun lv kv w' => ∃ (k : Nat) (v : Value), k ≤ ol ∧ kv = .int .i64 (k : Int) ∧ lv = v ∧ Hid (w'.ownsRow w1.heap.size 3 1 v ((refsT (fldsG g.1 (t : Int)) o.2.2 k).foldl metL l).length (ints ((refsT (fldsG g.1 (t : Int)) o.2.2 k).foldl metL l))) ∧ Hid (Below w1.heap.size w1 w') ∧ Hid (Blk w' b7 38 [.int .i64 o.1, .int .i64 (t : Int), .slice A2 ol c2o] ∧ some b7 ≠ v.ownBlock ∧ w1.heap.size ≤ b7)) (fun _ kv _ => ol - (intOf kv).toNat)
            case atStart => exact ⟨0, _, by omega, rfl, rfl, Hoc, HBc, Lib.hid ⟨P7.out, hbn, by omega⟩⟩
            case round =>
              clear Hoc HBc P7 hbn hBx hb7
              rename World => wy
              obtain ⟨k, v, hk, rfl, rfl, ho, hB, hP⟩ := hrel
              have hsy := hB.out.size
              obtain ⟨⟨a0, a1, a2⟩, -, d0⟩ := HX.out _ hB.out
              have e1 := hP.out.1.cell (j := 1) rfl
              have e2 := hP.out.1.cell (j := 2) rfl
              by_cases hkn : k < ol
              · obtain ⟨v, hv⟩ : ∃ v, o.2.2[k]? = some v := ⟨_, List.getElem?_eq_getElem (by omega)⟩
                obtain ⟨f, hf⟩ : ∃ f, (fldsG g.1 (t : Int))[k]? = some f := ⟨_, List.getElem?_eq_getElem (by have := (slice_len Hfs.out).1; omega)⟩
                obtain ⟨bv, offv, sv, rfl, hbv, -, -, v2, -, -, -, hvb⟩ := val_at Hov.out hv
                obtain ⟨bf, offf, sx', tx, rfl, hbf, -, m1, -, -, -, -, -, -⟩ := fld_at Hfs.out hf
                have hkl : (k : Int) < (ol : Int) := by omega
                have hk00 : (0 : Int) ≤ (k : Int) := by omega
                have htl : (t : Int) < (N : Int) := by omega
                have ht00 : (0 : Int) ≤ (t : Int) := by omega
                have v2' := (hB.out.cell (p := ⟨bv, offv + k * 3 + 2, none⟩) hbv).trans v2
                have m1' := (hB.out.cell (p := ⟨bf, offf + k * 3 + 1, none⟩) hbf).trans m1
                by_cases h5 : f.2.1 = 5
                · have hys := Hyes.out k f v hf hv h5
                  have TM := Lib.hid (rmet_any w1.heap.size _ _ v.2.2 wy ho.out hsy (by have := Hfw.out k; omega) (fun y hy => id_wf hm (Hst.out k y hy)))
                  have hfo : metL ((refsT (fldsG g.1 (t : Int)) o.2.2 k).foldl metL l) v.2.2 = (refsT (fldsG g.1 (t : Int)) o.2.2 (k + 1)).foldl metL l := by rw [hys, List.foldl_append]; rfl
                  rw [hfo] at TM
                  have h5' : (f.2.1 == 5) = true := by simp [h5]
                  have HB := Lib.hid hB.out
                  clear hv hf v2 m1 h5 hys hfo ho hB hvb
                  generalize v.2.2 = vr at *
                  generalize f.2.1 = fk at *
                  go_wp2_with fail
                  refine TM.out.mono ?_
                  rintro e wz ⟨v', rfl, hown, hgo⟩
                  have HB2 := Lib.hid (HB.out.trans hgo.bel)
                  have Ho2 := Lib.hid hown
                  have hbl := hP.out.1.lt
                  have HP2 : Hid (Blk wz b7 38 [.int .i64 o.1, .int .i64 (t : Int), .slice (some ⟨bv, offv, none⟩) ol c2o] ∧ some b7 ≠ v'.ownBlock ∧ w1.heap.size ≤ b7) := Lib.hid ⟨(hgo.kept b7 hbl hP.out.2.1).trans hP.out.1, by
                    rcases hgo.new with e | ⟨q, e, hq⟩
                    · rw [e]; exact hP.out.2.1
                    · rw [e]; intro e2; injection e2 with e2; omega, hP.out.2.2⟩
                  clear hgo hown TM
                  go_wp2
                  go_roundw
                  case rel => exact ⟨k + 1, _, by omega, by go_num, rfl, Ho2, HB2, HP2⟩
                  case measure => simp [intOf]; omega
                · have hns := Hno.out k f hf h5
                  have h5' : (f.2.1 == 5) = false := by simp [h5]
                  have Ho2 : Hid (wy.ownsRow w1.heap.size 3 1 _ ((refsT (fldsG g.1 (t : Int)) o.2.2 (k + 1)).foldl metL l).length (ints ((refsT (fldsG g.1 (t : Int)) o.2.2 (k + 1)).foldl metL l))) := Lib.hid (by rw [hns]; exact ho.out)
                  clear hv hf v2 m1 h5 hns ho hvb
                  generalize f.2.1 = fk at *
                  go_wp2
                  go_roundw
                  case rel => exact ⟨k + 1, _, by omega, by go_num, rfl, Ho2, hB, hP⟩
                  case measure => simp [intOf]; omega
              · have hko : k = ol := by omega
                rw [hko, Hall.out] at ho
                clear hko
                go_wp2
                go_roundw
                case rel =>
                  refine ⟨i + 1, _, (refsL g.1 o).foldl metL l, ?_, by go_num, rfl, ho, hB, Hnx⟩
                  obtain ⟨mm, e⟩ := Hpre.out
                  rw [e, List.length_append]
                  omega
                case measure => simp [intOf]; omega
        · have hil : l.length = i := by omega
          have Hor := Lib.hid (hN8.out.done hil)
          have hrd := ids_own ho.out rfl (fun y hy => id_wf hm (hN8.out.ids y hy))
          have Hrd := Lib.hid hrd
          clear hrd ho hN8 hil
          go_wp2
          go_ret
          rw [Hor.out]
          exact ⟨Al, cl, rfl, rIds_stays.to (Keeps.mono fun b hb => ⟨by omega, hb.2⟩) Hrd.out, H1.out.trans (hB.out.mono H1.out.size)⟩
end Go.Proofs.Yteafbdebmhpffaa
