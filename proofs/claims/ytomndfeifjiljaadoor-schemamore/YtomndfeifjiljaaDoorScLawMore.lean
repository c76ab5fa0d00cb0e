/- SchemaMore's walk. -/
import Derived.Test.YtomndfeifjiljaaDoorScAwake
import Derived.Test.YtomndfeifjiljaaDoorScNames
import Derived.Test.YtomndfeifjiljaaDoorScMoreMem
import Derived.Test.YtomndfeifjiljaaDoorScRef4
import Derived.Test.YtomndfeifjiljaaDoorScReadT
import Derived.Test.YtomndfeifjiljaaDoorFork
import Derived.Deep.DeepCutAuto
namespace Go.Proofs.YtomndfeifjiljaaDoor
open Go.RowKit

set_option maxHeartbeats 400000 in
theorem less_end {w wd wE : World} {base gB I n : Nat} {A92 : Option Addr} {c92 : Nat} {x : Sch} {xs : List Value} (hn : n = I + (x.length - (I + 1))) (hI : I < x.length)
    (hEE : Below wd.heap.size wd wE) (hgB : wd.heap.size ≤ gB) (hneB : (Value.slice A92 n c92).ownBlock ≠ some gB)
    (hownE : wE.ownsRow base 34 2 (.slice A92 n c92) n (xs.take (I * 2) ++ xs.drop ((I + 1) * 2))) (hBd : Below w.heap.size w wd) (hch : Chunks 2 (rTyp (All w) w) xs x) :
    Below wd.heap.size wd (wE.setCell ⟨gB, 0, none⟩ (.slice A92 n c92)) ∧ rSch (All (wE.setCell ⟨gB, 0, none⟩ (.slice A92 n c92))) (wE.setCell ⟨gB, 0, none⟩ (.slice A92 n c92)) [.slice A92 n c92] (lessS x I) := by
  have hEf := hEE.setCell (p := ⟨gB, 0, none⟩) hgB (.slice A92 n c92)
  have hoth : ∀ bb, bb ≠ gB → (wE.setCell ⟨gB, 0, none⟩ (.slice A92 n c92)).heap[bb]? = wE.heap[bb]? := fun bb h => heap_setCell_other wE ⟨gB, 0, none⟩ bb (.slice A92 n c92) h
  generalize wE.setCell ⟨gB, 0, none⟩ (.slice A92 n c92) = wF at *
  have hownF : wF.ownsRow base 34 2 (.slice A92 n c92) n (xs.take (I * 2) ++ xs.drop ((I + 1) * 2)) := own_keep hownE (fun bb hbb => hoth bb (fun e => hneB (by rw [hbb, e])))
  have hll : (lessS x I).length = n := by rw [lessS, List.length_append, List.length_take, List.length_drop]; omega
  have hchL : Chunks 2 (rTyp (All w) w) (xs.take (I * 2) ++ xs.drop ((I + 1) * 2)) (lessS x I) := (hch.take I).append (hch.drop (I + 1))
  obtain ⟨A', c', hve, -, -, hless⟩ := row_reads rTyp_stays hownF hll hchL (hBd.trans (hEf.mono hBd.size))
  exact ⟨hEf, hless⟩

set_option maxRecDepth 100000 in
set_option maxHeartbeats 16000000 in
theorem schemaMore_walk (w : World) (hK : Kt w) (cs : Array Value) (x : Sch) (h : rSch (All w) w cs.toList x) (i : Int) (hi0 : -9223372036854775808 ≤ i) (hi1 : i ≤ 9223372036854775807) :
    Calls Tryd.prog 6 #[.agg cs, .int .i64 i] w fun e w' => e = .returned (.bool true) ∧ Below w.heap.size w w' := by
  obtain ⟨A, c, rfl, hlc, hcm, hx⟩ := sch_arg h
  clear h
  simp only [maxLen] at hcm
  obtain ⟨i0, hi, hz0, hz1, hz2⟩ := info_parts info_typ4
  obtain ⟨j0, hj, hy0, hy1, hy2⟩ := info_parts info_fld4
  obtain ⟨hzt, hszt⟩ := zero_of_info info_typ
  obtain ⟨hzf, hszf⟩ := zero_of_info info_fld
  have hB0 : Below w.heap.size w (w.alloc (.cells #[.slice A x.length c] 24)) := (Below.refl _ w).alloc (Nat.le_refl _) _
  have b0 := Blk.new w 24 [.slice A x.length c]
  have TF := Lib.hid (fun W (hW : Below w.heap.size w W) => sfew_any A x.length c x 10 W (sch_below hW hx))
  have TM := Lib.hid (fun W (hW : Below w.heap.size w W) => may_any A x.length c x W (sch_below hW hx))
  have HS := Lib.hid (fun (h : mayS x = true) => mayS_small h)
  have HA := Lib.hid (fun (h : mayS x = true) => may_more h)
  have HB := Lib.hid (fun (h : mayS x = true) i t => may_wide h (i := i) (t := t))
  have HC := Lib.hid (fun (h : mayS x = true) i t => may_less h (i := i) (t := t))
  generalize fewS x 10 = few at *
  generalize hmay : mayS x = may at *
  go_enter Tryd.func6, Tryd.ntmps6
  go_wp2_with fail
  refine (sawake_any _ (hK.below hB0)).mono ?_
  rintro e w1 ⟨rfl, hC1⟩
  have hB1 := hB0.trans (hC1.mono hB0.size)
  have b1 : Blk w1 w.heap.size 24 [.slice A x.length c] := b0.to hC1
  have c1 := b1.cell (j := 0) rfl
  clear hC1 hB0 b0 hK
  go_wp2_with fail
  refine (TF.out _ hB1).mono ?_
  rintro e w2 ⟨rfl, hC2⟩
  have hB2 := hB1.trans (hC2.mono hB1.size)
  have b2 := b1.to hC2
  have c2 := b2.cell (j := 0) rfl
  clear hC2 hB1 b1 c1
  cases few
  · go_wp2
    go_ret
    exact ⟨rfl, hB2⟩
  go_wp2_with fail
  refine (TM.out _ hB2).mono ?_
  rintro e w3 ⟨rfl, hC3⟩
  have hB3 := hB2.trans (hC3.mono hB2.size)
  have b3 := b2.to hC3
  have c3 := b3.cell (j := 0) rfl
  clear hC3 hB2 b2 c2 TF TM
  cases may
  · go_wp2
    go_ret
    exact ⟨rfl, hB3⟩
  rcases int_cases i x.length with hi' | hi' | ⟨I, rfl, hI⟩
  · have hi2 : decide (i < 0) = true := decide_eq_true hi'
    go_wp2
    go_ret
    exact ⟨rfl, hB3⟩
  · have hi2 : decide (i < 0) = false := decide_eq_false (by omega)
    have hi3 : decide ((x.length : Int) ≤ i) = true := decide_eq_true hi'
    go_wp2
    go_ret
    exact ⟨rfl, hB3⟩
  have hxi : x[I]? = some x[I] := List.getElem?_eq_getElem hI
  have hI1 : decide ((x.length : Int) ≤ (I : Int)) = false := decide_eq_false (by omega)
  have hI2 : (I : Int) < (x.length : Int) := by omega
  have hI3 : decide ((I : Int) < 0) = false := decide_eq_false (by omega)
  have hI0 : (0 : Int) ≤ (I : Int) := by omega
  obtain ⟨hl4, hsm⟩ := HS.out (by simp)
  obtain ⟨hts, htl, -⟩ := hsm x[I] (List.getElem_mem _)
  have HA2 := Lib.hid (HA.out (by simp))
  have HB2 := Lib.hid (HB.out (by simp) I x[I] hxi)
  have HC2 := Lib.hid (HC.out (by simp) I x[I] hxi)
  clear HS HA HB HC hsm hmay
  obtain ⟨A1, c1, xs, hv1, -, -, hrdA, hch⟩ := hx
  have hx : rSch (All w) w [.slice A x.length c] x := ⟨A1, c1, xs, hv1, by simp at hv1; omega, by simp at hv1; simp only [maxLen]; omega, hrdA, hch⟩
  have hA1 : A1 = A := by simp at hv1; exact hv1.1.symm
  subst hA1
  clear hv1
  have Hxi := Lib.hid hxi
  have hfr : byt ⟨#[122, 122, 122, 122, 57, 57, 57, 57]⟩ = fresh := rfl
  have TJ := Lib.hid (fun W (hW : Below w.heap.size w W) => find_any A1 x.length c x ⟨#[122, 122, 122, 122, 57, 57, 57, 57]⟩ W (sch_below hW hx))
  rw [hfr] at TJ
  go_wp2_with fail
  refine (TJ.out _ hB3).mono ?_
  rintro e w4 ⟨rfl, hC4⟩
  have hB4 := hB3.trans (hC4.mono hB3.size)
  have b4 := b3.to hC4
  have c4 := b4.cell (j := 0) rfl
  clear hC4 hB3 b3 c3 TJ
  generalize hfx : findS x fresh = fx at *
  by_cases hf0 : 0 ≤ fx
  · have hf0' : decide (0 ≤ fx) = true := decide_eq_true hf0
    go_wp2
    go_ret
    exact ⟨rfl, hB4⟩
  have hf0' : decide (0 ≤ fx) = false := decide_eq_false hf0
  obtain ⟨b, off, s, A2, c2, hAb, hb, p1, p2, e1, hss, hfs⟩ := typ_at hx hxi
  subst hAb
  have hfs' := hfs
  obtain ⟨A2', c2', zs, hv2, -, -, hrdF, hchF⟩ := hfs'
  have hA2 : A2' = A2 := by simp at hv2; exact hv2.1.symm
  subst hA2
  have hxs0 : xs[I * 2]? = some (.string s) := by
    have h1 := hch.2 I _ hxi
    obtain ⟨s', A', c', h2, _⟩ := rTyp_open h1
    have h3 : xs[I * 2]? = some (.string s') := by
      have := congrArg (fun l : List Value => l[0]?) h2
      simpa [List.getElem?_take, List.getElem?_drop] using this
    have h4 : w.cell? ⟨b, off + I * 2, none⟩ = some (.string s') := by
      rcases hrdA with h | ⟨b', off', e, _, hc⟩
      · rw [h] at h3; simp at h3
      · injection e with e
        injection e with e1 e2
        subst e1 e2
        exact hc _ _ h3
    rw [p1] at h4
    injection h4 with h4
    injection h4 with h4
    rw [h3, h4]
  have Hch := Lib.hid hch
  have HchF := Lib.hid hchF
  have Hxs0 := Lib.hid hxs0
  clear hxs0 hch hchF hv2 hxi
  have TG := Lib.hid (fun W (hW : Below w.heap.size w W) => field_any s A2' x[I].2.length c2 x[I].2 ⟨#[122, 122, 122, 122, 57, 57, 57, 57]⟩ W (flds_below hW hfs))
  rw [hfr] at TG
  have q1 := (hB4.cell (p := ⟨b, off + I * 2, none⟩) hb).trans p1
  have q2 := (hB4.cell (p := ⟨b, off + I * 2 + 1, none⟩) hb).trans p2
  generalize x[I] = t at *
  generalize hgx : fieldS t.2 fresh = gx at *
  go_wp2_with fail
  refine (TG.out _ hB4).mono ?_
  rintro e w5 ⟨rfl, hC5⟩
  have hB5 := hB4.trans (hC5.mono hB4.size)
  have b5 := b4.to hC5
  have c5 := b5.cell (j := 0) rfl
  clear hC5 hB4 b4 c4 TG q1 q2
  by_cases hg0 : 0 ≤ gx
  · have hg0' : decide (0 ≤ gx) = true := decide_eq_true hg0
    go_wp2
    go_ret
    exact ⟨rfl, hB5⟩
  have hg0' : decide (0 ≤ gx) = false := decide_eq_false hg0
  have hnpos : 0 < x.length := by omega
  have hone := Lib.hid (typ_cells Hch.out)
  have hxl := Hch.out.1
  have hr5 : Rd w5 (some ⟨b, off, none⟩) xs := RdIn.rd (RdIn.keeps (Keeps.below hB5) hrdA)
  go_wp2_with (first
    | (at_builtin; refine wpList_apps rfl (.const (.slice none 0 0)) (.tmp 55) 22 rfl w5.heap.size 34 i0 (.agg #[.string ⟨#[]⟩, .slice none 0 0]) 2 40 Tryd.underlying22 hi hz0 hz1 hz2 rfl (by omega) (.slice none 0 0) 0 [] rfl (World.ownsRow_nil _ _ _ _) (some ⟨b, off, none⟩) x.length c xs rfl hxl hr5 hone.out (by simp only [maxLen]; omega) (by omega) (Nat.le_refl _) ?_
       intro v6 w6 hown6 hg6 hv6
       simp only [Nat.zero_add, List.nil_append] at hown6
       have hC6 : Below w5.heap.size w5 w6 := (Below.refl _ w5).grown hg6 (Nat.le_refl _) (fun k hk => by simp [Value.ownBlock] at hk)
       have hA6 : Below w6.heap.size w6 (w6.alloc (.cells #[.string ⟨#[122, 122, 122, 122, 57, 57, 57, 57]⟩, .slice none 0 0] 34)) := (Below.refl _ w6).alloc (Nat.le_refl _) _
       have hown6a := own_below hown6 hA6
       have hbx6 := (Blk.new w6 34 [.string ⟨#[122, 122, 122, 122, 57, 57, 57, 57]⟩, .slice none 0 0]).rd)
    | (at_builtin; refine wpList_apps rfl (.tmp 56) (.tmp 59) 22 rfl w5.heap.size 34 i0 (.agg #[.string ⟨#[]⟩, .slice none 0 0]) 2 40 Tryd.underlying22 hi hz0 hz1 hz2 rfl (by omega) v6 x.length xs rfl hown6a (some ⟨w6.heap.size, 0, none⟩) 1 1 [.string ⟨#[122, 122, 122, 122, 57, 57, 57, 57]⟩, .slice none 0 0] rfl rfl hbx6 (by simp [Value.oneCell']) (by simp only [maxLen]; omega) (by omega) (Nat.le_trans hC6.size hA6.size) ?_
       intro v8 w8 hown8 hg8 hv8
       have hD8 : Below w5.heap.size w5 w8 := (hC6.trans (hA6.mono hC6.size)).grown hg8 (Nat.le_trans hC6.size hA6.size) (fun k hk => (hown6a.lt k hk).1)
       have hB8 := hB5.trans (hD8.mono hB5.size)
       obtain ⟨A8, c8, hv8e, hn8, hm8, hmore8⟩ := row_reads rTyp_stays (l := x ++ [(fresh, [])]) hown8 (by simp) (Hch.out.append (Chunks.one (size := 2) rfl (rTyp_mk (t := (fresh, [])) (s := ⟨#[122, 122, 122, 122, 57, 57, 57, 57]⟩) rfl (by decide) ⟨none, 0, [], rfl, Nat.le_refl _, Nat.zero_le _, .inl rfl, Chunks.nil⟩))) hB8
       subst hv8e
       have hA8 : Below w8.heap.size w8 (w8.alloc (.cells #[.slice A8 (x.length + 1) c8] 24)) := (Below.refl _ w8).alloc (Nat.le_refl _) _
       have hB9 := hB8.trans (hA8.mono hB8.size)
       have bA9 := (b5.to hD8).to hA8
       have cA9 := bA9.cell (j := 0) rfl
       have bM9 := Blk.new w8 24 [.slice A8 (x.length + 1) c8]
       have hmore9 := sch_below hA8 hmore8
       have hr9 : Rd (w8.alloc (.cells #[.slice A8 (x.length + 1) c8] 24)) (some ⟨b, off, none⟩) xs := RdIn.rd (RdIn.keeps (Keeps.below hB9) hrdA)
       clear hown8 hg8 hv8 hmore8 hown6a hown6 hbx6 hg6 hv6)
    | (at_builtin; refine wpList_apps rfl (.const (.slice none 0 0)) (.tmp 63) 22 rfl (w8.heap.size + 1) 34 i0 (.agg #[.string ⟨#[]⟩, .slice none 0 0]) 2 40 Tryd.underlying22 hi hz0 hz1 hz2 rfl (by omega) (.slice none 0 0) 0 [] rfl (World.ownsRow_nil _ _ _ _) (some ⟨b, off, none⟩) x.length c xs rfl hxl hr9 hone.out (by simp only [maxLen]; omega) (by omega) (by simp) ?_
       intro v10 w10 hown10 hg10 hv10
       simp only [Nat.zero_add, List.nil_append] at hown10
       have hC10 : Below (w8.alloc (.cells #[.slice A8 (x.length + 1) c8] 24)).heap.size (w8.alloc (.cells #[.slice A8 (x.length + 1) c8] 24)) w10 := (Below.refl _ _).grown hg10 (Nat.le_refl _) (fun k hk => by simp [Value.ownBlock] at hk)
       obtain ⟨g10, cap10, hv10e, hg10b, hg10l⟩ := hown10.form hnpos
       subst hv10e
       have hA10 : Below w10.heap.size w10 (w10.alloc (.cells #[.slice (some ⟨g10, 0, none⟩) x.length cap10] 24)) := (Below.refl _ w10).alloc (Nat.le_refl _) _
       have hC11 := hC10.trans (hA10.mono hC10.size)
       have hB11 := hB9.trans (hC11.mono hB9.size)
       have bA11 := bA9.to hC11
       have bM11 : Blk (w10.alloc (.cells #[.slice (some ⟨g10, 0, none⟩) x.length cap10] 24)) w8.heap.size 24 [.slice A8 (x.length + 1) c8] := bM9.to hC11
       have bW11 := Blk.new w10 24 [.slice (some ⟨g10, 0, none⟩) x.length cap10]
       have Hmore9 := Lib.hid hmore9
       have hown11 := own_below hown10 hA10
       clear hg10 hv10 hown10 hmore9 hr9 hA10 hC10 bM9 bA9 cA9)
    | fail)
  go_cut [9] (fun v9 wx => v9 = .pointer (some ⟨w10.heap.size, 0, none⟩) ∧ Below w.heap.size w wx ∧ Blk wx w.heap.size 24 [.slice (some ⟨b, off, none⟩) x.length c] ∧ Blk wx w8.heap.size 24 [.slice A8 (x.length + 1) c8] ∧ Blk wx w10.heap.size 24 [.slice (some ⟨g10, 0, none⟩) x.length cap10] ∧ rSch (All wx) wx [.slice A8 (x.length + 1) c8] (x ++ [(fresh, [])]) ∧ rSch (All wx) wx [.slice (some ⟨g10, 0, none⟩) x.length cap10] (wideS x I t))
  case first =>
    have hzl := HchF.out.1
    have hzone := Lib.hid (fld_cells HchF.out)
    have hdr : Below (w10.alloc (.cells #[.slice (some ⟨g10, 0, none⟩) x.length cap10] 24)).heap.size (w10.alloc (.cells #[.slice (some ⟨g10, 0, none⟩) x.length cap10] 24)) ((w10.alloc (.cells #[.slice (some ⟨g10, 0, none⟩) x.length cap10] 24))).drew := (Below.refl _ _).drew
    obtain ⟨wd, hwd⟩ : ∃ wd, wd = ((w10.alloc (.cells #[.slice (some ⟨g10, 0, none⟩) x.length cap10] 24))).drew := ⟨_, rfl⟩
    rw [← hwd] at hdr
    have hsz11 : ((w10.alloc (.cells #[.slice (some ⟨g10, 0, none⟩) x.length cap10] 24))).heap.size = w10.heap.size + 1 := by simp
    have SF : ∀ W, Below wd.heap.size wd W → W.cell? ⟨w.heap.size, 0, none⟩ = some (.slice (some ⟨b, off, none⟩) x.length c) ∧ W.cell? ⟨w10.heap.size, 0, none⟩ = some (.slice (some ⟨g10, 0, none⟩) x.length cap10) ∧ W.cell? ⟨b, off + I * 2 + 1, none⟩ = some (.slice A2' t.2.length c2) := fun W hW =>
      ⟨((bA11.to hdr).to hW).cell (j := 0) rfl, ((bW11.to hdr).to hW).cell (j := 0) rfl, (((hB11.trans (hdr.mono hB11.size)).trans (hW.mono (Nat.le_trans hB11.size hdr.size))).cell (p := ⟨b, off + I * 2 + 1, none⟩) hb).trans p2⟩
    have HSF := Lib.hid SF
    have hrFd : Rd wd A2' zs := RdIn.rd (RdIn.keeps (Keeps.below (hB11.trans (hdr.mono hB11.size))) hrdF)
    have hownd := own_below hown11 hdr
    have bAd := bA11.to hdr
    have bMd := bM11.to hdr
    have bWd := bW11.to hdr
    have hBd := hB11.trans (hdr.mono hB11.size)
    have hE9d := hC11.trans (hdr.mono hC11.size)
    have hs9 : ((w8.alloc (.cells #[.slice A8 (x.length + 1) c8] 24))).heap.size = w8.heap.size + 1 := by simp
    have hszd : w10.heap.size < wd.heap.size := bWd.lt
    have hszA : w.heap.size < w8.heap.size + 1 := by have := hB9.size; rw [hs9] at this; have := hD8.size; have := hB5.size; omega
    clear SF hown11 bA11 bM11 bW11 hB11 hC11
    refine fr_start (fun W => W.cell? ⟨w.heap.size, 0, none⟩ = some (.slice (some ⟨b, off, none⟩) x.length c) ∧ W.cell? ⟨w10.heap.size, 0, none⟩ = some (.slice (some ⟨g10, 0, none⟩) x.length cap10) ∧ W.cell? ⟨b, off + I * 2 + 1, none⟩ = some (.slice A2' t.2.length c2)) 17 (by kernel_rfl) rfl (fun _ _ _ _ _ h => h) (by rw [← hwd]; exact HSF.out _ (Below.refl _ _)) (fun hH => ?_)
    rw [← hwd] at hH ⊢
    clear hwd hdr
    refine fr_yes 0 (v := ?_) rfl (by kernel_rfl) rfl ?_ hH ?_; rotate_left; (focus ((rintro W ⟨hW1, hW2, hW3⟩; go_simp) <;> with_reducible rfl)); simp only [Act.put, List.setIfInBounds_toArray, List.set_cons_zero, List.set_cons_succ]
    refine fr_yes 1 (v := ?_) rfl (by kernel_rfl) rfl ?_ hH ?_; rotate_left; (focus ((rintro W ⟨hW1, hW2, hW3⟩; go_simp) <;> with_reducible rfl)); simp only [Act.put, List.setIfInBounds_toArray, List.set_cons_zero, List.set_cons_succ]
    refine fr_yes 2 (v := ?_) rfl (by kernel_rfl) rfl ?_ hH ?_; rotate_left; (focus ((rintro W ⟨hW1, hW2, hW3⟩; go_simp) <;> with_reducible rfl)); simp only [Act.put, List.setIfInBounds_toArray, List.set_cons_zero, List.set_cons_succ]
    refine fr_yes 3 (v := ?_) rfl (by kernel_rfl) rfl ?_ hH ?_; rotate_left; (focus ((rintro W ⟨hW1, hW2, hW3⟩; go_simp) <;> with_reducible rfl)); simp only [Act.put, List.setIfInBounds_toArray, List.set_cons_zero, List.set_cons_succ]
    refine fr_yes 4 (v := ?_) rfl (by kernel_rfl) rfl ?_ hH ?_; rotate_left; (focus ((rintro W ⟨hW1, hW2, hW3⟩; go_simp) <;> with_reducible rfl)); simp only [Act.put, List.setIfInBounds_toArray, List.set_cons_zero, List.set_cons_succ]
    refine fr_yes 5 (v := ?_) rfl (by kernel_rfl) rfl ?_ hH ?_; rotate_left; (focus ((rintro W ⟨hW1, hW2, hW3⟩; go_simp) <;> with_reducible rfl)); simp only [Act.put, List.setIfInBounds_toArray, List.set_cons_zero, List.set_cons_succ]
    refine fr_yes 6 (v := ?_) rfl (by kernel_rfl) rfl ?_ hH ?_; rotate_left; (focus ((rintro W ⟨hW1, hW2, hW3⟩; go_simp) <;> with_reducible rfl)); simp only [Act.put, List.setIfInBounds_toArray, List.set_cons_zero, List.set_cons_succ]
    refine fr_yes 7 (v := ?_) rfl (by kernel_rfl) rfl ?_ hH ?_; rotate_left; (focus ((rintro W ⟨hW1, hW2, hW3⟩; go_simp) <;> with_reducible rfl)); simp only [Act.put, List.setIfInBounds_toArray, List.set_cons_zero, List.set_cons_succ]
    refine fr_yes 8 (v := ?_) rfl (by kernel_rfl) rfl ?_ hH ?_; rotate_left; (focus ((rintro W ⟨hW1, hW2, hW3⟩; go_simp) <;> with_reducible rfl)); simp only [Act.put, List.setIfInBounds_toArray, List.set_cons_zero, List.set_cons_succ]
    refine fr_yes 10 (v := ?_) rfl (by kernel_rfl) rfl ?_ hH ?_; rotate_left; (focus ((rintro W ⟨hW1, hW2, hW3⟩; go_simp) <;> with_reducible rfl)); simp only [Act.put, List.setIfInBounds_toArray, List.set_cons_zero, List.set_cons_succ]
    refine fr_yes 11 (v := ?_) rfl (by kernel_rfl) rfl ?_ hH ?_; rotate_left; (focus ((rintro W ⟨hW1, hW2, hW3⟩; go_simp) <;> with_reducible rfl)); simp only [Act.put, List.setIfInBounds_toArray, List.set_cons_zero, List.set_cons_succ]
    refine fr_op [9, 12] (by kernel_rfl) (by simp) ?_
    intro jj hjj
    simp only [List.mem_cons, List.not_mem_nil, or_false] at hjj
    rcases hjj with rfl | rfl
    · refine ⟨_, rfl, rfl, fun K hK => ?_⟩
      refine wp_apps (.const (.slice none 0 0)) (.tmp 74) 32 rfl wd.heap.size 40 j0 (.agg #[.string ⟨#[]⟩, .int .i64 0, .string ⟨#[]⟩]) 3 40 Tryd.underlying32 hj hy0 hy1 hy2 rfl (by omega) (.slice none 0 0) 0 [] rfl (World.ownsRow_nil _ _ _ _) A2' t.2.length c2 zs rfl hzl hrFd hzone.out (by simp only [maxLen]; omega) (by omega) (Nat.le_refl _) ?_
      intro v75 wa hown75 hg75 hv75
      simp only [Nat.zero_add, List.nil_append] at hown75
      have hE1 : Below wd.heap.size wd wa := (Below.refl _ wd).grown hg75 (Nat.le_refl _) (fun k hk => by simp [Value.ownBlock] at hk)
      refine hK.out _ _ (HSF.out _ hE1) ?_
      clear hK hH hg75 hv75
      refine fr_op [12] (by kernel_rfl) (by simp) ?_
      intro jj hjj
      simp only [List.mem_cons, List.not_mem_nil, or_false] at hjj
      subst hjj
      refine ⟨_, rfl, rfl, fun K hK => ?_⟩
      go_wp2
      have hA : Below wa.heap.size wa (wa.alloc (.cells #[.string ⟨#[122, 122, 122, 122, 57, 57, 57, 57]⟩, .int .i64 4, .string ⟨#[]⟩] 40)) := (Below.refl _ wa).alloc (Nat.le_refl _) _
      have hEL := hE1.trans (hA.mono hE1.size)
      refine hK.out _ _ (HSF.out _ hEL) ?_
      clear hK
      have hownL := own_below hown75 hA
      have hbxL := (Blk.new wa 40 [.string ⟨#[122, 122, 122, 122, 57, 57, 57, 57]⟩, .int .i64 4, .string ⟨#[]⟩]).rd
      generalize wa.alloc (.cells #[.string ⟨#[122, 122, 122, 122, 57, 57, 57, 57]⟩, .int .i64 4, .string ⟨#[]⟩] 40) = wcur at *
      refine fr_op [13] (by kernel_rfl) (by simp) ?_
      intro jj hjj
      simp only [List.mem_cons, List.not_mem_nil, or_false] at hjj
      subst hjj
      refine ⟨_, rfl, rfl, fun K hK => ?_⟩
      refine wp_apps (.tmp 75) (.tmp 78) 32 rfl wd.heap.size 40 j0 (.agg #[.string ⟨#[]⟩, .int .i64 0, .string ⟨#[]⟩]) 3 40 Tryd.underlying32 hj hy0 hy1 hy2 rfl (by omega) v75 t.2.length zs rfl hownL (some ⟨wa.heap.size, 0, none⟩) 1 1 [.string ⟨#[122, 122, 122, 122, 57, 57, 57, 57]⟩, .int .i64 4, .string ⟨#[]⟩] rfl rfl hbxL (by simp [Value.oneCell']) (by simp only [maxLen]; omega) (by omega) hEL.size ?_
      intro v79 we hown79 hg79 hv79
      have hEe : Below wd.heap.size wd we := hEL.grown hg79 hEL.size (fun k hk => (hownL.lt k hk).1)
      obtain ⟨A79, c79, hv79e, hn79, hm79, -⟩ := own_in hown79
      subst hv79e
      have hH := HSF.out _ hEe
      refine hK.out _ _ hH ?_
      clear hK hg79 hv79 hownL hbxL
      refine fr_yes 14 (v := ?_) rfl (by kernel_rfl) rfl ?_ hH ?_; rotate_left; (focus ((rintro W ⟨hW1, hW2, hW3⟩; go_simp) <;> with_reducible rfl)); simp only [Act.put, List.setIfInBounds_toArray, List.set_cons_zero, List.set_cons_succ]
      refine fr_yes 15 (v := ?_) rfl (by kernel_rfl) rfl ?_ hH ?_; rotate_left; (focus ((rintro W ⟨hW1, hW2, hW3⟩; go_simp) <;> with_reducible rfl)); simp only [Act.put, List.setIfInBounds_toArray, List.set_cons_zero, List.set_cons_succ]
      have hownW := own_below hownd hEe
      have hin : I * 2 + 1 < xs.length := by omega
      have hcg : we.cell? ⟨g10, I * 2 + 1, none⟩ = some xs[I * 2 + 1] := by
        have := hownW.cells (g := g10) rfl (I * 2 + 1) _ (List.getElem?_eq_getElem hin)
        rw [addr_add, Nat.zero_add] at this
        exact this
      have hfg : we.frozen? ⟨g10, I * 2 + 1, none⟩ = false := own_frozen hownW hnpos _
      have hwide := Lib.hid (row_wide hownW Hch.out (hBd.trans (hEe.mono hBd.size)) (by omega) Hxi.out Hxs0.out e1 hss hown79 (gs := t.2 ++ [(fresh, 4, [])]) (by simp) (HchF.out.append (Chunks.one (size := 3) rfl (rFld_mk (f := (fresh, 4, [])) (s := ⟨#[122, 122, 122, 122, 57, 57, 57, 57]⟩) (t := ⟨#[]⟩) rfl rfl (by decide) (by decide) (by decide)))) (by omega))
      refine fr_op [16] (by kernel_rfl) (by simp) ?_
      intro jj hjj
      simp only [List.mem_cons, List.not_mem_nil, or_false] at hjj
      subst hjj
      refine ⟨_, rfl, rfl, fun K hK => ?_⟩
      go_wp2
      have hoth : ∀ bb, bb ≠ g10 → ∀ o, (we.setCell ⟨g10, I * 2 + 1, none⟩ (.slice A79 (t.2.length + 1) c79)).cell? ⟨bb, o, none⟩ = we.cell? ⟨bb, o, none⟩ := fun bb hbb o => World.cell?_of_block (w := we) (a := ⟨bb, o, none⟩) (heap_setCell_other we ⟨g10, I * 2 + 1, none⟩ bb _ hbb)
      have hbw : b < w.heap.size := hb
      refine hK.out _ _ ⟨(hoth _ (by omega) _).trans hH.1, (hoth _ (by omega) _).trans hH.2.1, (hoth _ (by omega) _).trans hH.2.2⟩ ?_
      clear hK
      refine fr_done (by kernel_rfl) ?_
      have hBe := hBd.trans (hEe.mono hBd.size)
      go_wp2
      go_meet
      case rel =>
        refine ⟨rfl, hBe.setCell (p := ⟨g10, I * 2 + 1, none⟩) (by show w.heap.size ≤ g10; omega) _, (bAd.to hEe).other ⟨g10, I * 2 + 1, none⟩ _ (by show w.heap.size ≠ g10; omega), (bMd.to hEe).other ⟨g10, I * 2 + 1, none⟩ _ (by show w8.heap.size ≠ g10; omega), (bWd.to hEe).other ⟨g10, I * 2 + 1, none⟩ _ (by show w10.heap.size ≠ g10; omega), ?_, hwide.out⟩
        refine rSch_stays.to (fun bb hbb => ?_) Hmore9.out
        have hbb' : bb < w8.heap.size + 1 := by rw [← hs9]; exact hbb
        have hE9e := hE9d.trans (hEe.mono hE9d.size)
        refine ⟨?_, ?_⟩
        · have := hE9e.size
          show bb < _
          simp
          omega
        · rw [heap_setCell_other we ⟨g10, I * 2 + 1, none⟩ bb _ (by show bb ≠ g10; omega)]
          exact hE9e.block bb (by rw [hs9]; exact hbb')

    · refine ⟨_, rfl, rfl, fun K hK => ?_⟩
      go_wp2
      have hA : Below wd.heap.size wd (wd.alloc (.cells #[.string ⟨#[122, 122, 122, 122, 57, 57, 57, 57]⟩, .int .i64 4, .string ⟨#[]⟩] 40)) := (Below.refl _ wd).alloc (Nat.le_refl _) _
      refine hK.out _ _ (HSF.out _ hA) ?_
      clear hK hH
      have hbx0 := (Blk.new wd 40 [.string ⟨#[122, 122, 122, 122, 57, 57, 57, 57]⟩, .int .i64 4, .string ⟨#[]⟩]).rd
      have hrF2 := hrFd.below hA
      generalize wd.alloc (.cells #[.string ⟨#[122, 122, 122, 122, 57, 57, 57, 57]⟩, .int .i64 4, .string ⟨#[]⟩] 40) = wa at *
      refine fr_op [9] (by kernel_rfl) (by simp) ?_
      intro jj hjj
      simp only [List.mem_cons, List.not_mem_nil, or_false] at hjj
      subst hjj
      refine ⟨_, rfl, rfl, fun K hK => ?_⟩
      refine wp_apps (.const (.slice none 0 0)) (.tmp 74) 32 rfl wd.heap.size 40 j0 (.agg #[.string ⟨#[]⟩, .int .i64 0, .string ⟨#[]⟩]) 3 40 Tryd.underlying32 hj hy0 hy1 hy2 rfl (by omega) (.slice none 0 0) 0 [] rfl (World.ownsRow_nil _ _ _ _) A2' t.2.length c2 zs rfl hzl hrF2 hzone.out (by simp only [maxLen]; omega) (by omega) hA.size ?_
      intro v75 wcur hownL hg75 hv75
      simp only [Nat.zero_add, List.nil_append] at hownL
      have hE1 : Below wa.heap.size wa wcur := (Below.refl _ wa).grown hg75 (Nat.le_refl _) (fun k hk => by simp [Value.ownBlock] at hk)
      have hEL := hA.trans (hE1.mono hA.size)
      have hbxL := hbx0.below hE1
      refine hK.out _ _ (HSF.out _ hEL) ?_
      clear hK hg75 hv75 hbx0
      refine fr_op [13] (by kernel_rfl) (by simp) ?_
      intro jj hjj
      simp only [List.mem_cons, List.not_mem_nil, or_false] at hjj
      subst hjj
      refine ⟨_, rfl, rfl, fun K hK => ?_⟩
      refine wp_apps (.tmp 75) (.tmp 78) 32 rfl wd.heap.size 40 j0 (.agg #[.string ⟨#[]⟩, .int .i64 0, .string ⟨#[]⟩]) 3 40 Tryd.underlying32 hj hy0 hy1 hy2 rfl (by omega) v75 t.2.length zs rfl hownL (some ⟨wd.heap.size, 0, none⟩) 1 1 [.string ⟨#[122, 122, 122, 122, 57, 57, 57, 57]⟩, .int .i64 4, .string ⟨#[]⟩] rfl rfl hbxL (by simp [Value.oneCell']) (by simp only [maxLen]; omega) (by omega) hEL.size ?_
      intro v79 we hown79 hg79 hv79
      have hEe : Below wd.heap.size wd we := hEL.grown hg79 hEL.size (fun k hk => (hownL.lt k hk).1)
      obtain ⟨A79, c79, hv79e, hn79, hm79, -⟩ := own_in hown79
      subst hv79e
      have hH := HSF.out _ hEe
      refine hK.out _ _ hH ?_
      clear hK hg79 hv79 hownL hbxL
      refine fr_yes 14 (v := ?_) rfl (by kernel_rfl) rfl ?_ hH ?_; rotate_left; (focus ((rintro W ⟨hW1, hW2, hW3⟩; go_simp) <;> with_reducible rfl)); simp only [Act.put, List.setIfInBounds_toArray, List.set_cons_zero, List.set_cons_succ]
      refine fr_yes 15 (v := ?_) rfl (by kernel_rfl) rfl ?_ hH ?_; rotate_left; (focus ((rintro W ⟨hW1, hW2, hW3⟩; go_simp) <;> with_reducible rfl)); simp only [Act.put, List.setIfInBounds_toArray, List.set_cons_zero, List.set_cons_succ]
      have hownW := own_below hownd hEe
      have hin : I * 2 + 1 < xs.length := by omega
      have hcg : we.cell? ⟨g10, I * 2 + 1, none⟩ = some xs[I * 2 + 1] := by
        have := hownW.cells (g := g10) rfl (I * 2 + 1) _ (List.getElem?_eq_getElem hin)
        rw [addr_add, Nat.zero_add] at this
        exact this
      have hfg : we.frozen? ⟨g10, I * 2 + 1, none⟩ = false := own_frozen hownW hnpos _
      have hwide := Lib.hid (row_wide hownW Hch.out (hBd.trans (hEe.mono hBd.size)) (by omega) Hxi.out Hxs0.out e1 hss hown79 (gs := t.2 ++ [(fresh, 4, [])]) (by simp) (HchF.out.append (Chunks.one (size := 3) rfl (rFld_mk (f := (fresh, 4, [])) (s := ⟨#[122, 122, 122, 122, 57, 57, 57, 57]⟩) (t := ⟨#[]⟩) rfl rfl (by decide) (by decide) (by decide)))) (by omega))
      refine fr_op [16] (by kernel_rfl) (by simp) ?_
      intro jj hjj
      simp only [List.mem_cons, List.not_mem_nil, or_false] at hjj
      subst hjj
      refine ⟨_, rfl, rfl, fun K hK => ?_⟩
      go_wp2
      have hoth : ∀ bb, bb ≠ g10 → ∀ o, (we.setCell ⟨g10, I * 2 + 1, none⟩ (.slice A79 (t.2.length + 1) c79)).cell? ⟨bb, o, none⟩ = we.cell? ⟨bb, o, none⟩ := fun bb hbb o => World.cell?_of_block (w := we) (a := ⟨bb, o, none⟩) (heap_setCell_other we ⟨g10, I * 2 + 1, none⟩ bb _ hbb)
      have hbw : b < w.heap.size := hb
      refine hK.out _ _ ⟨(hoth _ (by omega) _).trans hH.1, (hoth _ (by omega) _).trans hH.2.1, (hoth _ (by omega) _).trans hH.2.2⟩ ?_
      clear hK
      refine fr_done (by kernel_rfl) ?_
      have hBe := hBd.trans (hEe.mono hBd.size)
      go_wp2
      go_meet
      case rel =>
        refine ⟨rfl, hBe.setCell (p := ⟨g10, I * 2 + 1, none⟩) (by show w.heap.size ≤ g10; omega) _, (bAd.to hEe).other ⟨g10, I * 2 + 1, none⟩ _ (by show w.heap.size ≠ g10; omega), (bMd.to hEe).other ⟨g10, I * 2 + 1, none⟩ _ (by show w8.heap.size ≠ g10; omega), (bWd.to hEe).other ⟨g10, I * 2 + 1, none⟩ _ (by show w10.heap.size ≠ g10; omega), ?_, hwide.out⟩
        refine rSch_stays.to (fun bb hbb => ?_) Hmore9.out
        have hbb' : bb < w8.heap.size + 1 := by rw [← hs9]; exact hbb
        have hE9e := hE9d.trans (hEe.mono hE9d.size)
        refine ⟨?_, ?_⟩
        · have := hE9e.size
          show bb < _
          simp
          omega
        · rw [heap_setCell_other we ⟨g10, I * 2 + 1, none⟩ bb _ (by show bb ≠ g10; omega)]
          exact hE9e.block bb (by rw [hs9]; exact hbb')

  case rest =>
    obtain ⟨rfl, hBc, bAc, bMc, bWc, hmorec, hwidec⟩ := hcut
    clear hB5 hD8 hB8 hB9 hC6 hA6 hA8 hC11 hB11 bA11 bM11 bW11 hown11 Hmore9 b5 c5 hr5 hg10b hg10l
    have cAc := bAc.cell (j := 0) rfl
    go_wp2
    go_cut [10] (fun v10 wx => ∃ (gL : Nat) (AL : Option Addr) (cL : Nat), v10 = .pointer (some ⟨gL, 0, none⟩) ∧ Blk wx gL 24 [.slice AL (I + (x.length - (I + 1))) cL] ∧ rSch (All wx) wx [.slice AL (I + (x.length - (I + 1))) cL] (lessS x I) ∧ Below w.heap.size w wx ∧ Blk wx w.heap.size 24 [.slice (some ⟨b, off, none⟩) x.length c] ∧ Blk wx w8.heap.size 24 [.slice A8 (x.length + 1) c8] ∧ Blk wx w10.heap.size 24 [.slice (some ⟨g10, 0, none⟩) x.length cap10] ∧ rSch (All wx) wx [.slice A8 (x.length + 1) c8] (x ++ [(fresh, [])]) ∧ rSch (All wx) wx [.slice (some ⟨g10, 0, none⟩) x.length cap10] (wideS x I t))
    case first =>
      obtain ⟨wd, hwd⟩ : ∃ wd, wd = wc.drew := ⟨_, rfl⟩
      have hdr : Below wc.heap.size wc wd := by rw [hwd]; exact (Below.refl _ wc).drew
      have bAd := bAc.to hdr
      have bMd := bMc.to hdr
      have bWd := bWc.to hdr
      have hBd := hBc.trans (hdr.mono hBc.size)
      have hmored := sch_below hdr hmorec
      have hwided := sch_below hdr hwidec
      have HSF := Lib.hid (fun W (hW : Below wd.heap.size wd W) => (bAd.to hW).cell (j := 0) rfl)
      have hrd0 : Rd wd (some ⟨b, off, none⟩) xs := RdIn.rd (RdIn.keeps (Keeps.below hBd) hrdA)
      have hrT : Rd wd (some ⟨b, off, none⟩) (xs.take (I * 2)) := hrd0.take _
      have hrU : Rd wd (cutT (some ⟨b, off, none⟩) c (I + 1)) (xs.drop ((I + 1) * 2)) := cutT_rd hxl (by omega) hlc hrd0
      have hcut1 := fun W => run_uptoT b off x.length c I (by omega) hlc W
      have hcut2 := fun W => run_fromT (some ⟨b, off, none⟩) x.length c I (by omega) W
      have hwr : IntKind.i64.wrap ((I : Int) + 1) = (I : Int) + 1 := IntWalk.i64_in _ (by omega)
      refine fr_start (fun W => W.cell? ⟨w.heap.size, 0, none⟩ = some (.slice (some ⟨b, off, none⟩) x.length c)) 14 (by kernel_rfl) rfl (fun _ _ _ _ _ h => h) (by rw [← hwd]; exact HSF.out _ (Below.refl _ _)) (fun hH => ?_)
      rw [← hwd] at hH ⊢
      clear hwd hdr
      refine fr_yes 0 (v := ?_) rfl (by kernel_rfl) rfl ?_ hH ?_; rotate_left; (focus ((intro W hW; have u1 := hcut1 W; have u2 := hcut2 W; go_simp) <;> with_reducible rfl)); simp only [Act.put, List.setIfInBounds_toArray, List.set_cons_zero, List.set_cons_succ]
      refine fr_yes 1 (v := ?_) rfl (by kernel_rfl) rfl ?_ hH ?_; rotate_left; (focus ((intro W hW; have u1 := hcut1 W; have u2 := hcut2 W; go_simp) <;> with_reducible rfl)); simp only [Act.put, List.setIfInBounds_toArray, List.set_cons_zero, List.set_cons_succ]
      refine fr_yes 2 (v := ?_) rfl (by kernel_rfl) rfl ?_ hH ?_; rotate_left; (focus ((intro W hW; have u1 := hcut1 W; have u2 := hcut2 W; go_simp) <;> with_reducible rfl)); simp only [Act.put, List.setIfInBounds_toArray, List.set_cons_zero, List.set_cons_succ]
      refine fr_yes 3 (v := ?_) rfl (by kernel_rfl) rfl ?_ hH ?_; rotate_left; (focus ((intro W hW; have u1 := hcut1 W; have u2 := hcut2 W; go_simp) <;> with_reducible rfl)); simp only [Act.put, List.setIfInBounds_toArray, List.set_cons_zero, List.set_cons_succ]
      refine fr_yes 5 (v := ?_) rfl (by kernel_rfl) rfl ?_ hH ?_; rotate_left; (focus ((intro W hW; have u1 := hcut1 W; have u2 := hcut2 W; go_simp) <;> with_reducible rfl)); simp only [Act.put, List.setIfInBounds_toArray, List.set_cons_zero, List.set_cons_succ]
      refine fr_yes 6 (v := ?_) rfl (by kernel_rfl) rfl ?_ hH ?_; rotate_left; (focus ((intro W hW; have u1 := hcut1 W; have u2 := hcut2 W; go_simp) <;> with_reducible rfl)); simp only [Act.put, List.setIfInBounds_toArray, List.set_cons_zero, List.set_cons_succ]
      refine fr_yes 7 (v := ?_) rfl (by kernel_rfl) rfl ?_ hH ?_; rotate_left; (focus ((intro W hW; have u1 := hcut1 W; have u2 := hcut2 W; go_simp) <;> with_reducible rfl)); simp only [Act.put, List.setIfInBounds_toArray, List.set_cons_zero, List.set_cons_succ]
      refine fr_yes 8 (v := ?_) rfl (by kernel_rfl) rfl ?_ hH ?_; rotate_left; (focus ((intro W hW; have u1 := hcut1 W; have u2 := hcut2 W; go_simp) <;> with_reducible rfl)); simp only [Act.put, List.setIfInBounds_toArray, List.set_cons_zero, List.set_cons_succ]
      refine fr_yes 9 (v := ?_) rfl (by kernel_rfl) rfl ?_ hH ?_; rotate_left; (focus ((intro W hW; have u1 := hcut1 W; have u2 := hcut2 W; go_simp) <;> with_reducible rfl)); simp only [Act.put, List.setIfInBounds_toArray, List.set_cons_zero, List.set_cons_succ]
      refine fr_op [4, 12] (by kernel_rfl) (by simp) ?_
      intro jj hjj
      simp only [List.mem_cons, List.not_mem_nil, or_false] at hjj
      rcases hjj with rfl | rfl
      · refine ⟨_, rfl, rfl, fun K hK => ?_⟩
        refine wp_apps (.const (.slice none 0 0)) (.tmp 85) 22 rfl wd.heap.size 34 i0 (.agg #[.string ⟨#[]⟩, .slice none 0 0]) 2 40 Tryd.underlying22 hi hz0 hz1 hz2 rfl (by omega) (.slice none 0 0) 0 [] rfl (World.ownsRow_nil _ _ _ _) (some ⟨b, off, none⟩) I c (xs.take (I * 2)) rfl (by rw [List.length_take]; omega) hrT (fun u hu => hone.out u (List.mem_of_mem_take hu)) (by simp only [maxLen]; omega) (by omega) (Nat.le_refl _) ?_
        intro v86 wa hown86 hg86 hv86
        simp only [Nat.zero_add, List.nil_append] at hown86
        have hE1 : Below wd.heap.size wd wa := (Below.refl _ wd).grown hg86 (Nat.le_refl _) (fun k hk => by simp [Value.ownBlock] at hk)
        have hH := HSF.out _ hE1
        refine hK.out _ _ hH ?_
        clear hK hg86 hv86
        refine fr_op [10, 12] (by kernel_rfl) (by simp) ?_
        intro jj hjj
        simp only [List.mem_cons, List.not_mem_nil, or_false] at hjj
        rcases hjj with rfl | rfl
        · refine ⟨_, rfl, rfl, fun K hK => ?_⟩
          refine wp_apps (.tmp 86) (.tmp 91) 22 rfl wd.heap.size 34 i0 (.agg #[.string ⟨#[]⟩, .slice none 0 0]) 2 40 Tryd.underlying22 hi hz0 hz1 hz2 rfl (by omega) v86 I (xs.take (I * 2)) rfl hown86 (cutT (some ⟨b, off, none⟩) c (I + 1)) (x.length - (I + 1)) (c - (I + 1)) (xs.drop ((I + 1) * 2)) rfl (by rw [List.length_drop]; omega) (hrU.below hE1) (fun u hu => hone.out u (List.mem_of_mem_drop hu)) (by simp only [maxLen]; omega) (by omega) hE1.size ?_
          intro v92 wb hown92 hg92 hv92
          obtain ⟨A92, c92, hv92e, hn92, hm92, -⟩ := own_in hown92
          subst hv92e
          have hE2 : Below wd.heap.size wd wb := hE1.grown hg92 hE1.size (fun k hk => (hown86.lt k hk).1)
          have hH := HSF.out _ hE2
          refine hK.out _ _ hH ?_
          clear hK hg92 hv92
          refine fr_yes 11 (v := ?_) rfl (by kernel_rfl) rfl ?_ hH ?_; rotate_left; (focus ((intro W hW; have u1 := hcut1 W; have u2 := hcut2 W; go_simp) <;> with_reducible rfl)); simp only [Act.put, List.setIfInBounds_toArray, List.set_cons_zero, List.set_cons_succ]
          refine fr_op [12] (by kernel_rfl) (by simp) ?_
          intro jj hjj
          simp only [List.mem_cons, List.not_mem_nil, or_false] at hjj
          subst hjj
          refine ⟨_, rfl, rfl, fun K hK => ?_⟩
          go_wp2
          have hA : Below wb.heap.size wb (wb.alloc (.cells #[.slice none 0 0] 24)) := (Below.refl _ wb).alloc (Nat.le_refl _) _
          have hEE := hE2.trans (hA.mono hE2.size)
          refine hK.out _ _ (HSF.out _ hEE) ?_
          clear hK
          have hownE := own_below hown92 hA
          have bBE := Blk.new wb 24 [.slice none 0 0]
          have hneB : (Value.slice A92 (I + (x.length - (I + 1))) c92).ownBlock ≠ some wb.heap.size := fun e => by have := (hown92.lt _ e).2; omega
          have hgB : wd.heap.size ≤ wb.heap.size := hE2.size
          generalize wb.alloc (.cells #[.slice none 0 0] 24) = wE at *
          generalize wb.heap.size = gB at *
          obtain ⟨hEf, hless⟩ := less_end (gB := gB) rfl hI hEE hgB hneB hownE hBd Hch.out
          have hBf := hBd.trans (hEf.mono hBd.size)
          have Hless := Lib.hid hless
          have bBf := bBE.set 0 (.slice A92 (I + (x.length - (I + 1))) c92)
          have xB := bBE.cell (j := 0) rfl
          have fB := bBE.frozen 0
          clear hless hneB hownE
          refine fr_op [13] (by kernel_rfl) (by simp) ?_
          intro jj hjj
          simp only [List.mem_cons, List.not_mem_nil, or_false] at hjj
          subst hjj
          refine ⟨_, rfl, rfl, fun K hK => ?_⟩
          go_wp2
          refine hK.out _ _ (HSF.out _ hEf) ?_
          clear hK
          refine fr_done (by kernel_rfl) ?_
          go_wp2
          go_meet
          case rel =>
            exact ⟨gB, A92, c92, rfl, bBf, Hless.out, hBf, bAd.to hEf, bMd.to hEf, bWd.to hEf, sch_below hEf hmored, sch_below hEf hwided⟩
        · refine ⟨_, rfl, rfl, fun K hK => ?_⟩
          go_wp2
          have hA : Below wa.heap.size wa (wa.alloc (.cells #[.slice none 0 0] 24)) := (Below.refl _ wa).alloc (Nat.le_refl _) _
          have hE2 := hE1.trans (hA.mono hE1.size)
          have hH2 := HSF.out _ hE2
          refine hK.out _ _ hH2 ?_
          clear hK hH
          have hownX := own_below hown86 hA
          have bB0 := Blk.new wa 24 [.slice none 0 0]
          have hne0 : v86.ownBlock ≠ some wa.heap.size := fun e => by have := (hown86.lt _ e).2; omega
          have hgB : wd.heap.size ≤ wa.heap.size := hE1.size
          have hltB : wa.heap.size < (wa.alloc (.cells #[.slice none 0 0] 24)).heap.size := bB0.lt
          generalize wa.alloc (.cells #[.slice none 0 0] 24) = wb at *
          generalize wa.heap.size = gB at *
          refine fr_op [10] (by kernel_rfl) (by simp) ?_
          intro jj hjj
          simp only [List.mem_cons, List.not_mem_nil, or_false] at hjj
          subst hjj
          refine ⟨_, rfl, rfl, fun K hK => ?_⟩
          refine wp_apps (.tmp 86) (.tmp 91) 22 rfl wd.heap.size 34 i0 (.agg #[.string ⟨#[]⟩, .slice none 0 0]) 2 40 Tryd.underlying22 hi hz0 hz1 hz2 rfl (by omega) v86 I (xs.take (I * 2)) rfl hownX (cutT (some ⟨b, off, none⟩) c (I + 1)) (x.length - (I + 1)) (c - (I + 1)) (xs.drop ((I + 1) * 2)) rfl (by rw [List.length_drop]; omega) (hrU.below hE2) (fun u hu => hone.out u (List.mem_of_mem_drop hu)) (by simp only [maxLen]; omega) (by omega) hE2.size ?_
          intro v92 wE hown92 hg92 hv92
          obtain ⟨A92, c92, hv92e, hn92, hm92, -⟩ := own_in hown92
          subst hv92e
          have hEE : Below wd.heap.size wd wE := hE2.grown hg92 hE2.size (fun k hk => (hownX.lt k hk).1)
          have hH := HSF.out _ hEE
          refine hK.out _ _ hH ?_
          have hownE := hown92
          have bBE : Blk wE gB 24 [.slice none 0 0] := (hg92.block gB bB0.lt (fun e => hne0 e.symm)).trans bB0
          have hneB : (Value.slice A92 (I + (x.length - (I + 1))) c92).ownBlock ≠ some gB := fun e => by
            rcases hv92 with h | h
            · rw [h] at e; exact hne0 e
            · rw [h] at e; injection e with e; omega
          clear hK hg92 hv92
          refine fr_yes 11 (v := ?_) rfl (by kernel_rfl) rfl ?_ hH ?_; rotate_left; (focus ((intro W hW; have u1 := hcut1 W; have u2 := hcut2 W; go_simp) <;> with_reducible rfl)); simp only [Act.put, List.setIfInBounds_toArray, List.set_cons_zero, List.set_cons_succ]
          obtain ⟨hEf, hless⟩ := less_end (gB := gB) rfl hI hEE hgB hneB hownE hBd Hch.out
          have hBf := hBd.trans (hEf.mono hBd.size)
          have Hless := Lib.hid hless
          have bBf := bBE.set 0 (.slice A92 (I + (x.length - (I + 1))) c92)
          have xB := bBE.cell (j := 0) rfl
          have fB := bBE.frozen 0
          clear hless hneB hownE
          refine fr_op [13] (by kernel_rfl) (by simp) ?_
          intro jj hjj
          simp only [List.mem_cons, List.not_mem_nil, or_false] at hjj
          subst hjj
          refine ⟨_, rfl, rfl, fun K hK => ?_⟩
          go_wp2
          refine hK.out _ _ (HSF.out _ hEf) ?_
          clear hK
          refine fr_done (by kernel_rfl) ?_
          go_wp2
          go_meet
          case rel =>
            exact ⟨gB, A92, c92, rfl, bBf, Hless.out, hBf, bAd.to hEf, bMd.to hEf, bWd.to hEf, sch_below hEf hmored, sch_below hEf hwided⟩
      · refine ⟨_, rfl, rfl, fun K hK => ?_⟩
        go_wp2
        have hA : Below wd.heap.size wd (wd.alloc (.cells #[.slice none 0 0] 24)) := (Below.refl _ wd).alloc (Nat.le_refl _) _
        refine hK.out _ _ (HSF.out _ hA) ?_
        clear hK hH
        have bB0 := Blk.new wd 24 [.slice none 0 0]
        have hszA : (wd.alloc (.cells #[.slice none 0 0] 24)).heap.size = wd.heap.size + 1 := by simp
        have hrT2 := hrT.below hA
        have hrU2 := hrU.below hA
        generalize wd.alloc (.cells #[.slice none 0 0] 24) = wa at *
        refine fr_op [4] (by kernel_rfl) (by simp) ?_
        intro jj hjj
        simp only [List.mem_cons, List.not_mem_nil, or_false] at hjj
        subst hjj
        refine ⟨_, rfl, rfl, fun K hK => ?_⟩
        refine wp_apps (.const (.slice none 0 0)) (.tmp 85) 22 rfl (wd.heap.size + 1) 34 i0 (.agg #[.string ⟨#[]⟩, .slice none 0 0]) 2 40 Tryd.underlying22 hi hz0 hz1 hz2 rfl (by omega) (.slice none 0 0) 0 [] rfl (World.ownsRow_nil _ _ _ _) (some ⟨b, off, none⟩) I c (xs.take (I * 2)) rfl (by rw [List.length_take]; omega) hrT2 (fun u hu => hone.out u (List.mem_of_mem_take hu)) (by simp only [maxLen]; omega) (by omega) (by omega) ?_
        intro v86 wb hown86 hg86 hv86
        simp only [Nat.zero_add, List.nil_append] at hown86
        have hE1 : Below wa.heap.size wa wb := (Below.refl _ wa).grown hg86 (Nat.le_refl _) (fun k hk => by simp [Value.ownBlock] at hk)
        have hE2 := hA.trans (hE1.mono hA.size)
        refine hK.out _ _ (HSF.out _ hE2) ?_
        have bB1 := bB0.to hE1
        have hszb := hE1.size
        clear hK hg86 hv86
        refine fr_op [10] (by kernel_rfl) (by simp) ?_
        intro jj hjj
        simp only [List.mem_cons, List.not_mem_nil, or_false] at hjj
        subst hjj
        refine ⟨_, rfl, rfl, fun K hK => ?_⟩
        refine wp_apps (.tmp 86) (.tmp 91) 22 rfl (wd.heap.size + 1) 34 i0 (.agg #[.string ⟨#[]⟩, .slice none 0 0]) 2 40 Tryd.underlying22 hi hz0 hz1 hz2 rfl (by omega) v86 I (xs.take (I * 2)) rfl hown86 (cutT (some ⟨b, off, none⟩) c (I + 1)) (x.length - (I + 1)) (c - (I + 1)) (xs.drop ((I + 1) * 2)) rfl (by rw [List.length_drop]; omega) (hrU2.below hE1) (fun u hu => hone.out u (List.mem_of_mem_drop hu)) (by simp only [maxLen]; omega) (by omega) (by omega) ?_
        intro v92 wE hown92 hg92 hv92
        obtain ⟨A92, c92, hv92e, hn92, hm92, -⟩ := own_in hown92
        subst hv92e
        have hEE : Below wd.heap.size wd wE := hE2.grown hg92 hE2.size (fun k hk => by have := (hown86.lt k hk).1; omega)
        have hH := HSF.out _ hEE
        refine hK.out _ _ hH ?_
        have hownE := hown92
        have bBE : Blk wE wd.heap.size 24 [.slice none 0 0] := Blk.grown bB1 hown86 hg92 (Nat.lt_succ_self _)
        have hneB : (Value.slice A92 (I + (x.length - (I + 1))) c92).ownBlock ≠ some wd.heap.size := fun e => by have := (hown92.lt _ e).1; omega
        clear hK hg92 hv92
        refine fr_yes 11 (v := ?_) rfl (by kernel_rfl) rfl ?_ hH ?_; rotate_left; (focus ((intro W hW; have u1 := hcut1 W; have u2 := hcut2 W; go_simp) <;> with_reducible rfl)); simp only [Act.put, List.setIfInBounds_toArray, List.set_cons_zero, List.set_cons_succ]
        obtain ⟨hEf, hless⟩ := less_end (gB := wd.heap.size) rfl hI hEE (Nat.le_refl _) hneB hownE hBd Hch.out
        have hBf := hBd.trans (hEf.mono hBd.size)
        have Hless := Lib.hid hless
        have bBf := bBE.set 0 (.slice A92 (I + (x.length - (I + 1))) c92)
        have xB := bBE.cell (j := 0) rfl
        have fB := bBE.frozen 0
        clear hless hneB hownE
        refine fr_op [13] (by kernel_rfl) (by simp) ?_
        intro jj hjj
        simp only [List.mem_cons, List.not_mem_nil, or_false] at hjj
        subst hjj
        refine ⟨_, rfl, rfl, fun K hK => ?_⟩
        go_wp2
        refine hK.out _ _ (HSF.out _ hEf) ?_
        clear hK
        refine fr_done (by kernel_rfl) ?_
        go_wp2
        go_meet
        case rel =>
          exact ⟨wd.heap.size, A92, c92, rfl, bBf, Hless.out, hBf, bAd.to hEf, bMd.to hEf, bWd.to hEf, sch_below hEf hmored, sch_below hEf hwided⟩
    case rest =>
      obtain ⟨gL, AL, cL, rfl, bL, hless, hBz, bA, bM, bW, hmore, hwide⟩ := hcut
      have hll : (lessS x I).length = I + (x.length - (I + 1)) := by rw [lessS, List.length_append, List.length_take, List.length_drop]; omega
      have hm1 := HA2.out hf0
      have hm2 := HB2.out hg0
      have hm3 := HC2.out
      generalize I + (x.length - (I + 1)) = nL at *
      have hnLs : nL ≤ 9223372036854775807 := by have := (sch_len hless).2; simp only [maxLen] at this; omega
      have hwl : (wideS x I t).length = x.length := by simp [wideS]
      have hbw : b < w.heap.size := hb
      have HS5 := Lib.hid (fun W (hW : Below wc.heap.size wc W) => And.intro ((bA.to hW).cell (j := 0) rfl) (And.intro ((bM.to hW).cell (j := 0) rfl) (And.intro ((bW.to hW).cell (j := 0) rfl) (And.intro ((bL.to hW).cell (j := 0) rfl) (((hBz.trans (hW.mono hBz.size)).cell (p := ⟨b, off + I * 2 + 1, none⟩) hbw).trans p2)))))
      have HN1 := Lib.hid (fun W (hW : Below wc.heap.size wc W) => ((hBz.trans (hW.mono hBz.size)).cell (p := ⟨b, off + I * 2, none⟩) hbw).trans p1)
      have MM := Lib.hid (fun W (hW : Below wc.heap.size wc W) => may_any A8 (x.length + 1) c8 (x ++ [(fresh, [])]) W (sch_below hW hmore))
      have MW := Lib.hid (fun W (hW : Below wc.heap.size wc W) => may_any (some ⟨g10, 0, none⟩) x.length cap10 (wideS x I t) W (sch_below hW hwide))
      have ML := Lib.hid (fun W (hW : Below wc.heap.size wc W) => may_any AL nL cL (lessS x I) W (sch_below hW hless))
      have HRL := Lib.hid (fun W (hW : Below wc.heap.size wc W) => sch_below hW hless)
      rw [hm1] at MM
      rw [hm2] at MW
      rw [hm3, hll] at ML
      have HBz := Lib.hid hBz
      clear hm1 hm2 hm3 hmore hwide hless bA bM bW bL hBz HA2 HB2 HC2 HchF hrdF hrdA hx hfs Hxs0
      generalize lessS x I = L at *
      go_wp2
      go_loopw [11, 12] (fun lv kv w' => ∃ (k : Nat) (ld : Bool), k ≤ nL ∧ kv = .int .i64 (k : Int) ∧ lv = .bool ld ∧ Hid (ld = leadsTo (L.take k) t.1) ∧ Below wc.heap.size wc w') (fun _ kv _ => nL - (intOf kv).toNat)
      case atStart => exact ⟨0, false, by omega, rfl, rfl, Lib.hid rfl, Below.refl _ _⟩
      case round =>
        rename World => wr
        obtain ⟨k, ld, hk, rfl, rfl, hld, hD⟩ := hrel
        obtain ⟨cA1, cM1, cW1, cL1, cF1⟩ := HS5.out _ hD
        by_cases hkl : k < nL
        · have hxk : L[k]? = some L[k] := List.getElem?_eq_getElem (by omega)
          obtain ⟨bl, ol, su, AU, cU, hAL, hbl, r1, r2, -, -, hfU⟩ := typ_at (HRL.out _ hD) hxk
          subst hAL
          have htk : leadsTo (L.take (k + 1)) t.1 = (leadsTo (L.take k) t.1 || L[k].2.any (leadF t.1)) := by
            rw [List.take_add_one, hxk, leadsTo, leadsTo, List.any_append]; simp
          have Htk := Lib.hid htk
          clear htk hxk
          have hk1 : (k : Int) < (nL : Int) := by omega
          have hk0 : (0 : Int) ≤ (k : Int) := by omega
          generalize L[k] = u at *
          have hul : u.2.length ≤ 9223372036854775807 := by have := (flds_len hfU).2; simp only [maxLen] at this; omega
          have Hs0 : Hid (ld = (leadsTo (L.take k) t.1 || (u.2.take 0).any (leadF t.1))) := Lib.hid (by rw [hld.out]; simp)
          clear hld
          go_wp2
          go_loopw [11, 13] (fun lv jv w' => ∃ (j : Nat) (le : Bool), j ≤ u.2.length ∧ jv = .int .i64 (j : Int) ∧ lv = .bool le ∧ Hid (le = (leadsTo (L.take k) t.1 || (u.2.take j).any (leadF t.1))) ∧ Below wr.heap.size wr w') (fun _ jv _ => u.2.length - (intOf jv).toNat)
          case atStart => exact ⟨0, ld, by omega, rfl, rfl, Hs0, Below.refl _ _⟩
          case round =>
            rename World => v0
            obtain ⟨j, le, hj', rfl, rfl, hle, hC⟩ := hrel
            have hDv := hD.trans (hC.mono hD.size)
            obtain ⟨cA2, cM2, cW2, cL2, cF2⟩ := HS5.out _ hDv
            have cN2 := HN1.out _ hDv
            have r1v := (hC.cell (p := ⟨bl, ol + k * 2, none⟩) hbl).trans r1
            have r2v := (hC.cell (p := ⟨bl, ol + k * 2 + 1, none⟩) hbl).trans r2
            by_cases hjl : j < u.2.length
            · have hfj : u.2[j]? = some u.2[j] := List.getElem?_eq_getElem hjl
              obtain ⟨bf, of, fx1, fy1, hAU, hbf, q1, q2, q3, -, hfy, -, -, -⟩ := fld_at (flds_below hC hfU) hfj
              subst hAU
              have htj : (u.2.take (j + 1)).any (leadF t.1) = ((u.2.take j).any (leadF t.1) || leadF t.1 u.2[j]) := by
                rw [List.take_add_one, hfj, List.any_append]; simp
              have Htj := Lib.hid htj
              clear htj hfj
              have hj1 : (j : Int) < (u.2.length : Int) := by omega
              have hj0 : (0 : Int) ≤ (j : Int) := by omega
              generalize u.2[j] = f at *
              have hlf : leadF t.1 f = (decide (f.2.1 = 5) && decide (f.2.2 = t.1)) := rfl
              have hsb := str_beq fy1 s
              rw [hfy, e1] at hsb
              have Hlf := Lib.hid hlf
              clear hlf hfy
              cases le
              · by_cases h5 : f.2.1 = 5
                · have h5' : (f.2.1 == 5) = true := by simpa using h5
                  by_cases hto : f.2.2 = t.1
                  · rw [decide_eq_true hto] at hsb
                    have Hn : Hid (true = (leadsTo (L.take k) t.1 || (u.2.take (j + 1)).any (leadF t.1))) := Lib.hid (by rw [Htj.out, Hlf.out, decide_eq_true h5, decide_eq_true hto]; simp)
                    clear hle Htj Hlf hto
                    go_wp2
                    go_quiet (fail)
                    go_wp2
                    go_roundw
                    case rel => exact ⟨j + 1, true, by omega, by go_num, rfl, Hn, below_drewN hC _⟩
                    case measure => simp [intOf]; omega
                  · rw [decide_eq_false hto] at hsb
                    have Hn : Hid (false = (leadsTo (L.take k) t.1 || (u.2.take (j + 1)).any (leadF t.1))) := Lib.hid (by rw [Htj.out, Hlf.out, decide_eq_false hto, Bool.and_false, Bool.or_false]; exact hle.out)
                    clear hle Htj Hlf hto
                    go_wp2
                    go_quiet (fail)
                    go_wp2
                    go_roundw
                    case rel => exact ⟨j + 1, false, by omega, by go_num, rfl, Hn, below_drewN hC _⟩
                    case measure => simp [intOf]; omega
                · have h5' : (f.2.1 == 5) = false := by simpa using h5
                  have Hn : Hid (false = (leadsTo (L.take k) t.1 || (u.2.take (j + 1)).any (leadF t.1))) := Lib.hid (by rw [Htj.out, Hlf.out, decide_eq_false h5, Bool.false_and, Bool.or_false]; exact hle.out)
                  clear hle Htj Hlf
                  go_wp2
                  go_quiet (fail)
                  go_wp2
                  go_roundw
                  case rel => exact ⟨j + 1, false, by omega, by go_num, rfl, Hn, below_drewN hC _⟩
                  case measure => simp [intOf]; omega
              · have Hn : Hid (true = (leadsTo (L.take k) t.1 || (u.2.take (j + 1)).any (leadF t.1))) := Lib.hid (by rw [Htj.out, ← Bool.or_assoc, ← hle.out]; rfl)
                clear hle Htj Hlf
                go_wp2
                go_quiet (fail)
                go_wp2
                go_roundw
                case rel => exact ⟨j + 1, true, by omega, by go_num, rfl, Hn, below_drewN hC _⟩
                case measure => simp [intOf]; omega
            · obtain rfl : j = u.2.length := by omega
              have Hn : Hid (le = leadsTo (L.take (k + 1)) t.1) := Lib.hid (by rw [hle.out, Htk.out, List.take_length])
              clear hle
              go_wp2
              go_roundw
              case rel => exact ⟨k + 1, le, by omega, by go_num, rfl, Hn, hDv⟩
              case measure => simp [intOf]; omega
        · obtain rfl : k = nL := by omega
          have hld' : ld = leadsTo L t.1 := by rw [hld.out, List.take_of_length_le (by omega)]
          rw [← hld'] at ML
          clear hld hld' hkl
          obtain ⟨b1, ha1, ha2⟩ : ∃ b1, decide ((x.length : Int) < 4) = b1 ∧ decide (x.length < 4) = b1 := ⟨_, by rw [Bool.eq_iff_iff]; simp; omega, rfl⟩
          obtain ⟨b2, hc1, hc2⟩ : ∃ b2, decide ((t.2.length : Int) < 5) = b2 ∧ decide (t.2.length < 5) = b2 := ⟨_, by rw [Bool.eq_iff_iff]; simp; omega, rfl⟩
          obtain ⟨b3, hd1, hd2⟩ : ∃ b3, decide ((0 : Int) < (k : Int)) = b3 ∧ decide (0 < k) = b3 := ⟨_, by rw [Bool.eq_iff_iff]; simp, rfl⟩
          rw [ha2] at MM
          rw [hc2] at MW
          rw [hd2] at ML
          have hF0 := hD.drew
          cases b3
          all_goals
            go_wp2
            refine sch_start [(0, true), (2, true), (3, true), (4, true), (5, true), (1, false), (6, true), (7, true), (8, true), (10, true), (11, true), (12, true), (13, true), (14, true), (15, true), (16, true), (17, true), (9, false), (18, true), (19, true), (20, true), (21, true), (23, true), (24, true), (25, true), (26, true), (22, false), (27, true), (28, true), (29, true), (30, true), (31, true), (32, true), (33, true)]
              (fun W => W.cell? ⟨w.heap.size, 0, none⟩ = some (.slice (some ⟨b, off, none⟩) x.length c) ∧ W.cell? ⟨w8.heap.size, 0, none⟩ = some (.slice A8 (x.length + 1) c8) ∧ W.cell? ⟨w10.heap.size, 0, none⟩ = some (.slice (some ⟨g10, 0, none⟩) x.length cap10) ∧ W.cell? ⟨gL, 0, none⟩ = some (.slice AL k cL) ∧ W.cell? ⟨b, off + I * 2 + 1, none⟩ = some (.slice A2' t.2.length c2)) (by kernel_rfl) rfl (by kernel_rfl) (fun _ _ _ _ _ h => h) (HS5.out _ hF0) (fun hH => ?_)
            repeat (first | (refine sch_yes (v := ?_) rfl rfl ?_ hH ?_; rotate_left; (focus ((rintro W ⟨hW1, hW2, hW3, hW4, hW5⟩; go_simp) <;> with_reducible rfl)); simp only [Act.put, List.setIfInBounds_toArray, List.set_cons_zero, List.set_cons_succ]) | (refine sch_no rfl rfl hH ?_; simp only [Act.put, List.setIfInBounds_toArray, List.set_cons_zero, List.set_cons_succ]))
            refine sch_call rfl rfl (fun K hK => ?_)
            go_wp2_with (go_at_call 17; refine (MM.out _ hF0).mono ?_; rintro e v1 ⟨rfl, hE1⟩)
            have hF1 := hF0.trans (hE1.mono hF0.size)
            refine hK.out _ _ (HS5.out _ hF1) ?_
            clear hK hH
            have hH := HS5.out _ hF1
            repeat (first | (refine sch_yes (v := ?_) rfl rfl ?_ hH ?_; rotate_left; (focus ((rintro W ⟨hW1, hW2, hW3, hW4, hW5⟩; go_simp) <;> with_reducible rfl)); simp only [Act.put, List.setIfInBounds_toArray, List.set_cons_zero, List.set_cons_succ]) | (refine sch_no rfl rfl hH ?_; simp only [Act.put, List.setIfInBounds_toArray, List.set_cons_zero, List.set_cons_succ]))
            refine sch_call rfl rfl (fun K hK => ?_)
            go_wp2_with (go_at_call 17; refine (MW.out _ hF1).mono ?_; rintro e v2 ⟨rfl, hE2⟩)
            have hF2 := hF1.trans (hE2.mono hF1.size)
            refine hK.out _ _ (HS5.out _ hF2) ?_
            clear hK hH
            have hH := HS5.out _ hF2
            repeat (first | (refine sch_yes (v := ?_) rfl rfl ?_ hH ?_; rotate_left; (focus ((rintro W ⟨hW1, hW2, hW3, hW4, hW5⟩; go_simp) <;> with_reducible rfl)); simp only [Act.put, List.setIfInBounds_toArray, List.set_cons_zero, List.set_cons_succ]) | (refine sch_no rfl rfl hH ?_; simp only [Act.put, List.setIfInBounds_toArray, List.set_cons_zero, List.set_cons_succ]))
            refine sch_call rfl rfl (fun K hK => ?_)
            go_wp2_with (go_at_call 17; refine (ML.out _ hF2).mono ?_; rintro e v3 ⟨rfl, hE3⟩)
            have hF3 := hF2.trans (hE3.mono hF2.size)
            refine hK.out _ _ (HS5.out _ hF3) ?_
            clear hK hH
            have hH := HS5.out _ hF3
            repeat (first | (refine sch_yes (v := ?_) rfl rfl ?_ hH ?_; rotate_left; (focus ((rintro W ⟨hW1, hW2, hW3, hW4, hW5⟩; go_simp) <;> with_reducible rfl)); simp only [Act.put, List.setIfInBounds_toArray, List.set_cons_zero, List.set_cons_succ]) | (refine sch_no rfl rfl hH ?_; simp only [Act.put, List.setIfInBounds_toArray, List.set_cons_zero, List.set_cons_succ]))
            refine sch_done ?_
            clear hH
            go_wp2
            go_ret
            exact ⟨by simp, HBz.out.trans (hF3.mono HBz.out.size)⟩
end Go.Proofs.YtomndfeifjiljaaDoor
