/- ValueBack's walk (written by wip/tools/gen_vlback.py). -/
import Derived.Test.YtpllbjkjlaacjaaVlArg
import Derived.Test.YtpllbjkjlaacjaaFork
import Derived.Test.YtpllbjkjlaacjaaSched
import Derived.Deep.DeepCutAuto
namespace Go.Proofs.Ytpllbjkjlaacjaa
open Go.RowKit

/-- What is read of b: nothing, or a value that fits, whose bytes b begins by. -/
theorem vl_back_case (k : Int) (bs : List Nat) (hb : ∀ x ∈ bs, x < 256) : ((gotB k bs = false ∧ gotM k bs = 0) ∨ (gotB k bs = true ∧ fitsV k (gotV k bs) = true ∧ gotM k bs ≤ bs.length ∧ putVF k (gotV k bs) = bs.take (gotM k bs))) ∧ OkV (gotV k bs) := by
  cases h : getV k bs with
  | none =>
    obtain ⟨h1, h2, h3⟩ := vl_got_none h
    exact ⟨.inl ⟨h3, h2⟩, by rw [h1]; exact ⟨by simp only; omega, fun x hx => by cases hx⟩⟩
  | some p =>
    obtain ⟨v, m⟩ := p
    obtain ⟨h1, h2, h3⟩ := vl_got_some h
    obtain ⟨g1, g2, g3, g4⟩ := vl_get_back hb h
    rw [h1, h2, h3]
    exact ⟨.inr ⟨rfl, g1, g2, by rw [putVF_yes g1, g3]⟩, g4⟩
theorem vl_put_got {k : Int} {v : Vl} (hv : OkV v) (hf : fitsV k v = true) (bs : List Nat) : gotV k (putVF k v ++ bs) = v ∧ gotM k (putVF k v ++ bs) = (putVF k v).length ∧ gotB k (putVF k v ++ bs) = true := by
  rw [putVF_yes hf]
  exact vl_got_some (vl_get_put hv hf bs)

set_option maxRecDepth 100000 in
set_option maxHeartbeats 8000000 in
theorem valueBack_walk (w : World) (fs : Array Value) (f : ByteArray × Int × ByteArray) (hf : rVlFld (All w) w fs.toList f) (cs : Array Value) (x : Int × ByteArray × Int) (h : rVl (All w) w cs.toList x) (A : Option Addr) (c : Nat) (bs : List Nat) (hl : bs.length ≤ c) (_hm : c ≤ maxLen) (hb : ∀ x ∈ bs, x < 256) (hr : Rd w A (u8s bs)) :
    Calls Try.prog 4 #[.agg fs, .agg cs, .slice A bs.length c] w fun e w' => e = .returned (.bool true) ∧ Below w.heap.size w w' := by
  obtain ⟨rfl, -, -, hk⟩ := vl_fld_arg hf
  obtain ⟨rfl, hs, h0, h1⟩ := vl_val_arg h
  obtain ⟨a, k, b⟩ := f
  obtain ⟨n, s, r⟩ := x
  simp only at hs h0 h1 hk ⊢
  clear h hf hk hs
  have HA := Lib.hid (VlArgs.start w a b s k n r)
  by_cases hin : bs.length ≤ 300 ∧ s.size ≤ 300
  · obtain ⟨i1, i2⟩ := hin
    have d1 : decide ((300 : Int) < (bs.length : Int)) = false := decide_eq_false (by omega)
    have d2 : decide ((300 : Int) < (s.size : Int)) = false := decide_eq_false (by omega)
    have hok := vl_ok (r := r) (s := s) h0 h1
    have hlen := putVF_len (k := k) hok
    have hby := putVF_byte (k := k) hok
    obtain ⟨i0, hi, hz0, hz1, hz2⟩ := info_parts info_u8
    have T1 := Lib.hid (fun W => vlput_sl a b s k n r W h0 h1)
    have T2 := Lib.hid (fun W A' c' (hc : (putVF k (n, byt s, r)).length + bs.length ≤ c') (hr : Rd W A' (u8s (putVF k (n, byt s, r) ++ bs))) => vlget_any a b k A' ((putVF k (n, byt s, r)).length + bs.length) c' (putVF k (n, byt s, r) ++ bs) W (List.length_append ..) hc (fun x hx => (List.mem_append.1 hx).elim (hby x) (hb x)) hr (by omega))
    have T3 := Lib.hid (fun W => vlfits_any a b s k n r W)
    have T4 := Lib.hid (fun W (h : Rd W A (u8s bs)) => vlget_any a b k A bs.length c bs W rfl hl hb h (by omega))
    obtain ⟨hyc, hyo⟩ := vl_back_case k bs hb
    have T5 : Hid (∀ (W : World) (t : ByteArray), byt t = (gotV k bs).2.1 → Calls Try.prog 11 #[.agg #[.string a, .int .i64 k, .string b], .agg #[.int .i64 (gotV k bs).1, .string t, .int .i64 (gotV k bs).2.2]] W fun e w' =>
        ∃ A c, e = .returned (.tuple #[.slice A (putVF k (gotV k bs)).length c, .bool (fitsV k (gotV k bs))]) ∧ (putVF k (gotV k bs)).length ≤ c ∧ Rd w' A (u8s (putVF k (gotV k bs))) ∧ Below W.heap.size W w') := Lib.hid (fun W t ht => by
      have := vlput_sl a b t k (gotV k bs).1 (gotV k bs).2.2 W hyo.1.1 hyo.1.2
      rw [ht] at this
      exact this)
    have T6 : Hid (∀ (W : World) (t : ByteArray), byt t = (gotV k bs).2.1 → Calls Try.prog 16 #[.agg #[.string a, .int .i64 k, .string b], .agg #[.int .i64 (gotV k bs).1, .string t, .int .i64 (gotV k bs).2.2]] W fun e w' =>
        e = .returned (.bool (fitsV k (gotV k bs))) ∧ Below W.heap.size W w') := Lib.hid (fun W t ht => by
      have := vlfits_any a b t k (gotV k bs).1 (gotV k bs).2.2 W
      rw [ht] at this
      exact this)
    have Hyes := Lib.hid (fun hf => vl_put_got (k := k) hok hf bs)
    have Hy := Lib.hid hyc
    clear hyc hyo hby hok
    generalize gotV k bs = y at *
    generalize gotM k bs = ym at *
    generalize gotB k bs = yb at *
    generalize putVF k y = Q at *
    generalize fitsV k y = FY at *
    generalize putVF k (n, byt s, r) = L at *
    generalize fitsV k (n, byt s, r) = F at *
    generalize gotV k (L ++ bs) = gv at *
    generalize gotM k (L ++ bs) = gm at *
    generalize gotB k (L ++ bs) = gb at *
    go_enter Try.func4, Try.ntmps4
    go_wp2_with fail
    refine (vlawake_any _).mono ?_
    rintro e w1 ⟨rfl, hC1⟩
    have A1 := HA.out.below hC1
    obtain ⟨⟨x0, x1, x2⟩, y0, y1, y2⟩ := A1.cells
    go_wp2_with fail
    refine (T1.out _).mono ?_
    rintro e w2 ⟨A2, c2, rfl, hc2, hr2, hC2⟩
    have A2' := A1.below hC2
    clear x0 x1 x2 y0 y1 y2 hC1 A1
    go_wp2_with fail
    go_cut [10, 11, 12] (fun v10 v11 v12 wx => ∃ (g : Nat) (tx : ByteArray), v10 = .pointer (some ⟨g, 0, none⟩) ∧ byt tx = gv.2.1 ∧ Blk wx g 25 [.int .i64 gv.1, .string tx, .int .i64 gv.2.2] ∧ v11 = .int .i64 (gm : Int) ∧ v12 = .bool gb ∧ VlArgs w wx a b s k n r)
    case first =>
      have HS := Lib.hid (fun (W : World) (hW : Below w2.heap.size w2 W) => (A2'.below hW).cells.1)
      have HR := Lib.hid (fun (W : World) (hW : Below w2.heap.size w2 W) => hr2.below hW)
      have HRb := Lib.hid (fun (W : World) (hW : Below w2.heap.size w2 W) => hr.below (A2'.below hW).bel)
      clear hr2 hC2
      refine fr_start (fun W => W.cell? ⟨w.heap.size, 0, none⟩ = some (.string a) ∧ W.cell? ⟨w.heap.size, 1, none⟩ = some (.int .i64 k) ∧ W.cell? ⟨w.heap.size, 2, none⟩ = some (.string b)) 14 (by kernel_rfl) rfl (fun _ _ _ _ _ h => h) (HS.out _ (Below.refl _ w2).drew) (fun hH => ?_)
      have hD := (Below.refl w2.heap.size w2).drew
      generalize w2.drew = wd at *
      (refine fr_yes 0 (v := ?_) rfl (by kernel_rfl) rfl ?_ hH ?_; rotate_left; (focus ((rintro W ⟨hW1, hW2, hW3⟩; go_simp) <;> with_reducible rfl)); simp only [Act.put, List.setIfInBounds_toArray, List.set_cons_zero, List.set_cons_succ]); (refine fr_yes 1 (v := ?_) rfl (by kernel_rfl) rfl ?_ hH ?_; rotate_left; (focus ((rintro W ⟨hW1, hW2, hW3⟩; go_simp) <;> with_reducible rfl)); simp only [Act.put, List.setIfInBounds_toArray, List.set_cons_zero, List.set_cons_succ]); (refine fr_yes 3 (v := ?_) rfl (by kernel_rfl) rfl ?_ hH ?_; rotate_left; (focus ((rintro W ⟨hW1, hW2, hW3⟩; go_simp) <;> with_reducible rfl)); simp only [Act.put, List.setIfInBounds_toArray, List.set_cons_zero, List.set_cons_succ])
      refine fr_op [2, 10] (by kernel_rfl) (by simp) ?_; intro jj hjj; simp only [List.mem_cons, List.not_mem_nil, or_false] at hjj; rcases hjj with rfl | rfl
      · refine ⟨_, rfl, rfl, fun K hK => ?_⟩
        refine wp_app (.const (.slice none 0 0)) (.tmp 41) 26 rfl wd.heap.size 5 i0 (.int .u8 0) 1 Try.underlying26 hi hz0 hz1 hz2 rfl (.slice none 0 0) 0 [] rfl (World.ownsRow_nil _ _ _ _) A2 L.length c2 (u8s L) rfl (u8s_length _) (HR.out _ hD) (u8s_one _) (by simp only [maxLen]; omega) (by omega) (Nat.le_refl _) ?_
        intro v42 wa hown hg42 _
        simp only [Nat.zero_add, List.nil_append] at hown
        have hG : Below wd.heap.size wd wa := (Below.refl _ wd).grown hg42 (Nat.le_refl _) (fun k hk => by simp [Value.ownBlock] at hk)
        have hDa := hD.trans (hG.mono hD.size)
        have hbase : w2.heap.size ≤ wd.heap.size := hD.size
        have hszB : wd.heap.size ≤ wa.heap.size := hG.size
        refine hK.out _ _ (HS.out _ hDa) ?_
        clear hK hH hg42 hG hD
        have hH := HS.out _ hDa
        refine fr_op [4, 10] (by kernel_rfl) (by simp) ?_; intro jj hjj; simp only [List.mem_cons, List.not_mem_nil, or_false] at hjj; rcases hjj with rfl | rfl
        · refine ⟨_, rfl, rfl, fun K hK => ?_⟩
          refine wp_app (.tmp 42) (.tmp 43) 26 rfl wd.heap.size 5 i0 (.int .u8 0) 1 Try.underlying26 hi hz0 hz1 hz2 rfl v42 L.length (u8s L) rfl hown A bs.length c (u8s bs) rfl (u8s_length _) (HRb.out _ hDa) (u8s_one _) (by simp only [maxLen]; omega) (by omega) (by first | exact hszB | exact Nat.le_trans hszB hszz) ?_
          intro v44 wb hown44 hg44 _
          have hDb := hDa.grown hg44 hDa.size (fun k hk => Nat.le_trans hbase (hown.lt k hk).1)
          obtain ⟨A44, c44, hv44, hc44, hr44, -⟩ := own_slice hown44
          subst hv44
          rw [← u8s_append] at hr44
          refine hK.out _ _ (HS.out _ hDb) ?_
          clear hK hH hg44 hown44 hown hDa 
          have hH := HS.out _ hDb
          refine fr_op [5, 10] (by kernel_rfl) (by simp) ?_; intro jj hjj; simp only [List.mem_cons, List.not_mem_nil, or_false] at hjj; rcases hjj with rfl | rfl
          · refine ⟨_, rfl, rfl, fun K hK => ?_⟩
            go_wp2_with (go_at_call 13; refine (T2.out wb A44 c44 hc44 hr44).mono ?_; rintro e wg ⟨tx, htx, rfl, hCg⟩)
            have hDg := hDb.trans (hCg.mono hDb.size)
            refine hK.out _ _ (HS.out _ hDg) ?_
            clear hK hH hCg hDb 
            have hH := HS.out _ hDg
            (refine fr_yes 6 (v := ?_) rfl (by kernel_rfl) rfl ?_ hH ?_; rotate_left; (focus ((rintro W ⟨hW1, hW2, hW3⟩; go_simp) <;> with_reducible rfl)); simp only [Act.put, List.setIfInBounds_toArray, List.set_cons_zero, List.set_cons_succ]); (refine fr_yes 7 (v := ?_) rfl (by kernel_rfl) rfl ?_ hH ?_; rotate_left; (focus ((rintro W ⟨hW1, hW2, hW3⟩; go_simp) <;> with_reducible rfl)); simp only [Act.put, List.setIfInBounds_toArray, List.set_cons_zero, List.set_cons_succ]); (refine fr_yes 8 (v := ?_) rfl (by kernel_rfl) rfl ?_ hH ?_; rotate_left; (focus ((rintro W ⟨hW1, hW2, hW3⟩; go_simp) <;> with_reducible rfl)); simp only [Act.put, List.setIfInBounds_toArray, List.set_cons_zero, List.set_cons_succ]); (refine fr_yes 9 (v := ?_) rfl (by kernel_rfl) rfl ?_ hH ?_; rotate_left; (focus ((rintro W ⟨hW1, hW2, hW3⟩; go_simp) <;> with_reducible rfl)); simp only [Act.put, List.setIfInBounds_toArray, List.set_cons_zero, List.set_cons_succ])
            refine fr_op [10] (by kernel_rfl) (by simp) ?_; intro jj hjj; simp only [List.mem_cons, List.not_mem_nil, or_false] at hjj; subst hjj; refine ⟨_, rfl, rfl, fun K hK => ?_⟩
            go_wp2
            have hDg0 := hDg
            have hDz := hDg.alloc hDg.size (.cells #[.int .i64 0, .string ⟨#[]⟩, .int .i64 0] 25)
            refine hK.out _ _ (HS.out _ hDz) ?_
            clear hK hH hDg
            refine fr_op [11] (by kernel_rfl) (by simp) ?_; intro jj hjj; simp only [List.mem_cons, List.not_mem_nil, or_false] at hjj; subst hjj; refine ⟨_, rfl, rfl, fun K hK => ?_⟩
            go_wp2
            have hDs := hDg0.alloc hDg0.size (.cells #[.int .i64 gv.1, .string tx, .int .i64 gv.2.2] 25)
            refine hK.out _ _ (HS.out _ hDs) ?_
            clear hK
            have hH := HS.out _ hDs
            (refine fr_yes 12 (v := ?_) rfl (by kernel_rfl) rfl ?_ hH ?_; rotate_left; (focus ((rintro W ⟨hW1, hW2, hW3⟩; go_simp) <;> with_reducible rfl)); simp only [Act.put, List.setIfInBounds_toArray, List.set_cons_zero, List.set_cons_succ]); (refine fr_yes 13 (v := ?_) rfl (by kernel_rfl) rfl ?_ hH ?_; rotate_left; (focus ((rintro W ⟨hW1, hW2, hW3⟩; go_simp) <;> with_reducible rfl)); simp only [Act.put, List.setIfInBounds_toArray, List.set_cons_zero, List.set_cons_succ])
            refine fr_done (by kernel_rfl) ?_
            clear hH
            go_wp2
            go_meet
            case rel => exact ⟨_, tx, rfl, htx, Blk.new _ _ _, rfl, rfl, A2'.below hDs⟩
          · refine ⟨_, rfl, rfl, fun K hK => ?_⟩
            go_wp2
            have hZ : Below wb.heap.size wb (wb.alloc (.cells #[.int .i64 0, .string ⟨#[]⟩, .int .i64 0] 25)) := (Below.refl _ wb).alloc (Nat.le_refl _) _
            have hDz := hDb.trans (hZ.mono hDb.size)
            have hszz := hZ.size
            have vz := Blk.new wb 25 [.int .i64 0, .string ⟨#[]⟩, .int .i64 0]
            have hgz : w2.heap.size ≤ wb.heap.size := hDb.size
            refine hK.out _ _ (HS.out _ hDz) ?_
            clear hK hH
            have hH := HS.out _ hDz
            have hr44z := hr44.below hZ
            generalize wb.alloc (.cells #[.int .i64 0, .string ⟨#[]⟩, .int .i64 0] 25) = wz at *
            clear hDb
            refine fr_op [5] (by kernel_rfl) (by simp) ?_; intro jj hjj; simp only [List.mem_cons, List.not_mem_nil, or_false] at hjj; subst hjj; refine ⟨_, rfl, rfl, fun K hK => ?_⟩
            go_wp2_with (go_at_call 13; refine (T2.out wz A44 c44 hc44 hr44z).mono ?_; rintro e wg ⟨tx, htx, rfl, hCg⟩)
            have hDg := hDz.trans (hCg.mono hDz.size)
            have vzg := vz.below vz.lt hCg
            refine hK.out _ _ (HS.out _ hDg) ?_
            clear hK hH hCg hDz vz
            have hH := HS.out _ hDg
            (refine fr_yes 6 (v := ?_) rfl (by kernel_rfl) rfl ?_ hH ?_; rotate_left; (focus ((rintro W ⟨hW1, hW2, hW3⟩; go_simp) <;> with_reducible rfl)); simp only [Act.put, List.setIfInBounds_toArray, List.set_cons_zero, List.set_cons_succ]); (refine fr_yes 7 (v := ?_) rfl (by kernel_rfl) rfl ?_ hH ?_; rotate_left; (focus ((rintro W ⟨hW1, hW2, hW3⟩; go_simp) <;> with_reducible rfl)); simp only [Act.put, List.setIfInBounds_toArray, List.set_cons_zero, List.set_cons_succ]); (refine fr_yes 8 (v := ?_) rfl (by kernel_rfl) rfl ?_ hH ?_; rotate_left; (focus ((rintro W ⟨hW1, hW2, hW3⟩; go_simp) <;> with_reducible rfl)); simp only [Act.put, List.setIfInBounds_toArray, List.set_cons_zero, List.set_cons_succ]); (refine fr_yes 9 (v := ?_) rfl (by kernel_rfl) rfl ?_ hH ?_; rotate_left; (focus ((rintro W ⟨hW1, hW2, hW3⟩; go_simp) <;> with_reducible rfl)); simp only [Act.put, List.setIfInBounds_toArray, List.set_cons_zero, List.set_cons_succ])
            have z0 := vzg.cell (j := 0) rfl
            have z1 := vzg.cell (j := 1) rfl
            have z2 := vzg.cell (j := 2) rfl
            have f0 := vzg.frozen 0
            have f1 := vzg.frozen 1
            have f2 := vzg.frozen 2
            refine fr_op [11] (by kernel_rfl) (by simp) ?_; intro jj hjj; simp only [List.mem_cons, List.not_mem_nil, or_false] at hjj; subst hjj; refine ⟨_, rfl, rfl, fun K hK => ?_⟩
            go_wp2
            have hDs := ((hDg.setCell (p := ⟨wb.heap.size, 0, none⟩) hgz (.int .i64 gv.1)).setCell (p := ⟨wb.heap.size, 1, none⟩) hgz (.string tx)).setCell (p := ⟨wb.heap.size, 2, none⟩) hgz (.int .i64 gv.2.2)
            refine hK.out _ _ (HS.out _ hDs) ?_
            clear hK hH
            have hH := HS.out _ hDs
            (refine fr_yes 12 (v := ?_) rfl (by kernel_rfl) rfl ?_ hH ?_; rotate_left; (focus ((rintro W ⟨hW1, hW2, hW3⟩; go_simp) <;> with_reducible rfl)); simp only [Act.put, List.setIfInBounds_toArray, List.set_cons_zero, List.set_cons_succ]); (refine fr_yes 13 (v := ?_) rfl (by kernel_rfl) rfl ?_ hH ?_; rotate_left; (focus ((rintro W ⟨hW1, hW2, hW3⟩; go_simp) <;> with_reducible rfl)); simp only [Act.put, List.setIfInBounds_toArray, List.set_cons_zero, List.set_cons_succ])
            refine fr_done (by kernel_rfl) ?_
            clear hH
            go_wp2
            go_meet
            case rel => exact ⟨_, tx, rfl, htx, ((vzg.set 0 _).set 1 _).set 2 _, rfl, rfl, A2'.below hDs⟩
        · refine ⟨_, rfl, rfl, fun K hK => ?_⟩
          go_wp2
          have hZ : Below wa.heap.size wa (wa.alloc (.cells #[.int .i64 0, .string ⟨#[]⟩, .int .i64 0] 25)) := (Below.refl _ wa).alloc (Nat.le_refl _) _
          have hDz := hDa.trans (hZ.mono hDa.size)
          have hszz := hZ.size
          have vz := Blk.new wa 25 [.int .i64 0, .string ⟨#[]⟩, .int .i64 0]
          have hgz : w2.heap.size ≤ wa.heap.size := hDa.size
          refine hK.out _ _ (HS.out _ hDz) ?_
          clear hK hH
          have hH := HS.out _ hDz
          have hownz := own_below hown hZ
          generalize wa.alloc (.cells #[.int .i64 0, .string ⟨#[]⟩, .int .i64 0] 25) = wz at *
          clear hDa
          have hltz := fun k hk => (hown.lt k hk).2
          clear hown
          refine fr_op [4] (by kernel_rfl) (by simp) ?_; intro jj hjj; simp only [List.mem_cons, List.not_mem_nil, or_false] at hjj; subst hjj; refine ⟨_, rfl, rfl, fun K hK => ?_⟩
          refine wp_app (.tmp 42) (.tmp 43) 26 rfl wd.heap.size 5 i0 (.int .u8 0) 1 Try.underlying26 hi hz0 hz1 hz2 rfl v42 L.length (u8s L) rfl hownz A bs.length c (u8s bs) rfl (u8s_length _) (HRb.out _ hDz) (u8s_one _) (by simp only [maxLen]; omega) (by omega) (by first | exact hszB | exact Nat.le_trans hszB hszz) ?_
          intro v44 wb hown44 hg44 _
          have hDb := hDz.grown hg44 hDz.size (fun k hk => Nat.le_trans hbase (hownz.lt k hk).1)
          have vzb : Blk wb wa.heap.size 25 [.int .i64 0, .string ⟨#[]⟩, .int .i64 0] := (hg44.block _ vz.lt (fun e => by have := hltz _ e.symm; omega)).trans vz
          obtain ⟨A44, c44, hv44, hc44, hr44, -⟩ := own_slice hown44
          subst hv44
          rw [← u8s_append] at hr44
          refine hK.out _ _ (HS.out _ hDb) ?_
          clear hK hH hg44 hown44 hownz hDz vz
          have hH := HS.out _ hDb
          refine fr_op [5] (by kernel_rfl) (by simp) ?_; intro jj hjj; simp only [List.mem_cons, List.not_mem_nil, or_false] at hjj; subst hjj; refine ⟨_, rfl, rfl, fun K hK => ?_⟩
          go_wp2_with (go_at_call 13; refine (T2.out wb A44 c44 hc44 hr44).mono ?_; rintro e wg ⟨tx, htx, rfl, hCg⟩)
          have hDg := hDb.trans (hCg.mono hDb.size)
          have vzg := vzb.below vzb.lt hCg
          refine hK.out _ _ (HS.out _ hDg) ?_
          clear hK hH hCg hDb vzb
          have hH := HS.out _ hDg
          (refine fr_yes 6 (v := ?_) rfl (by kernel_rfl) rfl ?_ hH ?_; rotate_left; (focus ((rintro W ⟨hW1, hW2, hW3⟩; go_simp) <;> with_reducible rfl)); simp only [Act.put, List.setIfInBounds_toArray, List.set_cons_zero, List.set_cons_succ]); (refine fr_yes 7 (v := ?_) rfl (by kernel_rfl) rfl ?_ hH ?_; rotate_left; (focus ((rintro W ⟨hW1, hW2, hW3⟩; go_simp) <;> with_reducible rfl)); simp only [Act.put, List.setIfInBounds_toArray, List.set_cons_zero, List.set_cons_succ]); (refine fr_yes 8 (v := ?_) rfl (by kernel_rfl) rfl ?_ hH ?_; rotate_left; (focus ((rintro W ⟨hW1, hW2, hW3⟩; go_simp) <;> with_reducible rfl)); simp only [Act.put, List.setIfInBounds_toArray, List.set_cons_zero, List.set_cons_succ]); (refine fr_yes 9 (v := ?_) rfl (by kernel_rfl) rfl ?_ hH ?_; rotate_left; (focus ((rintro W ⟨hW1, hW2, hW3⟩; go_simp) <;> with_reducible rfl)); simp only [Act.put, List.setIfInBounds_toArray, List.set_cons_zero, List.set_cons_succ])
          have z0 := vzg.cell (j := 0) rfl
          have z1 := vzg.cell (j := 1) rfl
          have z2 := vzg.cell (j := 2) rfl
          have f0 := vzg.frozen 0
          have f1 := vzg.frozen 1
          have f2 := vzg.frozen 2
          refine fr_op [11] (by kernel_rfl) (by simp) ?_; intro jj hjj; simp only [List.mem_cons, List.not_mem_nil, or_false] at hjj; subst hjj; refine ⟨_, rfl, rfl, fun K hK => ?_⟩
          go_wp2
          have hDs := ((hDg.setCell (p := ⟨wa.heap.size, 0, none⟩) hgz (.int .i64 gv.1)).setCell (p := ⟨wa.heap.size, 1, none⟩) hgz (.string tx)).setCell (p := ⟨wa.heap.size, 2, none⟩) hgz (.int .i64 gv.2.2)
          refine hK.out _ _ (HS.out _ hDs) ?_
          clear hK hH
          have hH := HS.out _ hDs
          (refine fr_yes 12 (v := ?_) rfl (by kernel_rfl) rfl ?_ hH ?_; rotate_left; (focus ((rintro W ⟨hW1, hW2, hW3⟩; go_simp) <;> with_reducible rfl)); simp only [Act.put, List.setIfInBounds_toArray, List.set_cons_zero, List.set_cons_succ]); (refine fr_yes 13 (v := ?_) rfl (by kernel_rfl) rfl ?_ hH ?_; rotate_left; (focus ((rintro W ⟨hW1, hW2, hW3⟩; go_simp) <;> with_reducible rfl)); simp only [Act.put, List.setIfInBounds_toArray, List.set_cons_zero, List.set_cons_succ])
          refine fr_done (by kernel_rfl) ?_
          clear hH
          go_wp2
          go_meet
          case rel => exact ⟨_, tx, rfl, htx, ((vzg.set 0 _).set 1 _).set 2 _, rfl, rfl, A2'.below hDs⟩
      · refine ⟨_, rfl, rfl, fun K hK => ?_⟩
        go_wp2
        have hZ : Below wd.heap.size wd (wd.alloc (.cells #[.int .i64 0, .string ⟨#[]⟩, .int .i64 0] 25)) := (Below.refl _ wd).alloc (Nat.le_refl _) _
        have hDz := hD.trans (hZ.mono hD.size)
        have hszz := hZ.size
        have vz := Blk.new wd 25 [.int .i64 0, .string ⟨#[]⟩, .int .i64 0]
        have hgz : w2.heap.size ≤ wd.heap.size := hD.size
        refine hK.out _ _ (HS.out _ hDz) ?_
        clear hK hH
        have hH := HS.out _ hDz
        generalize wd.alloc (.cells #[.int .i64 0, .string ⟨#[]⟩, .int .i64 0] 25) = wz at *
        clear hD
        refine fr_op [2] (by kernel_rfl) (by simp) ?_; intro jj hjj; simp only [List.mem_cons, List.not_mem_nil, or_false] at hjj; subst hjj; refine ⟨_, rfl, rfl, fun K hK => ?_⟩
        refine wp_app (.const (.slice none 0 0)) (.tmp 41) 26 rfl wz.heap.size 5 i0 (.int .u8 0) 1 Try.underlying26 hi hz0 hz1 hz2 rfl (.slice none 0 0) 0 [] rfl (World.ownsRow_nil _ _ _ _) A2 L.length c2 (u8s L) rfl (u8s_length _) (HR.out _ hDz) (u8s_one _) (by simp only [maxLen]; omega) (by omega) (Nat.le_refl _) ?_
        intro v42 wa hown hg42 _
        simp only [Nat.zero_add, List.nil_append] at hown
        have hG : Below wz.heap.size wz wa := (Below.refl _ wz).grown hg42 (Nat.le_refl _) (fun k hk => by simp [Value.ownBlock] at hk)
        have hDa := hDz.trans (hG.mono hDz.size)
        have hbase : w2.heap.size ≤ wz.heap.size := hDz.size
        have vza := vz.below vz.lt hG
        have hltb := vz.lt
        clear vz
        have hszB : wz.heap.size ≤ wa.heap.size := hG.size
        refine hK.out _ _ (HS.out _ hDa) ?_
        clear hK hH hg42 hG hDz
        have hH := HS.out _ hDa
        refine fr_op [4] (by kernel_rfl) (by simp) ?_; intro jj hjj; simp only [List.mem_cons, List.not_mem_nil, or_false] at hjj; subst hjj; refine ⟨_, rfl, rfl, fun K hK => ?_⟩
        refine wp_app (.tmp 42) (.tmp 43) 26 rfl wz.heap.size 5 i0 (.int .u8 0) 1 Try.underlying26 hi hz0 hz1 hz2 rfl v42 L.length (u8s L) rfl hown A bs.length c (u8s bs) rfl (u8s_length _) (HRb.out _ hDa) (u8s_one _) (by simp only [maxLen]; omega) (by omega) (by first | exact hszB | exact Nat.le_trans hszB hszz) ?_
        intro v44 wb hown44 hg44 _
        have hDb := hDa.grown hg44 hDa.size (fun k hk => Nat.le_trans hbase (hown.lt k hk).1)
        have vzb : Blk wb wd.heap.size 25 [.int .i64 0, .string ⟨#[]⟩, .int .i64 0] := (hg44.block _ vza.lt (fun e => by have := (hown.lt _ e.symm).1; omega)).trans vza
        obtain ⟨A44, c44, hv44, hc44, hr44, -⟩ := own_slice hown44
        subst hv44
        rw [← u8s_append] at hr44
        refine hK.out _ _ (HS.out _ hDb) ?_
        clear hK hH hg44 hown44 hown hDa vza
        have hH := HS.out _ hDb
        refine fr_op [5] (by kernel_rfl) (by simp) ?_; intro jj hjj; simp only [List.mem_cons, List.not_mem_nil, or_false] at hjj; subst hjj; refine ⟨_, rfl, rfl, fun K hK => ?_⟩
        go_wp2_with (go_at_call 13; refine (T2.out wb A44 c44 hc44 hr44).mono ?_; rintro e wg ⟨tx, htx, rfl, hCg⟩)
        have hDg := hDb.trans (hCg.mono hDb.size)
        have vzg := vzb.below vzb.lt hCg
        refine hK.out _ _ (HS.out _ hDg) ?_
        clear hK hH hCg hDb vzb
        have hH := HS.out _ hDg
        (refine fr_yes 6 (v := ?_) rfl (by kernel_rfl) rfl ?_ hH ?_; rotate_left; (focus ((rintro W ⟨hW1, hW2, hW3⟩; go_simp) <;> with_reducible rfl)); simp only [Act.put, List.setIfInBounds_toArray, List.set_cons_zero, List.set_cons_succ]); (refine fr_yes 7 (v := ?_) rfl (by kernel_rfl) rfl ?_ hH ?_; rotate_left; (focus ((rintro W ⟨hW1, hW2, hW3⟩; go_simp) <;> with_reducible rfl)); simp only [Act.put, List.setIfInBounds_toArray, List.set_cons_zero, List.set_cons_succ]); (refine fr_yes 8 (v := ?_) rfl (by kernel_rfl) rfl ?_ hH ?_; rotate_left; (focus ((rintro W ⟨hW1, hW2, hW3⟩; go_simp) <;> with_reducible rfl)); simp only [Act.put, List.setIfInBounds_toArray, List.set_cons_zero, List.set_cons_succ]); (refine fr_yes 9 (v := ?_) rfl (by kernel_rfl) rfl ?_ hH ?_; rotate_left; (focus ((rintro W ⟨hW1, hW2, hW3⟩; go_simp) <;> with_reducible rfl)); simp only [Act.put, List.setIfInBounds_toArray, List.set_cons_zero, List.set_cons_succ])
        have z0 := vzg.cell (j := 0) rfl
        have z1 := vzg.cell (j := 1) rfl
        have z2 := vzg.cell (j := 2) rfl
        have f0 := vzg.frozen 0
        have f1 := vzg.frozen 1
        have f2 := vzg.frozen 2
        refine fr_op [11] (by kernel_rfl) (by simp) ?_; intro jj hjj; simp only [List.mem_cons, List.not_mem_nil, or_false] at hjj; subst hjj; refine ⟨_, rfl, rfl, fun K hK => ?_⟩
        go_wp2
        have hDs := ((hDg.setCell (p := ⟨wd.heap.size, 0, none⟩) hgz (.int .i64 gv.1)).setCell (p := ⟨wd.heap.size, 1, none⟩) hgz (.string tx)).setCell (p := ⟨wd.heap.size, 2, none⟩) hgz (.int .i64 gv.2.2)
        refine hK.out _ _ (HS.out _ hDs) ?_
        clear hK hH
        have hH := HS.out _ hDs
        (refine fr_yes 12 (v := ?_) rfl (by kernel_rfl) rfl ?_ hH ?_; rotate_left; (focus ((rintro W ⟨hW1, hW2, hW3⟩; go_simp) <;> with_reducible rfl)); simp only [Act.put, List.setIfInBounds_toArray, List.set_cons_zero, List.set_cons_succ]); (refine fr_yes 13 (v := ?_) rfl (by kernel_rfl) rfl ?_ hH ?_; rotate_left; (focus ((rintro W ⟨hW1, hW2, hW3⟩; go_simp) <;> with_reducible rfl)); simp only [Act.put, List.setIfInBounds_toArray, List.set_cons_zero, List.set_cons_succ])
        refine fr_done (by kernel_rfl) ?_
        clear hH
        go_wp2
        go_meet
        case rel => exact ⟨_, tx, rfl, htx, ((vzg.set 0 _).set 1 _).set 2 _, rfl, rfl, A2'.below hDs⟩
    case rest =>
      obtain ⟨g, tx, rfl, htx, vx, rfl, rfl, Ac⟩ := hcut
      clear T1 T2 hr2 hC2 A2' hc2 HA
      cases F
      · clear Hyes
        obtain ⟨⟨x0, x1, x2⟩, y0, y1, y2⟩ := Ac.cells
        go_wp2_with fail
        refine (T3.out _).mono ?_
        rintro e w3 ⟨rfl, hC3⟩
        have A3 := Ac.below hC3
        have vx3 := vx.below vx.lt hC3
        clear x0 x1 x2 y0 y1 y2 Ac vx hC3
        obtain ⟨⟨x0, x1, x2⟩, y0, y1, y2⟩ := A3.cells
        have t0 := vx3.cell (j := 0) rfl
        have t1 := vx3.cell (j := 1) rfl
        have t2 := vx3.cell (j := 2) rfl
        go_wp2_with fail
        refine (T4.out _ (hr.below A3.bel)).mono ?_
        rintro e w4 ⟨ty, hty, rfl, hC4⟩
        have A4 := (A3.below hC4).alloc (.cells #[.int .i64 y.1, .string ty, .int .i64 y.2.2] 25)
        have vy := Blk.new w4 25 [.int .i64 y.1, .string ty, .int .i64 y.2.2]
        clear x0 x1 x2 y0 y1 y2 t0 t1 t2 vx3 A3 hC4
        obtain ⟨⟨x0, x1, x2⟩, y0, y1, y2⟩ := A4.cells
        have t0 := vy.cell (j := 0) rfl
        have t1 := vy.cell (j := 1) rfl
        have t2 := vy.cell (j := 2) rfl
        go_wp2_with fail
        refine (T5.out _ ty hty).mono ?_
        rintro e w6 ⟨A6, c6, rfl, hc6, hr6, hC6⟩
        have A6' := A4.below hC6
        have vy6 := vy.below vy.lt hC6
        clear x0 x1 x2 y0 y1 y2 t0 t1 t2 vy A4 hC6
        go_wp2_with fail
        rcases Hy.out with ⟨rfl, rfl⟩ | ⟨rfl, hfy, hle, hQ⟩
        · have HSF := Lib.hid (fun (W : World) (hW : Below w6.heap.size w6 W) => And.intro (A6'.below hW).cells.1 (And.intro ((vy6.below vy6.lt hW).cell (j := 0) rfl) (And.intro ((vy6.below vy6.lt hW).cell (j := 1) rfl) ((vy6.below vy6.lt hW).cell (j := 2) rfl))))
          have HB := Lib.hid A6'.bel
          clear A6' vy6
          refine sch_start [(0, true), (1, true), (2, true), (3, true), (4, true), (5, true), (6, true), (7, true), (8, true), (9, true), (10, true), (11, false), (12, true), (13, true), (14, true), (15, true), (16, true), (17, true), (18, true), (19, true), (20, true), (21, true), (22, true), (23, true), (24, true), (25, true), (26, true), (27, true), (28, true), (29, true), (30, true), (31, true), (32, true), (33, true)]
            (fun W => Below w6.heap.size w6 W) (by kernel_rfl) rfl (by kernel_rfl) (fun _ _ _ _ _ h => h) (Below.refl _ w6).drew (fun hH => ?_)
          repeat (first | (refine sch_yes (v := ?_) rfl rfl ?_ hH ?_; rotate_left; (focus ((intro W hW; obtain ⟨⟨u0, u1, u2⟩, z0, z1, z2⟩ := HSF.out W hW; go_simp) <;> with_reducible rfl)); simp only [Act.put, List.setIfInBounds_toArray, List.set_cons_zero, List.set_cons_succ]) | (refine sch_no rfl rfl hH ?_; simp only [Act.put, List.setIfInBounds_toArray, List.set_cons_zero, List.set_cons_succ]))
          refine sch_call_no rfl rfl hH ?_
          simp only [Act.put, List.setIfInBounds_toArray, List.set_cons_zero, List.set_cons_succ]
          repeat (first | (refine sch_yes (v := ?_) rfl rfl ?_ hH ?_; rotate_left; (focus ((intro W hW; obtain ⟨⟨u0, u1, u2⟩, z0, z1, z2⟩ := HSF.out W hW; go_simp) <;> with_reducible rfl)); simp only [Act.put, List.setIfInBounds_toArray, List.set_cons_zero, List.set_cons_succ]) | (refine sch_no rfl rfl hH ?_; simp only [Act.put, List.setIfInBounds_toArray, List.set_cons_zero, List.set_cons_succ]))
          refine sch_done ?_
          go_wp2
          go_ret
          exact ⟨rfl, HB.out.trans (hH.mono HB.out.size)⟩
        · have T6 := T6
          rw [hfy] at T6
          rw [hQ] at hr6
          have hlq : Q.length = ym := by rw [hQ, List.length_take]; omega
          have hcq : ∀ W, Below w6.heap.size w6 W → (convert 26 9 (.slice A6 Q.length c6)).run Try.prog W = .ok (.string (strB (bs.take ym))) W := fun W hW => vl_conv W A6 (bs.take ym) Q.length c6 (by rw [List.length_take]; omega) (hr6.below hW)
          have hcb : ∀ W, Below w6.heap.size w6 W → (convert 26 9 (.slice (slA A c 0) ym c)).run Try.prog W = .ok (.string (strB (bs.take ym))) W := fun W hW => vl_conv W (slA A c 0) (bs.take ym) ym c (by rw [List.length_take]; omega) (by
            rw [← u8s_take]
            have := Rd.cut (hr.below (A6'.below hW).bel) (c := c) (by rw [u8s_length]; exact hl) 0
            rw [List.drop_zero] at this
            exact this.take ym)
          have hsl : ∀ W : World, (Instr.slice 26 (.slice A bs.length c) none (some (.int .i64 (ym : Int))) none).run Try.prog W = .ok (.slice (slA A c 0) ym c) W := fun W => run_cut0 (P := Try.prog) Try.underlying26 hi A _ c ym (by omega) W
          generalize strB (bs.take ym) = st at *
          generalize slA A c 0 = A0 at *
          have HSF := Lib.hid (fun (W : World) (hW : Below w6.heap.size w6 W) => And.intro (A6'.below hW).cells.1 (And.intro ((vy6.below vy6.lt hW).cell (j := 0) rfl) (And.intro ((vy6.below vy6.lt hW).cell (j := 1) rfl) (And.intro ((vy6.below vy6.lt hW).cell (j := 2) rfl) (And.intro (hcq W hW) (hcb W hW))))))
          have HB := Lib.hid A6'.bel
          have e1 : (ym : Int) ≤ (bs.length : Int) := by omega
          have e2 : decide ((ym : Int) ≤ (bs.length : Int)) = true := decide_eq_true e1
          have e3 : decide ((0 : Int) ≤ (ym : Int)) = true := decide_eq_true (by omega)
          have e4 : (st.toList == st.toList) = true := by simp
          clear A6' vy6 hcq hcb hr6 hQ hfy hlq
          refine sch_start [(0, true), (1, true), (2, true), (3, true), (4, true), (5, true), (6, true), (7, true), (8, true), (9, true), (10, true), (11, false), (12, true), (13, true), (14, true), (15, true), (16, true), (17, true), (18, true), (19, true), (20, true), (21, true), (22, true), (23, true), (24, true), (25, true), (26, true), (27, true), (28, true), (29, true), (30, true), (31, true), (32, true), (33, true)]
            (fun W => Below w6.heap.size w6 W) (by kernel_rfl) rfl (by kernel_rfl) (fun _ _ _ _ _ h => h) (Below.refl _ w6).drew (fun hH => ?_)
          repeat (first | (refine sch_yes (v := ?_) rfl rfl ?_ hH ?_; rotate_left; (focus ((intro W hW; obtain ⟨⟨u0, u1, u2⟩, z0, z1, z2, cq, cb⟩ := HSF.out W hW; go_simp) <;> with_reducible rfl)); simp only [Act.put, List.setIfInBounds_toArray, List.set_cons_zero, List.set_cons_succ]) | (refine sch_no rfl rfl hH ?_; simp only [Act.put, List.setIfInBounds_toArray, List.set_cons_zero, List.set_cons_succ]))
          refine sch_call rfl rfl (fun K hK => ?_)
          go_wp2_with (go_at_call 16; refine (T6.out _ ty hty).mono ?_; rintro e w7 ⟨rfl, hC7⟩)
          have hD7 := hH.trans (hC7.mono hH.size)
          refine hK.out _ _ hD7 ?_
          clear hK hC7 hH
          have hH := hD7
          repeat (first | (refine sch_yes (v := ?_) rfl rfl ?_ hH ?_; rotate_left; (focus ((intro W hW; obtain ⟨⟨u0, u1, u2⟩, z0, z1, z2, cq, cb⟩ := HSF.out W hW; go_simp) <;> with_reducible rfl)); simp only [Act.put, List.setIfInBounds_toArray, List.set_cons_zero, List.set_cons_succ]) | (refine sch_no rfl rfl hH ?_; simp only [Act.put, List.setIfInBounds_toArray, List.set_cons_zero, List.set_cons_succ]))
          refine sch_done ?_
          go_wp2
          go_ret
          exact ⟨rfl, HB.out.trans (hH.mono HB.out.size)⟩
      · skip
        obtain ⟨⟨x0, x1, x2⟩, y0, y1, y2⟩ := Ac.cells
        obtain ⟨rfl, rfl, rfl⟩ := Hyes.out rfl
        have hq : ∀ W, (binOp .neq 25 (.agg #[.int .i64 n, .string tx, .int .i64 r]) (.agg #[.int .i64 n, .string s, .int .i64 r])).run Try.prog W = .ok (.bool false) W := fun W => by rw [vl_neq, vl_is, htx]; simp
        have hgd := sval_guard
        simp only at vx
        go_wp2_with fail
        refine (T3.out _).mono ?_
        rintro e w3 ⟨rfl, hC3⟩
        have A3 := Ac.below hC3
        have vx3 := vx.below vx.lt hC3
        clear x0 x1 x2 y0 y1 y2 Ac vx hC3
        obtain ⟨⟨x0, x1, x2⟩, y0, y1, y2⟩ := A3.cells
        have t0 := vx3.cell (j := 0) rfl
        have t1 := vx3.cell (j := 1) rfl
        have t2 := vx3.cell (j := 2) rfl
        have dm : ((L.length : Int) != (L.length : Int)) = false := by simp
        go_wp2_with fail
        refine (T4.out _ (hr.below A3.bel)).mono ?_
        rintro e w4 ⟨ty, hty, rfl, hC4⟩
        have A4 := (A3.below hC4).alloc (.cells #[.int .i64 y.1, .string ty, .int .i64 y.2.2] 25)
        have vy := Blk.new w4 25 [.int .i64 y.1, .string ty, .int .i64 y.2.2]
        clear x0 x1 x2 y0 y1 y2 t0 t1 t2 vx3 A3 hC4
        obtain ⟨⟨x0, x1, x2⟩, y0, y1, y2⟩ := A4.cells
        have t0 := vy.cell (j := 0) rfl
        have t1 := vy.cell (j := 1) rfl
        have t2 := vy.cell (j := 2) rfl
        go_wp2_with fail
        refine (T5.out _ ty hty).mono ?_
        rintro e w6 ⟨A6, c6, rfl, hc6, hr6, hC6⟩
        have A6' := A4.below hC6
        have vy6 := vy.below vy.lt hC6
        clear x0 x1 x2 y0 y1 y2 t0 t1 t2 vy A4 hC6
        go_wp2_with fail
        rcases Hy.out with ⟨rfl, rfl⟩ | ⟨rfl, hfy, hle, hQ⟩
        · have HSF := Lib.hid (fun (W : World) (hW : Below w6.heap.size w6 W) => And.intro (A6'.below hW).cells.1 (And.intro ((vy6.below vy6.lt hW).cell (j := 0) rfl) (And.intro ((vy6.below vy6.lt hW).cell (j := 1) rfl) ((vy6.below vy6.lt hW).cell (j := 2) rfl))))
          have HB := Lib.hid A6'.bel
          clear A6' vy6
          refine sch_start [(0, true), (1, true), (2, true), (3, true), (4, true), (5, true), (6, true), (7, true), (8, true), (9, true), (10, true), (11, false), (12, true), (13, true), (14, true), (15, true), (16, true), (17, true), (18, true), (19, true), (20, true), (21, true), (22, true), (23, true), (24, true), (25, true), (26, true), (27, true), (28, true), (29, true), (30, true), (31, true), (32, true), (33, true)]
            (fun W => Below w6.heap.size w6 W) (by kernel_rfl) rfl (by kernel_rfl) (fun _ _ _ _ _ h => h) (Below.refl _ w6).drew (fun hH => ?_)
          repeat (first | (refine sch_yes (v := ?_) rfl rfl ?_ hH ?_; rotate_left; (focus ((intro W hW; obtain ⟨⟨u0, u1, u2⟩, z0, z1, z2⟩ := HSF.out W hW; go_simp) <;> with_reducible rfl)); simp only [Act.put, List.setIfInBounds_toArray, List.set_cons_zero, List.set_cons_succ]) | (refine sch_no rfl rfl hH ?_; simp only [Act.put, List.setIfInBounds_toArray, List.set_cons_zero, List.set_cons_succ]))
          refine sch_call_no rfl rfl hH ?_
          simp only [Act.put, List.setIfInBounds_toArray, List.set_cons_zero, List.set_cons_succ]
          repeat (first | (refine sch_yes (v := ?_) rfl rfl ?_ hH ?_; rotate_left; (focus ((intro W hW; obtain ⟨⟨u0, u1, u2⟩, z0, z1, z2⟩ := HSF.out W hW; go_simp) <;> with_reducible rfl)); simp only [Act.put, List.setIfInBounds_toArray, List.set_cons_zero, List.set_cons_succ]) | (refine sch_no rfl rfl hH ?_; simp only [Act.put, List.setIfInBounds_toArray, List.set_cons_zero, List.set_cons_succ]))
          refine sch_done ?_
          go_wp2
          go_ret
          exact ⟨rfl, HB.out.trans (hH.mono HB.out.size)⟩
        · have T6 := T6
          rw [hfy] at T6
          rw [hQ] at hr6
          have hlq : Q.length = ym := by rw [hQ, List.length_take]; omega
          have hcq : ∀ W, Below w6.heap.size w6 W → (convert 26 9 (.slice A6 Q.length c6)).run Try.prog W = .ok (.string (strB (bs.take ym))) W := fun W hW => vl_conv W A6 (bs.take ym) Q.length c6 (by rw [List.length_take]; omega) (hr6.below hW)
          have hcb : ∀ W, Below w6.heap.size w6 W → (convert 26 9 (.slice (slA A c 0) ym c)).run Try.prog W = .ok (.string (strB (bs.take ym))) W := fun W hW => vl_conv W (slA A c 0) (bs.take ym) ym c (by rw [List.length_take]; omega) (by
            rw [← u8s_take]
            have := Rd.cut (hr.below (A6'.below hW).bel) (c := c) (by rw [u8s_length]; exact hl) 0
            rw [List.drop_zero] at this
            exact this.take ym)
          have hsl : ∀ W : World, (Instr.slice 26 (.slice A bs.length c) none (some (.int .i64 (ym : Int))) none).run Try.prog W = .ok (.slice (slA A c 0) ym c) W := fun W => run_cut0 (P := Try.prog) Try.underlying26 hi A _ c ym (by omega) W
          generalize strB (bs.take ym) = st at *
          generalize slA A c 0 = A0 at *
          have HSF := Lib.hid (fun (W : World) (hW : Below w6.heap.size w6 W) => And.intro (A6'.below hW).cells.1 (And.intro ((vy6.below vy6.lt hW).cell (j := 0) rfl) (And.intro ((vy6.below vy6.lt hW).cell (j := 1) rfl) (And.intro ((vy6.below vy6.lt hW).cell (j := 2) rfl) (And.intro (hcq W hW) (hcb W hW))))))
          have HB := Lib.hid A6'.bel
          have e1 : (ym : Int) ≤ (bs.length : Int) := by omega
          have e2 : decide ((ym : Int) ≤ (bs.length : Int)) = true := decide_eq_true e1
          have e3 : decide ((0 : Int) ≤ (ym : Int)) = true := decide_eq_true (by omega)
          have e4 : (st.toList == st.toList) = true := by simp
          clear A6' vy6 hcq hcb hr6 hQ hfy hlq
          refine sch_start [(0, true), (1, true), (2, true), (3, true), (4, true), (5, true), (6, true), (7, true), (8, true), (9, true), (10, true), (11, false), (12, true), (13, true), (14, true), (15, true), (16, true), (17, true), (18, true), (19, true), (20, true), (21, true), (22, true), (23, true), (24, true), (25, true), (26, true), (27, true), (28, true), (29, true), (30, true), (31, true), (32, true), (33, true)]
            (fun W => Below w6.heap.size w6 W) (by kernel_rfl) rfl (by kernel_rfl) (fun _ _ _ _ _ h => h) (Below.refl _ w6).drew (fun hH => ?_)
          repeat (first | (refine sch_yes (v := ?_) rfl rfl ?_ hH ?_; rotate_left; (focus ((intro W hW; obtain ⟨⟨u0, u1, u2⟩, z0, z1, z2, cq, cb⟩ := HSF.out W hW; go_simp) <;> with_reducible rfl)); simp only [Act.put, List.setIfInBounds_toArray, List.set_cons_zero, List.set_cons_succ]) | (refine sch_no rfl rfl hH ?_; simp only [Act.put, List.setIfInBounds_toArray, List.set_cons_zero, List.set_cons_succ]))
          refine sch_call rfl rfl (fun K hK => ?_)
          go_wp2_with (go_at_call 16; refine (T6.out _ ty hty).mono ?_; rintro e w7 ⟨rfl, hC7⟩)
          have hD7 := hH.trans (hC7.mono hH.size)
          refine hK.out _ _ hD7 ?_
          clear hK hC7 hH
          have hH := hD7
          repeat (first | (refine sch_yes (v := ?_) rfl rfl ?_ hH ?_; rotate_left; (focus ((intro W hW; obtain ⟨⟨u0, u1, u2⟩, z0, z1, z2, cq, cb⟩ := HSF.out W hW; go_simp) <;> with_reducible rfl)); simp only [Act.put, List.setIfInBounds_toArray, List.set_cons_zero, List.set_cons_succ]) | (refine sch_no rfl rfl hH ?_; simp only [Act.put, List.setIfInBounds_toArray, List.set_cons_zero, List.set_cons_succ]))
          refine sch_done ?_
          go_wp2
          go_ret
          exact ⟨rfl, HB.out.trans (hH.mono HB.out.size)⟩
  · by_cases i1 : bs.length ≤ 300
    · have d1 : decide ((300 : Int) < (bs.length : Int)) = false := decide_eq_false (by omega)
      have d2 : decide ((300 : Int) < (s.size : Int)) = true := decide_eq_true (by omega)
      go_enter Try.func4, Try.ntmps4
      go_wp2_with fail
      refine (vlawake_any _).mono ?_
      rintro e w1 ⟨rfl, hC1⟩
      have A1 := HA.out.below hC1
      obtain ⟨⟨x0, x1, x2⟩, y0, y1, y2⟩ := A1.cells
      go_wp2
      go_ret
      exact ⟨rfl, A1.bel⟩
    · have d1 : decide ((300 : Int) < (bs.length : Int)) = true := decide_eq_true (by omega)
      go_enter Try.func4, Try.ntmps4
      go_wp2_with fail
      refine (vlawake_any _).mono ?_
      rintro e w1 ⟨rfl, hC1⟩
      have A1 := HA.out.below hC1
      go_wp2
      go_ret
      exact ⟨rfl, A1.bel⟩
end Go.Proofs.Ytpllbjkjlaacjaa
