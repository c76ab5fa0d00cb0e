/- The contract of flow.Put: the bytes of a flow that may be, in memory of the call's own; else nothing, and ErrArg. No condition. -/
import Derived.Test.YthhkkiegfcofjaaDoorFlFrames
import Derived.Test.YthhkkiegfcofjaaDoorFrCutPlain
namespace Go.Proofs.YthhkkiegfcofjaaDoor
open Go.RowKit

def FPutSays (f : Flo) (w' : World) (B : Option Addr) (m cap E : Nat) : Prop :=
  (mayB f = true ∧ E = 0 ∧ m = (flowB f).length ∧ m ≤ cap ∧ cap ≤ maxLen ∧ Rd w' B (u8s (flowB f))) ∨ (mayB f = false ∧ E = 1 ∧ B = none ∧ m = 0 ∧ cap = 0)

set_option maxRecDepth 100000 in
set_option maxHeartbeats 1000000 in
theorem fput_any (A : Option Addr) (n c b : Nat) (ps : List (List Nat)) (w : World) (hb : b < 4294967296) (h : rPts (All w) w [.slice A n c] ps) (hpb : ∀ p ∈ ps, ∀ x ∈ p, x < 256) :
    Calls Tryd.prog 12 #[.agg #[.int .u32 (b : Int), .slice A n c]] w fun e w' => ∃ B m cap E, e = .returned (.tuple #[.slice B m cap, .int .i64 ((E : Nat) : Int)]) ∧ FPutSays ((b : Int), ps) w' B m cap E ∧ Below w.heap.size w w' := by
  obtain ⟨hn, hnc, hcm⟩ := pts_len h
  obtain ⟨j0, hj, hy0, hz1, hz2⟩ := info_parts info_u8
  have hB0 : Below w.heap.size w (w.alloc (.cells #[.int .u32 (b : Int), .slice A n c] 25)) := (Below.refl _ w).alloc (Nat.le_refl _) _
  have M1 := Lib.hid (may_any A n c ((b : Int), ps) _ (rPts_stays.to (Keeps.below hB0) h))
  have hbox := Blk.new w 25 [.int .u32 (b : Int), .slice A n c]
  cases hmay : mayB ((b : Int), ps) with
  | false =>
    rw [hmay] at M1
    go_enter Tryd.func12, Tryd.ntmps12
    go_wp2_with fail
    refine M1.out.mono ?_
    rintro e w1 ⟨rfl, hB1⟩
    go_wp2
    go_ret2
    exact ⟨none, 0, 0, 1, rfl, .inr ⟨hmay, rfl, rfl, rfl, rfl⟩, hB0.trans (hB1.mono hB0.size)⟩
  | true =>
    rw [hmay] at M1
    have hok : OkF ((b : Int), ps) := ⟨by simp, by simp only; omega, hmay, hpb⟩
    have hfew : n ≤ 40 := by rw [← hn]; exact hok.few
    have F1 := Lib.hid (fun W h' => frames_any A n c b ps W hb h' hfew hok.short)
    have hfit := framesF_fit hok
    have hfl := framesF_length ((b : Int), ps)
    have hflow : flowB ((b : Int), ps) = catL (framesF ((b : Int), ps)) := rfl
    have hlen := flowB_len hok
    simp only at hfl
    rw [hn] at hfl
    generalize framesF ((b : Int), ps) = fr at *
    have Hflow := Lib.hid hflow
    have Hfit := Lib.hid hfit
    clear hflow hfit hok
    go_enter Tryd.func12, Tryd.ntmps12
    go_wp2_with fail
    refine M1.out.mono ?_
    rintro e w1 ⟨rfl, hB1⟩
    have hbox1 := hbox.below hbox.lt hB1
    have hx0 := hbox1.cell (j := 0) rfl
    have hx1 := hbox1.cell (j := 1) rfl
    have hBw1 := hB0.trans (hB1.mono hB0.size)
    have F2 := Lib.hid (F1.out w1 (rPts_stays.to (Keeps.below hBw1) h))
    clear F1 M1
    go_wp2_with fail
    refine F2.out.mono ?_
    rintro e w2 ⟨B2, d2, rfl, hsl, hB2⟩
    have hBw2 := hBw1.trans (hB2.mono hBw1.size)
    clear F2 hbox1 hx0 hx1 hbox hB0 hB1 hB2 hBw1 h
    go_wp2_with fail
    go_loopw [4, 15] (fun v iv wr => ∃ i : Nat, i ≤ n + 2 ∧ iv = .int .i64 (i : Int) ∧ wr.ownsRow w2.heap.size 5 1 v (catL (fr.take i)).length (u8s (catL (fr.take i))) ∧ Below w2.heap.size w2 wr) (fun _ iv _ => n + 2 - (intOf iv).toNat)
    case atStart => exact ⟨0, by omega, rfl, World.ownsRow_nil _ _ _ _, Below.refl _ _⟩
    case round =>
      obtain ⟨i, hile, rfl, hown, hB⟩ := hrel
      by_cases hin : i < n + 2
      · obtain ⟨F, hli⟩ : ∃ F, fr[i]? = some F := ⟨fr[i], List.getElem?_eq_getElem (by omega)⟩
        obtain ⟨b1, off1, A1, c1, rfl, hb1, hx1, hy1, hby1, hwf1, hr1⟩ := fra_at hsl hli
        have hx1' := (hB.cell (p := ⟨b1, off1 + i * 2, none⟩) hb1).trans hx1
        have hy1' := (hB.cell (p := ⟨b1, off1 + i * 2 + 1, none⟩) hb1).trans hy1
        obtain ⟨hk0, hk1, hk2, _⟩ := Hfit.out F (List.mem_of_getElem? hli)
        have htk : catL (fr.take (i + 1)) = catL (fr.take i) ++ putL F.1.toNat F.2 := by
          rw [List.take_add_one, hli, catL_append]
          simp [catL]
        have hpl : (catL (fr.take i)).length ≤ 11130 := by
          have := catL_len (fr.take i) fun x hx => Hfit.out x (List.mem_of_mem_take hx)
          rw [List.length_take] at this
          omega
        obtain ⟨q, hq⟩ := Int.eq_ofNat_of_zero_le hk0
        rw [hq] at htk hk1 hx1'
        have hqn : ((q : Int)).toNat = q := rfl
        rw [hqn] at htk
        have P1 := Lib.hid (fun W (h' : Rd W A1 (u8s F.2)) => put_ok q A1 F.2.length c1 F.2 W (by omega) rfl (by omega) hby1 h')
        have Htk := Lib.hid htk
        have hr1' := Lib.hid (RdIn.rd hr1)
        clear htk hq hqn hli hx1 hy1 hr1 hwf1 hby1
        have hplen := putL_length q F.2
        generalize F.2 = body at *
        generalize putL q body = pb at *
        generalize catL (fr.take i) = pre at *
        have hil : (i : Int) < ((n + 2 : Nat) : Int) := by omega
        have hi0 : (0 : Int) ≤ (i : Int) := by omega
        have hBa : Below w2.heap.size w2 (wr.alloc (.cells #[.int .i64 (q : Int), .slice A1 body.length c1] 50)) := hB.alloc hB.size _
        have hBb : Below wr.heap.size wr (wr.alloc (.cells #[.int .i64 (q : Int), .slice A1 body.length c1] 50)) := (Below.refl _ wr).alloc (Nat.le_refl _) _
        have P2 := Lib.hid (P1.out _ (hr1'.out.below hBa))
        clear P1
        go_wp2_with fail
        refine P2.out.mono ?_
        rintro e w3 ⟨g3, cap3, rfl, hcap3, _, _, hr3, hB3⟩
        have hown3 := own_below hown (hBb.trans (hB3.mono hBb.size))
        have hB4 := hBa.trans (hB3.mono hBa.size)
        clear P2 hBa hBb hB3
        go_wp2_with (first
          | (at_builtin; refine wpList_app rfl (.tmp 24) (.tmp 25) 26 rfl w2.heap.size 5 j0 (.int .u8 0) 1 Tryd.underlying26 hj hy0 hz1 hz2 rfl _ pre.length (u8s pre) rfl hown3 (some ⟨g3, 0, none⟩) (body.length + 10) cap3 (u8s pb) rfl (by rw [u8s_length, hplen]) hr3 (u8s_one _) (by simp only [maxLen]; omega) (by omega) hB4.size ?_; intro v5 w5 hown5 hg5 _)
          | fail)
        go_roundw
        case rel =>
          refine ⟨i + 1, by omega, by go_num, ?_, hB4.grown hg5 hB4.size (fun k hk => (hown3.lt k hk).1)⟩
          rw [Htk.out, u8s_append, List.length_append, hplen]
          exact hown5
        case measure => simp [intOf]; omega
      · obtain rfl : i = n + 2 := by omega
        rw [List.take_of_length_le (by omega)] at hown
        rw [← Hflow.out] at hown
        go_wp2
        go_ret2
        obtain ⟨A5, c5, rfl, hc5, hm5, hr5⟩ := own_in hown
        exact ⟨A5, _, c5, 0, rfl, .inl ⟨hmay, rfl, rfl, hc5, hm5, hr5.keeps (Keeps.mono fun x hx => hx.2)⟩, hBw2.trans (hB.mono hBw2.size)⟩
end Go.Proofs.YthhkkiegfcofjaaDoor
