/- The contract of flow.Cuts: where each frame begins, and where the last one ends, if the bytes are a flow's. Condition: at most 1,000,000,000 bytes. -/
import Derived.Test.YthhkkiegfcofjaaDoorFlRead
namespace Go.Proofs.YthhkkiegfcofjaaDoor
open Go.RowKit

def i64s (l : List Nat) : List Value := l.map fun x : Nat => Value.int .i64 (x : Int)
@[simp] theorem i64s_length (l : List Nat) : (i64s l).length = l.length := by simp [i64s]
theorem i64s_append (a b : List Nat) : i64s (a ++ b) = i64s a ++ i64s b := by simp [i64s]
theorem i64s_get {l : List Nat} {k x : Nat} (h : l[k]? = some x) : (i64s l)[k]? = some (.int .i64 (x : Int)) := by simp [i64s, h]
theorem i64s_one (l : List Nat) : ∀ u ∈ i64s l, u.oneCell' = true := by
  intro u hu
  obtain ⟨x, _, rfl⟩ := List.mem_map.1 hu
  rfl
/-- Where the frame number i begins. -/
def cutAt (fr : List Fra) (i : Nat) : Nat := (catL (fr.take i)).length
def cutsL (fr : List Fra) : List Nat := (List.range (fr.length + 1)).map (cutAt fr)
theorem cutsL_length (fr : List Fra) : (cutsL fr).length = fr.length + 1 := by simp [cutsL]
theorem cutsL_get {fr : List Fra} {i : Nat} (h : i ≤ fr.length) : (cutsL fr)[i]? = some (cutAt fr i) := by simp [cutsL, List.getElem?_range (show i < fr.length + 1 by omega)]
theorem cutAt_succ {fr : List Fra} {i : Nat} {F : Fra} (h : fr[i]? = some F) : cutAt fr (i + 1) = cutAt fr i + (F.2.length + 10) := by
  rw [cutAt, cutAt, List.take_add_one, h, catL_append, List.length_append]
  simp [catL, putL_length]
theorem cutAt_le {fr : List Fra} (hf : ∀ x ∈ fr, Fit x) (i : Nat) : cutAt fr i ≤ 265 * fr.length := by
  have := catL_len (fr.take i) fun x hx => hf x (List.mem_of_mem_take hx)
  rw [List.length_take] at this
  rw [cutAt]
  have h2 : 265 * min i fr.length ≤ 265 * fr.length := Nat.mul_le_mul_left _ (Nat.min_le_right _ _)
  omega
theorem cutAt_all {fr : List Fra} : cutAt fr fr.length = (catL fr).length := by rw [cutAt, List.take_length]

def CutSays (bs : List Nat) (w' : World) (A : Option Addr) (m c : Nat) (ok : Bool) : Prop :=
  ((getFl bs).2 ≠ 0 ∧ ok = false ∧ A = none ∧ m = 0 ∧ c = 0) ∨ ((getFl bs).2 = 0 ∧ ok = true ∧ m = (getFl bs).1.2.length + 3 ∧ m ≤ c ∧ c ≤ maxLen ∧ Rd w' A (i64s (cutsL (framesF (getFl bs).1))))
theorem info_int : (Tryd.prog.info? 3).map (fun i => (i.zero, i.size, i.bytes)) = some (some (.int .i64 0), 1, 8) := by kernel_rfl

set_option maxRecDepth 100000 in
set_option maxHeartbeats 1000000 in
theorem fcuts_any (A : Option Addr) (c n : Nat) (bs : List Nat) (w : World) (hn : bs.length = n) (hc : n ≤ c) (hb : ∀ x ∈ bs, x < 256) (hr : Rd w A (u8s bs)) (hlen : n ≤ 1000000000) :
    Calls Tryd.prog 16 #[.slice A n c] w fun e w' => ∃ A' m c' ok, e = .returned (.tuple #[.slice A' m c', .bool ok]) ∧ CutSays bs w' A' m c' ok ∧ Below w.heap.size w w' := by
  obtain ⟨i0, hi, hz0, hz1, hz2⟩ := info_parts info_int
  obtain ⟨hz, hsz⟩ := zero_of_info info_flo
  have G1 := Lib.hid (read_any A c n bs _ hn hc hb hr hlen)
  have hback := fun h => getFl_back (bs := bs) hb h
  simp only [ReadSays] at G1
  simp only [CutSays]
  generalize getFl bs = gf at *
  obtain ⟨f, E⟩ := gf
  simp only at G1 hback ⊢
  have Hback := Lib.hid hback
  clear hback
  go_enter Tryd.func16, Tryd.ntmps16
  go_wp2_with fail
  refine G1.out.mono ?_
  rintro e w1 ⟨v1, rfl, hsays, hB1⟩
  clear G1 hr
  rcases hsays with ⟨hne, rfl⟩ | ⟨rfl, A2, c2, B2, d2, rfl, hpts, hfr⟩
  · go_wp2
    go_ret2
    exact ⟨none, 0, 0, false, rfl, .inl ⟨hne, rfl, rfl, rfl, rfl⟩, hB1.alloc hB1.size _⟩
  · obtain ⟨hok, _, _, _⟩ := Hback.out rfl
    have hfew := hok.few
    have hfit := framesF_fit hok
    have hfl := framesF_length f
    have hcl := cutAt_le hfit
    have hcu : cutsL (framesF f) = (List.range (f.2.length + 3)).map (cutAt (framesF f)) := by rw [cutsL, hfl]
    have Hfit := Lib.hid hfit
    have Hcu := Lib.hid hcu
    have Hcl := Lib.hid hcl
    clear hpts hok Hback hfit hcu hcl
    generalize hfr0 : framesF f = fr at *
    generalize hnp0 : f.2.length = np at *
    have Hfr0 := Lib.hid hfr0
    have Hnp0 := Lib.hid hnp0
    clear hfr0 hnp0
    have hB2 : Below w.heap.size w ((w1.alloc (.cells #[.int .u32 f.1, .slice A2 np c2] 25)).alloc (.cells #[.int .i64 0] 3)) := (hB1.alloc hB1.size _).alloc (by have := hB1.size; simp; omega) _
    have hBq : Below w1.heap.size w1 ((w1.alloc (.cells #[.int .u32 f.1, .slice A2 np c2] 25)).alloc (.cells #[.int .i64 0] 3)) := ((Below.refl _ w1).alloc (Nat.le_refl _) _).alloc (by simp) _
    have hown2 := World.ownsRow_lit (base := w1.heap.size) (e := 3) (size := 1) (w1.alloc (.cells #[.int .u32 f.1, .slice A2 np c2] 25)) #[.int .i64 0] 1 (by simp) (by simp [maxLen]) rfl
    rw [World.size_alloc] at hown2
    go_wp2_with fail
    go_loopw [7, 8, 23] (fun av v iv wr => ∃ i : Nat, i ≤ np + 2 ∧ iv = .int .i64 (i : Int) ∧ av = .int .i64 (cutAt fr i : Int) ∧ wr.ownsRow w1.heap.size 3 1 v (i + 1) (i64s ((List.range (i + 1)).map (cutAt fr))) ∧ Below w1.heap.size w1 wr) (fun _ _ iv _ => np + 2 - (intOf iv).toNat)
    case atStart => exact ⟨0, by omega, rfl, rfl, hown2, hBq⟩
    case round =>
      obtain ⟨i, hile, rfl, rfl, hown, hB⟩ := hrel
      clear hown2 hBq hB2
      by_cases hin : i < np + 2
      · obtain ⟨F, hli⟩ : ∃ F, fr[i]? = some F := ⟨fr[i], List.getElem?_eq_getElem (by omega)⟩
        obtain ⟨b1, off1, A1, c1, rfl, hb1, hx1, hy1, hby1, hwf1, hr1⟩ := fra_at hfr hli
        have hx1' := (hB.cell (p := ⟨b1, off1 + i * 2, none⟩) hb1).trans hx1
        have hy1' := (hB.cell (p := ⟨b1, off1 + i * 2 + 1, none⟩) hb1).trans hy1
        obtain ⟨_, _, hk2, _⟩ := Hfit.out F (List.mem_of_getElem? hli)
        have hcs := cutAt_succ hli
        have hct := Hcl.out (i + 1)
        have hrs : (List.range (i + 1 + 1)).map (cutAt fr) = (List.range (i + 1)).map (cutAt fr) ++ [cutAt fr (i + 1)] := by rw [List.range_succ, List.map_append]; rfl
        have Hrs := Lib.hid hrs
        have Hcs := Lib.hid hcs
        rw [hfl] at hct
        rw [hcs] at hct
        clear hrs hcs hli hx1 hy1 hr1 hby1 hwf1
        generalize (List.range (i + 1)).map (cutAt fr) = pre at *
        generalize cutAt fr i = at0 at *
        generalize F.2.length = fl at *
        have hil : (i : Int) < ((np + 2 : Nat) : Int) := by omega
        have hi0 : (0 : Int) ≤ (i : Int) := by omega
        have hs1 : IntKind.i64.wrap (6 + (fl : Int)) = 6 + (fl : Int) := IntWalk.i64_in _ (by omega)
        have hBa : Below wr.heap.size wr ((wr.alloc (.cells #[.int .i64 F.1, .slice A1 fl c1] 50)).alloc (.cells #[.int .i64 ((at0 : Int) + (6 + (fl : Int) + 4))] 3)) := ((Below.refl _ wr).alloc (Nat.le_refl _) _).alloc (by simp) _
        have hrd := (Blk.new (wr.alloc (.cells #[.int .i64 F.1, .slice A1 fl c1] 50)) 3 [.int .i64 ((at0 : Int) + (6 + (fl : Int) + 4))]).rd
        rw [World.size_alloc] at hrd
        have hown3 := own_below hown hBa
        have hB3 := hB.trans (hBa.mono hB.size)
        clear hBa
        go_wp2_with (first
          | (at_builtin; refine wpList_app rfl (.tmp 34) (.tmp 36) 34 rfl w1.heap.size 3 i0 (.int .i64 0) 8 Tryd.underlying34 hi hz0 hz1 hz2 rfl _ (i + 1) (i64s pre) rfl hown3 (some ⟨wr.heap.size + 1, 0, none⟩) 1 1 [.int .i64 ((at0 : Int) + (6 + (fl : Int) + 4))] rfl rfl hrd (by simp [Value.oneCell']) (by simp only [maxLen]; omega) (by omega) hB3.size ?_; intro v5 w5 hown5 hg5 _)
          | fail)
        go_roundw
        case rel =>
          refine ⟨i + 1, by omega, by go_num, ?_, ?_, hB3.grown hg5 hB3.size (fun k hk => (hown3.lt k hk).1)⟩
          · rw [Hcs.out]; congr 1; omega
          · rw [Hrs.out, i64s_append, Hcs.out]
            have e : i64s [at0 + (fl + 10)] = [.int .i64 ((at0 : Int) + (6 + (fl : Int) + 4))] := by
              simp only [i64s, List.map_cons, List.map_nil]; congr 2; omega
            rw [e]
            exact hown5
        case measure => simp [intOf]; omega
      · obtain rfl : i = np + 2 := by omega
        rw [← Hcu.out] at hown
        go_wp2
        go_ret2
        obtain ⟨A5, c5, rfl, hc5, hm5, hr5⟩ := own_in hown
        have e1 := Hfr0.out
        have e2 := Hnp0.out
        subst e1 e2
        exact ⟨A5, _, c5, rfl, ⟨rfl, hc5, hm5, hr5.keeps (Keeps.mono fun x hx => hx.2)⟩, hB1.trans (hB.mono hB1.size)⟩
end Go.Proofs.YthhkkiegfcofjaaDoor
