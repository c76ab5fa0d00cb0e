/- FrameList's walk. -/
import Derived.Test.YtikpgacapaebkaaFrCutPlain
import Derived.Test.YtikpgacapaebkaaFrLists
namespace Go.Proofs.Ytikpgacapaebkaa
open Go.RowKit

/-- Frames' bytes, one behind the other. -/
def catL : List Fra → List Nat
  | [] => []
  | f :: l => putL f.1.toNat f.2 ++ catL l
def Fit (f : Fra) : Prop := 0 ≤ f.1 ∧ f.1 ≤ 255 ∧ f.2.length ≤ 255 ∧ ∀ x ∈ f.2, x < 256
theorem catL_append : ∀ (a b : List Fra), catL (a ++ b) = catL a ++ catL b
  | [], _ => rfl
  | f :: a, b => by simp only [List.cons_append, catL]; rw [catL_append a b, List.append_assoc]
theorem catL_len : ∀ (l : List Fra), (∀ f ∈ l, Fit f) → (catL l).length ≤ 265 * l.length
  | [], _ => by simp [catL]
  | f :: l, h => by
    have h1 := (h f (by simp)).2.2.1
    have h2 := catL_len l fun g hg => h g (by simp [hg])
    simp only [catL, List.length_append, putL_length, List.length_cons]
    omega
theorem catL_byte : ∀ (l : List Fra), (∀ f ∈ l, Fit f) → ∀ x ∈ catL l, x < 256
  | [], _ => by simp [catL]
  | f :: l, h => by
    have h1 := h f (by simp)
    have h2 := catL_byte l fun g hg => h g (by simp [hg])
    intro x hx
    rcases List.mem_append.1 hx with h' | h'
    · exact putL_byte (by have := h1.1; have := h1.2.1; omega) (by have := h1.2.2.1; omega) h1.2.2.2 x h'
    · exact h2 x h'
theorem allL_cat : ∀ (l : List Fra), (∀ f ∈ l, Fit f) → allL (catL l) = (0, l)
  | [], _ => rfl
  | f :: l, h => by
    have h1 := h f (by simp)
    simp only [catL]
    rw [allL_put, allL_cat l fun g hg => h g (by simp [hg])]
    have : ((f.1.toNat : Nat) : Int) = f.1 := Int.toNat_of_nonneg h1.1
    rw [this]
    simp

set_option maxRecDepth 100000 in
set_option maxHeartbeats 2000000 in
theorem frameList_walk (w : World) (A : Option Addr) (n c : Nat) (l : List Fra) (h : rSlice 2 rFra (All w) w [.slice A n c] l) :
    Calls Try.prog 7 #[.slice A n c] w fun e w' => e = .returned (.bool true) ∧ Below w.heap.size w w' := by
  obtain ⟨hln, hnc, hcm⟩ := rows_len h
  obtain ⟨j0, hi, hz0, hz1, hz2⟩ := info_parts info_u8
  have AW := Lib.hid (awake_any w)
  by_cases h8 : n ≤ 8
  · have hd8 : decide ((8 : Int) < (n : Int)) = false := by rw [decide_eq_false_iff_not]; omega
    go_enter Try.func7, Try.ntmps7
    go_wp2_with fail
    refine AW.out.mono ?_
    rintro e w1 ⟨rfl, hB1⟩
    go_wp2
    go_loopw [4, 5] (fun bv iv wr => ∃ i : Nat, i ≤ n ∧ iv = .int .i64 (i : Int) ∧ (∀ f ∈ l.take i, Fit f) ∧ wr.ownsRow w.heap.size 5 1 bv (catL (l.take i)).length (u8s (catL (l.take i))) ∧ Below w.heap.size w wr) (fun _ iv _ => n - (intOf iv).toNat)
    case atStart => exact ⟨0, by omega, rfl, by simp, World.ownsRow_nil _ _ _ _, hB1⟩
    case round =>
      obtain ⟨i, hin, rfl, hfit, hown, hB⟩ := hrel
      by_cases hlt : i < n
      · have hl1 : l[i]? = some l[i] := List.getElem?_eq_getElem (by omega)
        obtain ⟨b1, off1, A1, c1, rfl, hb1, hx1, hy1, hby1, hwf1, hr1⟩ := fra_at h hl1
        have P1 := Lib.hid (put_any l[i].1 A1 c1 l[i].2 wr hby1 ((RdIn.rd hr1).below hB))
        have hx1' := (hB.cell (p := ⟨b1, off1 + i * 2, none⟩) hb1).trans hx1
        have hy1' := (hB.cell (p := ⟨b1, off1 + i * 2 + 1, none⟩) hb1).trans hy1
        have htk : l.take (i + 1) = l.take i ++ [l[i]] := by rw [List.take_add_one, hl1]; rfl
        have hlen := catL_len (l.take i) hfit
        have hti : (l.take i).length = i := by rw [List.length_take]; omega
        rw [hti] at hlen
        have Htk := Lib.hid htk
        have Hfit := Lib.hid hfit
        have hil : (i : Int) < (n : Int) := by omega
        clear htk hfit hx1 hy1 hr1 hl1 hti hB1
        generalize l[i] = f at *
        have hcap := catL_append (l.take i) [f]
        have hcf : catL [f] = putL f.1.toNat f.2 := by simp [catL]
        have hpl := putL_length f.1.toNat f.2
        rw [hcf] at hcap
        have Hcap := Lib.hid hcap
        clear hcap hcf
        generalize catL (l.take i) = cat at *
        go_wp2_with fail
        refine P1.out.mono ?_
        rintro e w2 ⟨B2, m2, cap2, E2, rfl, hsay, hB2⟩
        have hB2' := hB.trans (hB2.mono hB.size)
        have hown2 := own_below hown hB2
        have hsz2 := hB2'.size
        clear P1 hB2 hB hown hx1' hy1'
        rcases hsay with ⟨hk0, hk1, hl, rfl, rfl, hcap2, hrp⟩ | ⟨_, rfl, rfl, rfl, rfl⟩
        · have hfit1 : ∀ g ∈ l.take (i + 1), Fit g := fun g hg => by
            rw [Htk.out] at hg
            rcases List.mem_append.1 hg with h' | h'
            · exact Hfit.out g h'
            · simp at h'; subst h'; exact ⟨hk0, hk1, hl, hby1⟩
          have Hfit1 := Lib.hid hfit1
          clear hfit1 Hfit
          have hxl : (u8s (putL f.1.toNat f.2)).length = f.2.length + 10 := by rw [u8s_length, hpl]
          go_wp2_with (first
            | (at_builtin; refine wpList_app rfl (.tmp 39) (.tmp 40) 22 rfl w.heap.size 5 j0 (.int .u8 0) 1 Try.underlying22 hi hz0 hz1 hz2 rfl _ cat.length (u8s cat) rfl hown2 B2 (f.2.length + 10) cap2 (u8s (putL f.1.toNat f.2)) rfl hxl hrp (u8s_one _) (by simp only [maxLen]; omega) (by omega) hsz2 ?_; intro v3 w3 hown3 hg3 _)
            | fail)
          go_roundw
          case rel =>
            refine ⟨i + 1, by omega, by go_num, Hfit1.out, ?_, hB2'.grown hg3 hB2'.size (fun k hk => (hown2.lt k hk).1)⟩
            rw [Htk.out, Hcap.out, List.length_append, hpl, u8s_append]
            exact hown3
          case measure => simp [intOf]; omega
        · go_wp2
          go_ret
          exact ⟨rfl, hB2'⟩
      · obtain rfl : i = n := by omega
        rw [List.take_of_length_le (by omega)] at hfit hown
        have hlen := catL_len l hfit
        obtain ⟨A2, c2, rfl, hc2, hrd2, _⟩ := own_slice hown
        have L1 := all_any A2 c2 (catL l).length (catL l) wr rfl hc2 (catL_byte l hfit) hrd2 (by omega)
        rw [allL_cat l hfit] at L1
        have HL1 := Lib.hid L1
        clear L1 hfit hown hrd2
        generalize (catL l).length = m at *
        go_wp2_with fail
        refine HL1.out.mono ?_
        rintro e w3 ⟨v3, rfl, hsl3, hB3⟩
        have hB3' := hB.trans (hB3.mono hB.size)
        have hcp := hsl3
        obtain ⟨A3, c3, xs3, hv3, _⟩ := hcp
        obtain rfl : v3 = .slice A3 i c3 := by rw [hln] at hv3; simpa using hv3
        have Q1 := lists_any A3 A i c3 i c l l w3 hsl3 ((rSlice_stays rFra_stays).to (Keeps.below hB3') h)
        rw [show decide (l = l) = true by simp] at Q1
        have HQ1 := Lib.hid Q1
        clear Q1 hsl3 hB3 HL1 hB hv3
        go_wp2_with fail
        refine HQ1.out.mono ?_
        rintro e w4 ⟨rfl, hB4⟩
        go_wp2
        go_ret
        exact ⟨rfl, hB3'.trans (hB4.mono hB3'.size)⟩
  · have hd8 : decide ((8 : Int) < (n : Int)) = true := by rw [decide_eq_true_eq]; omega
    go_enter Try.func7, Try.ntmps7
    go_wp2_with fail
    refine AW.out.mono ?_
    rintro e w1 ⟨rfl, hB1⟩
    go_wp2
    go_ret
    exact ⟨rfl, hB1⟩
end Go.Proofs.Ytikpgacapaebkaa
