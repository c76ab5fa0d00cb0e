/- The contract of the laws' own 'awake' (the chapter's example, and a frame read): it returns true, and changes nothing that was there. No condition. -/
import Derived.Test.YtikpgacapaebkaaFrAll
namespace Go.Proofs.Ytikpgacapaebkaa
open Go.RowKit

theorem wake_get : getE (putL 7 [] ++ [1]) = 0 ∧ getF (putL 7 [] ++ [1]) = (7, []) ∧ getN (putL 7 [] ++ [1]) = 10 := ⟨get_put 7 [] [1], getF_put 7 [] [1], getN_put 7 [] [1]⟩
set_option maxRecDepth 100000 in
set_option maxHeartbeats 1000000 in
theorem awake_any (w : World) : Calls Try.prog 10 #[] w fun e w' => e = .returned (.bool true) ∧ Below w.heap.size w w' := by
  obtain ⟨hz, hsz⟩ := zero_of_info info_fr
  obtain ⟨i0, hi, hz0, hz1, hz2⟩ := info_parts info_u8
  have P1 := Lib.hid (put_ok 7 none 0 0 [] w (by omega) rfl (by omega) (by simp) (.inl rfl))
  have hpl : (putL 7 []).length = 10 := putL_length 7 []
  have hpb : ∀ x ∈ putL 7 [], x < 256 := putL_byte (by omega) (by simp) (by simp)
  have G1 := fun (W : World) (A : Option Addr) (c : Nat) (hc : 11 ≤ c) (h : Rd W A (u8s (putL 7 [] ++ [1]))) => get_any A c 11 (putL 7 [] ++ [1]) W (by rw [List.length_append, hpl]; rfl) hc (by intro x hx; rcases List.mem_append.1 hx with h | h; exact hpb x h; simp at h; omega) h (by omega)
  rw [wake_get.1, wake_get.2.1, wake_get.2.2] at G1
  have L1 := fun (W : World) (A : Option Addr) (c : Nat) (hc : 20 ≤ c) (h : Rd W A (u8s (putL 7 [] ++ putL 7 []))) => all_any A c 20 (putL 7 [] ++ putL 7 []) W (by rw [List.length_append, hpl]) hc (by intro x hx; rcases List.mem_append.1 hx with h | h <;> exact hpb x h) h (by omega)
  rw [allL_put2] at L1
  have hp0 : (u8s (putL 7 []))[0]? = some (.int .u8 7) := rfl
  have HG1 := Lib.hid G1
  have HL1 := Lib.hid L1
  clear G1 L1
  have hap1 : u8s (putL 7 [] ++ [1]) = u8s (putL 7 []) ++ [.int .u8 1] := u8s_append _ _
  have hap2 : u8s (putL 7 [] ++ putL 7 []) = u8s (putL 7 []) ++ u8s (putL 7 []) := u8s_append _ _
  have hxl : (u8s (putL 7 [])).length = 10 := by rw [u8s_length, hpl]
  have hxo := u8s_one (putL 7 [])
  rw [hap1] at HG1
  rw [hap2] at HL1
  clear hap1 hap2 hpb hpl
  generalize u8s (putL 7 []) = ps at *
  go_enter Try.func10, Try.ntmps10
  go_wp2_with fail
  refine P1.out.mono ?_
  rintro e w1 ⟨g, cap, rfl, hcap, hg, hgl, hrd, hB1⟩
  clear P1
  have hrdl : ∀ W : World, Rd (W.alloc (.cells #[.int .u8 1] 5)) (some ⟨W.heap.size, 0, none⟩) [.int .u8 1] := fun W => lit_rd W [1]
  go_wp2_with (first
    | (at_builtin; refine wpList_app rfl (.const (.slice none 0 0)) (.tmp 14) 22 rfl w1.heap.size 5 i0 (.int .u8 0) 1 Try.underlying22 hi hz0 hz1 hz2 rfl (.slice none 0 0) 0 [] rfl (World.ownsRow_nil _ _ _ _) (some ⟨g, 0, none⟩) 10 cap ps rfl hxl hrd hxo (by simp only [maxLen]; omega) (by omega) (Nat.le_refl _) ?_; intro v2 w2 hown2 hg2 hv2; simp only [Nat.zero_add, List.nil_append] at hown2; have hsz2 := hg2.size; have hrd2 := hrdl w2; have hown2' := hown2.alloc (.cells #[.int .u8 1] 5))
    | (at_builtin; refine wpList_app rfl (.tmp 15) (.tmp 16) 22 rfl w1.heap.size 5 i0 (.int .u8 0) 1 Try.underlying22 hi hz0 hz1 hz2 rfl v2 10 ps rfl hown2' (some ⟨w2.heap.size, 0, none⟩) 1 1 [.int .u8 1] rfl rfl hrd2 (by simp [Value.oneCell']) (by simp only [maxLen]; omega) (by omega) (by simp; omega) ?_; intro v3 w3 hown3 hg3 hv3; obtain ⟨A3, c3, hv3e, hc3, hrd3, _⟩ := own_slice hown3; subst hv3e)
    | fail)
  have hB3 : Below w1.heap.size w1 w3 := (((Below.refl _ w1).grown hg2 (Nat.le_refl _) (fun k hk => by cases hk)).alloc hsz2 _).grown hg3 (by simp; omega) (fun k hk => (hown2.lt k hk).1)
  clear hown2' hrd2 hg2 hv2 hg3 hv3 hrdl hown2 hown3 hsz2
  refine (HG1.out _ A3 c3 hc3 hrd3).mono ?_
  rintro e w4 ⟨A4, c4, rfl, hc4, hm4, hrd4, hB4⟩
  clear HG1 hrd3
  have hrdg : Rd w4 (some ⟨g, 0, none⟩) ps := (hrd.below hB3).below hB4
  have hB4' : Below w.heap.size w w4 := (hB1.trans (hB3.mono hB1.size)).trans (hB4.mono (hB1.trans (hB3.mono hB1.size)).size)
  have hgl4 : g < w4.heap.size := Nat.lt_of_lt_of_le hgl (Nat.le_trans hB3.size hB4.size)
  clear hrd hrd4 hB3 hB4 hB1
  have hbx := Blk.new w4 24 [.int .i64 7, .slice A4 0 c4]
  have hB5 : Below w4.heap.size w4 (w4.alloc (.cells #[.int .i64 7, .slice A4 0 c4] 24)) := (Below.refl _ w4).alloc (Nat.le_refl _) _
  have hrd5 := hrdg.below hB5
  generalize hw5 : w4.alloc (.cells #[.int .i64 7, .slice A4 0 c4] 24) = w5 at *
  go_wp2_with (first
    | (at_builtin; refine wpList_app rfl (.const (.slice none 0 0)) (.tmp 23) 22 rfl w5.heap.size 5 i0 (.int .u8 0) 1 Try.underlying22 hi hz0 hz1 hz2 rfl (.slice none 0 0) 0 [] rfl (World.ownsRow_nil _ _ _ _) (some ⟨g, 0, none⟩) 10 cap ps rfl hxl hrd5 hxo (by simp only [maxLen]; omega) (by omega) (Nat.le_refl _) ?_; intro v6 w6 hown6 hg6 hv6; simp only [Nat.zero_add, List.nil_append] at hown6; have hsz6 := hg6.size; have hB6 : Below w5.heap.size w5 w6 := (Below.refl _ w5).grown hg6 (Nat.le_refl _) (fun k hk => by cases hk); have hrd6 := hrd5.below hB6)
    | (at_builtin; refine wpList_app rfl (.tmp 24) (.tmp 25) 22 rfl w5.heap.size 5 i0 (.int .u8 0) 1 Try.underlying22 hi hz0 hz1 hz2 rfl v6 10 ps rfl hown6 (some ⟨g, 0, none⟩) 10 cap ps rfl hxl hrd6 hxo (by simp only [maxLen]; omega) (by omega) hsz6 ?_; intro v7 w7 hown7 hg7 hv7; obtain ⟨A7, c7, hv7e, hc7, hrd7, _⟩ := own_slice hown7; subst hv7e)
    | fail)
  have hB7 : Below w5.heap.size w5 w7 := hB6.grown hg7 hsz6 (fun k hk => (hown6.lt k hk).1)
  clear hg6 hv6 hg7 hv7 hown6 hown7 hB6 hrd6
  refine (HL1.out _ A7 c7 hc7 hrd7).mono ?_
  rintro e w8 ⟨v8, rfl, ⟨A8, c8, xs8, hv8, _, _, _, _⟩, hB8⟩
  obtain rfl : v8 = .slice A8 2 c8 := by simpa using hv8
  have hbx8 : Blk w8 w4.heap.size 24 [.int .i64 7, .slice A4 0 c4] := (hbx.below hbx.lt hB7).below (Nat.lt_of_lt_of_le hbx.lt hB7.size) hB8
  have hc0 := hbx8.cell (j := 0) rfl
  have hc1 := hbx8.cell (j := 1) rfl
  have hcg : w8.cell? ⟨g, 0, none⟩ = some (.int .u8 7) := by
    rcases (hrd5.below hB7).below hB8 with h | ⟨b, off, e, _, h⟩
    · rw [h] at hxl; simp at hxl
    · injection e with e
      injection e with e1 e2
      subst e1 e2
      exact h 0 _ hp0
  have hB8' : Below w.heap.size w w8 := by
    have h5 := hB4'.trans (hB5.mono hB4'.size)
    have h7 := h5.trans (hB7.mono h5.size)
    exact h7.trans (hB8.mono h7.size)
  have S1 := same_any A4 A4 7 7 0 c4 0 c4 [] [] w8 rfl rfl (by simp) (by simp) (.inl rfl) (.inl rfl)
  have HS1 := Lib.hid S1
  clear S1 HL1 hbx hrd5 hrd7 hB4' hB5 hB7 hB8 hw5 hv8
  go_wp2_with fail
  refine HS1.out.mono ?_
  rintro e w9 ⟨rfl, hB9⟩
  go_wp2
  go_ret
  exact ⟨rfl, hB8'.trans (hB9.mono hB8'.size)⟩
end Go.Proofs.Ytikpgacapaebkaa
