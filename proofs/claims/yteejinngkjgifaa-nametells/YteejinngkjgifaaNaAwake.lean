/- The contract of the laws' own 'awake' (the chapter's examples): it returns true, and changes nothing that was there. -/
import Derived.Test.YteejinngkjgifaaNaSplit
namespace Go.Proofs.Yteejinngkjgifaa
open Go.RowKit

theorem aw_split : canN [97, 49, 46, 98] = true ∧ splitN [97, 49, 46, 98] = ([97, 49], [98]) := by decide +kernel
theorem aw_may : mayN [97, 49] = true ∧ mayN [49, 97] = false ∧ lenN [195, 164] = 1 ∧ lexN (sgn [97]) (sgn [98]) = true ∧ joinN [97] [98] = [97, 46, 98] := by decide +kernel
theorem aw_a : byt ⟨#[97]⟩ = [97] := rfl
theorem aw_b : byt ⟨#[98]⟩ = [98] := rfl
theorem aw_s : byt ⟨#[97, 49, 46, 98]⟩ = [97, 49, 46, 98] := rfl

theorem aw1 (w : World) : Calls Try.prog 10 #[.string ⟨#[97, 49, 46, 98]⟩] w fun e w' => e = .returned (.tuple #[.string ⟨#[97, 49]⟩, .string ⟨#[98]⟩, .bool true]) ∧ Below w.heap.size w w' :=
  (split_any ⟨#[97, 49, 46, 98]⟩ w (by decide)).mono fun e w' ⟨x, y, he, hx, hy, hB⟩ => by
    rw [aw_s, aw_split.2] at hx hy
    rw [aw_s, aw_split.1, byt_inj (hx.trans (show [97, 49] = byt ⟨#[97, 49]⟩ from rfl)), byt_inj (hy.trans (show [98] = byt ⟨#[98]⟩ from rfl))] at he
    exact ⟨he, hB⟩
theorem aw2 (w : World) : Calls Try.prog 14 #[.string ⟨#[97, 49]⟩] w fun e w' => e = .returned (.bool true) ∧ Below w.heap.size w w' :=
  (may_any ⟨#[97, 49]⟩ w).mono fun e w' ⟨he, hB⟩ => ⟨by rw [show byt ⟨#[97, 49]⟩ = [97, 49] from rfl, aw_may.1] at he; exact he, hB⟩
theorem aw3 (w : World) : Calls Try.prog 14 #[.string ⟨#[49, 97]⟩] w fun e w' => e = .returned (.bool false) ∧ Below w.heap.size w w' :=
  (may_any ⟨#[49, 97]⟩ w).mono fun e w' ⟨he, hB⟩ => ⟨by rw [show byt ⟨#[49, 97]⟩ = [49, 97] from rfl, aw_may.2.1] at he; exact he, hB⟩
theorem aw4 (w : World) : Calls Try.prog 15 #[.string ⟨#[195, 164]⟩] w fun e w' => e = .returned (.int .i64 1) ∧ Below w.heap.size w w' :=
  (len_any ⟨#[195, 164]⟩ w).mono fun e w' ⟨he, hB⟩ => ⟨by rw [show byt ⟨#[195, 164]⟩ = [195, 164] from rfl, aw_may.2.2.1] at he; exact he, hB⟩
theorem aw5 (w : World) : Calls Try.prog 17 #[.string ⟨#[97]⟩, .string ⟨#[98]⟩] w fun e w' => e = .returned (.bool true) ∧ Below w.heap.size w w' :=
  (less_any ⟨#[97]⟩ ⟨#[98]⟩ w (by decide)).mono fun e w' ⟨he, hB⟩ => ⟨by rw [aw_a, aw_b, aw_may.2.2.2.1] at he; exact he, hB⟩
theorem aw6 (w : World) : Calls Try.prog 18 #[.string ⟨#[97]⟩, .string ⟨#[98]⟩] w fun e w' => e = .returned (.string ⟨#[97, 46, 98]⟩) ∧ Below w.heap.size w w' :=
  (join_any ⟨#[97]⟩ ⟨#[98]⟩ w).mono fun e w' ⟨t, he, ht, hB⟩ => by
    rw [aw_a, aw_b, aw_may.2.2.2.2] at ht
    rw [byt_inj (ht.trans (show [97, 46, 98] = byt ⟨#[97, 46, 98]⟩ from rfl))] at he
    exact ⟨he, hB⟩

set_option maxRecDepth 100000 in
set_option maxHeartbeats 1000000 in
theorem awake_any (w : World) : Calls Try.prog 9 #[] w fun e w' => e = .returned (.bool true) ∧ Below w.heap.size w w' := by
  go_enter Try.func9, Try.ntmps9
  go_wp2_with fail
  refine (aw1 _).mono ?_
  rintro e w1 ⟨rfl, hB1⟩
  go_wp2_with fail
  refine (aw2 _).mono ?_
  rintro e w2 ⟨rfl, hB2⟩
  have hB := hB1.trans (hB2.mono hB1.size)
  clear hB1 hB2
  go_wp2_with fail
  refine (aw3 _).mono ?_
  rintro e w3 ⟨rfl, hB3⟩
  have hB' := hB.trans (hB3.mono hB.size)
  clear hB3 hB
  go_wp2_with fail
  refine (aw4 _).mono ?_
  rintro e w4 ⟨rfl, hB4⟩
  have hB := hB'.trans (hB4.mono hB'.size)
  clear hB4 hB'
  go_wp2_with fail
  refine (aw5 _).mono ?_
  rintro e w5 ⟨rfl, hB5⟩
  have hB' := hB.trans (hB5.mono hB.size)
  clear hB5 hB
  go_wp2_with fail
  refine (aw6 _).mono ?_
  rintro e w6 ⟨rfl, hB6⟩
  have hB := hB'.trans (hB6.mono hB'.size)
  clear hB6 hB'
  go_wp2
  go_ret
  exact ⟨rfl, hB⟩
end Go.Proofs.Yteejinngkjgifaa
