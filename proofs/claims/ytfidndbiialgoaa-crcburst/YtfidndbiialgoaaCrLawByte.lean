/- CrcByte's walk. -/
import Derived.Test.YtfidndbiialgoaaCrAwake
namespace Go.Proofs.Ytfidndbiialgoaa
open Go.RowKit

theorem sum_set (xs : List Nat) (k b : Nat) (hk : k < xs.length) (hb : ∀ x ∈ xs, x < 256) (hbb : b < 256) (h0 : b ≠ 0) : sumL (xs.set k (xs[k] ^^^ b)) ≠ sumL xs := by
  intro h
  have e1 : xs = xs.take k ++ xs[k] :: xs.drop (k + 1) := by rw [← List.drop_eq_getElem_cons hk, List.take_append_drop]
  have e2 : xs.set k (xs[k] ^^^ b) = xs.take k ++ (xs[k] ^^^ b) :: xs.drop (k + 1) := List.set_eq_take_append_cons_drop.trans (if_pos hk)
  have hd : xs[k] < 256 := hb _ (List.getElem_mem hk)
  rw [e2] at h
  conv at h => rhs; rw [e1]
  have := sum_other _ _ (fun x hx => hb x (List.mem_of_mem_take hx)) (fun x hx => hb x (List.mem_of_mem_drop hx)) (xor_lt8 hd hbb) hd h
  apply h0
  have h2 : xs[k] ^^^ (xs[k] ^^^ b) = xs[k] ^^^ xs[k] := by rw [this]
  rwa [← Nat.xor_assoc, Nat.xor_self, Nat.zero_xor] at h2
theorem sum_last (xs : List Nat) (b : Nat) (hb : ∀ x ∈ xs, x < 256) (hbb : b < 256) (h0 : b ≠ 0) : sumL (xs ++ [b]) ≠ sumL (xs ++ [0]) := fun h =>
  h0 (sum_other xs [] hb (by simp) hbb (by omega) h)
theorem set_byte {xs : List Nat} (hb : ∀ x ∈ xs, x < 256) (k : Nat) {v : Nat} (hv : v < 256) : ∀ x ∈ xs.set k v, x < 256 := fun x hx => by
  rcases List.mem_or_eq_of_mem_set hx with h | h
  · exact hb x h
  · rw [h]; exact hv
theorem u8s_set (ns : List Nat) (j x : Nat) : (u8s ns).set j (.int .u8 (x : Int)) = u8s (ns.set j x) := by simp [u8s, List.map_set]
theorem app_byte {xs : List Nat} (hb : ∀ x ∈ xs, x < 256) {v : Nat} (hv : v < 256) : ∀ x ∈ xs ++ [v], x < 256 := fun x hx => by
  rcases List.mem_append.1 hx with h | h
  · exact hb x h
  · simp at h; omega

set_option maxRecDepth 100000 in
set_option maxHeartbeats 2000000 in
theorem crcByte_walk (w : World) (A : Option Addr) (c : Nat) (xs : List Nat) (_hl : xs.length ≤ c) (_hm : c ≤ maxLen) (hb : ∀ x ∈ xs, x < 256) (hr : Rd w A (u8s xs)) (i : Int) (i0 : -9223372036854775808 ≤ i) (i1 : i ≤ 9223372036854775807) (b : Nat) (hbb : b < 256) :
    Calls Try.prog 8 #[.slice A xs.length c, .int .i64 i, .int .u8 (b : Int)] w fun e w' => e = .returned (.bool true) ∧ Below w.heap.size w w' := by
  by_cases hcase : xs.length ≤ 300 ∧ 0 ≤ i ∧ i < (xs.length : Int) ∧ b ≠ 0
  · obtain ⟨hx, hi0, hi1, hb0⟩ := hcase
    obtain ⟨k, rfl⟩ := Int.eq_ofNat_of_zero_le hi0
    have hk : k < xs.length := by omega
    obtain ⟨j0, hj, hz0, hz1, hz2⟩ := info_parts info_u8
    have hd : xs[k] < 256 := hb _ (List.getElem_mem hk)
    have hn1 := sum_set xs k b hk hb hbb hb0
    have hn2 := sum_last xs b hb hbb hb0
    have hxor : bits BinOp.xor IntKind.u8 ((xs[k] : Nat) : Int) (b : Int) = ((xs[k] ^^^ b : Nat) : Int) := u8_xor_nat _ _ hd hbb
    have hget := u8s_get hk
    have hlt := xor_lt8 hd hbb
    generalize xs[k] = d at *
    generalize d ^^^ b = d' at *
    have S0 := Lib.hid (fun (W : World) (h : Rd W A (u8s xs)) => sum_any A c xs.length xs W rfl hb h (by omega))
    have S1 := Lib.hid (fun (W : World) (B : Option Addr) (e : Nat) (h : Rd W B (u8s (xs.set k d'))) => sum_any B e xs.length (xs.set k d') W (by simp) (set_byte hb k hlt) h (by omega))
    have S2 := Lib.hid (fun (W : World) (B : Option Addr) (e : Nat) (h : Rd W B (u8s (xs ++ [b]))) => sum_any B e (xs.length + 1) (xs ++ [b]) W (by simp) (app_byte hb hbb) h (by omega))
    have S3 := Lib.hid (fun (W : World) (B : Option Addr) (e : Nat) (h : Rd W B (u8s (xs ++ [0]))) => sum_any B e (xs.length + 1) (xs ++ [0]) W (by simp) (app_byte hb (by omega)) h (by omega))
    have hq1 : (((sumL (xs.set k d') : Nat) : Int) != ((sumL xs : Nat) : Int)) = true := by rw [bne_iff_ne]; omega
    have hq2 : (((sumL (xs ++ [b]) : Nat) : Int) != ((sumL (xs ++ [0]) : Nat) : Int)) = true := by rw [bne_iff_ne]; omega
    generalize sumL xs = m0 at *
    generalize sumL (xs.set k d') = m1 at *
    generalize sumL (xs ++ [b]) = m2 at *
    generalize sumL (xs ++ [0]) = m3 at *
    have hx' : decide ((300 : Int) < (xs.length : Int)) = false := by simp; omega
    have hk' : decide ((xs.length : Int) ≤ (k : Int)) = false := by rw [decide_eq_false_iff_not]; omega
    have hb0' : ((b : Int) == 0) = false := by rw [beq_eq_false_iff_ne]; omega
    have Hget := Lib.hid hget
    clear hn1 hn2 hget
    go_enter Try.func8, Try.ntmps8
    go_wp2_with fail
    refine (awake_any _).mono ?_
    rintro e w1 ⟨rfl, hB1⟩
    have hr1 := hr.below hB1
    go_wp2_with (first
      | (at_builtin; refine wpList_app rfl (.const (.slice none 0 0)) (.tmp 34) 22 rfl w1.heap.size 5 j0 (.int .u8 0) 1 Try.underlying22 hj hz0 hz1 hz2 rfl (.slice none 0 0) 0 [] rfl (World.ownsRow_nil _ _ _ _) A xs.length c (u8s xs) rfl (u8s_length _) hr1 (u8s_one _) (by simp only [maxLen]; omega) (by omega) (Nat.le_refl _) ?_; intro v3 w3 hown3 hg3 _; simp only [Nat.zero_add, List.nil_append] at hown3; obtain ⟨g3, cap3, hv3, hg3g, hlt3, hcap3, hc3⟩ := own_open hown3 (by omega); subst hv3; have hcell3 := hc3 k _ Hget.out; have hfz3 := hown3.frozenAt k; obtain ⟨hst3, _⟩ := hown3.stored k (.int .u8 (d' : Int)); rw [u8s_set] at hst3; have hrx := Rd.own hst3; have hB3 := (((Below.refl _ w1).grown hg3 (Nat.le_refl _) (fun k hk => by cases hk)).setCell (p := ⟨g3, k, none⟩) hg3g (.int .u8 (d' : Int))); clear hst3 hc3 hg3 hown3)
      | (at_builtin; generalize w3.setCell ⟨g3, k, none⟩ (.int .u8 (d' : Int)) = w4 at *; have hr4 := hr1.below hB3; refine wpList_app rfl (.const (.slice none 0 0)) (.tmp 45) 22 rfl w4.heap.size 5 j0 (.int .u8 0) 1 Try.underlying22 hj hz0 hz1 hz2 rfl (.slice none 0 0) 0 [] rfl (World.ownsRow_nil _ _ _ _) A xs.length c (u8s xs) rfl (u8s_length _) hr4 (u8s_one _) (by simp only [maxLen]; omega) (by omega) (Nat.le_refl _) ?_; intro v5 w5 hown5 hg5 _; simp only [Nat.zero_add, List.nil_append] at hown5; have hsz5 := hg5.size)
      | (at_builtin; have hrl := lit_rd w5 [b]; refine wpList_app rfl (.tmp 46) (.tmp 48) 22 rfl w4.heap.size 5 j0 (.int .u8 0) 1 Try.underlying22 hj hz0 hz1 hz2 rfl v5 xs.length (u8s xs) rfl (hown5.alloc _) (some ⟨w5.heap.size, 0, none⟩) 1 1 (u8s [b]) rfl rfl hrl (u8s_one _) (by simp only [maxLen]; omega) (by omega) (by simp; omega) ?_; intro v6 w6 hown6 hg6 _; rw [← u8s_append] at hown6; obtain ⟨A6, c6, hv6, _, hrd6, _⟩ := own_slice hown6; subst hv6; have hB6 := ((((Below.refl _ w4).grown hg5 (Nat.le_refl _) (fun k hk => by cases hk)).alloc hsz5 _).grown hg6 (by simp; omega) (fun k hk => (hown5.lt k hk).1)); clear hrl hown5 hown6 hg5 hg6)
      | (at_builtin; have hr6 := hr4.below hB6; refine wpList_app rfl (.const (.slice none 0 0)) (.tmp 50) 22 rfl w6.heap.size 5 j0 (.int .u8 0) 1 Try.underlying22 hj hz0 hz1 hz2 rfl (.slice none 0 0) 0 [] rfl (World.ownsRow_nil _ _ _ _) A xs.length c (u8s xs) rfl (u8s_length _) hr6 (u8s_one _) (by simp only [maxLen]; omega) (by omega) (Nat.le_refl _) ?_; intro v7 w7 hown7 hg7 _; simp only [Nat.zero_add, List.nil_append] at hown7; have hsz7 := hg7.size)
      | (at_builtin; have hrl := lit_rd w7 [0]; refine wpList_app rfl (.tmp 51) (.tmp 52) 22 rfl w6.heap.size 5 j0 (.int .u8 0) 1 Try.underlying22 hj hz0 hz1 hz2 rfl v7 xs.length (u8s xs) rfl (hown7.alloc _) (some ⟨w7.heap.size, 0, none⟩) 1 1 (u8s [0]) rfl rfl hrl (u8s_one _) (by simp only [maxLen]; omega) (by omega) (by simp; omega) ?_; intro v8 w8 hown8 hg8 _; rw [← u8s_append] at hown8; obtain ⟨A8, c8, hv8, _, hrd8, _⟩ := own_slice hown8; subst hv8; have hB8 := ((((Below.refl _ w6).grown hg7 (Nat.le_refl _) (fun k hk => by cases hk)).alloc hsz7 _).grown hg8 (by simp; omega) (fun k hk => (hown7.lt k hk).1)); clear hrl hown7 hown8 hg7 hg8)
      | fail)
    have hrx8 := (hrx.below hB6).below hB8
    have hr8 := hr6.below hB8
    have hrd68 := hrd6.below hB8
    have hB8' : Below w.heap.size w w8 := hB1.trans ((hB3.trans ((hB6.trans (hB8.mono hB6.size)).mono hB3.size)).mono hB1.size)
    clear hr hr1 hr4 hr6 hrx hrd6 hB1 hB3 hB6 hB8
    refine (S1.out _ _ _ hrx8).mono ?_
    rintro e w9 ⟨rfl, hB9⟩
    go_wp2_with fail
    refine (S0.out _ (hr8.below hB9)).mono ?_
    rintro e wa ⟨rfl, hBa⟩
    have hBa := hB9.trans (hBa.mono hB9.size)
    go_wp2_with fail
    refine (S2.out _ _ _ (hrd68.below hBa)).mono ?_
    rintro e wb ⟨rfl, hBb⟩
    have hBb := hBa.trans (hBb.mono hBa.size)
    go_wp2_with fail
    refine (S3.out _ _ _ (hrd8.below hBb)).mono ?_
    rintro e wc ⟨rfl, hBc⟩
    have hBc := hBb.trans (hBc.mono hBb.size)
    go_wp2
    go_ret
    exact ⟨rfl, hB8'.trans (hBc.mono hB8'.size)⟩
  · have hcase' : ¬ (xs.length ≤ 300) ∨ i < 0 ∨ (0 ≤ i ∧ (xs.length : Int) ≤ i) ∨ (b = 0 ∧ xs.length ≤ 300 ∧ 0 ≤ i ∧ i < (xs.length : Int)) := by omega
    rcases hcase' with h | h | h | h
    all_goals
      go_enter Try.func8, Try.ntmps8
      go_wp2_with fail
      refine (awake_any _).mono ?_
      rintro e w1 ⟨rfl, hb1⟩
      go_wp2
      all_goals
        go_ret
        exact ⟨rfl, hb1⟩
end Go.Proofs.Ytfidndbiialgoaa
