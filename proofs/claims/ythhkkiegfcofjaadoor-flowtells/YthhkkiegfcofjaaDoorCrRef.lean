/- The contracts of the document's own Seal and Good: at every slice of bytes what 'sealL' and 'goodL' tell; nothing that was there is changed. Condition: a slice's own bound (2^47 bytes together with the four that are put behind). -/
import Derived.Test.YthhkkiegfcofjaaDoorCrSeal
namespace Go.Proofs.YthhkkiegfcofjaaDoor
open Go.RowKit

theorem cell_lit (w : World) (cs : List Value) (t : TypeId) : ∀ j u, cs[j]? = some u → (w.alloc (.cells cs.toArray t)).cell? ((⟨w.heap.size, 0, none⟩ : Addr).add j) = some u := fun j u hu => by
  rw [addr_add, Nat.zero_add]; exact (Blk.new w t cs).cell hu

set_option maxRecDepth 100000 in
set_option maxHeartbeats 1000000 in
theorem rseal_any (A : Option Addr) (c n : Nat) (bs : List Nat) (w : World) (hn : bs.length = n) (hb : ∀ x ∈ bs, x < 256) (hr : Rd w A (u8s bs)) (hlen : n + 4 ≤ 140737488355328) :
    Calls Tryd.prog 42 #[.slice A n c] w fun e w' => ∃ v, e = .returned v ∧ w'.ownsRow w.heap.size 5 1 v (sealL bs).length (u8s (sealL bs)) ∧ Below w.heap.size w w' := by
  obtain ⟨i0, hi, hz0, hz1, hz2⟩ := info_parts info_u8
  have H := Lib.hid (rsum_any A c n bs w hn hb hr (by omega))
  have hlt := sumL_lt hb
  have hfin : ∀ v (w' : World), w'.ownsRow w.heap.size 5 1 v (n + 4) (u8s bs ++ u8s (le4 (sumL bs))) → w'.ownsRow w.heap.size 5 1 v (sealL bs).length (u8s (sealL bs)) := fun v w' h => by
    rw [sealL_length, hn, sealL, u8s_append]; exact h
  have Hfin := Lib.hid hfin
  clear hfin
  generalize sumL bs = s at *
  have e : (u8s (le4 s)).toArray = #[Value.int .u8 ((s : Int) % 256), .int .u8 ((s : Int) / 256 % 256), .int .u8 ((s : Int) / 65536 % 256), .int .u8 ((s : Int) / 16777216 % 256)] := rfl
  have e2 : (s : Int) / 16777216 % 256 = (s : Int) / 16777216 := by omega
  rw [e2] at e
  have hrd : ∀ W : World, Rd (W.alloc (.cells #[Value.int .u8 ((s : Int) % 256), .int .u8 ((s : Int) / 256 % 256), .int .u8 ((s : Int) / 65536 % 256), .int .u8 ((s : Int) / 16777216)] 5)) (some ⟨W.heap.size, 0, none⟩) (u8s (le4 s)) := fun W => by rw [← e]; exact lit_rd W _
  have Hrd := Lib.hid hrd
  clear e e2 hrd
  go_enter Tryd.func42, Tryd.ntmps42
  go_wp2_with fail
  refine H.out.mono ?_
  rintro e w1 ⟨rfl, rfl⟩
  go_wp2_with (first
    | (at_builtin; refine wpList_app rfl (.const (.slice none 0 0)) (.tmp 7) 26 rfl w.heap.size 5 i0 (.int .u8 0) 1 Tryd.underlying26 hi hz0 hz1 hz2 rfl (.slice none 0 0) 0 [] rfl (World.ownsRow_nil _ _ _ _) A n c (u8s bs) rfl (by rw [u8s_length, hn]) hr (u8s_one _) (by simp only [maxLen]; omega) (by omega) (Nat.le_refl _) ?_; intro v3 w3 hown3 hg3 _; simp only [Nat.zero_add, List.nil_append] at hown3; have hsz3 := hg3.size)
    | (at_builtin; refine wpList_app rfl (.tmp 9) (.tmp 24) 26 rfl w.heap.size 5 i0 (.int .u8 0) 1 Tryd.underlying26 hi hz0 hz1 hz2 rfl v3 n (u8s bs) rfl (hown3.alloc _) (some ⟨w3.heap.size, 0, none⟩) 4 4 (u8s (le4 s)) rfl rfl (Hrd.out w3) (u8s_one _) (by simp only [maxLen]; omega) (by omega) (by simp; omega) ?_; intro v4 w4 hown4 hg4 _)
    | fail)
  go_ret
  exact ⟨_, rfl, Hfin.out _ _ hown4, (((Below.refl _ w).grown hg3 (Nat.le_refl _) (fun k hk => by cases hk)).alloc hsz3 _).grown hg4 (by simp; omega) (fun k hk => (hown3.lt k hk).1)⟩
theorem rseal_form (A : Option Addr) (c n : Nat) (bs : List Nat) (w : World) (hn : bs.length = n) (hb : ∀ x ∈ bs, x < 256) (hr : Rd w A (u8s bs)) (hlen : n + 4 ≤ 140737488355328) :
    Calls Tryd.prog 42 #[.slice A n c] w fun e w' => ∃ g cap, e = .returned (.slice (some ⟨g, 0, none⟩) (n + 4) cap) ∧ Rd w' (some ⟨g, 0, none⟩) (u8s (sealL bs)) ∧ Below w.heap.size w w' :=
  (rseal_any A c n bs w hn hb hr hlen).mono fun e w' ⟨v, he, hown, hB⟩ => by
    have hl : (sealL bs).length = n + 4 := by rw [sealL_length, hn]
    rw [hl] at hown
    obtain ⟨g, cap, rfl, hg, hlt, hcap, hc⟩ := own_open hown (by omega)
    exact ⟨g, cap, he, Rd.own hown, hB⟩

theorem good_eq (bs : List Nat) (k : Nat) (hn : bs.length = k + 4) : goodL bs = (sealL (bs.take k) == bs) := by
  unfold goodL sealL
  rw [hn, Nat.add_sub_cancel]
  have h : decide (4 ≤ k + 4) = true := by simp
  rw [h, Bool.true_and]
  by_cases e : bs.drop k = le4 (sumL (bs.take k))
  · rw [← e, List.take_append_drop]; simp
  · have h1 : (bs.drop k == le4 (sumL (bs.take k))) = false := by simpa using e
    rw [h1]
    symm
    rw [beq_eq_false_iff_ne]
    intro e2
    apply e
    have := congrArg (List.drop k) e2
    rw [List.drop_append_of_le_length (by rw [List.length_take]; omega), List.drop_of_length_le (by rw [List.length_take]; omega)] at this
    simpa using this.symm
set_option maxRecDepth 100000 in
set_option maxHeartbeats 1000000 in
theorem rgood_any (A : Option Addr) (c n : Nat) (bs : List Nat) (w : World) (hn : bs.length = n) (hc : n ≤ c) (hb : ∀ x ∈ bs, x < 256) (hr : Rd w A (u8s bs)) (hlen : n ≤ 140737488355328) :
    Calls Tryd.prog 62 #[.slice A n c] w fun e w' => e = .returned (.bool (goodL bs)) ∧ Below w.heap.size w w' := by
  by_cases h4 : 4 ≤ n
  · obtain ⟨k, rfl⟩ : ∃ k, n = k + 4 := ⟨n - 4, by omega⟩
    obtain ⟨b, off, rfl, hblt, _⟩ := hr.at (k := 0) (by simp; omega)
    have ht : ∀ W, Below w.heap.size w W → Calls Tryd.prog 42 #[.slice (some ⟨b, off, none⟩) k c] W fun e w' => ∃ g cap, e = .returned (.slice (some ⟨g, 0, none⟩) (k + 4) cap) ∧ Rd w' (some ⟨g, 0, none⟩) (u8s (sealL (bs.take k))) ∧ Below w.heap.size w w' := fun W hW =>
      (rseal_form (some ⟨b, off, none⟩) c k (bs.take k) W (by rw [List.length_take]; omega) (fun x hx => hb x (List.mem_of_mem_take hx)) (by rw [← u8s_take]; exact (hr.below hW).take k) hlen).mono
        fun e w' ⟨g, cap, he, h1, h2⟩ => ⟨g, cap, he, h1, hW.trans (h2.mono hW.size)⟩
    have hcv : ∀ W, Below w.heap.size w W → (convert 26 9 (.slice (some ⟨b, off, none⟩) (k + 4) c)).run Tryd.prog W = .ok (.string (strB bs)) W := fun W hW =>
      conv_str W _ _ _ Tryd.underlying26 Tryd.underlying5 Tryd.underlying9 _ bs (k + 4) c hn (hr.below hW)
    have hsq := str_eq (sealL_byte (fun x hx => hb x (List.mem_of_mem_take (i := k) hx))) hb
    rw [← good_eq bs k hn] at hsq
    have hsl : (sealL (bs.take k)).length = k + 4 := by rw [sealL_length, List.length_take]; omega
    have hcv0 := hcv w.drew (Below.refl _ w).drew
    have Ht := Lib.hid ht
    have Hcv := Lib.hid hcv
    clear ht hcv
    generalize goodL bs = ok at *
    generalize sealL (bs.take k) = tl at *
    have hk1 : (0 : Int) ≤ (k : Int) := by omega
    have hk3 : k ≤ c := by omega
    have hk5 : (k : Int) ≤ (k : Int) + 4 := by omega
    have hk6 : (k : Int) ≤ (c : Int) := by omega
    have hk8 : IntKind.i64.wrap (k : Int) = (k : Int) := IntWalk.i64_in _ (by omega)
    have hk7 : decide ((k : Int) + 4 < 4) = false := by rw [decide_eq_false_iff_not]; omega
    go_enter Tryd.func62, Tryd.ntmps62
    go_wp2_with fail
    refine sch_start [(0, true), (1, true), (2, true), (3, true), (4, true), (7, true), (8, true), (5, false), (6, true), (9, true), (10, true)]
      (fun W => (convert 26 9 (.slice (some ⟨b, off, none⟩) (k + 4) c)).run Tryd.prog W = .ok (.string (strB bs)) W) (by kernel_rfl) rfl (by kernel_rfl) (fun _ _ _ _ _ h => h) hcv0 (fun hH => ?_)
    repeat (first | (refine sch_yes (v := ?_) rfl rfl ?_ hH ?_; rotate_left; (focus ((intro W hW; go_simp) <;> with_reducible rfl)); simp only [Act.put, List.setIfInBounds_toArray, List.set_cons_zero, List.set_cons_succ]) | (refine sch_no rfl rfl hH ?_; simp only [Act.put, List.setIfInBounds_toArray, List.set_cons_zero, List.set_cons_succ]))
    refine sch_call rfl rfl (fun K hK => ?_)
    go_wp2_with (go_at_call 42; refine (Ht.out _ ?_).mono ?_; exact (Below.refl _ w).drew; rintro e w1 ⟨g, cap, rfl, hrt, hB1⟩)
    refine hK.out _ _ (Hcv.out _ hB1) ?_
    clear hK
    have hcv6 := conv_str (P := Tryd.prog) w1 _ _ _ Tryd.underlying26 Tryd.underlying5 Tryd.underlying9 _ tl (k + 4) cap hsl hrt
    refine sch_more (S' := fun W => W = w1) (fun W hW => by rw [hW]; exact Hcv.out w1 hB1) ?_
    clear hH
    have hH : w1 = w1 := rfl
    repeat (first | (refine sch_yes (v := ?_) rfl rfl ?_ hH ?_; rotate_left; (focus ((intro W hW; go_simp) <;> with_reducible rfl)); simp only [Act.put, List.setIfInBounds_toArray, List.set_cons_zero, List.set_cons_succ]) | (refine sch_no rfl rfl hH ?_; simp only [Act.put, List.setIfInBounds_toArray, List.set_cons_zero, List.set_cons_succ]))
    refine sch_done ?_
    go_wp2
    go_ret
    exact ⟨rfl, hB1⟩
  · have hgd : goodL bs = false := by unfold goodL; rw [hn]; simp; omega
    have Hgd := Lib.hid hgd
    clear hgd
    have hd : decide ((n : Int) < 4) = true := by rw [decide_eq_true_eq]; omega
    go_enter Tryd.func62, Tryd.ntmps62
    go_wp2
    go_ret
    exact ⟨by rw [Hgd.out]; rfl, Below.refl _ _⟩
end Go.Proofs.YthhkkiegfcofjaaDoor
