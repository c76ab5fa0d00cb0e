/- The contracts of crc.tail, crc.Seal, bytes.Equal and crc.Good: at every slice of bytes what 'sealL' and 'goodL' tell; nothing that was there is changed. Condition: a slice's own bound (2^47 bytes together with the four that are put behind). -/
import Derived.Test.YthhkkiegfcofjaaDoorCrWith
import Derived.Test.YthhkkiegfcofjaaDoorConcat
import Derived.Deep.QuietTactic
import Derived.BigQuiet
namespace Go.Proofs.YthhkkiegfcofjaaDoor
open Go.RowKit

set_option maxRecDepth 100000 in
set_option maxHeartbeats 400000 in
theorem tail_any (A : Option Addr) (c n : Nat) (bs : List Nat) (w : World) (hn : bs.length = n) (hb : ∀ x ∈ bs, x < 256) (hr : Rd w A (u8s bs)) (hlen : n ≤ 140737488355328) :
    Calls Tryd.prog 54 #[.slice A n c] w fun e w' => ∃ g, e = .returned (.slice (some ⟨g, 0, none⟩) 4 4) ∧ w.heap.size ≤ g ∧ g < w'.heap.size ∧ Rd w' (some ⟨g, 0, none⟩) (u8s (le4 (sumL bs))) ∧ Below w.heap.size w w' := by
  have H := Lib.hid (sum_any A c n bs w hn hb hr hlen)
  have hlt := sumL_lt hb
  generalize sumL bs = s at *
  go_enter Tryd.func54, Tryd.ntmps54
  go_wp2_with fail
  refine H.out.mono ?_
  rintro e w1 ⟨rfl, hB1⟩
  go_wp2
  go_ret
  refine ⟨w1.heap.size, rfl, hB1.size, by simp, ?_, hB1.alloc hB1.size _⟩
  have := lit_rd w1 (le4 s)
  have e : (u8s (le4 s)).toArray = #[Value.int .u8 ((s : Int) % 256), .int .u8 ((s : Int) / 256 % 256), .int .u8 ((s : Int) / 65536 % 256), .int .u8 ((s : Int) / 16777216 % 256)] := rfl
  have e2 : (s : Int) / 16777216 % 256 = (s : Int) / 16777216 := by omega
  rw [e, e2] at this
  exact this

set_option maxRecDepth 100000 in
set_option maxHeartbeats 400000 in
theorem seal_any (A : Option Addr) (c n : Nat) (bs : List Nat) (w : World) (hn : bs.length = n) (hb : ∀ x ∈ bs, x < 256) (hr : Rd w A (u8s bs)) (hlen : n + 4 ≤ 140737488355328) :
    Calls Tryd.prog 40 #[.slice A n c] w fun e w' => ∃ v, e = .returned v ∧ w'.ownsRow w.heap.size 5 1 v (sealL bs).length (u8s (sealL bs)) ∧ Below w.heap.size w w' := by
  have H := Lib.hid (tail_any A c n bs w hn hb hr (by omega))
  go_enter Tryd.func40, Tryd.ntmps40
  go_wp2_with fail
  refine H.out.mono ?_
  rintro e w1 ⟨g, rfl, hg, hgl, hrt, hB1⟩
  have hr1 := hr.below hB1
  have hbl := Blk.new w1 26 [.slice A n c, .slice (some ⟨g, 0, none⟩) 4 4]
  have hA : Below w1.heap.size w1 (w1.alloc (.cells #[.slice A n c, .slice (some ⟨g, 0, none⟩) 4 4] 26)) := (Below.refl _ w1).alloc (Nat.le_refl _) _
  have hcc := concat2_any w1.heap.size A (some ⟨g, 0, none⟩) n c 4 4 bs (le4 (sumL bs)) (w1.alloc (.cells #[.slice A n c, .slice (some ⟨g, 0, none⟩) 4 4] 26)) hn rfl (by omega) hlen (hr1.below hA) (hrt.below hA) (by simp) (hbl.cell (j := 0) rfl) (hbl.cell (j := 1) rfl)
  have Hcc := Lib.hid hcc
  clear hcc hbl
  go_wp2_with fail
  refine Hcc.out.mono ?_
  rintro e w2 ⟨v, rfl, hown, hB2⟩
  go_wp2
  go_ret
  refine ⟨v, rfl, ?_, hB1.trans ((hA.trans (hB2.mono hA.size)).mono hB1.size)⟩
  rcases hown with ⟨h1, h2⟩
  refine ⟨h1, ?_⟩
  rcases h2 with h2 | ⟨g', cap, cur, e, hg', h3⟩
  · exact .inl h2
  · exact .inr ⟨g', cap, cur, e, Nat.le_trans hB1.size (Nat.le_trans hA.size hg'), h3⟩
/-- By its form: an address, cells, and that it is the call's own. -/
theorem seal_form (A : Option Addr) (c n : Nat) (bs : List Nat) (w : World) (hn : bs.length = n) (hb : ∀ x ∈ bs, x < 256) (hr : Rd w A (u8s bs)) (hlen : n + 4 ≤ 140737488355328) :
    Calls Tryd.prog 40 #[.slice A n c] w fun e w' => ∃ g cap, e = .returned (.slice (some ⟨g, 0, none⟩) (n + 4) cap) ∧ n + 4 ≤ cap ∧ w.heap.size ≤ g ∧ g < w'.heap.size ∧ Rd w' (some ⟨g, 0, none⟩) (u8s (sealL bs)) ∧ Below w.heap.size w w' :=
  (seal_any A c n bs w hn hb hr hlen).mono fun e w' ⟨v, he, hown, hB⟩ => by
    have hl : (sealL bs).length = n + 4 := by rw [sealL_length, hn]
    rw [hl] at hown
    obtain ⟨g, cap, rfl, hg, hlt, hcap, hc⟩ := own_open hown (by omega)
    exact ⟨g, cap, he, hcap, hg, hlt, Rd.own hown, hB⟩

theorem str_eq {xs ys : List Nat} (hx : ∀ x ∈ xs, x < 256) (hy : ∀ x ∈ ys, x < 256) : ((strB xs).toList == (strB ys).toList) = (xs == ys) := by
  by_cases h : xs = ys
  · subst h; simp
  · have h1 : (xs == ys) = false := by simpa using h
    rw [h1, beq_eq_false_iff_ne]
    intro e
    apply h
    apply strB_inj hx hy
    rw [ByteArray.toList_eq, ByteArray.toList_eq] at e
    exact Go.WideShapes.bytes_inj e
set_option maxRecDepth 100000 in
set_option maxHeartbeats 400000 in
theorem equal_any (A B : Option Addr) (n c m d : Nat) (xs ys : List Nat) (w : World) (hn : xs.length = n) (hm : ys.length = m) (hxb : ∀ x ∈ xs, x < 256) (hyb : ∀ x ∈ ys, x < 256) (hx : Rd w A (u8s xs)) (hy : Rd w B (u8s ys)) :
    Calls Tryd.prog 36 #[.slice A n c, .slice B m d] w fun e w' => e = .returned (.bool (xs == ys)) ∧ w = w' := by
  have h1 := conv_str (P := Tryd.prog) w _ _ _ Tryd.underlying26 Tryd.underlying5 Tryd.underlying9 A xs n c hn hx
  have h2 := conv_str (P := Tryd.prog) w _ _ _ Tryd.underlying26 Tryd.underlying5 Tryd.underlying9 B ys m d hm hy
  have h3 := str_eq hxb hyb
  go_enter Tryd.func36, Tryd.ntmps36
  go_wp2
  go_ret
  exact ⟨rfl, rfl⟩

set_option maxRecDepth 100000 in
set_option maxHeartbeats 1000000 in
theorem good_any (A : Option Addr) (c n : Nat) (bs : List Nat) (w : World) (hn : bs.length = n) (hc : n ≤ c) (hb : ∀ x ∈ bs, x < 256) (hr : Rd w A (u8s bs)) (hlen : n ≤ 140737488355328) :
    Calls Tryd.prog 50 #[.slice A n c] w fun e w' => e = .returned (.bool (goodL bs)) ∧ Below w.heap.size w w' := by
  by_cases h4 : 4 ≤ n
  · obtain ⟨k, rfl⟩ : ∃ k, n = k + 4 := ⟨n - 4, by omega⟩
    obtain ⟨b, off, rfl, hblt, _⟩ := hr.at (k := 0) (by simp; omega)
    have hgd : goodL bs = (bs.drop k == le4 (sumL (bs.take k))) := by unfold goodL; rw [hn, Nat.add_sub_cancel]; simp
    have ht : ∀ W, Below w.heap.size w W → Calls Tryd.prog 54 #[.slice (some ⟨b, off, none⟩) k c] W fun e w' => ∃ g, e = .returned (.slice (some ⟨g, 0, none⟩) 4 4) ∧ Rd w' (some ⟨g, 0, none⟩) (u8s (le4 (sumL (bs.take k)))) ∧ Below w.heap.size w w' := fun W hW =>
      (tail_any (some ⟨b, off, none⟩) c k (bs.take k) W (by rw [List.length_take]; omega) (fun x hx => hb x (List.mem_of_mem_take hx)) (by rw [← u8s_take]; exact (hr.below hW).take k) (by omega)).mono
        fun e w' ⟨g, he, _, _, h1, h2⟩ => ⟨g, he, h1, hW.trans (h2.mono hW.size)⟩
    have hq : ∀ W g, Below w.heap.size w W → Rd W (some ⟨g, 0, none⟩) (u8s (le4 (sumL (bs.take k)))) → Calls Tryd.prog 36 #[.slice (some ⟨b, off + k, none⟩) 4 (c - k), .slice (some ⟨g, 0, none⟩) 4 4] W fun e w' => e = .returned (.bool (goodL bs)) ∧ W = w' := fun W g hW hg => by
      rw [hgd]
      exact equal_any _ _ 4 (c - k) 4 4 (bs.drop k) _ W (by rw [List.length_drop]; omega) rfl (fun x hx => hb x (List.mem_of_mem_drop hx)) (le4_byte _) (by rw [← u8s_drop]; exact (hr.below hW).drop k) hg
    have Ht := Lib.hid ht
    have Hq := Lib.hid hq
    clear ht hq hgd
    generalize goodL bs = ok at *
    generalize u8s (le4 (sumL (bs.take k))) = tl at *
    have hk1 : (0 : Int) ≤ (k : Int) := by omega
    have hk2 : decide ((0 : Int) ≤ (k : Int)) = true := by simp
    have hk3 : k ≤ c := by omega
    have hk4 : ¬ c = k := by omega
    have hk5 : (k : Int) ≤ (k : Int) + 4 := by omega
    go_enter Tryd.func50, Tryd.ntmps50
    go_wp2_with fail
    refine sch_start [(0, true), (1, true), (2, true), (3, true), (4, true), (5, true), (6, true), (7, true), (8, true), (9, false), (10, false), (11, true), (12, true)]
      (fun _ => True) (by kernel_rfl) rfl (by kernel_rfl) (fun _ _ _ _ _ h => h) trivial (fun hH => ?_)
    repeat (first | (refine sch_yes (v := ?_) rfl rfl ?_ hH ?_; rotate_left; (focus ((intro W hW; go_simp) <;> with_reducible rfl)); simp only [Act.put, List.setIfInBounds_toArray, List.set_cons_zero, List.set_cons_succ]) | (refine sch_no rfl rfl hH ?_; simp only [Act.put, List.setIfInBounds_toArray, List.set_cons_zero, List.set_cons_succ]))
    refine sch_call rfl rfl (fun K hK => ?_)
    go_wp2_with (go_at_call 54; refine (Ht.out _ ?_).mono ?_; exact (Below.refl _ w).drew; rintro e w1 ⟨g, rfl, hrt, hB1⟩)
    refine hK.out _ _ trivial ?_
    clear hK
    repeat (first | (refine sch_yes (v := ?_) rfl rfl ?_ hH ?_; rotate_left; (focus ((intro W hW; go_simp) <;> with_reducible rfl)); simp only [Act.put, List.setIfInBounds_toArray, List.set_cons_zero, List.set_cons_succ]) | (refine sch_no rfl rfl hH ?_; simp only [Act.put, List.setIfInBounds_toArray, List.set_cons_zero, List.set_cons_succ]))
    refine sch_call rfl rfl (fun K hK => ?_)
    go_wp2_with (go_at_call 36; refine (Hq.out _ _ hB1 hrt).mono ?_; rintro e w2 ⟨rfl, rfl⟩)
    refine hK.out _ _ trivial ?_
    clear hK
    repeat (first | (refine sch_yes (v := ?_) rfl rfl ?_ hH ?_; rotate_left; (focus ((intro W hW; go_simp) <;> with_reducible rfl)); simp only [Act.put, List.setIfInBounds_toArray, List.set_cons_zero, List.set_cons_succ]) | (refine sch_no rfl rfl hH ?_; simp only [Act.put, List.setIfInBounds_toArray, List.set_cons_zero, List.set_cons_succ]))
    refine sch_done ?_
    go_wp2
    go_ret
    exact ⟨rfl, hB1⟩
  · have hgd : goodL bs = false := by unfold goodL; rw [hn]; simp; omega
    have Hgd := Lib.hid hgd
    clear hgd
    have hd : decide ((4 : Int) ≤ (n : Int)) = false := by rw [decide_eq_false_iff_not]; omega
    go_enter Tryd.func50, Tryd.ntmps50
    go_wp2_with fail
    go_quiet (fail)
    go_wp2
    go_ret
    exact ⟨by rw [Hgd.out]; rfl, below_drewN (Below.refl _ _) _⟩
end Go.Proofs.YthhkkiegfcofjaaDoor
