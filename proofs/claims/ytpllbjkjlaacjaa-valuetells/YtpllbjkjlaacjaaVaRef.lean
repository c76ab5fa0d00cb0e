/- The contracts of the document's own Get and All: at every slice of bytes they tell what 'getL' and 'allL' tell, and change nothing that was there. -/
import Derived.Test.YtpllbjkjlaacjaaVaPut
import Derived.Test.YtpllbjkjlaacjaaVaGet
import Derived.Test.YtpllbjkjlaacjaaAppend
import Derived.Test.YtpllbjkjlaacjaaSched
namespace Go.Proofs.Ytpllbjkjlaacjaa
open Go.RowKit

theorem getL_of_put {bs : List Nat} {n k : Nat} (hn : n < 18446744073709551616) (h : vputL n = bs.take k) : getL bs = (n, (vputL n).length) := by
  have := getL_put n (bs.drop k) hn
  rw [h, List.take_append_drop] at this
  rw [this, h]

theorem wrap_mul_step (acc d p : Nat) : IntKind.u64.wrap ((acc : Int) + IntKind.u64.wrap ((d : Int) % 128 * (p : Int))) = (((acc + d % 128 * p) % 18446744073709551616 : Nat) : Int) := by
  have e : (d : Int) % 128 * (p : Int) = ((d % 128 * p : Nat) : Int) := by rw [Int.natCast_mul]; rfl
  rw [e, IntKind.wrap_u64, IntKind.wrap_u64]
  generalize d % 128 * p = x
  omega
theorem wrap_by_step (p : Nat) : IntKind.u64.wrap ((p : Int) * 128) = ((p * 128 % 18446744073709551616 : Nat) : Int) := by
  rw [IntKind.wrap_u64]
  omega

/-- Where the document's own Get stands, k bytes on: the number so far, the place's worth. -/
def RefAt (bs : List Nat) (k acc p : Nat) : Prop :=
  (k ≤ 9 ∧ acc < 128 ^ k ∧ p = 128 ^ k ∧ getGo k acc (bs.drop k) = getL bs) ∨ (k = 10 ∧ getL bs = (0, 0))
theorem refAt_start (bs : List Nat) : RefAt bs 0 0 1 := .inl ⟨by omega, by simp, rfl, rfl⟩
/-- A byte that is not the last one. -/
theorem refAt_next {bs : List Nat} {k acc p : Nat} (hk : k < bs.length) (hk9 : k < 10) (h : RefAt bs k acc p) (hd : 128 ≤ bs.getD k 0) :
    RefAt bs (k + 1) ((acc + bs.getD k 0 % 128 * p) % 18446744073709551616) (p * 128 % 18446744073709551616) := by
  rcases h with ⟨h9, hacc, rfl, hg⟩ | ⟨h10, _⟩
  · have hdr : bs.drop k = bs.getD k 0 :: bs.drop (k + 1) := by rw [List.drop_eq_getElem_cons hk]; simp [hk]
    rw [hdr, getGo] at hg
    generalize bs.getD k 0 = d at *
    by_cases hk' : k = 9
    · rw [if_pos ⟨hk', by omega⟩] at hg
      exact .inr ⟨by omega, hg.symm⟩
    · rw [if_neg (by omega), if_pos hd] at hg
      have hs := acc_lt acc d k hacc (by omega)
      refine .inl ⟨by omega, ?_, ?_, ?_⟩
      · rw [Nat.mod_eq_of_lt (by omega)]; exact hs.1
      · rw [← Nat.pow_succ, Nat.mod_eq_of_lt (by omega)]
      · rw [Nat.mod_eq_of_lt (by omega)]; exact hg
  · omega
/-- A last byte: what is read is just that number, or nothing. -/
theorem refAt_last {bs : List Nat} {k acc p : Nat} (hk : k < bs.length) (hk9 : k < 10) (h : RefAt bs k acc p) (hd : bs.getD k 0 < 128) (hne : (getL bs).2 ≠ 0) :
    getL bs = ((acc + bs.getD k 0 % 128 * p) % 18446744073709551616, k + 1) := by
  rcases h with ⟨h9, hacc, rfl, hg⟩ | ⟨h10, _⟩
  · have hdr : bs.drop k = bs.getD k 0 :: bs.drop (k + 1) := by rw [List.drop_eq_getElem_cons hk]; simp [hk]
    rw [hdr, getGo] at hg
    generalize bs.getD k 0 = d at *
    by_cases h1 : k = 9 ∧ 1 < d
    · rw [if_pos h1] at hg; rw [← hg] at hne; simp at hne
    · rw [if_neg h1, if_neg (by omega)] at hg
      by_cases h2 : d = 0 ∧ 0 < k
      · rw [if_pos h2] at hg; rw [← hg] at hne; simp at hne
      · rw [if_neg h2] at hg
        rw [← hg]
        have hlt : acc + d % 128 * 128 ^ k < 18446744073709551616 := by
          by_cases hk' : k = 9
          · subst hk'
            have e9 : (128 : Nat) ^ 9 = 9223372036854775808 := by decide
            rw [e9] at hacc ⊢
            omega
          · have := acc_lt acc d k hacc (by omega); omega
        rw [Nat.mod_eq_of_lt hlt]
  · omega

theorem rput_form (N : Nat) (w : World) (hN : N < 18446744073709551616) :
    Calls Try.prog 22 #[.int .u64 (N : Int)] w fun e w' => ∃ g cap, e = .returned (.slice (some ⟨g, 0, none⟩) (vputL N).length cap) ∧ Rd w' (some ⟨g, 0, none⟩) (u8s (vputL N)) ∧ Below w.heap.size w w' :=
  (vrput_any N w hN).mono fun e w' ⟨v, he, hown, hb⟩ => by
    obtain ⟨g, cap, rfl, hg, hlt, hcap, hc⟩ := own_open hown (putL_pos N)
    exact ⟨g, cap, he, Rd.own hown, hb⟩

set_option maxRecDepth 100000 in
set_option maxHeartbeats 1000000 in
theorem vrget_any (A : Option Addr) (c : Nat) (bs : List Nat) (w : World) (hl : bs.length ≤ c) (hb : ∀ x ∈ bs, x < 256) (hr : Rd w A (u8s bs)) (hlen : bs.length ≤ 140737488355328) :
    Calls Try.prog 25 #[.slice A bs.length c] w fun e w' => e = .returned (.tuple #[.int .u64 ((getL bs).1 : Int), .int .i64 ((getL bs).2 : Int)]) ∧ Below w.heap.size w w' := by
  have hz := getL_zero bs
  have Hz := Lib.hid hz
  clear hz
  go_enter Try.func25, Try.ntmps25
  go_wp2
  go_loop [4, 5, 6] (fun n p i => ∃ k acc pp : Nat, k ≤ bs.length ∧ k ≤ 10 ∧ acc < 18446744073709551616 ∧ pp < 18446744073709551616 ∧ i = .int .i64 k ∧ n = .int .u64 acc ∧ p = .int .u64 pp ∧ RefAt bs k acc pp ∧ (k < bs.length ∨ k = bs.length)) (fun _ _ i => bs.length - (intOf i).toNat)
  case atStart => exact ⟨0, 0, 1, Nat.zero_le _, by omega, by omega, by omega, rfl, rfl, rfl, refAt_start bs, by omega⟩
  case round =>
    obtain ⟨k, acc, pp, hk, hk10, hacc, hpp, rfl, rfl, rfl, hat, _⟩ := hrel
    by_cases hlt : k < bs.length ∧ k < 10
    · obtain ⟨hlt, hk9⟩ := hlt
      obtain ⟨b, off, rfl, hblt, hcell⟩ := u8s_at hr hlt
      have hgd : bs[k] = bs.getD k 0 := by simp [hlt]
      rw [hgd] at hcell
      have hd : bs.getD k 0 < 256 := by rw [← hgd]; exact hb _ (List.getElem_mem hlt)
      have hnext := refAt_next hlt hk9 hat
      have hlast := refAt_last hlt hk9 hat
      generalize bs.getD k 0 = d at *
      have hn' : (acc + d % 128 * pp) % 18446744073709551616 < 18446744073709551616 := Nat.mod_lt _ (by omega)
      have hp' : pp * 128 % 18446744073709551616 < 18446744073709551616 := Nat.mod_lt _ (by omega)
      have hw1 := wrap_mul_step acc d pp
      have hw2 := wrap_by_step pp
      generalize (acc + d % 128 * pp) % 18446744073709551616 = n' at *
      generalize pp * 128 % 18446744073709551616 = p' at *
      have Hnext := Lib.hid hnext
      have Hlast := Lib.hid hlast
      clear hnext hlast hgd hat
      have hk1 : (k : Int) < (bs.length : Int) := by omega
      have hk2 : decide ((k : Int) < (10 : Int)) = true := by simp; omega
      by_cases hd128 : 128 ≤ d
      · go_wp2
        go_round
        case rel => exact ⟨k + 1, n', p', by omega, by omega, hn', hp', by go_num, rfl, rfl, Hnext.out hd128, by omega⟩
        case measure => simp [intOf]; omega
      · have hput := fun W => rput_form n' W hn'
        have hRt : ∀ W, Below w.heap.size w W → Rd W (some ⟨b, off, none⟩) (u8s (bs.take (k + 1))) := fun W hW => by rw [← u8s_take]; exact (hr.below hW).take _
        have hltk : (bs.take (k + 1)).length = k + 1 := by rw [List.length_take]; omega
        have hcv : ∀ W, Below w.heap.size w W → (convert 26 9 (.slice (some ⟨b, off, none⟩) (k + 1) c)).run Try.prog W = .ok (.string (strB (bs.take (k + 1)))) W := fun W hW =>
          conv_str W _ _ _ Try.underlying26 Try.underlying5 Try.underlying9 _ (bs.take (k + 1)) (k + 1) c hltk (hRt W hW)
        have hcv0 := hcv w.drew (Below.refl _ w).drew
        have hby := vputL_byte n'
        have hbt : ∀ x ∈ bs.take (k + 1), x < 256 := fun x hx => hb x (List.mem_of_mem_take hx)
        have htest : (getL bs).2 ≠ 0 → vputL n' = bs.take (k + 1) ∧ getL bs = (n', k + 1) := fun hne => by
          have h1 := Hlast.out (by omega) hne
          have h2 := getL_back bs hb hne
          rw [h1] at h2
          exact ⟨h2.2.2.1, h1⟩
        have htest2 : (getL bs).2 = 0 → vputL n' ≠ bs.take (k + 1) := fun h0 h => by
          have := getL_of_put hn' h
          rw [this] at h0
          have := putL_pos n'
          simp at h0
          rw [h0] at this
          simp at this
        have hout : ∃ ok : Bool, ((strB (vputL n')).toList == (strB (bs.take (k + 1))).toList) = ok ∧ (ok = true → getL bs = (n', k + 1)) ∧ (ok = false → getL bs = (0, 0)) := by
          by_cases hne : (getL bs).2 = 0
          · refine ⟨false, ?_, (fun h => by cases h), (fun _ => Prod.ext (Hz.out hne) (by exact hne))⟩
            rw [beq_eq_false_iff_ne]
            intro h
            apply htest2 hne
            apply strB_inj hby hbt
            rw [ByteArray.toList_eq, ByteArray.toList_eq] at h
            exact Go.WideShapes.bytes_inj h
          · have := htest hne
            exact ⟨true, (by rw [this.1]; simp), (fun _ => this.2), (fun h => by cases h)⟩
        obtain ⟨ok, hok, hok1, hok2⟩ := hout
        generalize hP : vputL n' = pn at *
        have Hput := Lib.hid hput
        have Hcv := Lib.hid hcv
        have Hok1 := Lib.hid hok1
        have Hok2 := Lib.hid hok2
        clear hput hcv hok1 hok2 htest htest2 hby hbt hltk hRt hP hr
        have hk3 : k + 1 ≤ c := by omega
        have hk4 : (k : Int) + 1 ≤ (c : Int) := by omega
        have hk5 : ((k : Int) + 1).toNat = k + 1 := by omega
        have hk6 : IntKind.i64.wrap ((k : Int) + 1) = (k : Int) + 1 := IntWalk.i64_in _ (by omega)
        have hk7 : (0 : Int) ≤ (k : Int) + 1 := by omega
        go_wp2_with fail
        refine sch_start [(0, true), (3, true), (4, true), (5, true), (6, true), (7, true), (1, false), (2, true), (8, true)]
          (fun W => (convert 26 9 (.slice (some ⟨b, off, none⟩) (k + 1) c)).run Try.prog W = .ok (.string (strB (bs.take (k + 1)))) W) (by kernel_rfl) rfl (by kernel_rfl) (fun _ _ _ _ _ h => h) hcv0 (fun hH => ?_)
        repeat (first
          | (refine sch_yes (v := ?_) rfl rfl ?_ hH ?_; rotate_left; (focus ((intro W hW; go_simp) <;> with_reducible rfl)); simp only [Act.put, List.setIfInBounds_toArray, List.set_cons_zero, List.set_cons_succ])
          | (refine sch_no rfl rfl hH ?_; simp only [Act.put, List.setIfInBounds_toArray, List.set_cons_zero, List.set_cons_succ]))
        refine sch_call rfl rfl (fun K hK => ?_)
        go_wp2_with (go_at_call 22; refine (Hput.out _).mono ?_; rintro e w6 ⟨g6, cap6, rfl, hrd6, hB6⟩)
        have hB7 : Below w.heap.size w w6 := (Below.refl _ w).drew.trans hB6
        refine hK.out _ _ (Hcv.out w6 hB7) ?_
        clear hK
        have hcv6 := conv_str (P := Try.prog) w6 _ _ _ Try.underlying26 Try.underlying5 Try.underlying9 _ pn pn.length cap6 rfl hrd6
        refine sch_more (S' := fun W => W = w6) (fun W hW => by rw [hW]; exact Hcv.out w6 hB7) ?_
        have hH : w6 = w6 := rfl
        repeat (first
          | (refine sch_yes (v := ?_) rfl rfl ?_ hH ?_; rotate_left; (focus ((intro W hW; go_simp) <;> with_reducible rfl)); simp only [Act.put, List.setIfInBounds_toArray, List.set_cons_zero, List.set_cons_succ])
          | (refine sch_no rfl rfl hH ?_; simp only [Act.put, List.setIfInBounds_toArray, List.set_cons_zero, List.set_cons_succ]))
        refine sch_done ?_
        have hB8 : Below w.heap.size w w6 := hB7
        cases ok with
        | true =>
          have he := Hok1.out rfl
          have He := Lib.hid he
          clear he
          go_wp2
          go_ret2
          exact ⟨ret_two (by rw [He.out]) (by rw [He.out]; simp), hB8⟩
        | false =>
          have he := Hok2.out rfl
          have He := Lib.hid he
          clear he
          go_wp2
          go_ret2
          exact ⟨ret_two (by rw [He.out]; rfl) (by rw [He.out]; rfl), hB8⟩
    · have hres : getL bs = (0, 0) := by
        rcases hat with ⟨h9, _, _, hg⟩ | ⟨h10, hg⟩
        · have : bs.drop k = [] := List.drop_eq_nil_of_le (by omega)
          rw [this] at hg
          exact hg.symm
        · exact hg
      have Hres := Lib.hid hres
      clear hres hat
      by_cases hk' : k < bs.length
      all_goals
        go_wp2
        go_ret2
        exact ⟨ret_two (by rw [Hres.out]; rfl) (by rw [Hres.out]; rfl), Below.refl _ _⟩
end Go.Proofs.Ytpllbjkjlaacjaa
