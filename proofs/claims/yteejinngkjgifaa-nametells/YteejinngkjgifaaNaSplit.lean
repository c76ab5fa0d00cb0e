/- The contracts of name's Join, pair and Split: what the plain functions tell; nothing that was there is changed. No condition but a text's own bound. -/
import Derived.Test.YteejinngkjgifaaNaLess
import Derived.Test.YteejinngkjgifaaNaClone
import Derived.Test.YteejinngkjgifaaSched
import Derived.OwnWalk
namespace Go.Proofs.Yteejinngkjgifaa
open Go.RowKit

theorem encL_len : ∀ cs : List Nat, (encL cs).length ≤ 2 * cs.length
  | [] => by simp [encL]
  | c :: cs => by
    have := encL_len cs
    rw [encL, List.length_append, List.length_cons]
    have : (encS c).length ≤ 2 := by unfold encS; split <;> simp
    omega
theorem may_size {s : ByteArray} (h : mayN (byt s) = true) : s.size ≤ 16 := by
  have h1 := encL_len (sgn (byt s))
  rw [may_enc h, byt_length] at h1
  have := (nameS_ok h).2.1
  omega
theorem byt_dot : byt ⟨#[46]⟩ = [46] := rfl

set_option maxRecDepth 100000 in
set_option maxHeartbeats 1000000 in
theorem join_any (a b : ByteArray) (w : World) : Calls Try.prog 18 #[.string a, .string b] w fun e w' => ∃ t, e = .returned (.string t) ∧ byt t = joinN (byt a) (byt b) ∧ Below w.heap.size w w' := by
  have HA := Lib.hid (fun W => may_any a W)
  have HB := Lib.hid (fun W => may_any b W)
  have Hf : Hid (¬ (mayN (byt a) = true ∧ mayN (byt b) = true) → joinN (byt a) (byt b) = []) := fun h => by rw [joinN, if_neg h]
  have Ht : Hid (mayN (byt a) = true → mayN (byt b) = true → byt (a ++ ⟨#[46]⟩ ++ b) = joinN (byt a) (byt b) ∧ a.size ≤ 16 ∧ b.size ≤ 16) := fun h1 h2 =>
    ⟨by rw [joinN, if_pos ⟨h1, h2⟩, byt_append, byt_append, byt_dot, List.append_assoc]; rfl, may_size h1, may_size h2⟩
  generalize joinN (byt a) (byt b) = j at *
  generalize mayN (byt a) = ma at *
  generalize mayN (byt b) = mb at *
  go_enter Try.func18, Try.ntmps18
  go_wp2_with fail
  refine (HA.out _).mono ?_
  rintro e w1 ⟨rfl, hB1⟩
  cases ma
  · go_wp2
    go_ret
    exact ⟨_, rfl, (Hf.out (by simp)).symm, hB1⟩
  · go_wp2_with fail
    refine (HB.out _).mono ?_
    rintro e w2 ⟨rfl, hB2⟩
    cases mb
    · go_wp2
      go_ret
      exact ⟨_, rfl, (Hf.out (by simp)).symm, hB1.trans (hB2.mono hB1.size)⟩
    · obtain ⟨e, h1, h2⟩ := Ht.out (by simp) (by simp)
      have E := Lib.hid e
      clear e Ht Hf
      go_wp2
      go_ret
      exact ⟨_, rfl, E.out, hB1.trans (hB2.mono hB1.size)⟩

set_option maxRecDepth 100000 in
set_option maxHeartbeats 1000000 in
theorem pair_any (a b : ByteArray) (w : World) : Calls Try.prog 20 #[.string a, .string b] w fun e w' => ∃ x y, e = .returned (.tuple #[.string x, .string y, .bool (mayN (byt a) && mayN (byt b))]) ∧
    byt x = (if (mayN (byt a) && mayN (byt b)) = true then byt a else []) ∧ byt y = (if (mayN (byt a) && mayN (byt b)) = true then byt b else []) ∧ Below w.heap.size w w' := by
  have HA := Lib.hid (fun W => may_any a W)
  have HB := Lib.hid (fun W => may_any b W)
  have Ht : Hid (mayN (byt a) = true → mayN (byt b) = true → a.size ≤ 16 ∧ b.size ≤ 16) := fun h1 h2 => ⟨may_size h1, may_size h2⟩
  generalize mayN (byt a) = ma at *
  generalize mayN (byt b) = mb at *
  go_enter Try.func20, Try.ntmps20
  go_wp2_with fail
  refine (HA.out _).mono ?_
  rintro e w1 ⟨rfl, hB1⟩
  cases ma
  · go_wp2
    go_ret3
    exact ⟨_, _, rfl, rfl, rfl, hB1⟩
  · go_wp2_with fail
    refine (HB.out _).mono ?_
    rintro e w2 ⟨rfl, hB2⟩
    cases mb
    · go_wp2
      go_ret3
      exact ⟨_, _, rfl, rfl, rfl, hB1.trans (hB2.mono hB1.size)⟩
    · obtain ⟨h1, h2⟩ := Ht.out (by simp) (by simp)
      clear Ht
      go_wp2_with fail
      refine (clone_any a _ (by omega)).mono ?_
      rintro e w3 ⟨rfl, hB3⟩
      go_wp2_with fail
      refine (clone_any b _ (by omega)).mono ?_
      rintro e w4 ⟨rfl, hB4⟩
      go_wp2
      go_ret3
      refine ⟨_, _, rfl, rfl, rfl, ?_⟩
      exact ((hB1.trans (hB2.mono hB1.size)).trans (hB3.mono (Nat.le_trans hB1.size hB2.size))).trans (hB4.mono (Nat.le_trans hB1.size (Nat.le_trans hB2.size hB3.size)))

theorem sig_dot {l : List Nat} (hl : l ≠ []) (h : (sig l).1 = 46) : ∃ t, l = 46 :: t := by
  have := sig_back hl (by omega)
  rw [h, encS, if_pos (by omega)] at this
  exact ⟨_, this⟩
theorem dot_sig (t : List Nat) : sig (46 :: t) = (46, 1) := by rw [sig]; exact sig_1 (by simp)
theorem dot_at {l t : List Nat} {pos : Nat} (h : 46 ∉ l.take pos) (ht : l.drop pos = 46 :: t) : dotN l = pos ∧ pos < l.length ∧ l.drop (pos + 1) = t := by
  have hlt : pos < l.length := by
    rcases Nat.lt_or_ge pos l.length with h | h
    · exact h
    · rw [List.drop_of_length_le h] at ht; cases ht
  have e : l = l.take pos ++ 46 :: t := by rw [← ht, List.take_append_drop]
  refine ⟨?_, hlt, ?_⟩
  · rw [e, dot_first (by exact h), List.length_take]; omega
  · rw [← List.drop_drop, ht]; rfl
theorem dot_none {l : List Nat} (h : 46 ∉ l) : canN l = false ∧ splitN l = ([], []) := by
  have hd : dotN l = l.length := by
    rw [dotN, List.findIdx_eq_length]
    intro x hx
    exact beq_eq_false_iff_ne.2 fun e => h (e ▸ hx)
  have hc : canN l = false := by rw [canN, hd]; simp
  exact ⟨hc, by rw [splitN, hc]; rfl⟩
theorem dot_next {l : List Nat} {pos : Nat} (h : 46 ∉ l.take pos) (hc : (sig (l.drop pos)).1 ≠ 46) : 46 ∉ l.take (pos + (sig (l.drop pos)).2) := by
  intro hm
  rw [List.take_add, List.mem_append] at hm
  rcases hm with hm | hm
  · exact h hm
  · generalize l.drop pos = q at *
    obtain ⟨k, hk, he⟩ := List.getElem_of_mem hm
    rw [List.length_take] at hk
    rw [List.getElem_take] at he
    have hg : q.getD k 0 = 46 := by rw [List.getD_eq_getElem?_getD, List.getElem?_eq_getElem (by omega), he]; rfl
    by_cases hk0 : k = 0
    · subst hk0
      apply hc
      rw [sig, hg, sig_1 (by omega)]
    · have := mid_of ((sig_wide q).2.2 k (by omega) (by omega))
      omega
/-- What is split at a point. -/
theorem split_at {l : List Nat} {pos : Nat} {t : List Nat} (h : 46 ∉ l.take pos) (ht : l.drop pos = 46 :: t) : canN l = (mayN (l.take pos) && mayN t) ∧
    splitN l = if (mayN (l.take pos) && mayN t) = true then (l.take pos, t) else ([], []) := by
  obtain ⟨h1, h2, h3⟩ := dot_at h ht
  have e : canN l = (mayN (l.take pos) && mayN t) := by rw [canN, h1, h3, decide_eq_true h2, Bool.true_and]
  exact ⟨e, by rw [splitN, e, h1, h3]⟩

set_option maxRecDepth 100000 in
set_option maxHeartbeats 2000000 in
theorem split_any (s : ByteArray) (w : World) (hs : s.size ≤ maxLen) : Calls Try.prog 10 #[.string s] w fun e w' => ∃ x y, e = .returned (.tuple #[.string x, .string y, .bool (canN (byt s))]) ∧
    byt x = (splitN (byt s)).1 ∧ byt y = (splitN (byt s)).2 ∧ Below w.heap.size w w' := by
  simp only [maxLen] at hs
  have HN := Lib.hid (dot_none (l := byt s))
  have HS := Lib.hid (fun pos t => split_at (l := byt s) (pos := pos) (t := t))
  generalize canN (byt s) = can at *
  generalize splitN (byt s) = sp at *
  go_enter Try.func10, Try.ntmps10
  go_wp2
  go_loopw [5] (fun _ w' => ∃ pos : Nat, w' = w.iter s pos ∧ Hid (46 ∉ (byt s).take pos)) (fun _ w' => s.size - w'.iterPos w.heap.size)
  case atStart => exact ⟨0, rfl, by show 46 ∉ _; simp⟩
  case round =>
    obtain ⟨pos, rfl, hno⟩ := hrel
    by_cases hp : pos < s.size
    · obtain ⟨c, n, hdec, hsig, _, hcl, hn1, hn2⟩ := sgn_at hp
      have hnx : ∀ ty, (Instr.next (.pointer (some ⟨w.heap.size, 0, none⟩)) true ty).run Try.prog (w.iter s pos) = _ := fun ty => run_next_any w s pos ty hp
      rw [hdec] at hnx
      clear hdec
      by_cases h46 : c = 46
      · subst h46
        obtain ⟨t, ht⟩ := sig_dot (drop_ne hp) (by rw [hsig])
        obtain ⟨hcan, hsp⟩ := HS.out pos t hno.out ht
        have h3 := (dot_at hno.out ht).2.2
        have hx : byt (s.extract 0 pos) = (byt s).take pos := by rw [byt_extract, List.drop_zero]
        have hy : byt (s.extract (pos + 1) s.size) = t := by rw [byt_extract, List.take_of_length_le (by simp), h3]
        have HP := Lib.hid (fun W => pair_any (s.extract 0 pos) (s.extract (pos + 1) s.size) W)
        rw [hx, hy, ← hcan] at HP
        rw [← hcan] at hsp
        have hsp1 : sp.1 = if can = true then (byt s).take pos else [] := by rw [hsp]; split <;> rfl
        have hsp2 : sp.2 = if can = true then t else [] := by rw [hsp]; split <;> rfl
        rw [← hsp1, ← hsp2] at HP
        clear HN HS hno hsig ht hcan hsp h3 hx hy hsp1 hsp2
        have hq1 : (0 : Int) ≤ (pos : Int) := by omega
        have hq2 : (pos : Int) ≤ (s.size : Int) := by omega
        have hq3 : IntKind.i64.wrap ((pos : Int) + 1) = (pos : Int) + 1 := IntWalk.i64_in _ (by omega)
        have hq4 : (pos : Int) + 1 ≤ (s.size : Int) := by omega
        have hq5 : (0 : Int) ≤ (pos : Int) + 1 := by omega
        go_wp2
        refine sch_start [(0, true), (1, true), (2, true), (3, true), (4, true), (5, true), (6, true), (7, false), (8, true), (9, true), (10, true), (11, true), (12, true), (13, true)]
          (fun _ => True) (by kernel_rfl) rfl (by kernel_rfl) (fun _ _ _ _ _ h => h) trivial (fun hH => ?_)
        repeat (first | (refine sch_yes (v := ?_) rfl rfl ?_ hH ?_; rotate_left; (focus ((intro W hW; go_simp) <;> with_reducible rfl)); simp only [Act.put, List.setIfInBounds_toArray, List.set_cons_zero, List.set_cons_succ]) | (refine sch_no rfl rfl hH ?_; simp only [Act.put, List.setIfInBounds_toArray, List.set_cons_zero, List.set_cons_succ]))
        refine sch_call rfl rfl (fun K hK => ?_)
        go_wp2_with (go_at_call 20; refine (HP.out _).mono ?_; rintro e w2 ⟨x, y, rfl, hx, hy, hB2⟩)
        refine hK.out _ _ trivial ?_
        clear hK
        repeat (first | (refine sch_yes (v := ?_) rfl rfl ?_ hH ?_; rotate_left; (focus ((intro W hW; go_simp) <;> with_reducible rfl)); simp only [Act.put, List.setIfInBounds_toArray, List.set_cons_zero, List.set_cons_succ]) | (refine sch_no rfl rfl hH ?_; simp only [Act.put, List.setIfInBounds_toArray, List.set_cons_zero, List.set_cons_succ]))
        refine sch_done ?_
        go_wp2
        go_ret3
        exact ⟨x, y, rfl, hx, hy, (below_iter w s (pos + n)).drew.trans (hB2.mono (by simp [World.iter]))⟩
      · have h46' : ((c : Int) == 46) = false := by simp; omega
        have hno2 := dot_next hno.out (by rw [hsig]; exact h46)
        rw [hsig] at hno2
        have Hno2 := Lib.hid hno2
        clear hno2 hsig HN HS hno
        go_wp2
        go_roundw
        case rel => exact ⟨pos + n, rfl, Hno2⟩
        case measure => simp; omega
    · have hnx : ∀ ty, (Instr.next (.pointer (some ⟨w.heap.size, 0, none⟩)) true ty).run Try.prog (w.iter s pos) = _ := fun ty => run_next_end w s pos ty hp
      have hno2 := hno.out
      rw [List.take_of_length_le (by simp; omega)] at hno2
      obtain ⟨rfl, rfl⟩ := HN.out hno2
      clear HN HS hno hno2
      go_wp2
      go_ret3
      exact ⟨_, _, rfl, rfl, rfl, below_iter _ _ _⟩
end Go.Proofs.Yteejinngkjgifaa
