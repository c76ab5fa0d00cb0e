/- Flows in memory: a flow's two cells, a list of parts, the part at a place. The contracts of flow's tooLong, of slices.IndexFunc and slices.ContainsFunc with it, and of flow.May. No condition. -/
import Derived.Test.YthhkkiegfcofjaaDoorFlPlain
import Derived.Test.YthhkkiegfcofjaaDoorFrRows
namespace Go.Proofs.YthhkkiegfcofjaaDoor
open Go.RowKit

abbrev rPts : Reader (List (List Nat)) := rSlice 1 rBytes
abbrev rFlo : Reader Flo := rBoth 1 (rInt .u32) rPts
theorem rPts_stays : Stays rPts := rSlice_stays rBytes_stays
theorem rFlo_stays : Stays rFlo := rBoth_stays (rInt_stays _) rPts_stays
theorem pts_len {S : Nat → Prop} {w : World} {A0 : Option Addr} {n c : Nat} {l : List (List Nat)} (h : rPts S w [.slice A0 n c] l) : l.length = n ∧ n ≤ c ∧ c ≤ maxLen := by
  obtain ⟨A1, c1, xs, hv, hlc, hcm, _⟩ := h
  simp at hv
  omega
/-- The part at i of a list of parts: its cell. -/
theorem pts_at {S : Nat → Prop} {w : World} {A0 : Option Addr} {n c : Nat} {l : List (List Nat)} {i : Nat} {p : List Nat} (h : rPts S w [.slice A0 n c] l) (hi : l[i]? = some p) : ∃ b off A c', A0 = some ⟨b, off, none⟩ ∧ S b ∧ w.cell? ⟨b, off + i, none⟩ = some (.slice A p.length c') ∧ p.length ≤ c' ∧ c' ≤ maxLen ∧ (∀ x ∈ p, x < 256) ∧ RdIn S w A (u8s p) := by
  obtain ⟨A1, c1, xs, hv, hlc, hcm, hr, hl, hch⟩ := h
  obtain ⟨A, c', hcs, hc1, hc2, hby, hrd⟩ := hch i p hi
  have hlt := (List.getElem?_eq_some_iff.1 hi).1
  have hA : A0 = A1 := by simp at hv; exact hv.1
  subst hA
  rcases hr with h | ⟨b, off, rfl, hb, hc⟩
  · rw [h] at hl; simp at hl; omega
  · have h0 : xs[i]? = some (.slice A p.length c') := by
      have := congrArg (fun l : List Value => l[0]?) hcs
      simpa [List.getElem?_take, List.getElem?_drop] using this
    exact ⟨b, off, A, c', rfl, hb, hc _ _ h0, hc1, hc2, hby, hrd⟩
/-- A flow that came in, written out. -/
theorem flo_arg {w : World} {cs : Array Value} {f : Flo} (h : rFlo (All w) w cs.toList f) : ∃ A c, cs = #[.int .u32 f.1, .slice A f.2.length c] ∧ f.2.length ≤ c ∧ c ≤ maxLen ∧ (0 ≤ f.1 ∧ f.1 ≤ 4294967295) ∧ (∀ p ∈ f.2, ∀ x ∈ p, x < 256) ∧ rPts (All w) w [.slice A f.2.length c] f.2 := by
  obtain ⟨_, ⟨h1, hw⟩, h2⟩ := h
  obtain ⟨A, c, xs, h3, h4, h5, h6⟩ := h2
  have hp : rPts (All w) w [.slice A f.2.length c] f.2 := ⟨A, c, xs, rfl, h4, h5, h6⟩
  refine ⟨A, c, ?_, h4, h5, bounds_u32 hw, fun p hp' => ?_, hp⟩
  · have : cs.toList = [.int .u32 f.1, .slice A f.2.length c] := by
      rw [← List.take_append_drop 1 cs.toList, h1, h3]; rfl
    cases cs; simpa using this
  · obtain ⟨i, hi⟩ := List.getElem?_of_mem hp'
    obtain ⟨_, _, _, _, _, _, _, _, _, hby, _⟩ := pts_at hp hi
    exact hby

theorem tooLong_any (A : Option Addr) (n c : Nat) (w : World) : Calls Tryd.prog 34 #[.slice A n c] w fun e w' => e = .returned (.bool (decide (200 < n))) ∧ w = w' := by
  by_cases hn : 200 < n
  all_goals
    go_enter Tryd.func34, Tryd.ntmps34
    go_wp2
    go_ret
    exact ⟨by simp [hn]; omega, rfl⟩

set_option maxRecDepth 100000 in
theorem indexLong_any (A : Option Addr) (n c : Nat) (l : List (List Nat)) (w : World) (h : rPts (All w) w [.slice A n c] l) :
    Calls Tryd.prog 49 #[.slice A n c, .func (.func 34) #[] #[]] w fun e w' => (∃ k : Int, e = .returned (.int .i64 k) ∧ (decide (0 ≤ k) = !(l.all fun p => decide (p.length ≤ 200)))) ∧ w = w' := by
  obtain ⟨hn, hnc, hcm⟩ := pts_len h
  have hcm2 := hcm
  simp only [maxLen] at hcm2
  go_enter Tryd.func49, Tryd.ntmps49
  go_wp2
  go_loop [8] (fun iv => ∃ i : Nat, i ≤ n ∧ iv = .int .i64 (i : Int) ∧ ∀ p ∈ l.take i, p.length ≤ 200) (fun iv => n - (intOf iv).toNat)
  case atStart => exact ⟨0, by omega, rfl, by simp⟩
  case round =>
    obtain ⟨i, hi, rfl, hall⟩ := hrel
    by_cases hin : i < n
    · have hli : l[i]? = some l[i] := List.getElem?_eq_getElem (by omega)
      obtain ⟨b, off, A1, c1, rfl, hb, hx, _, _, _, _⟩ := pts_at h hli
      have T1 := Lib.hid (tooLong_any A1 l[i].length c1 w)
      have hmem : l[i] ∈ l := List.getElem_mem _
      have htk : l.take (i + 1) = l.take i ++ [l[i]] := by rw [List.take_add_one, hli]; rfl
      have Hmem := Lib.hid hmem
      have Htk := Lib.hid htk
      have Hall := Lib.hid hall
      clear hmem htk hall hli
      generalize l[i] = p at *
      have hil : (i : Int) < (n : Int) := by omega
      have hi0 : (0 : Int) ≤ (i : Int) := by omega
      by_cases hp : 200 < p.length
      · rw [decide_eq_true hp] at T1
        go_wp2_with (first | (go_at_call 34; refine T1.out.mono ?_; rintro e w1 ⟨rfl, rfl⟩) | fail)
        go_ret
        refine ⟨⟨_, rfl, ?_⟩, rfl⟩
        rw [decide_eq_true hi0]
        symm
        rw [Bool.not_eq_true', List.all_eq_false]
        exact ⟨p, Hmem.out, by simpa using hp⟩
      · rw [decide_eq_false hp] at T1
        go_wp2_with (first | (go_at_call 34; refine T1.out.mono ?_; rintro e w1 ⟨rfl, rfl⟩) | fail)
        go_round
        case rel => 
          refine ⟨i + 1, by omega, by go_num, fun q hq => ?_⟩
          rw [Htk.out] at hq
          rcases List.mem_append.1 hq with hq | hq
          · exact Hall.out q hq
          · simp at hq; subst hq; omega
        case measure => simp [intOf]; omega
    · obtain rfl : i = n := by omega
      have hl : l.all (fun p => decide (p.length ≤ 200)) = true := by
        rw [List.all_eq_true]
        intro p hp
        rw [decide_eq_true_iff]
        exact hall p (by rw [List.take_of_length_le (by omega)]; exact hp)
      have Hl := Lib.hid hl
      clear hl hall
      go_wp2
      go_ret
      exact ⟨⟨_, rfl, by rw [Hl.out]; rfl⟩, rfl⟩

theorem containsLong_any (A : Option Addr) (n c : Nat) (l : List (List Nat)) (w : World) (h : rPts (All w) w [.slice A n c] l) :
    Calls Tryd.prog 33 #[.slice A n c, .func (.func 34) #[] #[]] w fun e w' => e = .returned (.bool (!(l.all fun p => decide (p.length ≤ 200)))) ∧ w = w' := by
  have T1 := Lib.hid (indexLong_any A n c l w h)
  go_enter Tryd.func33, Tryd.ntmps33
  go_wp2_with (first | (go_at_call 49; refine T1.out.mono ?_; rintro e w1 ⟨⟨k, rfl, hk⟩, rfl⟩) | fail)
  go_ret
  exact ⟨by rw [← hk]; rfl, rfl⟩

theorem may_any (A : Option Addr) (n c : Nat) (f : Flo) (w : World) (h : rPts (All w) w [.slice A n c] f.2) :
    Calls Tryd.prog 21 #[.agg #[.int .u32 f.1, .slice A n c]] w fun e w' => e = .returned (.bool (mayB f)) ∧ Below w.heap.size w w' := by
  obtain ⟨hn, hnc, hcm⟩ := pts_len h
  have hcm2 := hcm
  simp only [maxLen] at hcm2
  have hB : ∀ u, Below w.heap.size w (w.alloc (.cells u 25)) := fun u => (Below.refl _ w).alloc (Nat.le_refl _) _
  have T1 := Lib.hid (containsLong_any A n c f.2 (w.alloc (.cells #[.int .u32 f.1, .slice A n c] 25)) (rPts_stays.to (Keeps.below (hB _)) h))
  have hm : mayB f = (decide (n ≤ 40) && f.2.all fun p => decide (p.length ≤ 200)) := by rw [mayB, hn]
  have Hm := Lib.hid hm
  clear hm
  generalize f.2.all (fun p => decide (p.length ≤ 200)) = q at *
  by_cases h40 : n ≤ 40
  · have hd : decide ((n : Int) ≤ 40) = true := by simp; omega
    have hd2 : decide (n ≤ 40) = true := by simpa using h40
    rw [hd2] at Hm
    go_enter Tryd.func21, Tryd.ntmps21
    go_wp2_with (first | (go_at_call 33; refine T1.out.mono ?_; rintro e w1 ⟨rfl, rfl⟩) | fail)
    go_ret
    exact ⟨by rw [Hm.out]; cases q <;> rfl, hB _⟩
  · have hd : decide ((n : Int) ≤ 40) = false := by simp; omega
    have hd2 : decide (n ≤ 40) = false := by simpa using h40
    rw [hd2] at Hm
    go_enter Tryd.func21, Tryd.ntmps21
    go_wp2
    go_ret
    exact ⟨by rw [Hm.out]; rfl, hB _⟩
end Go.Proofs.YthhkkiegfcofjaaDoor
