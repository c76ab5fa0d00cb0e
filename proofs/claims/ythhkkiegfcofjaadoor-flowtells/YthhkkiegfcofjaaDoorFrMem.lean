/- Frames in memory; the contract of slices.Clone of bytes. Condition: a slice's own bound. -/
import Derived.Test.YthhkkiegfcofjaaDoorCrRef
import Derived.Test.YthhkkiegfcofjaaDoorAppendS
import Derived.Test.YthhkkiegfcofjaaDoorFrPlain
import Derived.Lib.LazyBuf
namespace Go.Proofs.YthhkkiegfcofjaaDoor
open Go.RowKit

/-- A frame's two cells. -/
abbrev rFra : Reader Fra := rBoth 1 (rInt .i64) rBytes
theorem rFra_stays : Stays rFra := rBoth_stays (rInt_stays _) rBytes_stays
theorem rFra_open {S : Nat → Prop} {w : World} {cs : List Value} {f : Fra} (h : rFra S w cs f) : ∃ A c, cs = [.int .i64 f.1, .slice A f.2.length c] ∧ f.2.length ≤ c ∧ c ≤ maxLen ∧ (∀ x ∈ f.2, x < 256) ∧ (Lit.int .i64 f.1).wf = true ∧ RdIn S w A (u8s f.2) := by
  obtain ⟨_, ⟨h1, hw⟩, A, c, h2, h3, h4, h5, h6⟩ := h
  refine ⟨A, c, ?_, h3, h4, h5, hw, h6⟩
  rw [← List.take_append_drop 1 cs, h1, h2]
  rfl
theorem rFra_mk {S : Nat → Prop} {w : World} {f : Fra} {A : Option Addr} {c : Nat} (hc : f.2.length ≤ c) (hm : c ≤ maxLen) (hb : ∀ x ∈ f.2, x < 256) (hw : (Lit.int .i64 f.1).wf = true) (hr : RdIn S w A (u8s f.2)) : rFra S w [.int .i64 f.1, .slice A f.2.length c] f :=
  ⟨rfl, ⟨rfl, hw⟩, A, c, rfl, hc, hm, hb, hr⟩

/-- A frame that came in, written out. -/
theorem fra_arg {w : World} {cs : Array Value} {f : Fra} (h : rFra (All w) w cs.toList f) : ∃ A c, cs = #[.int .i64 f.1, .slice A f.2.length c] ∧ f.2.length ≤ c ∧ c ≤ maxLen ∧ (∀ x ∈ f.2, x < 256) ∧ (-9223372036854775808 ≤ f.1 ∧ f.1 ≤ 9223372036854775807) ∧ Rd w A (u8s f.2) := by
  obtain ⟨A, c, h1, h2, h3, h4, h5, h6⟩ := rFra_open h
  exact ⟨A, c, by cases cs; simpa using h1, h2, h3, h4, bounds_i64 h5, h6⟩

set_option maxRecDepth 100000 in
set_option maxHeartbeats 400000 in
theorem clone_any (A : Option Addr) (c n : Nat) (bs : List Nat) (w : World) (hn : bs.length = n) (hr : Rd w A (u8s bs)) (hlen : n ≤ 140737488355328) :
    Calls Tryd.prog 51 #[.slice A n c] w fun e w' => ∃ A' c', e = .returned (.slice A' n c') ∧ n ≤ c' ∧ c' ≤ maxLen ∧ RdIn (fun b => w.heap.size ≤ b ∧ b < w'.heap.size) w' A' (u8s bs) ∧ Below w.heap.size w w' := by
  obtain ⟨i0, hi, hz0, hz1, hz2⟩ := info_parts info_u8
  cases A with
  | none =>
    have h0 : bs = [] := by
      rcases hr with h | ⟨_, _, h, _⟩
      · exact List.eq_nil_of_length_eq_zero (by simpa using congrArg List.length h)
      · cases h
    subst h0
    obtain rfl : n = 0 := by simpa using hn.symm
    have hnil : ∀ W : World, (binOp .eql 26 (.slice none 0 c) (.slice none 0 0)).run Tryd.prog W = .ok (.bool true) W := fun W => run_eql_slice_nil W _ _ _ _ _ Tryd.underlying26
    go_enter Tryd.func51, Tryd.ntmps51
    go_wp2
    go_ret
    exact ⟨none, 0, rfl, Nat.le_refl _, Nat.zero_le _, .inl rfl, Below.refl _ _⟩
  | some ad =>
    have hown : (w.alloc (.cells #[] 5)).ownsRow w.heap.size 5 1 (.slice (some ⟨w.heap.size, 0, none⟩) 0 0) 0 [] := World.ownsRow_made w #[] 0 (Nat.le_refl _) (by simp [maxLen]) rfl
    have hB0 : Below w.heap.size w (w.alloc (.cells #[] 5)) := (Below.refl _ w).alloc (Nat.le_refl _) _
    have hr0 := hr.below hB0
    have hnil : ∀ W : World, (binOp .eql 26 (.slice (some ad) n c) (.slice none 0 0)).run Tryd.prog W = .ok (.bool false) W := fun W => run_eql_slice_nil W _ _ _ _ _ Tryd.underlying26
    go_enter Tryd.func51, Tryd.ntmps51
    go_wp2_with (first
      | (at_builtin; refine wpList_app rfl (.tmp 5) (.tmp 6) 26 rfl w.heap.size 5 i0 (.int .u8 0) 1 Tryd.underlying26 hi hz0 hz1 hz2 rfl (.slice (some ⟨w.heap.size, 0, none⟩) 0 0) 0 [] rfl hown (some ad) n c (u8s bs) rfl (by rw [u8s_length, hn]) hr0 (u8s_one _) (by simp only [maxLen]; omega) (by omega) (by simp) ?_; intro v3 w3 hown3 hg3 _; simp only [Nat.zero_add, List.nil_append] at hown3)
      | fail)
    go_ret
    have hB : Below w.heap.size w w3 := hB0.grown hg3 (by simp) (fun k hk => by simp [Value.ownBlock] at hk; omega)
    rcases hown3.2 with ⟨rfl, h0⟩ | ⟨g, cap, cur, rfl, hgb, hgc, hnc, hm, _⟩
    · subst h0
      exact ⟨none, 0, rfl, Nat.le_refl _, Nat.zero_le _, .inl (List.eq_nil_of_length_eq_zero (by rw [u8s_length, hn])), hB⟩
    · refine ⟨some ⟨g, 0, none⟩, cap, rfl, hnc, hm, ?_, hB⟩
      rcases Rd.own hown3 with h | ⟨b, off, e, hb, hc⟩
      · exact .inl h
      · injection e with e
        injection e with e1 e2
        subst e1 e2
        exact .inr ⟨g, 0, rfl, ⟨hgb, hb⟩, hc⟩
end Go.Proofs.YthhkkiegfcofjaaDoor
