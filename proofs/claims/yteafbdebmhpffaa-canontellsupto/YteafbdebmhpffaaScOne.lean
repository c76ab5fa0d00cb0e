/- The contracts of the laws' own 'One' (the chapter's example) and 'Few' (at most so many types, and fields of each). No condition. -/
import Derived.Test.YteafbdebmhpffaaScMay
import Derived.Test.YteafbdebmhpffaaRetsAll
namespace Go.Proofs.Yteafbdebmhpffaa
open Go.RowKit

theorem info_sch0 : (Try.prog.info? 24).map (fun i => (i.zero, i.size)) = some (some (.agg #[.slice none 0 0]), 1) := by kernel_rfl
theorem info_fld0 : (Try.prog.info? 48).map (fun i => (i.zero, i.size)) = some (some (.agg #[.string ⟨#[]⟩, .int .i64 0, .string ⟨#[]⟩]), 3) := by kernel_rfl
/-- The chapter's example. -/
def oneS : Sch := [([97], [([110], 2, []), ([111], 5, [97])])]

def oneF : List Value := [.string ⟨#[110]⟩, .int .i64 2, .string ⟨#[]⟩, .string ⟨#[111]⟩, .int .i64 5, .string ⟨#[97]⟩]

set_option maxRecDepth 100000 in
set_option maxHeartbeats 1000000 in
theorem sone_any (w : World) : Calls Try.prog 30 #[] w fun e w' => ∃ A c, e = .returned (.agg #[.slice A 1 c]) ∧ rSch (All w') w' [.slice A 1 c] oneS ∧ Below w.heap.size w w' := by
  obtain ⟨hz, hsz⟩ := zero_of_info info_sch0
  go_enter Try.func30, Try.ntmps30
  go_wp2
  have b0 := ((Blk.new w 24 [.slice (some ⟨w.heap.size + 1 + 1, 0, none⟩) 1 1]).alloc (.cells oneF.toArray 48)).alloc (.cells #[.string ⟨#[97]⟩, .slice (some ⟨w.heap.size + 1, 0, none⟩) 2 2] 51)
  have b1 := (Blk.new (w.alloc (.cells #[.slice (some ⟨w.heap.size + 1 + 1, 0, none⟩) 1 1] 24)) 48 oneF).alloc (.cells #[.string ⟨#[97]⟩, .slice (some ⟨w.heap.size + 1, 0, none⟩) 2 2] 51)
  have b2 := Blk.new ((w.alloc (.cells #[.slice (some ⟨w.heap.size + 1 + 1, 0, none⟩) 1 1] 24)).alloc (.cells oneF.toArray 48)) 51 [.string ⟨#[97]⟩, .slice (some ⟨w.heap.size + 1, 0, none⟩) 2 2]
  have hB : Below w.heap.size w (((w.alloc (.cells #[.slice (some ⟨w.heap.size + 1 + 1, 0, none⟩) 1 1] 24)).alloc (.cells oneF.toArray 48)).alloc (.cells #[.string ⟨#[97]⟩, .slice (some ⟨w.heap.size + 1, 0, none⟩) 2 2] 51)) := (((Below.refl _ w).alloc (Nat.le_refl _) _).alloc (by simp) _).alloc (by simp; omega) _
  simp only [World.size_alloc] at b1 b2
  refine ret_cell0 rfl b0 Try.underlying24 rfl hsz rfl rfl ?_
  refine ⟨_, _, rfl, ?_, hB⟩
  refine ⟨_, _, [.string ⟨#[97]⟩, .slice (some ⟨w.heap.size + 1, 0, none⟩) 2 2], rfl, Nat.le_refl _, by decide, b2.rd, ?_⟩
  refine Chunks.one rfl (rTyp_mk (t := ([97], [([110], 2, []), ([111], 5, [97])])) rfl (by decide) ?_)
  refine ⟨_, _, oneF, rfl, Nat.le_refl _, by decide, b1.rd, ?_⟩
  exact (Chunks.one (size := 3) (cs := [.string ⟨#[110]⟩, .int .i64 2, .string ⟨#[]⟩]) (a := ([110], 2, [])) rfl (rFld_mk rfl rfl (by decide) (by decide) (by decide))).append
    (Chunks.one (size := 3) (cs := [.string ⟨#[111]⟩, .int .i64 5, .string ⟨#[97]⟩]) (a := ([111], 5, [97])) rfl (rFld_mk rfl rfl (by decide) (by decide) (by decide)))

/-- At most so many types, and fields of each. -/
def fewS (s : Sch) (m : Nat) : Bool := s.all (fun t => decide (t.2.length ≤ m)) && decide (s.length ≤ m)
set_option maxRecDepth 100000 in
set_option maxHeartbeats 1000000 in
theorem sfew_any (A : Option Addr) (N c : Nat) (l : Sch) (m : Nat) (w : World) (h : rSch (All w) w [.slice A N c] l) :
    Calls Try.prog 31 #[.agg #[.slice A N c], .int .i64 (m : Int)] w fun e w' => e = .returned (.bool (fewS l m)) ∧ Below w.heap.size w w' := by
  obtain ⟨hN, hNc, hcm⟩ := sch_len h
  simp only [maxLen] at hcm
  have hB0 : Below w.heap.size w (w.alloc (.cells #[.slice A N c] 24)) := (Below.refl _ w).alloc (Nat.le_refl _) _
  have h0 := sch_below hB0 h
  have c0 := (Blk.new w 24 [.slice A N c]).cell (j := 0) rfl
  have hf : fewS l m = (l.all (fun t => decide (t.2.length ≤ m)) && decide (N ≤ m)) := by rw [fewS, hN]
  have Hf := Lib.hid hf
  clear hf h
  go_enter Try.func31, Try.ntmps31
  go_wp2
  generalize w.alloc (.cells #[.slice A N c] 24) = w1 at *
  go_loop [5] (fun iv => ∃ i : Nat, i ≤ N ∧ iv = .int .i64 (i : Int) ∧ ∀ t ∈ l.take i, t.2.length ≤ m) (fun iv => N - (intOf iv).toNat)
  case atStart => exact ⟨0, by omega, rfl, by simp⟩
  case round =>
    obtain ⟨i, hi, rfl, hall⟩ := hrel
    by_cases hin : i < N
    · have hli : l[i]? = some l[i] := List.getElem?_eq_getElem (by omega)
      obtain ⟨b, off, s, A2, c2, rfl, hb, hx1, hx2, _, _, hfl⟩ := typ_at h0 hli
      have hlm : l[i].2.length ≤ 9223372036854775807 := by
        have := flds_len hfl
        simp only [maxLen] at this
        omega
      have hmem : l[i] ∈ l := List.getElem_mem _
      have htk : l.take (i + 1) = l.take i ++ [l[i]] := by rw [List.take_add_one, hli]; rfl
      have Hmem := Lib.hid hmem
      have Htk := Lib.hid htk
      have Hall := Lib.hid hall
      clear hmem htk hall hli hfl
      generalize l[i] = t at *
      have hil : (i : Int) < (N : Int) := by omega
      have hi0 : (0 : Int) ≤ (i : Int) := by omega
      by_cases hp : t.2.length ≤ m
      · have hp' : decide ((m : Int) < (t.2.length : Int)) = false := decide_eq_false (by omega)
        have Hn : Hid (∀ t ∈ l.take (i + 1), t.2.length ≤ m) := Lib.hid (fun x hx => by
          rw [Htk.out, List.mem_append, List.mem_singleton] at hx
          rcases hx with hx | rfl
          · exact Hall.out x hx
          · exact hp)
        clear Hall Htk Hmem
        generalize t.2.length = n at *
        go_wp2
        go_round
        case rel => exact ⟨i + 1, by omega, by go_num, Hn.out⟩
        case measure => simp [intOf]; omega
      · have hp' : decide ((m : Int) < (t.2.length : Int)) = true := decide_eq_true (by omega)
        have Hn : Hid (fewS l m = false) := Lib.hid (by
          rw [Hf.out, Bool.and_eq_false_iff, List.all_eq_false]
          exact .inl ⟨t, Hmem.out, by simpa using hp⟩)
        clear Hall Htk Hmem
        generalize t.2.length = n at *
        go_wp2
        go_ret
        exact ⟨by rw [Hn.out]; rfl, hB0⟩
    · obtain rfl : i = N := by omega
      have hr : fewS l m = decide (i ≤ m) := by
        rw [Hf.out]
        have : l.all (fun t => decide (t.2.length ≤ m)) = true := List.all_eq_true.2 fun t ht => decide_eq_true (hall t (by rw [List.take_of_length_le (by omega)]; exact ht))
        rw [this, Bool.true_and]
      have Hr := Lib.hid hr
      clear hr hall Hf
      go_wp2
      go_ret
      exact ⟨by rw [Hr.out]; simp, hB0⟩
end Go.Proofs.Yteafbdebmhpffaa
