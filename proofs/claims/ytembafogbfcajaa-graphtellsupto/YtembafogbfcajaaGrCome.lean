/- The contract of what comeTo goes through the objects by: a set of ids, that grows by all that one comes to. Condition: a graph that may be. -/
import Derived.Test.YtembafogbfcajaaGrComePlain
import Derived.Test.YtembafogbfcajaaGrHave
import Derived.Test.YtembafogbfcajaaGrRow
import Derived.Test.YtembafogbfcajaaFork
import Derived.Test.YtembafogbfcajaaSched
import Derived.Maps.OwnSet
import Derived.Deep.DeepCutAuto
namespace Go.Proofs.Ytembafogbfcajaa
open Go.RowKit Go.Maps

theorem come_law : Keyed Try.prog 3 := int_keyed Try.underlying3
theorem come_zero (w : World) : (zeroValue 74).run Try.prog w = .ok (.agg #[]) w := by kernel_rfl
/-- The map in the block b has the keys M. -/
def SetM (w : World) (b : Nat) (M : List Int) : Prop := ∃ D : DataW Unit, w.ownsMap Try.prog 3 unitElem b M.length D ∧ ∀ x, (Lit.int .i64 x).wf = true → Maps.has D (.int .i64 x) = decide (x ∈ M)
theorem SetM.kept {w w' : World} {b : Nat} {M : List Int} {row : Option Nat} (h : SetM w b M) (hg : w.grownBy w' row) (hn : some b ≠ row) : SetM w' b M := by
  obtain ⟨D, h1, h2⟩ := h
  exact ⟨D, h1.kept hg hn, h2⟩
theorem below_grown {w w' : World} (h : Below w.heap.size w w') (row : Option Nat) : w.grownBy w' row := ⟨h.os, h.tape, h.output, h.size, fun b hb _ => h.block b hb⟩
theorem SetM.below {w w' : World} {b : Nat} {M : List Int} (h : SetM w b M) (hB : Below w.heap.size w w') : SetM w' b M := h.kept (below_grown hB none) (by simp)
theorem SetM.add {D : DataW Unit} {w : World} {b : Nat} {M : List Int} {x : Int} (h : w.ownsMap Try.prog 3 unitElem b (M.length + 1) (D.put (.int .i64 x) (.agg []))) (hm : IsMap D) (hh : ∀ y, (Lit.int .i64 y).wf = true → Maps.has D (.int .i64 y) = decide (y ∈ M)) : SetM w b (M ++ [x]) := by
  refine ⟨_, by rw [List.length_append]; exact h, fun y hy => ?_⟩
  by_cases e : y = x
  · subst e
    rw [has_put_same hm (by trivial)]
    simp
  · rw [has_put_other (by simpa using e), hh y hy]
    simp [e]

/-- What the walk finds in memory: the graph's box, the set's and the closure's cells, the graph itself, all of it apart from the set's block Mb. -/
structure CW (A B C : Option Addr) (N c M d K e : Nat) (g : Gr) (Gb Mc Vc Mb : Nat) (w : World) : Prop where
  gb : Blk w Gb 28 [.slice A N c, .slice B M d, .slice C K e]
  mc : w.cell? ⟨Mc, 0, none⟩ = some (.map (some Mb))
  vc : w.cell? ⟨Vc, 0, none⟩ = some (.func (.func 73) #[] #[.pointer (some ⟨Mc, 0, none⟩), .pointer (some ⟨Gb, 0, none⟩), .pointer (some ⟨Vc, 0, none⟩)])
  rd : rGr (fun b => b < w.heap.size ∧ b ≠ Mb) w [.slice A N c, .slice B M d, .slice C K e] g
  ne : Gb ≠ Mb ∧ Mc ≠ Mb ∧ Vc ≠ Mb
section
variable {A B C : Option Addr} {N c M d K e : Nat} {g : Gr} {Gb Mc Vc Mb : Nat} {w w' : World}
theorem CW.to (h : CW A B C N c M d K e g Gb Mc Vc Mb w) (hg : w.grownBy w' (some Mb)) : CW A B C N c M d K e g Gb Mc Vc Mb w' := by
  obtain ⟨n1, n2, n3⟩ := h.ne
  exact ⟨(hg.block _ h.gb.lt (by simpa using n1)).trans h.gb, hg.cell h.mc (by simpa using n2), hg.cell h.vc (by simpa using n3),
    rGr_stays.to (fun b hb => ⟨⟨Nat.lt_of_lt_of_le hb.1 hg.size, hb.2⟩, hg.block b hb.1 (by simpa using hb.2)⟩) h.rd, h.ne⟩
theorem CW.below (h : CW A B C N c M d K e g Gb Mc Vc Mb w) (hB : Below w.heap.size w w') : CW A B C N c M d K e g Gb Mc Vc Mb w' := h.to (below_grown hB _)
theorem CW.all (h : CW A B C N c M d K e g Gb Mc Vc Mb w) : rGr (All w) w [.slice A N c, .slice B M d, .slice C K e] g := rGr_stays.to (Keeps.mono fun _ hb => hb.1) h.rd
end
/-- What a call of the walk leaves. -/
abbrev Visits (g : Gr) (Mb : Nat) (id : Int) (L : List Int) (w : World) (e : Ending) (w' : World) : Prop :=
  e = .returned (.tuple #[]) ∧ ∃ L', SetM w' Mb L' ∧ L'.length + cntG g.2.1 L' ≤ g.2.1.length ∧ Dfs g L L' id ∧ w.grownBy w' (some Mb)

set_option maxRecDepth 100000 in
set_option maxHeartbeats 2000000 in
theorem visit_skip (A B C : Option Addr) (N c M d K e : Nat) (g : Gr) (Gb Mc Vc Mb : Nat) (id : Int) (L : List Int) (w : World) (hid : (Lit.int .i64 id).wf = true) (hL : L.length + cntG g.2.1 L ≤ g.2.1.length) (hC : CW A B C N c M d K e g Gb Mc Vc Mb w) (hS : SetM w Mb L) (hsk : id = -1 ∨ id ∈ L) :
    Calls Try.prog 73 #[.int .i64 id, .pointer (some ⟨Mc, 0, none⟩), .pointer (some ⟨Gb, 0, none⟩), .pointer (some ⟨Vc, 0, none⟩)] w (Visits g Mb id L w) := by
  have Hd := Lib.hid (Dfs.skip (g := g) hsk)
  have HS := Lib.hid hS
  obtain ⟨D, hown, hhas⟩ := hS
  have hkey : keyOf Try.prog 3 (.int .i64 id) = some (.int .i64 id) := keyOf_int_mk Try.underlying3 hid
  have hh := hhas id hid
  have m1 := hC.mc
  have hmlt := hown.lt
  clear hhas hC
  by_cases hm : id ∈ L
  · rw [decide_eq_true hm] at hh
    clear hm hsk
    go_enter Try.func73, Try.ntmps73
    go_wp2_with (first | (at_lookup; refine wpList_lookup_own_unit _ rfl _ _ 71 rfl 3 74 come_law rfl (come_zero _) Mb L.length D rfl hown _ _ rfl hkey ?_; rw [hh]) | fail)
    go_end0
    exact ⟨rfl, L, HS.out.kept (World.grownBy_alloc _ _ none) (by simp), hL, Hd.out, World.grownBy_alloc _ _ _⟩
  · rw [decide_eq_false hm] at hh
    have h1 : (id == -1) = true := by simp [hsk.resolve_right hm]
    clear hm hsk
    go_enter Try.func73, Try.ntmps73
    go_wp2_with (first | (at_lookup; refine wpList_lookup_own_unit _ rfl _ _ 71 rfl 3 74 come_law rfl (come_zero _) Mb L.length D rfl hown _ _ rfl hkey ?_; rw [hh]) | fail)
    go_end0
    exact ⟨rfl, L, HS.out.kept (World.grownBy_alloc _ _ none) (by simp), hL, Hd.out, World.grownBy_alloc _ _ _⟩
end Go.Proofs.Ytembafogbfcajaa
