/- The contract of the laws' One, where what it answers lies. No condition. -/
import Derived.Test.YteafbdebmhpffaaGrSweepAll
import Derived.Test.YteafbdebmhpffaaScOne
namespace Go.Proofs.Yteafbdebmhpffaa
open Go.RowKit

theorem one_may : mayS oneS = true := by decide
/-- A block's cells, read in blocks of S. -/
theorem blk_in {S : Nat → Prop} {w : World} {g : Nat} {t : TypeId} {cs : List Value} (h : Blk w g t cs) (hS : S g) : RdIn S w (some ⟨g, 0, none⟩) cs := .inr ⟨g, 0, rfl, hS, fun j u hu => by rw [Nat.zero_add]; exact h.cell hu⟩
set_option maxRecDepth 100000 in
set_option maxHeartbeats 1000000 in
theorem sone_own (w : World) : Calls Try.prog 30 #[] w fun e w' => ∃ A c, e = .returned (.agg #[.slice A 1 c]) ∧ rSch (fun b => w.heap.size ≤ b ∧ b < w'.heap.size) w' [.slice A 1 c] oneS ∧ Below w.heap.size w w' := by
  obtain ⟨hz, hsz⟩ := zero_of_info info_sch0
  go_enter Try.func30, Try.ntmps30
  go_wp2
  have b0 := ((Blk.new w 24 [.slice (some ⟨w.heap.size + 1 + 1, 0, none⟩) 1 1]).alloc (.cells oneF.toArray 48)).alloc (.cells #[.string ⟨#[97]⟩, .slice (some ⟨w.heap.size + 1, 0, none⟩) 2 2] 51)
  have b1 := (Blk.new (w.alloc (.cells #[.slice (some ⟨w.heap.size + 1 + 1, 0, none⟩) 1 1] 24)) 48 oneF).alloc (.cells #[.string ⟨#[97]⟩, .slice (some ⟨w.heap.size + 1, 0, none⟩) 2 2] 51)
  have b2 := Blk.new ((w.alloc (.cells #[.slice (some ⟨w.heap.size + 1 + 1, 0, none⟩) 1 1] 24)).alloc (.cells oneF.toArray 48)) 51 [.string ⟨#[97]⟩, .slice (some ⟨w.heap.size + 1, 0, none⟩) 2 2]
  have hB : Below w.heap.size w (((w.alloc (.cells #[.slice (some ⟨w.heap.size + 1 + 1, 0, none⟩) 1 1] 24)).alloc (.cells oneF.toArray 48)).alloc (.cells #[.string ⟨#[97]⟩, .slice (some ⟨w.heap.size + 1, 0, none⟩) 2 2] 51)) := (((Below.refl _ w).alloc (Nat.le_refl _) _).alloc (by simp) _).alloc (by simp; omega) _
  simp only [World.size_alloc] at b1 b2
  refine ret_cell0 rfl b0 Try.underlying24 rfl hsz rfl rfl ?_
  refine ⟨_, _, rfl, ?_, hB⟩
  refine ⟨_, _, [.string ⟨#[97]⟩, .slice (some ⟨w.heap.size + 1, 0, none⟩) 2 2], rfl, Nat.le_refl _, by decide, blk_in b2 ⟨by omega, b2.lt⟩, ?_⟩
  refine Chunks.one rfl (rTyp_mk (t := ([97], [([110], 2, []), ([111], 5, [97])])) rfl (by decide) ?_)
  refine ⟨_, _, oneF, rfl, Nat.le_refl _, by decide, blk_in b1 ⟨by omega, b1.lt⟩, ?_⟩
  exact (Chunks.one (size := 3) (cs := [.string ⟨#[110]⟩, .int .i64 2, .string ⟨#[]⟩]) (a := ([110], 2, [])) rfl (rFld_mk rfl rfl (by decide) (by decide) (by decide))).append
    (Chunks.one (size := 3) (cs := [.string ⟨#[111]⟩, .int .i64 5, .string ⟨#[97]⟩]) (a := ([111], 5, [97])) rfl (rFld_mk rfl rfl (by decide) (by decide) (by decide)))
end Go.Proofs.Yteafbdebmhpffaa
