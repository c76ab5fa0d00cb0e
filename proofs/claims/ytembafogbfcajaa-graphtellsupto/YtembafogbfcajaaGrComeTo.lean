/- The contract of graph's comeTo: a set of the ids that are come to. Condition: a graph that may be. -/
import Derived.Test.YtembafogbfcajaaGrVisit
import Derived.Laws.EntriesVeiled
namespace Go.Proofs.Ytembafogbfcajaa
open Go.RowKit Go.Maps

theorem four_boxes (w : World) (o1 o2 o3 o4 : Obj) : ((((w.alloc o1).alloc o2).alloc o3).alloc o4).heap[w.heap.size]? = some o1 ∧ ((((w.alloc o1).alloc o2).alloc o3).alloc o4).heap[w.heap.size + 1]? = some o2 ∧ ((((w.alloc o1).alloc o2).alloc o3).alloc o4).heap[w.heap.size + 2]? = some o3 ∧ ((((w.alloc o1).alloc o2).alloc o3).alloc o4).heap[w.heap.size + 3]? = some o4 := by
  have e1 : (w.alloc o1).heap.size = w.heap.size + 1 := by simp
  have e2 : ((w.alloc o1).alloc o2).heap.size = w.heap.size + 2 := by simp
  have e3 : (((w.alloc o1).alloc o2).alloc o3).heap.size = w.heap.size + 3 := by simp
  refine ⟨?_, ?_, ?_, ?_⟩
  · rw [Below.heap_alloc _ _ _ (by omega), Below.heap_alloc _ _ _ (by omega), Below.heap_alloc _ _ _ (by omega)]; exact heap_alloc_new w o1
  · rw [Below.heap_alloc _ _ _ (by omega), Below.heap_alloc _ _ _ (by omega), ← e1]; exact heap_alloc_new _ o2
  · rw [Below.heap_alloc _ _ _ (by omega), ← e2]; exact heap_alloc_new _ o3
  · rw [← e3]; exact heap_alloc_new _ o4
theorem cntG_nil (os : List Ob) : cntG os [] = os.length := by
  induction os with
  | nil => rfl
  | cons o os ih => rw [cntG_cons, ih, if_neg (by simp), List.length_cons]; omega

set_option maxRecDepth 100000 in
set_option maxHeartbeats 2000000 in
theorem comeTo_any (A B C : Option Addr) (N c M d K e : Nat) (g : Gr) (w : World) (h : rGr (All w) w [.slice A N c, .slice B M d, .slice C K e] g) (hmay : mayG g = true) :
    Calls Try.prog 44 #[.agg #[.slice A N c, .slice B M d, .slice C K e]] w fun e w' => ∃ Mb L, e = .returned (.map (some Mb)) ∧ SetM w' Mb L ∧ (∀ x, x ∈ L ↔ ComeG g x) ∧ w.heap.size ≤ Mb ∧ Below w.heap.size w w' := by
  have hmm := @run_makeMap Try.prog
  obtain ⟨hK, hKe, hem⟩ := slice_len (rGr_open h).2.2
  simp only [maxLen] at hem
  obtain ⟨q1, q2, q3, q4⟩ := four_boxes w (.cells #[.slice A N c, .slice B M d, .slice C K e] 28) (.map #[] 0) (.cells #[.map (some (w.heap.size + 1))] 71) (.cells #[.func (.func 73) #[] #[.pointer (some ⟨w.heap.size + 2, 0, none⟩), .pointer (some ⟨w.heap.size, 0, none⟩), .pointer (some ⟨w.heap.size + 3, 0, none⟩)]] 95)
  have HB := Lib.hid (fun o1 o2 o3 o4 => (((((Below.refl w.heap.size w).alloc (Nat.le_refl _) o1).alloc (by simp) o2).alloc (by simp; omega) o3).alloc (by simp; omega) o4 : Below w.heap.size w ((((w.alloc o1).alloc o2).alloc o3).alloc o4)))
  have Hown := Lib.hid (World.ownsMap_made (H := Unit) (w.alloc (.cells #[.slice A N c, .slice B M d, .slice C K e] 28)) Try.prog 3 unitElem)
  have HC0 := Lib.hid (CW.mk (g := g) q1 (Blk.cell (cs := [_]) q3 (j := 0) rfl) (Blk.cell (cs := [_]) q4 (j := 0) rfl) (rGr_stays.to (fun b hb => ⟨⟨Nat.lt_of_lt_of_le hb (HB.out _ _ _ _).size, by have : b < w.heap.size := hb; omega⟩, (HB.out _ _ _ _).block b hb⟩) h) ⟨by omega, by omega, by omega⟩)
  have e1 : (w.alloc (.cells #[.slice A N c, .slice B M d, .slice C K e] 28)).heap.size = w.heap.size + 1 := by simp
  rw [e1] at Hown
  have HS0 := Lib.hid (show SetM _ (w.heap.size + 1) [] from ⟨_, (Hown.out.alloc (.cells #[.map (some (w.heap.size + 1))] 71)).alloc (.cells #[.func (.func 73) #[] #[.pointer (some ⟨w.heap.size + 2, 0, none⟩), .pointer (some ⟨w.heap.size, 0, none⟩), .pointer (some ⟨w.heap.size + 3, 0, none⟩)]] 95), fun x _ => by simp [Maps.has]⟩)
  clear q1 q2 q3 q4 Hown e1
  have HK := Lib.hid (mayG_parts hmay).2.2.2.2
  have p4 : ∀ o1 o2 o3, Blk ((((w.alloc o1).alloc o2).alloc o3).alloc (.cells #[.nilFunc] 95)) (w.heap.size + 1 + 1 + 1) 95 [.nilFunc] := fun o1 o2 o3 => (four_boxes w o1 o2 o3 _).2.2.2
  have c4 := fun o1 o2 o3 => (p4 o1 o2 o3).cell (j := 0) rfl
  have f4 := fun o1 o2 o3 => (p4 o1 o2 o3).frozen 0
  clear h
  go_enter Try.func44, Try.ntmps44
  go_wp2
  go_loopw [12] (fun iv w' => ∃ (i : Nat) (L : List Int), i ≤ K ∧ iv = .int .i64 (i : Int) ∧ Hid (CW A B C N c M d K e g w.heap.size (w.heap.size + 2) (w.heap.size + 3) (w.heap.size + 1) w') ∧ Hid (SetM w' (w.heap.size + 1) L) ∧ Hid (L.length + cntG g.2.1 L ≤ g.2.1.length ∧ DfsR g L i) ∧ Hid (Below w.heap.size w w')) (fun iv _ => K - (intOf iv).toNat)
  case atStart => exact ⟨0, [], by omega, rfl, HC0, HS0, Lib.hid ⟨by rw [cntG_nil]; simp, DfsR.start g⟩, Lib.hid (HB.out _ _ _ _)⟩
  case round =>
    rename_i iv wr
    obtain ⟨i, L, hi, rfl, hC, hS, hr, hB⟩ := hrel
    clear HC0 HS0 HB
    by_cases hin : i < K
    · obtain ⟨x, hx⟩ : ∃ x, g.2.2[i]? = some x := ⟨_, List.getElem?_eq_getElem (by omega)⟩
      obtain ⟨b, off, rfl, hb, hx1, hxb⟩ := id_at (rGr_open hC.out.rd).2.2 hx
      have hil : (i : Int) < (K : Int) := by omega
      have hi0 : (0 : Int) ≤ (i : Int) := by omega
      have vc' : wr.cell? ⟨w.heap.size + 1 + 1 + 1, 0, none⟩ = some (.func (.func 73) #[] #[.pointer (some ⟨w.heap.size + 1 + 1, 0, none⟩), .pointer (some ⟨w.heap.size, 0, none⟩), .pointer (some ⟨w.heap.size + 1 + 1 + 1, 0, none⟩)]) := hC.out.vc
      have T9 : Hid (Calls Try.prog 73 #[.int .i64 x, .pointer (some ⟨w.heap.size + 1 + 1, 0, none⟩), .pointer (some ⟨w.heap.size, 0, none⟩), .pointer (some ⟨w.heap.size + 1 + 1 + 1, 0, none⟩)] wr (Visits g (w.heap.size + 1) x L wr)) :=
        Lib.hid (visit_any A B (some ⟨b, off, none⟩) N c M d K e g w.heap.size (w.heap.size + 2) (w.heap.size + 3) (w.heap.size + 1) hmay _ x L wr (Nat.le_refl _) (WalkArith.wf_i64 hxb) (by
          have := HK.out x (List.mem_of_getElem? hx)
          rw [rootG, Bool.or_eq_true, decide_eq_true_eq, decide_eq_true_eq] at this
          exact this) hr.out.1 hC.out hS.out)
      have Hx := Lib.hid hx
      clear hx
      go_wp2_with (first | (go_at_call 73; refine T9.out.mono ?_; rintro e w9 ⟨rfl, Lj, hS9, hL9, hd9, hg9⟩) | fail)
      go_roundw
      case rel => exact ⟨i + 1, Lj, by omega, by go_num, Lib.hid (hC.out.to hg9), Lib.hid hS9, Lib.hid ⟨hL9, hr.out.2.step Hx.out hd9⟩, Lib.hid (hB.out.grown hg9 hB.out.size (fun k hk => by cases hk; exact Nat.le_succ _))⟩
      case measure => simp [intOf]; omega
    · obtain rfl : i = K := by omega
      have mc' : wr.cell? ⟨w.heap.size + 1 + 1, 0, none⟩ = some (.map (some (w.heap.size + 1))) := hC.out.mc
      have Hall := Lib.hid (fun x => hr.out.2.all (by omega) x)
      go_wp2
      go_ret
      exact ⟨w.heap.size + 1, L, rfl, hS.out, Hall.out, Nat.le_succ _, hB.out⟩
end Go.Proofs.Ytembafogbfcajaa
