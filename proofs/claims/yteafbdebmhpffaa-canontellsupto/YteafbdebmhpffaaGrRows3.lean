/- Rows of the call's own of elements of several cells: one cell set; objects, values and graphs in such rows, read. No condition. -/
import Derived.Test.YteafbdebmhpffaaGrLeapPlainAll
import Derived.Test.YteafbdebmhpffaaGrSetMem
namespace Go.Proofs.Yteafbdebmhpffaa
open Go.RowKit

theorem info_vals : (Try.prog.info? 42).map (fun i => (i.zero, i.size, i.bytes)) = some (some (.agg #[.int .i64 0, .string ⟨#[]⟩, .int .i64 0]), 3, 32) := by kernel_rfl
theorem own_set {w : World} {base e size n c p : Nat} {A : Option Addr} {xs : List Value} (h : w.ownsRow base e size (.slice A n c) n xs) (hp : p < n * size) :
    ∃ gb y, A = some ⟨gb, 0, none⟩ ∧ base ≤ gb ∧ gb < w.heap.size ∧ xs[p]? = some y ∧ w.cell? ⟨gb, p, none⟩ = some y ∧ w.frozen? ⟨gb, p, none⟩ = false ∧ ∀ u, (w.setCell ⟨gb, p, none⟩ u).ownsRow base e size (.slice A n c) n (xs.set p u) := by
  have hl := h.1
  rcases h.2 with ⟨_, h0⟩ | ⟨g, cap, cur, hv, hb, hg, hnc, hcm, hcs, htk⟩
  · subst h0; omega
  · injection hv with e1 _ e3
    subst e1 e3
    have B : Blk w g e cur.toList := hg
    have hcl : cur.toList.length = c * size := by simpa using hcs
    have hle : n * size ≤ c * size := Nat.mul_le_mul_right _ hnc
    obtain ⟨y, hy⟩ : ∃ y, cur.toList[p]? = some y := ⟨_, List.getElem?_eq_getElem (by omega)⟩
    have hx : xs[p]? = some y := by rw [← htk, List.getElem?_take_of_lt hp]; exact hy
    refine ⟨g, y, rfl, hb, B.lt, hx, B.cell (j := p) hy, B.frozen p, fun u => ?_⟩
    refine ⟨by simpa using hl, .inr ⟨g, c, (cur.toList.set p u).toArray, rfl, hb, B.set p u, hnc, hcm, by simpa using hcs, ?_⟩⟩
    rw [← htk, List.take_set]
/-- The same, where the block is known. -/
theorem own_put {w : World} {base e size n c p gb : Nat} {xs : List Value} (h : w.ownsRow base e size (.slice (some ⟨gb, 0, none⟩) n c) n xs) (hp : p < n * size) :
    (∃ y, xs[p]? = some y ∧ w.cell? ⟨gb, p, none⟩ = some y) ∧ w.frozen? ⟨gb, p, none⟩ = false ∧ ∀ u, (w.setCell ⟨gb, p, none⟩ u).ownsRow base e size (.slice (some ⟨gb, 0, none⟩) n c) n (xs.set p u) := by
  obtain ⟨gb', y, hge, -, -, h1, h2, h3, h4⟩ := own_set h hp
  injection hge with hge
  injection hge with hge
  subst hge
  exact ⟨⟨y, h1, h2⟩, h3, h4⟩
theorem own_rdIn {w : World} {base e size n c g : Nat} {xs : List Value} (h : w.ownsRow base e size (.slice (some ⟨g, 0, none⟩) n c) n xs) : RdIn (fun b => b = g) w (some ⟨g, 0, none⟩) xs ∧ n ≤ c ∧ c ≤ maxLen := by
  rcases h.2 with ⟨hv, _⟩ | ⟨g', cap, cur, hv, hb, hg, hnc, hcm, hcs, htk⟩
  · cases hv
  · injection hv with e1 _ e3
    injection e1 with e1
    injection e1 with e1
    subst e1 e3
    have B : Blk w g e cur.toList := hg
    refine ⟨.inr ⟨g, 0, rfl, rfl, fun j u hu => ?_⟩, hnc, hcm⟩
    rw [Nat.zero_add]
    refine B.cell ?_
    rw [← htk, List.getElem?_take] at hu
    split at hu
    · exact hu
    · cases hu
theorem slice_cells {α : Type} {size : Nat} {R : Reader α} {w : World} {A : Option Addr} {n c : Nat} {l : List α} (h : rSlice size R (All w) w [.slice A n c] l) : ∃ xs, Rd w A xs ∧ xs.length = n * size ∧ Chunks size (R (All w) w) xs l := by
  obtain ⟨A1, c1, xs, hv, _, _, hr, hc⟩ := h
  have e : A = A1 ∧ n = l.length := by simp at hv; exact ⟨hv.1, hv.2.1⟩
  obtain ⟨rfl, rfl⟩ := e
  exact ⟨xs, hr, hc.1, hc⟩
theorem chunks_all1 {α : Type} {R : List Value → α → Prop} {xs : List Value} {l : List α} (hR : ∀ cs a, R cs a → ∀ u ∈ cs, u.oneCell' = true) (h : Chunks 3 R xs l) : ∀ u ∈ xs, u.oneCell' = true := by
  intro u hu
  obtain ⟨j, hj⟩ := List.getElem?_of_mem hu
  have hlt := (List.getElem?_eq_some_iff.1 hj).1
  have hl := h.1
  obtain ⟨a, ha⟩ : ∃ a, l[j / 3]? = some a := ⟨_, List.getElem?_eq_getElem (by omega)⟩
  refine hR _ _ (h.2 (j / 3) a ha) u ?_
  refine List.mem_of_getElem? (i := j % 3) ?_
  rw [List.getElem?_take_of_lt (by omega), List.getElem?_drop, show j / 3 * 3 + j % 3 = j by omega]
  exact hj
theorem ob_one {S : Nat → Prop} {w : World} (cs : List Value) (o : Ob) (h : rOb S w cs o) : ∀ u ∈ cs, u.oneCell' = true := by
  obtain ⟨A, c, rfl, _⟩ := rOb_open h
  intro u hu
  simp only [List.mem_cons, List.not_mem_nil, or_false] at hu
  rcases hu with rfl | rfl | rfl <;> rfl
theorem val_one {S : Nat → Prop} {w : World} (cs : List Value) (v : Vl) (h : rVal S w cs v) : ∀ u ∈ cs, u.oneCell' = true := by
  obtain ⟨s, rfl, _⟩ := rVal_open h
  intro u hu
  simp only [List.mem_cons, List.not_mem_nil, or_false] at hu
  rcases hu with rfl | rfl | rfl <;> rfl
theorem chunks_at3 {α : Type} {R : List Value → α → Prop} {xs : List Value} {l : List α} {i : Nat} {a : α} (h : Chunks 3 R xs l) (ha : l[i]? = some a) : ∃ x y z, xs[i * 3]? = some x ∧ xs[i * 3 + 1]? = some y ∧ xs[i * 3 + 2]? = some z ∧ R [x, y, z] a := by
  have hR := h.2 i a ha
  have hlt := (List.getElem?_eq_some_iff.1 ha).1
  have hl := h.1
  have e : ∀ j, j < 3 → ((xs.drop (i * 3)).take 3)[j]? = xs[i * 3 + j]? := fun j hj => by rw [List.getElem?_take_of_lt hj, List.getElem?_drop]
  have h0 : i * 3 < xs.length := by omega
  have h1 : i * 3 + 1 < xs.length := by omega
  have h2 : i * 3 + 2 < xs.length := by omega
  refine ⟨xs[i * 3], xs[i * 3 + 1], xs[i * 3 + 2], List.getElem?_eq_getElem h0, List.getElem?_eq_getElem h1, List.getElem?_eq_getElem h2, ?_⟩
  have e3 : (xs.drop (i * 3)).take 3 = [xs[i * 3], xs[i * 3 + 1], xs[i * 3 + 2]] := by
    rw [List.drop_eq_getElem_cons h0, List.drop_eq_getElem_cons h1, List.drop_eq_getElem_cons h2]
    rfl
  rw [← e3]
  exact hR
/-- Values that look into nothing, in a row of the call's own. -/
theorem own_vals {w : World} {base n c : Nat} {A : Option Addr} {xs : List Value} {l : List Vl} (h : w.ownsRow base 42 3 (.slice A n c) n xs) (hn : l.length = n) (hc : Chunks 3 (fun cs x => ∀ S W, rVal S W cs x) xs l) : rVals (fun b => (Value.slice A n c).ownBlock = some b) w [.slice A n c] l := by
  have hc' := hc.imp (R' := rVal (fun b => (Value.slice A n c).ownBlock = some b) w) fun cs x hq => hq _ _
  subst hn
  rcases h.2 with ⟨hv, h0⟩ | ⟨g, cap, cur, hv, _⟩
  · injection hv with e1 e2 e3
    subst e1 e3
    have hl : l = [] := List.eq_nil_of_length_eq_zero h0
    subst hl
    exact ⟨none, 0, xs, rfl, Nat.le_refl _, Nat.zero_le _, .inl (List.eq_nil_of_length_eq_zero (by simpa using h.1)), hc'⟩
  · injection hv with e1 e2 e3
    subst e1 e3
    obtain ⟨hr, h1, h2⟩ := own_rdIn h
    exact ⟨_, _, xs, rfl, h1, h2, hr.keeps (fun b e => by subst e; exact ⟨rfl, rfl⟩), hc'⟩
/-- A graph whose objects lie in a row of the call's own, and look into what was there. -/
theorem row_graph {w W : World} {A B C B1 : Option Addr} {N c M d K e n1 d1 base : Nat} {g : Gr} {os : List Ob} {xs : List Value} (hB : Below w.heap.size w W) (h : rGr (All w) w [.slice A N c, .slice B M d, .slice C K e] g) (hown : W.ownsRow base 38 3 (.slice B1 n1 d1) n1 xs) (hn : os.length = n1) (hb : w.heap.size ≤ base) (hch : Chunks 3 (rOb (All w) w) xs os) :
    rGr (All W) W [.slice A N c, .slice B1 n1 d1, .slice C K e] (g.1, os, g.2.2) := by
  refine rGr_mk (rGr_open (gr_below hB h)).1 ?_ (rGr_open (gr_below hB h)).2.2
  refine own_rSlice rOb_stays hown hn (hch.imp fun cs o hq => rOb_stays.to (fun b hb' => ⟨⟨Nat.lt_of_lt_of_le hb' hB.size, fun e => ?_⟩, hB.block b hb'⟩) hq)
  have := (hown.lt b e.symm).1
  have hb2 : b < w.heap.size := hb'
  omega
theorem ob_cells {S : Nat → Prop} {w : World} {A0 : Option Addr} {n c : Nat} {l : List Ob} {i : Nat} {o : Ob} (h : rObs S w [.slice A0 n c] l) (hi : l[i]? = some o) :
    ∃ b off A c', A0 = some ⟨b, off, none⟩ ∧ S b ∧ w.cell? ⟨b, off + i * 3, none⟩ = some (.int .i64 o.1) ∧ w.cell? ⟨b, off + i * 3 + 1, none⟩ = some (.int .i64 o.2.1) ∧ w.cell? ⟨b, off + i * 3 + 2, none⟩ = some (.slice A o.2.2.length c') ∧
      rOb S w [.int .i64 o.1, .int .i64 o.2.1, .slice A o.2.2.length c'] o := by
  obtain ⟨b, off, A, c', h1, h2, h3, h4, h5, h6, h7, h8⟩ := ob_at h hi
  exact ⟨b, off, A, c', h1, h2, h3, h4, h5, rOb_mk (WalkArith.wf_i64 h7) (WalkArith.wf_i64 h8) h6⟩
theorem own_slice3 {w : World} {base e size n : Nat} {v : Value} {xs : List Value} (h : w.ownsRow base e size v n xs) : ∃ A c, v = .slice A n c := by
  rcases h.2 with ⟨rfl, rfl⟩ | ⟨g, cap, cur, rfl, _⟩
  · exact ⟨none, 0, rfl⟩
  · exact ⟨_, cap, rfl⟩
end Go.Proofs.Yteafbdebmhpffaa
