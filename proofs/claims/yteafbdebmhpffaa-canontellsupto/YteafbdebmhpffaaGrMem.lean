/- Graphs in memory: the cells of a value, an object, a graph; what stands at a place. No condition. -/
import Derived.Test.YteafbdebmhpffaaGrActsAll
import Derived.Test.YteafbdebmhpffaaScMemAll
namespace Go.Proofs.Yteafbdebmhpffaa
open Go.RowKit

abbrev rVal : Reader Vl := rBoth 1 (rInt .i64) (rBoth 1 rNm (rInt .i64))
abbrev rVals : Reader (List Vl) := rSlice 3 rVal
abbrev rOb : Reader Ob := rBoth 1 (rInt .i64) (rBoth 1 (rInt .i64) rVals)
abbrev rObs : Reader (List Ob) := rSlice 3 rOb
abbrev rIds : Reader (List Int) := rSlice 1 (rInt .i64)
abbrev rGr : Reader Gr := rBoth 1 rSch (rBoth 1 rObs rIds)
theorem rVal_stays : Stays rVal := rBoth_stays (rInt_stays _) (rBoth_stays rNm_stays (rInt_stays _))
theorem rVals_stays : Stays rVals := rSlice_stays rVal_stays
theorem rOb_stays : Stays rOb := rBoth_stays (rInt_stays _) (rBoth_stays (rInt_stays _) rVals_stays)
theorem rObs_stays : Stays rObs := rSlice_stays rOb_stays
theorem rIds_stays : Stays rIds := rSlice_stays (rInt_stays _)
theorem rGr_stays : Stays rGr := rBoth_stays rSch_stays (rBoth_stays rObs_stays rIds_stays)
section
variable {S : Nat → Prop} {w : World} {cs : List Value}
theorem slice_len {α : Type} {size : Nat} {R : Reader α} {A : Option Addr} {n c : Nat} {l : List α} (h : rSlice size R S w [.slice A n c] l) : l.length = n ∧ n ≤ c ∧ c ≤ maxLen := by
  obtain ⟨A1, c1, xs, hv, hlc, hcm, _⟩ := h
  simp at hv
  omega
/-- A slice, written out. -/
theorem slice_form {α : Type} {size : Nat} {R : Reader α} {l : List α} (h : rSlice size R S w cs l) : ∃ A c, cs = [.slice A l.length c] ∧ rSlice size R S w [.slice A l.length c] l := by
  obtain ⟨A1, c1, xs, hv, r⟩ := h
  exact ⟨A1, c1, hv, A1, c1, xs, rfl, r⟩
theorem rVal_open {v : Vl} (h : rVal S w cs v) : ∃ s : ByteArray, cs = [.int .i64 v.1, .string s, .int .i64 v.2.2] ∧ byt s = v.2.1 ∧ s.size ≤ maxLen ∧ (-9223372036854775808 ≤ v.1 ∧ v.1 ≤ 9223372036854775807) ∧ (-9223372036854775808 ≤ v.2.2 ∧ v.2.2 ≤ 9223372036854775807) := by
  obtain ⟨_, ⟨h1, h2⟩, _, ⟨s, h3, h4, h5⟩, h6, h7⟩ := h
  refine ⟨s, ?_, h4, h5, bounds_i64 h2, bounds_i64 h7⟩
  rw [← List.take_append_drop 1 cs, h1, ← List.take_append_drop 1 (cs.drop 1), h3, h6]
  rfl
theorem rVal_mk {v : Vl} {s : ByteArray} (h1 : byt s = v.2.1) (h2 : s.size ≤ maxLen) (h3 : (Lit.int .i64 v.1).wf = true) (h4 : (Lit.int .i64 v.2.2).wf = true) : rVal S w [.int .i64 v.1, .string s, .int .i64 v.2.2] v :=
  ⟨rfl, ⟨rfl, h3⟩, rfl, ⟨s, rfl, h1, h2⟩, rfl, h4⟩
theorem rOb_open {o : Ob} (h : rOb S w cs o) : ∃ A c, cs = [.int .i64 o.1, .int .i64 o.2.1, .slice A o.2.2.length c] ∧ rVals S w [.slice A o.2.2.length c] o.2.2 ∧ (-9223372036854775808 ≤ o.1 ∧ o.1 ≤ 9223372036854775807) ∧ (-9223372036854775808 ≤ o.2.1 ∧ o.2.1 ≤ 9223372036854775807) := by
  obtain ⟨_, ⟨h1, h2⟩, _, ⟨h3, h4⟩, h5⟩ := h
  obtain ⟨A, c, h6, h7⟩ := slice_form h5
  refine ⟨A, c, ?_, h7, bounds_i64 h2, bounds_i64 h4⟩
  rw [← List.take_append_drop 1 cs, h1, ← List.take_append_drop 1 (cs.drop 1), h3, h6]
  rfl
theorem rOb_mk {o : Ob} {A : Option Addr} {n c : Nat} (h1 : (Lit.int .i64 o.1).wf = true) (h2 : (Lit.int .i64 o.2.1).wf = true) (h3 : rVals S w [.slice A n c] o.2.2) : rOb S w [.int .i64 o.1, .int .i64 o.2.1, .slice A n c] o :=
  ⟨rfl, ⟨rfl, h1⟩, rfl, ⟨rfl, h2⟩, h3⟩
theorem val_at {A0 : Option Addr} {n c : Nat} {l : List Vl} {i : Nat} {v : Vl} (h : rVals S w [.slice A0 n c] l) (hi : l[i]? = some v) :
    ∃ b off s, A0 = some ⟨b, off, none⟩ ∧ S b ∧ w.cell? ⟨b, off + i * 3, none⟩ = some (.int .i64 v.1) ∧ w.cell? ⟨b, off + i * 3 + 1, none⟩ = some (.string s) ∧ w.cell? ⟨b, off + i * 3 + 2, none⟩ = some (.int .i64 v.2.2) ∧
      byt s = v.2.1 ∧ s.size ≤ maxLen ∧ (-9223372036854775808 ≤ v.1 ∧ v.1 ≤ 9223372036854775807) ∧ (-9223372036854775808 ≤ v.2.2 ∧ v.2.2 ≤ 9223372036854775807) := by
  obtain ⟨b, off, cs, hA, hb, hR, hl, hc⟩ := slice_at h hi (by omega)
  obtain ⟨s, rfl, h1, h2, h3, h4⟩ := rVal_open hR
  exact ⟨b, off, s, hA, hb, hc 0 _ rfl, hc 1 _ rfl, hc 2 _ rfl, h1, h2, h3, h4⟩
theorem ob_at {A0 : Option Addr} {n c : Nat} {l : List Ob} {i : Nat} {o : Ob} (h : rObs S w [.slice A0 n c] l) (hi : l[i]? = some o) :
    ∃ b off A c', A0 = some ⟨b, off, none⟩ ∧ S b ∧ w.cell? ⟨b, off + i * 3, none⟩ = some (.int .i64 o.1) ∧ w.cell? ⟨b, off + i * 3 + 1, none⟩ = some (.int .i64 o.2.1) ∧ w.cell? ⟨b, off + i * 3 + 2, none⟩ = some (.slice A o.2.2.length c') ∧
      rVals S w [.slice A o.2.2.length c'] o.2.2 ∧ (-9223372036854775808 ≤ o.1 ∧ o.1 ≤ 9223372036854775807) ∧ (-9223372036854775808 ≤ o.2.1 ∧ o.2.1 ≤ 9223372036854775807) := by
  obtain ⟨b, off, cs, hA, hb, hR, hl, hc⟩ := slice_at h hi (by omega)
  obtain ⟨A, c', rfl, h1, h2, h3⟩ := rOb_open hR
  exact ⟨b, off, A, c', hA, hb, hc 0 _ rfl, hc 1 _ rfl, hc 2 _ rfl, h1, h2, h3⟩
theorem id_at {A0 : Option Addr} {n c : Nat} {l : List Int} {i : Nat} {x : Int} (h : rIds S w [.slice A0 n c] l) (hi : l[i]? = some x) :
    ∃ b off, A0 = some ⟨b, off, none⟩ ∧ S b ∧ w.cell? ⟨b, off + i, none⟩ = some (.int .i64 x) ∧ (-9223372036854775808 ≤ x ∧ x ≤ 9223372036854775807) := by
  obtain ⟨b, off, cs, hA, hb, ⟨rfl, h2⟩, hl, hc⟩ := slice_at h hi (by omega)
  have := hc 0 _ rfl
  rw [Nat.mul_one, Nat.add_zero] at this
  exact ⟨b, off, hA, hb, this, bounds_i64 h2⟩
theorem rGr_open {A B C : Option Addr} {N c M d K e : Nat} {g : Gr} (h : rGr S w [.slice A N c, .slice B M d, .slice C K e] g) : rSch S w [.slice A N c] g.1 ∧ rObs S w [.slice B M d] g.2.1 ∧ rIds S w [.slice C K e] g.2.2 := by
  obtain ⟨_, h1, _, h2, h3⟩ := h
  exact ⟨h1, h2, h3⟩
theorem rGr_mk {A B C : Option Addr} {N c M d K e : Nat} {g : Gr} (h1 : rSch S w [.slice A N c] g.1) (h2 : rObs S w [.slice B M d] g.2.1) (h3 : rIds S w [.slice C K e] g.2.2) : rGr S w [.slice A N c, .slice B M d, .slice C K e] g := ⟨rfl, h1, rfl, h2, h3⟩
end
theorem gr_below {w w' : World} {cs : List Value} {g : Gr} (hB : Below w.heap.size w w') (h : rGr (All w) w cs g) : rGr (All w') w' cs g := rGr_stays.to (Keeps.below hB) h
theorem obs_below {w w' : World} {cs : List Value} {g : List Ob} (hB : Below w.heap.size w w') (h : rObs (All w) w cs g) : rObs (All w') w' cs g := rObs_stays.to (Keeps.below hB) h
theorem vals_below {w w' : World} {cs : List Value} {g : List Vl} (hB : Below w.heap.size w w') (h : rVals (All w) w cs g) : rVals (All w') w' cs g := rVals_stays.to (Keeps.below hB) h
theorem ids_below {w w' : World} {cs : List Value} {g : List Int} (hB : Below w.heap.size w w') (h : rIds (All w) w cs g) : rIds (All w') w' cs g := rIds_stays.to (Keeps.below hB) h
/-- A graph that came in, written out. -/
theorem gr_arg {w : World} {cs : Array Value} {g : Gr} (h : rGr (All w) w cs.toList g) : ∃ A c B d C e, cs = #[.slice A g.1.length c, .slice B g.2.1.length d, .slice C g.2.2.length e] ∧ rGr (All w) w [.slice A g.1.length c, .slice B g.2.1.length d, .slice C g.2.2.length e] g := by
  obtain ⟨_, h1, _, h2, h3⟩ := h
  obtain ⟨A, c, e1, h1⟩ := slice_form h1
  obtain ⟨B, d, e2, h2⟩ := slice_form h2
  obtain ⟨C, e, e3, h3⟩ := slice_form h3
  refine ⟨A, c, B, d, C, e, ?_, rGr_mk h1 h2 h3⟩
  have : cs.toList = [.slice A g.1.length c, .slice B g.2.1.length d, .slice C g.2.2.length e] := by
    rw [← List.take_append_drop 1 cs.toList, e1, ← List.take_append_drop 1 (cs.toList.drop 1), e2, e3]; rfl
  cases cs
  simpa using this
end Go.Proofs.Yteafbdebmhpffaa
