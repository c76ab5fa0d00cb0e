/- Schemas in memory: the cells of a field, of a type, of a list of them; what stands at a place. From the row's reading to these words. No condition. -/
import Derived.Test.YtembafogbfcajaaScPlain
import Derived.Test.YtembafogbfcajaaShape
import Derived.Test.YtembafogbfcajaaBlk
namespace Go.Proofs.Ytembafogbfcajaa
open Go.RowKit

/-- A text, as its bytes. -/
def rNm : Reader (List Nat) := fun _ _ cs n => ∃ s : ByteArray, cs = [.string s] ∧ byt s = n ∧ s.size ≤ maxLen
theorem rNm_stays : Stays rNm := ⟨fun _ h => h⟩
abbrev rFld : Reader Fld := rBoth 1 rNm (rBoth 1 (rInt .i64) rNm)
abbrev rFlds : Reader (List Fld) := rSlice 3 rFld
abbrev rTyp : Reader Typ := rBoth 1 rNm rFlds
abbrev rSch : Reader Sch := rSlice 2 rTyp
theorem rFld_stays : Stays rFld := rBoth_stays rNm_stays (rBoth_stays (rInt_stays _) rNm_stays)
theorem rFlds_stays : Stays rFlds := rSlice_stays rFld_stays
theorem rTyp_stays : Stays rTyp := rBoth_stays rNm_stays rFlds_stays
theorem rSch_stays : Stays rSch := rSlice_stays rTyp_stays
theorem opens_nm {P : Program} {t : TypeId} (ht : P.underlying t = some .string) (hc : P.cellsOf t = 1) : Opens P t 1 rNm :=
  (opens_str ht hc).imp fun _ _ _ s h => ⟨byt s, s, h.1, rfl, h.2⟩

section
variable {S : Nat → Prop} {w : World} {cs : List Value}
theorem rFld_open {f : Fld} (h : rFld S w cs f) : ∃ s t : ByteArray, cs = [.string s, .int .i64 f.2.1, .string t] ∧ byt s = f.1 ∧ byt t = f.2.2 ∧ s.size ≤ maxLen ∧ t.size ≤ maxLen ∧ (Lit.int .i64 f.2.1).wf = true := by
  obtain ⟨_, ⟨s, h1, h2, h3⟩, _, ⟨h4, h5⟩, t, h6, h7, h8⟩ := h
  refine ⟨s, t, ?_, h2, h7, h3, h8, h5⟩
  rw [← List.take_append_drop 1 cs, h1, ← List.take_append_drop 1 (cs.drop 1), h4, h6]
  rfl
theorem rFld_mk {f : Fld} {s t : ByteArray} (h1 : byt s = f.1) (h2 : byt t = f.2.2) (h3 : s.size ≤ maxLen) (h4 : t.size ≤ maxLen) (h5 : (Lit.int .i64 f.2.1).wf = true) : rFld S w [.string s, .int .i64 f.2.1, .string t] f :=
  ⟨rfl, ⟨s, rfl, h1, h3⟩, rfl, ⟨rfl, h5⟩, t, rfl, h2, h4⟩
theorem flds_len {A : Option Addr} {n c : Nat} {l : List Fld} (h : rFlds S w [.slice A n c] l) : l.length = n ∧ n ≤ c ∧ c ≤ maxLen := by
  obtain ⟨A1, c1, xs, hv, hlc, hcm, _⟩ := h
  simp at hv
  omega
theorem rTyp_open {t : Typ} (h : rTyp S w cs t) : ∃ (s : ByteArray) (A : Option Addr) (c : Nat), cs = [.string s, .slice A t.2.length c] ∧ byt s = t.1 ∧ s.size ≤ maxLen ∧ rFlds S w [.slice A t.2.length c] t.2 := by
  obtain ⟨_, ⟨s, h1, h2, h3⟩, A, c, xs, h4, h5⟩ := h
  refine ⟨s, A, c, ?_, h2, h3, A, c, xs, rfl, h5⟩
  rw [← List.take_append_drop 1 cs, h1, h4]
  rfl
theorem rTyp_mk {t : Typ} {s : ByteArray} {A : Option Addr} {n c : Nat} (h1 : byt s = t.1) (h2 : s.size ≤ maxLen) (h3 : rFlds S w [.slice A n c] t.2) : rTyp S w [.string s, .slice A n c] t :=
  ⟨rfl, ⟨s, rfl, h1, h2⟩, h3⟩
theorem sch_len {A : Option Addr} {n c : Nat} {l : Sch} (h : rSch S w [.slice A n c] l) : l.length = n ∧ n ≤ c ∧ c ≤ maxLen := by
  obtain ⟨A1, c1, xs, hv, hlc, hcm, _⟩ := h
  simp at hv
  omega
/-- What stands at a place of a slice: its cells. -/
theorem slice_at {α : Type} {size : Nat} {R : Reader α} {A0 : Option Addr} {n c : Nat} {l : List α} {i : Nat} {a : α} (h : rSlice size R S w [.slice A0 n c] l) (hi : l[i]? = some a) (hs : 0 < size) :
    ∃ b off cs, A0 = some ⟨b, off, none⟩ ∧ S b ∧ R S w cs a ∧ cs.length = size ∧ ∀ j u, cs[j]? = some u → w.cell? ⟨b, off + i * size + j, none⟩ = some u := by
  obtain ⟨A1, c1, xs, hv, hlc, hcm, hr, hl, hch⟩ := h
  have hlt := (List.getElem?_eq_some_iff.1 hi).1
  have hA : A0 = A1 := by simp at hv; exact hv.1
  subst hA
  have hle : i * size + size ≤ xs.length := by rw [hl, ← Nat.succ_mul]; exact Nat.mul_le_mul_right _ hlt
  rcases hr with h | ⟨b, off, rfl, hb, hc⟩
  · rw [h, List.length_nil] at hle; omega
  · refine ⟨b, off, (xs.drop (i * size)).take size, rfl, hb, hch i a hi, by rw [List.length_take, List.length_drop]; omega, fun j u hu => ?_⟩
    rw [List.getElem?_take] at hu
    split at hu
    · rw [List.getElem?_drop] at hu
      rw [Nat.add_assoc]
      exact hc _ u hu
    · cases hu
theorem fld_at {A0 : Option Addr} {n c : Nat} {l : List Fld} {i : Nat} {f : Fld} (h : rFlds S w [.slice A0 n c] l) (hi : l[i]? = some f) :
    ∃ b off s t, A0 = some ⟨b, off, none⟩ ∧ S b ∧ w.cell? ⟨b, off + i * 3, none⟩ = some (.string s) ∧ w.cell? ⟨b, off + i * 3 + 1, none⟩ = some (.int .i64 f.2.1) ∧ w.cell? ⟨b, off + i * 3 + 2, none⟩ = some (.string t) ∧
      byt s = f.1 ∧ byt t = f.2.2 ∧ s.size ≤ maxLen ∧ t.size ≤ maxLen ∧ (-9223372036854775808 ≤ f.2.1 ∧ f.2.1 ≤ 9223372036854775807) := by
  obtain ⟨b, off, cs, hA, hb, hR, hl, hc⟩ := slice_at h hi (by omega)
  obtain ⟨s, t, rfl, h1, h2, h3, h4, h5⟩ := rFld_open hR
  exact ⟨b, off, s, t, hA, hb, hc 0 _ rfl, hc 1 _ rfl, hc 2 _ rfl, h1, h2, h3, h4, bounds_i64 h5⟩
theorem typ_at {A0 : Option Addr} {n c : Nat} {l : Sch} {i : Nat} {t : Typ} (h : rSch S w [.slice A0 n c] l) (hi : l[i]? = some t) :
    ∃ b off s A c', A0 = some ⟨b, off, none⟩ ∧ S b ∧ w.cell? ⟨b, off + i * 2, none⟩ = some (.string s) ∧ w.cell? ⟨b, off + i * 2 + 1, none⟩ = some (.slice A t.2.length c') ∧ byt s = t.1 ∧ s.size ≤ maxLen ∧ rFlds S w [.slice A t.2.length c'] t.2 := by
  obtain ⟨b, off, cs, hA, hb, hR, hl, hc⟩ := slice_at h hi (by omega)
  obtain ⟨s, A, c', rfl, h1, h2, h3⟩ := rTyp_open hR
  exact ⟨b, off, s, A, c', hA, hb, hc 0 _ rfl, hc 1 _ rfl, h1, h2, h3⟩
end
theorem sch_below {w w' : World} {cs : List Value} {s : Sch} (hB : Below w.heap.size w w') (h : rSch (All w) w cs s) : rSch (All w') w' cs s := rSch_stays.to (Keeps.below hB) h
theorem flds_below {w w' : World} {cs : List Value} {s : List Fld} (hB : Below w.heap.size w w') (h : rFlds (All w) w cs s) : rFlds (All w') w' cs s := rFlds_stays.to (Keeps.below hB) h
/-- A schema that came in, written out. -/
theorem sch_arg {w : World} {cs : Array Value} {s : Sch} (h : rSch (All w) w cs.toList s) : ∃ A c, cs = #[.slice A s.length c] ∧ s.length ≤ c ∧ c ≤ maxLen ∧ rSch (All w) w [.slice A s.length c] s := by
  obtain ⟨A, c, xs, h1, h2, h3, h4⟩ := h
  exact ⟨A, c, by cases cs; simpa using h1, h2, h3, A, c, xs, rfl, h2, h3, h4⟩
end Go.Proofs.Ytembafogbfcajaa
