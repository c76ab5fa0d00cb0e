/- The texts GrSetPlain, GrBools, GrLeastPlain, GrLeapPlain, GrRef4, GrRef5, GrRef6, GrRowSet in one; what each proves, and its conditions, stands before it. -/
import Derived.Test.YtembafogbfcajaaVlRefFitsAll
import Derived.Test.YtembafogbfcajaaGrMem
import Derived.Test.YtembafogbfcajaaAppend
import Derived.Test.YtembafogbfcajaaInts
import Derived.Test.YtembafogbfcajaaGrRefS
import Derived.Test.YtembafogbfcajaaSched
import Derived.Test.YtembafogbfcajaaGrRef7All
import Derived.Test.YtembafogbfcajaaGrReach
import Derived.Test.YtembafogbfcajaaGrRow
import Derived.Laws.OwnMore
import Derived.Test.YtembafogbfcajaaGrNew
import Derived.Test.YtembafogbfcajaaRets
import Derived.Test.YtembafogbfcajaaRets0
import Derived.Test.YtembafogbfcajaaAppendS
/- A value that is set, and set back, on plain data. No condition. -/
namespace Go.Proofs.Ytembafogbfcajaa

theorem find_set {os : List Ob} {id : Int} {I : Nat} {o p : Ob} (hI : findG os id = (I : Int)) (ho : os[I]? = some o) (he : p.1 = o.1) : findG (os.set I p) id = (I : Int) := by
  obtain ⟨⟨q, hq, hd⟩, hlt⟩ := (idxP_iff _ os I).1 hI
  rw [ho] at hq
  injection hq with hq
  subst hq
  have hl := (List.getElem?_eq_some_iff.1 ho).1
  refine (idxP_iff _ _ I).2 ⟨⟨p, List.getElem?_set_self hl, ?_⟩, fun j b hj hb => ?_⟩
  · rw [decide_eq_true_eq] at hd ⊢
    omega
  · rw [List.getElem?_set_ne (by omega)] at hb
    exact hlt j b hj hb
theorem set_same {α : Type} {l : List α} {i : Nat} {a : α} (h : l[i]? = some a) : l.set i a = l := by
  obtain ⟨hl, rfl⟩ := List.getElem?_eq_some_iff.1 h
  exact List.set_getElem_self hl
/-- What stands where, and that the one that was can be set back. -/
theorem set_back {g : Gr} {id k : Int} {v : Vl} (h : setE g id k v = 0) : ∃ (I kn : Nat) (o : Ob) (v0 : Vl), findG g.2.1 id = (I : Int) ∧ g.2.1[I]? = some o ∧ k = (kn : Int) ∧ kn < o.2.2.length ∧ o.2.2[kn]? = some v0 ∧ (setN g id k v).1.length = g.1.length ∧ (setN g id k v).2.1.length = g.2.1.length ∧ (setN g id k v).2.2.length = g.2.2.length ∧
    (setN g id k v).2.1[I]? = some (o.1, o.2.1, o.2.2.set kn v) ∧ (o.2.2.set kn v)[kn]? = some v ∧ mayG (setN g id k v) = true ∧ setE (setN g id k v) id k v0 = 0 ∧ setN (setN g id k v) id k v0 = g := by
  obtain ⟨hm, hf, hk0, hkl, hv⟩ := setE_0 h
  obtain ⟨I, o, hI, hgi, -, -⟩ := findG_at hf
  have hoe := objG_at hI hgi
  rw [hoe] at hkl hv
  obtain ⟨kn, rfl⟩ : ∃ kn : Nat, k = (kn : Int) := ⟨k.toNat, by omega⟩
  have hkl' : kn < o.2.2.length := by omega
  obtain ⟨v0, hv0⟩ : ∃ v0, o.2.2[kn]? = some v0 := ⟨_, List.getElem?_eq_getElem hkl'⟩
  have hmn := setN_may h
  have hIl := (List.getElem?_eq_some_iff.1 hgi).1
  have e : setN g id (kn : Int) v = (g.1, g.2.1.set I (o.1, o.2.1, o.2.2.set kn v), g.2.2) := by rw [setN, if_pos h, hI, hoe, Int.toNat_natCast, Int.toNat_natCast]
  have hat : (g.2.1.set I (o.1, o.2.1, o.2.2.set kn v))[I]? = some (o.1, o.2.1, o.2.2.set kn v) := List.getElem?_set_self hIl
  have hfi := find_set (p := (o.1, o.2.1, o.2.2.set kn v)) hI hgi rfl
  have hon := objG_at hfi hat
  have hom := List.mem_of_getElem? hgi
  have mo := mayG_obj hm hom
  have hs := mayG_sorted hm
  have hsn := setN_sorted (p := (o.1, o.2.1, o.2.2.set kn v)) hs hgi rfl
  have hhv : haveG (g.1, g.2.1.set I (o.1, o.2.1, o.2.2.set kn v), g.2.2) ((fldsG g.1 o.2.1).getD kn ([], 0, [])) v0 = true := by
    obtain ⟨f, hf'⟩ : ∃ f, (fldsG g.1 o.2.1)[kn]? = some f := ⟨_, List.getElem?_eq_getElem (by have := mo.len; omega)⟩
    rw [List.getD_eq_getElem?_getD, hf', Option.getD_some]
    refine haveG_mono (g := g) rfl (mo.have' kn f v0 hf' hv0) fun _ _ hr => find_of hs hsn (fun q hq _ => ?_) hr
    obtain ⟨j, hj⟩ := List.getElem?_of_mem hq
    by_cases hji : j = I
    · subst hji
      rw [hgi] at hj
      injection hj with hj
      subst hj
      exact ⟨_, List.mem_set hIl _, rfl, rfl⟩
    · exact ⟨q, List.mem_of_getElem? (i := j) (by rw [List.getElem?_set_ne (fun e => hji e.symm)]; exact hj), rfl, rfl⟩
  rw [e] at hmn ⊢
  have hE : setE (g.1, g.2.1.set I (o.1, o.2.1, o.2.2.set kn v), g.2.2) id (kn : Int) v0 = 0 := by
    rw [setE, if_pos hmn]
    show (if findG (g.2.1.set I (o.1, o.2.1, o.2.2.set kn v)) id ≠ -1 ∧ _ then _ else _) = (0 : Int)
    rw [hon, hfi, if_pos ⟨by omega, by simp [hkl']⟩]
    show (if haveG _ ((fldsG g.1 o.2.1).getD (kn : Int).toNat ([], 0, [])) v0 = true then _ else _) = (0 : Int)
    rw [Int.toNat_natCast, if_pos hhv]
  refine ⟨I, kn, o, v0, hI, hgi, rfl, hkl', hv0, rfl, List.length_set, rfl, hat, List.getElem?_set_self hkl', hmn, hE, ?_⟩
  rw [setN, if_pos hE]
  show (g.1, (g.2.1.set I (o.1, o.2.1, o.2.2.set kn v)).set (findG (g.2.1.set I (o.1, o.2.1, o.2.2.set kn v)) id).toNat ((objG (g.2.1.set I (o.1, o.2.1, o.2.2.set kn v)) id).1, (objG (g.2.1.set I (o.1, o.2.1, o.2.2.set kn v)) id).2.1, (objG (g.2.1.set I (o.1, o.2.1, o.2.2.set kn v)) id).2.2.set (kn : Int).toNat v0), g.2.2) = g
  rw [hon, hfi, Int.toNat_natCast, Int.toNat_natCast]
  show (g.1, (g.2.1.set I (o.1, o.2.1, o.2.2.set kn v)).set I (o.1, o.2.1, (o.2.2.set kn v).set kn v0), g.2.2) = g
  rw [List.set_set, List.set_set, set_same hv0, set_same hgi]
end Go.Proofs.Ytembafogbfcajaa

/- Rows of truths in memory: read, and one of the call's own, of which one is set. No condition. -/
namespace Go.Proofs.Ytembafogbfcajaa
open Go.RowKit

theorem info_bool : (Try.prog.info? 4).map (fun i => (i.zero, i.size, i.bytes)) = some (some (.bool false), 1, 1) := by kernel_rfl
def bools (l : List Bool) : List Value := l.map Value.bool
@[simp] theorem bools_length (l : List Bool) : (bools l).length = l.length := by simp [bools]
theorem bools_one (l : List Bool) : ∀ u ∈ bools l, u.oneCell' = true := by
  intro u hu
  obtain ⟨x, _, rfl⟩ := List.mem_map.1 hu
  rfl
theorem chunks_bools {l : List Bool} {xs : List Value} : Chunks 1 (fun cs b => cs = [.bool b]) xs l ↔ xs = bools l := by
  constructor
  · intro ⟨h1, h2⟩
    have h1' : xs.length = l.length := by simpa using h1
    have hx : ∀ (i : Nat) (a : Bool), l[i]? = some a → xs[i]? = some (.bool a) := fun i a ha => by
      have e := h2 i a ha
      rw [Nat.mul_one] at e
      have := congrArg (·[0]?) e
      simp only [List.getElem?_take, List.getElem?_drop, Nat.add_zero, Nat.zero_lt_one, if_true, List.getElem?_cons_zero] at this
      exact this
    refine List.ext_getElem? fun i => ?_
    by_cases hi : i < l.length
    · rw [hx i l[i] (List.getElem?_eq_getElem hi)]; simp [bools, hi]
    · rw [List.getElem?_eq_none (by omega), List.getElem?_eq_none (by simp; omega)]
  · rintro rfl
    refine ⟨by simp, fun i a ha => ?_⟩
    have hlt := (List.getElem?_eq_some_iff.1 ha).1
    rw [Nat.mul_one, List.drop_eq_getElem_cons (by simpa using hlt)]
    simp [bools, (List.getElem?_eq_some_iff.1 ha).2]
abbrev rBools : Reader (List Bool) := rSlice 1 rBool
theorem rBools_stays : Stays rBools := rSlice_stays rBool_stays
theorem bools_below {w w' : World} {cs : List Value} {l : List Bool} (hB : Below w.heap.size w w') (h : rBools (All w) w cs l) : rBools (All w') w' cs l := rBools_stays.to (Keeps.below hB) h
theorem bools_rd {w : World} {A : Option Addr} {n c : Nat} {l : List Bool} (h : rBools (All w) w [.slice A n c] l) : Rd w A (bools l) := by
  obtain ⟨A1, c1, xs, hv, _, _, hr, hc⟩ := h
  obtain rfl := chunks_bools.1 hc
  have hA : A = A1 := by simp at hv; exact hv.1
  subst hA
  exact hr
/-- A row of truths of the call's own, read. -/
theorem bools_own {w : World} {base n : Nat} {A : Option Addr} {c : Nat} {l : List Bool} (h : w.ownsRow base 4 1 (.slice A n c) n (bools l)) (hn : l.length = n) : rBools (fun b => base ≤ b ∧ b < w.heap.size) w [.slice A n c] l := by
  obtain ⟨A1, c1, hv, h1, h2, h3⟩ := own_in h
  injection hv with e1 e2 e3
  subst e1 e3 hn
  exact ⟨A, c, _, rfl, h1, h2, h3, chunks_bools.2 rfl⟩
theorem truth_at {S : Nat → Prop} {w : World} {A0 : Option Addr} {n c : Nat} {l : List Bool} {i : Nat} {x : Bool} (h : rBools S w [.slice A0 n c] l) (hi : l[i]? = some x) :
    ∃ b off, A0 = some ⟨b, off, none⟩ ∧ S b ∧ w.cell? ⟨b, off + i, none⟩ = some (.bool x) := by
  obtain ⟨b, off, cs, hA, hb, rfl, hl, hc⟩ := slice_at h hi (by omega)
  have := hc 0 _ rfl
  rw [Nat.mul_one, Nat.add_zero] at this
  exact ⟨b, off, hA, hb, this⟩
/-- One is set. -/
theorem bools_set {w : World} {base n c J : Nat} {A : Option Addr} {l : List Bool} (h : w.ownsRow base 4 1 (.slice A n c) n (bools l)) (hJ : J < n) :
    ∃ gb x, A = some ⟨gb, 0, none⟩ ∧ base ≤ gb ∧ gb < w.heap.size ∧ w.cell? ⟨gb, J, none⟩ = some x ∧ w.frozen? ⟨gb, J, none⟩ = false ∧ (w.setCell ⟨gb, J, none⟩ (.bool true)).ownsRow base 4 1 (.slice A n c) n (bools (l.set J true)) := by
  have hl := h.1
  rcases h.2 with ⟨_, h0⟩ | ⟨g, cap, cur, hv, hb, hg, hnc, hcm, hcs, htk⟩
  · omega
  · injection hv with e1 _ e3
    subst e1 e3
    have B : Blk w g 4 cur.toList := hg
    have hcl : cur.toList.length = c := by simpa using hcs
    refine ⟨g, _, rfl, hb, B.lt, B.cell (j := J) (List.getElem?_eq_getElem (by omega)), B.frozen J, ?_⟩
    have B2 := B.set J (.bool true)
    refine ⟨by simpa using hl, .inr ⟨g, c, (cur.toList.set J (.bool true)).toArray, rfl, hb, B2, hnc, hcm, by simpa using hcs, ?_⟩⟩
    have e : bools (l.set J true) = (bools l).set J (.bool true) := by rw [bools, bools, List.map_set]
    rw [e, ← htk, List.take_set]
end Go.Proofs.Ytembafogbfcajaa

/- Nothing is come to but roots, and what leads from them. No condition. -/
namespace Go.Proofs.Ytembafogbfcajaa

/-- Of objects of which are all roots, and where their Refs lead, all that is come to is one. -/
theorem least_come {g : Gr} {some : List Bool} (hm : mayG g = true) (hr : ∀ r ∈ g.2.2, 0 ≤ r → some[(findG g.2.1 r).toNat]? = Option.some true)
    (hs : ∀ (i : Nat) o (k : Nat) f v, g.2.1[i]? = Option.some o → some[i]? = Option.some true → (fldsG g.1 o.2.1)[k]? = Option.some f → o.2.2[k]? = Option.some v → f.2.1 = 5 → 0 ≤ v.2.2 → some[(findG g.2.1 v.2.2).toNat]? = Option.some true) {x : Int} (hx : ComeG g x) : some[(findG g.2.1 x).toNat]? = Option.some true := by
  obtain ⟨id, h1, h2, h3⟩ := hx
  induction h3 with
  | here =>
    obtain ⟨p, hp, e⟩ := come_is hm (x := id) ⟨id, h1, h2, .here⟩
    have := (mayG_obj hm hp).id0
    exact hr id h1 (by omega)
  | step hf ho hr' ih =>
    rename_i o r
    obtain ⟨k, f, v, a1, a2, a3, a4, rfl⟩ := refsG_mem.1 hr'
    have hfo := findG_mem.2 ⟨o, ho, rfl⟩
    obtain ⟨i, p, e1, e2, e3, -⟩ := findG_at hfo
    obtain rfl := mayG_apart hm (List.mem_of_getElem? e2) ho e3
    rw [e1, Int.toNat_natCast] at ih
    obtain ⟨q, hq, e⟩ := findG_mem.1 (haveG_ref ((mayG_obj hm ho).have' k f v a1 a2) a3 a4).1
    have := (mayG_obj hm hq).id0
    exact hs i p k f v e2 ih a1 a2 a3 (by omega)
end Go.Proofs.Ytembafogbfcajaa

/- What is come to by so many leaps, on plain data: as many as there are objects are enough. No condition. -/
namespace Go.Proofs.Ytembafogbfcajaa

/-- A Ref, at a field of an object that is marked, that leads to the place j. -/
def Lead (g : Gr) (bs : List Bool) (i : Nat) (o : Ob) (k : Nat) (f : Fld) (v : Vl) (j : Nat) : Prop :=
  g.2.1[i]? = some o ∧ bs[i]? = some true ∧ (fldsG g.1 o.2.1)[k]? = some f ∧ o.2.2[k]? = some v ∧ f.2.1 = 5 ∧ 0 ≤ v.2.2 ∧ findG g.2.1 v.2.2 = (j : Int)
/-- One leap more, so far: up to the field k of the object i. -/
structure LeapI (g : Gr) (bs cur : List Bool) (i k : Nat) : Prop where
  len : cur.length = bs.length
  mem : ∀ j : Nat, cur[j]? = some true ↔ (bs[j]? = some true ∨ ∃ i' o k' f v, (i' < i ∨ (i' = i ∧ k' < k)) ∧ Lead g bs i' o k' f v j)
structure Leap (g : Gr) (bs cur : List Bool) : Prop where
  len : cur.length = bs.length
  mem : ∀ j : Nat, cur[j]? = some true ↔ (bs[j]? = some true ∨ ∃ i' o k' f v, Lead g bs i' o k' f v j)
theorem LeapI.start (g : Gr) (bs : List Bool) : LeapI g bs bs 0 0 := ⟨rfl, fun j => ⟨.inl, fun h => h.elim id fun ⟨i', _, _, _, _, h, _⟩ => by omega⟩⟩
theorem LeapI.skip {g : Gr} {bs cur : List Bool} {i k : Nat} (h : LeapI g bs cur i k) (hn : ∀ o f v j, ¬ Lead g bs i o k f v j) : LeapI g bs cur i (k + 1) := by
  refine ⟨h.len, fun j => (h.mem j).trans (or_congr Iff.rfl ⟨?_, ?_⟩)⟩
  · rintro ⟨i', o, k', f, v, hk, hl⟩
    exact ⟨i', o, k', f, v, by omega, hl⟩
  · rintro ⟨i', o, k', f, v, hk, hl⟩
    by_cases he : i' = i ∧ k' = k
    · obtain ⟨rfl, rfl⟩ := he
      exact absurd hl (hn o f v j)
    · exact ⟨i', o, k', f, v, by omega, hl⟩
theorem LeapI.take {g : Gr} {bs cur : List Bool} {i k J : Nat} {o : Ob} {f : Fld} {v : Vl} (h : LeapI g bs cur i k) (hl : Lead g bs i o k f v J) (hJ : J < cur.length) : LeapI g bs (cur.set J true) i (k + 1) := by
  refine ⟨by rw [List.length_set]; exact h.len, fun j => ?_⟩
  by_cases hj : j = J
  · subst hj
    rw [List.getElem?_set_self hJ]
    exact ⟨fun _ => .inr ⟨i, o, k, f, v, by omega, hl⟩, fun _ => rfl⟩
  · rw [List.getElem?_set_ne (fun e => hj e.symm), h.mem j]
    refine or_congr Iff.rfl ⟨?_, ?_⟩
    · rintro ⟨i', o', k', f', v', hk, hl'⟩
      exact ⟨i', o', k', f', v', by omega, hl'⟩
    · rintro ⟨i', o', k', f', v', hk, hl'⟩
      by_cases he : i' = i ∧ k' = k
      · obtain ⟨rfl, rfl⟩ := he
        obtain ⟨a1, a2, a3, a4, a5, a6, a7⟩ := hl
        obtain ⟨b1, b2, b3, b4, b5, b6, b7⟩ := hl'
        rw [a1] at b1
        injection b1 with b1
        subst b1
        rw [a4] at b4
        injection b4 with b4
        subst b4
        rw [a7] at b7
        exact absurd (by omega) hj
      · exact ⟨i', o', k', f', v', by omega, hl'⟩
theorem LeapI.next {g : Gr} {bs cur : List Bool} {i k : Nat} {o : Ob} (h : LeapI g bs cur i k) (ho : g.2.1[i]? = some o) (hk : o.2.2.length ≤ k) : LeapI g bs cur (i + 1) 0 := by
  refine ⟨h.len, fun j => (h.mem j).trans (or_congr Iff.rfl ⟨?_, ?_⟩)⟩
  · rintro ⟨i', o', k', f, v, hk', hl⟩
    exact ⟨i', o', k', f, v, by omega, hl⟩
  · rintro ⟨i', o', k', f, v, hk', hl⟩
    refine ⟨i', o', k', f, v, ?_, hl⟩
    by_cases hi : i' < i
    · exact .inl hi
    · obtain rfl : i' = i := by omega
      obtain ⟨a1, a2, a3, a4, -⟩ := hl
      rw [ho] at a1
      injection a1 with a1
      subst a1
      have := (List.getElem?_eq_some_iff.1 a4).1
      exact .inr ⟨rfl, by omega⟩
theorem LeapI.all {g : Gr} {bs cur : List Bool} {i : Nat} (h : LeapI g bs cur i 0) (hi : g.2.1.length ≤ i) : Leap g bs cur := by
  refine ⟨h.len, fun j => (h.mem j).trans (or_congr Iff.rfl ⟨?_, ?_⟩)⟩
  · rintro ⟨i', o', k', f, v, hk', hl⟩
    exact ⟨i', o', k', f, v, hl⟩
  · rintro ⟨i', o', k', f, v, hl⟩
    exact ⟨i', o', k', f, v, .inl (by have := (List.getElem?_eq_some_iff.1 hl.1).1; omega), hl⟩

theorem count_le : ∀ {bs cs : List Bool}, bs.length = cs.length → (∀ j : Nat, bs[j]? = some true → cs[j]? = some true) → bs.count true ≤ cs.count true
  | [], cs, _, _ => by simp
  | b :: bs, [], h, _ => by simp at h
  | b :: bs, c :: cs, h, hm => by
    have ih := count_le (bs := bs) (cs := cs) (by simpa using h) (fun j hj => by simpa using hm (j + 1) (by simpa using hj))
    have h0 := hm 0
    simp at h0
    cases b <;> cases c <;> simp_all <;> omega
theorem count_lt : ∀ {bs cs : List Bool}, bs.length = cs.length → (∀ j : Nat, bs[j]? = some true → cs[j]? = some true) → (∃ j : Nat, cs[j]? = some true ∧ bs[j]? ≠ some true) → bs.count true < cs.count true
  | [], cs, h, _, ⟨j, hj, _⟩ => by
    have : cs = [] := List.eq_nil_of_length_eq_zero (by simpa using h.symm)
    subst this
    simp at hj
  | b :: bs, [], h, _, _ => by simp at h
  | b :: bs, c :: cs, h, hm, ⟨j, hj, hn⟩ => by
    have hl : bs.length = cs.length := by simpa using h
    have hm' : ∀ j : Nat, bs[j]? = some true → cs[j]? = some true := fun j hj => by simpa using hm (j + 1) (by simpa using hj)
    have h0 := hm 0
    simp at h0
    cases j with
    | zero =>
      have := count_le hl hm'
      simp at hj hn
      subst hj
      cases b
      · simp; omega
      · simp at hn
    | succ j =>
      have := count_lt hl hm' ⟨j, by simpa using hj, by simpa using hn⟩
      cases b <;> cases c <;> simp_all <;> omega
/-- Nothing leads out of those that are marked. -/
def Shut (g : Gr) (bs : List Bool) : Prop := ∀ (i : Nat) o (k : Nat) f v, g.2.1[i]? = some o → bs[i]? = some true → (fldsG g.1 o.2.1)[k]? = some f → o.2.2[k]? = some v → f.2.1 = 5 → 0 ≤ v.2.2 → bs[(findG g.2.1 v.2.2).toNat]? = some true
/-- Behind t leaps. -/
structure Leaps (g : Gr) (bs : List Bool) (t : Nat) : Prop where
  len : bs.length = g.2.1.length
  only : ∀ (i : Nat) o, g.2.1[i]? = some o → bs[i]? = some true → ComeG g o.1
  roots : ∀ r ∈ g.2.2, 0 ≤ r → bs[(findG g.2.1 r).toNat]? = some true
  shut : Shut g bs ∨ t ≤ bs.count true
theorem Leaps.step {g : Gr} (hm : mayG g = true) {bs cs : List Bool} {t : Nat} (h : Leaps g bs t) (hl : Leap g bs cs) : Leaps g cs (t + 1) := by
  have hlen : bs.length = cs.length := hl.len.symm
  have hsub : ∀ j : Nat, bs[j]? = some true → cs[j]? = some true := fun j hj => (hl.mem j).2 (.inl hj)
  refine ⟨hl.len.trans h.len, fun i o ho hc => ?_, fun r hr h0 => hsub _ (h.roots r hr h0), ?_⟩
  · rcases (hl.mem i).1 hc with hb | ⟨i', o', k, f, v, a1, a2, a3, a4, a5, a6, a7⟩
    · exact h.only i o ho hb
    · obtain ⟨hc', -⟩ := come_ref hm (List.mem_of_getElem? a1) (h.only i' o' a1 a2) a3 a4 a5 (by omega)
      obtain ⟨i2, p, e1, e2, e3, -⟩ := findG_at (os := g.2.1) (id := v.2.2) (by rw [a7]; omega)
      rw [a7] at e1
      obtain rfl : i = i2 := by omega
      rw [ho] at e2
      injection e2 with e2
      subst e2
      rw [e3]
      exact hc'
  · by_cases hs : Shut g bs
    · have hsame : ∀ j : Nat, cs[j]? = some true ↔ bs[j]? = some true := fun j => ⟨fun hc => by
        rcases (hl.mem j).1 hc with hb | ⟨i', o', k, f, v, a1, a2, a3, a4, a5, a6, a7⟩
        · exact hb
        · have := hs i' o' k f v a1 a2 a3 a4 a5 a6
          rwa [a7, Int.toNat_natCast] at this, hsub j⟩
      exact .inl fun i o k f v a1 a2 a3 a4 a5 a6 => (hsame _).2 (hs i o k f v a1 ((hsame i).1 a2) a3 a4 a5 a6)
    · have ht := h.shut.resolve_left hs
      refine .inr (Nat.lt_of_le_of_lt ht (count_lt hlen hsub ?_))
      rcases Classical.em (∃ j : Nat, cs[j]? = some true ∧ bs[j]? ≠ some true) with hh | hh
      · exact hh
      · refine absurd (fun i o k f v a1 a2 a3 a4 a5 a6 => ?_) hs
        obtain ⟨I, p, e1, e2, e3, -⟩ := findG_at (haveG_ref ((mayG_obj hm (List.mem_of_getElem? a1)).have' k f v a3 a4) a5 (by omega)).1
        have hc := (hl.mem I).2 (.inr ⟨i, o, k, f, v, a1, a2, a3, a4, a5, a6, e1⟩)
        rcases Classical.em (bs[I]? = some true) with hb | hb
        · rw [e1, Int.toNat_natCast]; exact hb
        · exact absurd ⟨I, hc, hb⟩ hh
theorem Leaps.all {g : Gr} (hm : mayG g = true) {bs : List Bool} {t : Nat} (h : Leaps g bs t) (ht : g.2.1.length ≤ t) {i : Nat} {o : Ob} (ho : g.2.1[i]? = some o) : bs[i]? = some true ↔ ComeG g o.1 := by
  have hs : Shut g bs := by
    rcases h.shut with hs | hs
    · exact hs
    · have hc : bs.count true = bs.length := Nat.le_antisymm (List.count_le_length) (by rw [h.len]; omega)
      have hall := List.count_eq_length.1 hc
      intro i o k f v a1 a2 a3 a4 a5 a6
      obtain ⟨I, p, e1, e2, e3, -⟩ := findG_at (haveG_ref ((mayG_obj hm (List.mem_of_getElem? a1)).have' k f v a3 a4) a5 (by omega)).1
      have hI : I < bs.length := by rw [h.len]; exact (List.getElem?_eq_some_iff.1 e2).1
      rw [e1, Int.toNat_natCast, List.getElem?_eq_getElem hI, ← hall _ (List.getElem_mem hI)]
  refine ⟨h.only i o ho, fun hc => ?_⟩
  have := least_come hm (some := bs) h.roots hs hc
  obtain ⟨I, p, e1, e2, e3, -⟩ := findG_at (findG_mem.2 ⟨o, List.mem_of_getElem? ho, rfl⟩)
  have hpo := mayG_apart hm (List.mem_of_getElem? e2) (List.mem_of_getElem? ho) e3
  subst hpo
  have hII : I = i := by
    have hs2 := mayG_sorted hm
    rw [List.pairwise_iff_getElem] at hs2
    have l1 := (List.getElem?_eq_some_iff.1 e2).1
    have l2 := (List.getElem?_eq_some_iff.1 ho).1
    rcases Nat.lt_trichotomy I i with hlt | rfl | hlt
    · have := hs2 I i l1 l2 hlt
      rw [(List.getElem?_eq_some_iff.1 e2).2, (List.getElem?_eq_some_iff.1 ho).2] at this
      omega
    · rfl
    · have := hs2 i I l2 l1 hlt
      rw [(List.getElem?_eq_some_iff.1 e2).2, (List.getElem?_eq_some_iff.1 ho).2] at this
      omega
  rw [e1, Int.toNat_natCast, hII] at this
  exact this
theorem lref_at {g : Gr} (hm : mayG g = true) {o : Ob} (ho : o ∈ g.2.1) {k : Nat} {f : Fld} {v : Vl} (hf : (fldsG g.1 o.2.1)[k]? = some f) (hv : o.2.2[k]? = some v) (h5 : f.2.1 = 5) (h0 : 0 ≤ v.2.2) : ∃ I : Nat, findG g.2.1 v.2.2 = (I : Int) ∧ I < g.2.1.length := by
  obtain ⟨I, o, h1, h2, -, -⟩ := findG_at (haveG_ref ((mayG_obj hm ho).have' k f v hf hv) h5 (by omega)).1
  exact ⟨I, h1, (List.getElem?_eq_some_iff.1 h2).1⟩
theorem lroot_at {g : Gr} (hm : mayG g = true) {r : Int} (hr : r ∈ g.2.2) (h0 : 0 ≤ r) : ∃ I : Nat, findG g.2.1 r = (I : Int) ∧ I < g.2.1.length := by
  have := (mayG_parts hm).2.2.2.2 r hr
  rw [rootG, Bool.or_eq_true, decide_eq_true_eq, decide_eq_true_eq] at this
  obtain ⟨I, o, h1, h2, -, -⟩ := findG_at (this.resolve_left (by omega))
  exact ⟨I, h1, (List.getElem?_eq_some_iff.1 h2).1⟩
end Go.Proofs.Ytembafogbfcajaa

/- The contract of the document's own come (layer 8): one leap more. Nothing that was there is changed. Conditions: a graph that may be, and as many truths as objects. -/
namespace Go.Proofs.Ytembafogbfcajaa
open Go.RowKit

theorem lead_no {g : Gr} {bs : List Bool} {i k : Nat} {o : Ob} {f : Fld} {v : Vl} {y : Bool} (ho : g.2.1[i]? = some o) (hy : bs[i]? = some y) (hf : (fldsG g.1 o.2.1)[k]? = some f) (hv : o.2.2[k]? = some v) (hn : ¬ (y = true ∧ f.2.1 = 5 ∧ 0 ≤ v.2.2)) : ∀ o f v j, ¬ Lead g bs i o k f v j := by
  rintro o' f' v' j ⟨a1, a2, a3, a4, a5, a6, -⟩
  rw [ho] at a1
  injection a1 with a1
  subst a1
  rw [hy] at a2
  rw [hf] at a3
  rw [hv] at a4
  injection a2 with a2
  injection a3 with a3
  injection a4 with a4
  subst a3 a4
  exact hn ⟨a2, a5, a6⟩

set_option maxRecDepth 100000 in
set_option maxHeartbeats 4000000 in
theorem rcome_any (A B C : Option Addr) (N c M d K e : Nat) (g : Gr) (Z : Option Addr) (z : Nat) (bs : List Bool) (w : World) (h : rGr (All w) w [.slice A N c, .slice B M d, .slice C K e] g) (hm : mayG g = true) (hs : rBools (All w) w [.slice Z M z] bs) :
    Calls Try.prog 47 #[.agg #[.slice A N c, .slice B M d, .slice C K e], .slice Z M z] w fun e w' => ∃ A1 c1 cur, e = .returned (.slice A1 M c1) ∧ w'.ownsRow w.heap.size 4 1 (.slice A1 M c1) M (bools cur) ∧ Leap g bs cur ∧ Below w.heap.size w w' := by
  obtain ⟨i0, hi, hz0, hz1, hz2⟩ := info_parts info_bool
  obtain ⟨hN, -, -⟩ := slice_len (rGr_open h).1
  obtain ⟨hM, -, -⟩ := slice_len (rGr_open h).2.1
  obtain ⟨hbl, -, -⟩ := slice_len hs
  have hM8 : M ≤ 8 := by have := (mayG_parts hm).2.1; omega
  have hB0 : Below w.heap.size w (w.alloc (.cells #[.slice A N c, .slice B M d, .slice C K e] 28)) := (Below.refl _ w).alloc (Nat.le_refl _) _
  have p0 := Blk.new w 28 [.slice A N c, .slice B M d, .slice C K e]
  have hr0 := bools_rd (bools_below hB0 hs)
  have hsz : w.heap.size ≤ (w.alloc (.cells #[.slice A N c, .slice B M d, .slice C K e] 28)).heap.size := hB0.size
  have Hg := Lib.hid (gr_below hB0 h)
  have Hs := Lib.hid (bools_below hB0 hs)
  have HB0 := Lib.hid hB0
  have HM := Lib.hid hM
  have HN := Lib.hid hN
  have Hbl := Lib.hid hbl
  have Hobj := Lib.hid (fun o ho => mayG_obj (g := g) hm (o := o) ho)
  have Href := Lib.hid (fun o ho k f v h1 h2 h3 h4 => lref_at (g := g) (o := o) hm ho (k := k) (f := f) (v := v) h1 h2 h3 h4)
  clear hB0 h hs hm hN hM hbl
  go_enter Try.func47, Try.ntmps47
  go_wp2_with (first | (at_builtin; refine wpList_app rfl _ _ 56 rfl (w.alloc (.cells #[.slice A N c, .slice B M d, .slice C K e] 28)).heap.size 4 i0 (.bool false) 1 rfl hi hz0 hz1 hz2 rfl (.slice none 0 0) 0 [] rfl (World.ownsRow_nil _ _ _ _) Z M z (bools bs) rfl (by rw [bools_length]; exact Hbl.out) hr0 (bools_one bs) (by simp only [maxLen]; omega) (by omega) (Nat.le_refl _) ?_; intro v9 w1 hown1 hg1 _) | fail)
  rw [Nat.zero_add, List.nil_append] at hown1
  have hB1 : Below (w.alloc (.cells #[.slice A N c, .slice B M d, .slice C K e] 28)).heap.size (w.alloc (.cells #[.slice A N c, .slice B M d, .slice C K e] 28)) w1 := (Below.refl _ _).grown hg1 (Nat.le_refl _) (fun k hk => by simp [Value.ownBlock] at hk)
  generalize w.alloc (.cells #[.slice A N c, .slice B M d, .slice C K e] 28) = w0 at *
  obtain ⟨A9, c9, hv9, -, -, -⟩ := own_slice hown1
  subst hv9
  clear hg1 hr0
  have HB1 := Lib.hid hB1
  have Hown1 := Lib.hid hown1
  have P0 := Lib.hid p0
  clear hB1 hown1 p0
  have TG := Lib.hid (fun W (hW : Below w0.heap.size w0 W) x => rgfind_any A B C N c M d K e g x W (gr_below hW Hg.out))
  have HP := Lib.hid (fun (W : World) (hW : Below w0.heap.size w0 W) => And.intro ((P0.out.to hW).cell (j := 0) rfl) (And.intro ((P0.out.to hW).cell (j := 1) rfl) ((P0.out.to hW).cell (j := 2) rfl)))
  go_loopw [6] (fun iv W => ∃ (i : Nat) (cur : List Bool), i ≤ M ∧ iv = .int .i64 (i : Int) ∧ Hid (Below w0.heap.size w0 W) ∧ Hid (W.ownsRow w0.heap.size 4 1 (.slice A9 M c9) M (bools cur)) ∧ Hid (LeapI g bs cur i 0)) (fun iv _ => M - (intOf iv).toNat)
  case atStart => exact ⟨0, bs, by omega, rfl, HB1, Hown1, Lib.hid (LeapI.start g bs)⟩
  case round =>
    rename World => wr
    obtain ⟨i, cur, hi, rfl, hD, hown, hleap⟩ := hrel
    obtain ⟨c0, c1, c2⟩ := HP.out _ hD.out
    by_cases hin : i < M
    · obtain ⟨o, ho⟩ : ∃ o, g.2.1[i]? = some o := ⟨_, List.getElem?_eq_getElem (by have := HM.out; omega)⟩
      obtain ⟨b, off, A2, cv, rfl, hb, x0, x1, x2, hvs, -, -⟩ := ob_at (rGr_open Hg.out).2.1 ho
      have hil : (i : Int) < (M : Int) := by omega
      have hi0 : (0 : Int) ≤ (i : Int) := Int.natCast_nonneg i
      have hom := List.mem_of_getElem? ho
      have mo := Hobj.out o hom
      have hvn : o.2.2.length ≤ 9223372036854775807 := by have := (slice_len hvs).2; simp only [maxLen] at this; omega
      have Hvs := Lib.hid hvs
      obtain ⟨y, hy⟩ : ∃ y, bs[i]? = some y := ⟨_, List.getElem?_eq_getElem (by have := Hbl.out; omega)⟩
      obtain ⟨bz, oz, rfl, hbz, hz⟩ := truth_at Hs.out hy
      obtain ⟨t, ht⟩ : ∃ t : Nat, o.2.1 = (t : Int) := ⟨o.2.1.toNat, by have := mo.t0; omega⟩
      have htN : t < N := by have := mo.t1; have := HN.out; omega
      obtain ⟨ty, hty⟩ : ∃ ty, g.1[t]? = some ty := ⟨_, List.getElem?_eq_getElem (by have := HN.out; omega)⟩
      have hfe := fldsG_at ht hty
      obtain ⟨bt, offt, st, AF, cF, rfl, hbt, -, y1, -, -, hfs⟩ := typ_at (rGr_open Hg.out).1 hty
      have hlen := mo.len
      rw [hfe] at hlen
      have Hfs := Lib.hid hfs
      have htl : (t : Int) < (N : Int) := by omega
      have ht00 : (0 : Int) ≤ (t : Int) := Int.natCast_nonneg t
      rw [ht] at x1
      have Hrf := Lib.hid (fun k f v => Href.out o hom k f v)
      have Hno := Lib.hid (fun k f v hf hv => lead_no (g := g) (bs := bs) (i := i) (k := k) (o := o) (f := f) (v := v) (y := y) ho hy hf hv)
      have Hyes : Hid (∀ (k : Nat) f v (J : Nat), (fldsG g.1 o.2.1)[k]? = some f → o.2.2[k]? = some v → y = true → f.2.1 = 5 → 0 ≤ v.2.2 → findG g.2.1 v.2.2 = (J : Int) → Lead g bs i o k f v J) := Lib.hid fun k f v J h1 h2 h3 h4 h5 h6 => ⟨ho, by rw [hy, h3], h1, h2, h4, h5, h6⟩
      rw [hfe] at Hrf Hno Hyes
      have Hlen := Lib.hid hlen
      have Ho := Lib.hid ho
      have HQ := Lib.hid (fun (W : World) (hW : Below w0.heap.size w0 W) => And.intro (HP.out W hW) (And.intro ((hW.cell (p := ⟨b, off + i * 3 + 1, none⟩) hb).trans x1) (And.intro ((hW.cell (p := ⟨b, off + i * 3 + 2, none⟩) hb).trans x2) (And.intro ((hW.cell (p := ⟨bz, oz + i, none⟩) hbz).trans hz) ((hW.cell (p := ⟨bt, offt + t * 2 + 1, none⟩) hbt).trans y1)))))
      clear mo hom ho hy hty hfe hvs hfs hlen ht x0 x1 hz y1
      generalize hol : o.2.2.length = ol at *
      have Hol := Lib.hid hol
      clear hol
      generalize hfl : ty.2.length = fl at *
      have Hfl := Lib.hid hfl
      clear hfl
      go_wp2
      clear c0 c1 c2 x2
      go_loopw [7] (fun kv W => ∃ (k : Nat) (cur : List Bool), k ≤ ol ∧ kv = .int .i64 (k : Int) ∧ Hid (Below w0.heap.size w0 W) ∧ Hid (W.ownsRow w0.heap.size 4 1 (.slice A9 M c9) M (bools cur)) ∧ Hid (LeapI g bs cur i k)) (fun kv _ => ol - (intOf kv).toNat)
      case atStart => exact ⟨0, cur, by omega, rfl, hD, hown, hleap⟩
      case round =>
        rename World => wt
        clear hD hown hleap
        obtain ⟨k, cur2, hk, rfl, hF, hown, hleap⟩ := hrel
        obtain ⟨⟨c0, c1, c2⟩, u1, u2, u3, u4⟩ := HQ.out _ hF.out
        by_cases hkl : k < ol
        · obtain ⟨f, hfk⟩ : ∃ f, ty.2[k]? = some f := ⟨_, List.getElem?_eq_getElem (by have := Hfl.out; have := Hlen.out; omega)⟩
          obtain ⟨bf, offf, sx, tx, rfl, hbf, -, z1, -, -, -, -, -, -⟩ := fld_at Hfs.out hfk
          obtain ⟨v, hvk⟩ : ∃ v, o.2.2[k]? = some v := ⟨_, List.getElem?_eq_getElem (by have := Hol.out; omega)⟩
          obtain ⟨bv, offv, sv, rfl, hbv, -, -, v2, -, -, -, -⟩ := val_at Hvs.out hvk
          have hk0 : (0 : Int) ≤ (k : Int) := Int.natCast_nonneg k
          have hkf : (k : Int) < (fl : Int) := by have := Hlen.out; omega
          have hkv : (k : Int) < (ol : Int) := by omega
          have Hn1 := Lib.hid (fun hn => LeapI.skip hleap.out (Hno.out k f v hfk hvk hn))
          have Hy1 := Lib.hid (fun J h1 h2 h3 h4 hJ => LeapI.take hleap.out (Hyes.out k f v J hfk hvk h1 h2 h3 h4) hJ)
          have Hr3 := Lib.hid (Hrf.out k f v hfk hvk)
          have Hlc : Hid (cur2.length = M) := Lib.hid (hleap.out.len.trans Hbl.out)
          have HS := Lib.hid (fun (W : World) (hW : Below w0.heap.size w0 W) => And.intro (HQ.out W hW) (And.intro ((hW.cell (p := ⟨bf, offf + k * 3 + 1, none⟩) hbf).trans z1) ((hW.cell (p := ⟨bv, offv + k * 3 + 2, none⟩) hbv).trans v2)))
          clear hfk hvk hleap z1 v2
          generalize f.2.1 = kk at *
          generalize v.2.2 = rr at *
          have hdr : Below w0.heap.size w0 wt.drew := hF.out.drew
          by_cases hcc : y = true ∧ kk = 5 ∧ 0 ≤ rr
          case neg =>
            have Hn3 := Lib.hid (Hn1.out hcc)
            have hyk : y = false ∨ (y = true ∧ kk ≠ 5) ∨ (y = true ∧ kk = 5 ∧ ¬ 0 ≤ rr) := by
              cases y
              · exact .inl rfl
              · by_cases h5 : kk = 5
                · exact .inr (.inr ⟨rfl, h5, fun h0 => hcc ⟨rfl, h5, h0⟩⟩)
                · exact .inr (.inl ⟨rfl, h5⟩)
            clear hcc Hn1 Hy1 Hr3
            have Hown := hown
            have HO : Hid (wt.drew.ownsRow w0.heap.size 4 1 (.slice A9 M c9) M (bools cur2)) := Lib.hid (own_below hown.out (Below.refl _ wt).drew)
            rcases hyk with rfl | ⟨rfl, h5⟩ | ⟨rfl, rfl, h0⟩
            · go_wp2
              refine sch_start [(0, true), (1, true), (2, true), (3, true), (4, true), (5, true), (6, true), (7, true), (8, true), (9, true), (10, true), (11, true), (12, true), (13, true), (14, true), (15, true), (16, true), (17, true), (18, true), (19, true), (20, true), (21, true), (22, true), (23, true), (24, true), (25, true), (26, true), (27, true), (28, true), (29, true), (30, true), (31, true), (32, true), (33, true), (34, true), (35, true)] (fun W => Below w0.heap.size w0 W) (by kernel_rfl) rfl (by kernel_rfl) (fun _ _ _ _ _ h => h) hdr (fun hH => ?_)
              repeat (first | (refine sch_yes (v := ?_) rfl rfl ?_ hH ?_; rotate_left; (focus ((intro W hW; obtain ⟨⟨⟨x0, x1, x2⟩, x3, x4, x5, x6⟩, x7, x8⟩ := HS.out W hW; go_simp) <;> with_reducible rfl)); simp only [Act.put, List.setIfInBounds_toArray, List.set_cons_zero, List.set_cons_succ]) | (refine sch_no rfl rfl hH ?_; simp only [Act.put, List.setIfInBounds_toArray, List.set_cons_zero, List.set_cons_succ]))
              refine sch_done ?_
              clear hH HS
              go_wp2
              go_roundw
              case rel => exact ⟨k + 1, cur2, by omega, by go_num, Lib.hid hdr, HO, Hn3⟩
              case measure => simp [intOf]; omega
            · have h5' : (kk == 5) = false := by simp [h5]
              clear h5
              go_wp2
              refine sch_start [(0, true), (1, true), (2, true), (3, true), (4, true), (5, true), (6, true), (7, true), (8, true), (9, true), (10, true), (11, true), (12, true), (13, true), (14, true), (15, true), (16, true), (17, true), (18, true), (19, true), (20, true), (21, true), (22, true), (23, true), (24, true), (25, true), (26, true), (27, true), (28, true), (29, true), (30, true), (31, true), (32, true), (33, true), (34, true), (35, true)] (fun W => Below w0.heap.size w0 W) (by kernel_rfl) rfl (by kernel_rfl) (fun _ _ _ _ _ h => h) hdr (fun hH => ?_)
              repeat (first | (refine sch_yes (v := ?_) rfl rfl ?_ hH ?_; rotate_left; (focus ((intro W hW; obtain ⟨⟨⟨x0, x1, x2⟩, x3, x4, x5, x6⟩, x7, x8⟩ := HS.out W hW; go_simp) <;> with_reducible rfl)); simp only [Act.put, List.setIfInBounds_toArray, List.set_cons_zero, List.set_cons_succ]) | (refine sch_no rfl rfl hH ?_; simp only [Act.put, List.setIfInBounds_toArray, List.set_cons_zero, List.set_cons_succ]))
              refine sch_done ?_
              clear hH HS
              go_wp2
              go_roundw
              case rel => exact ⟨k + 1, cur2, by omega, by go_num, Lib.hid hdr, HO, Hn3⟩
              case measure => simp [intOf]; omega
            · have h0' : decide (0 ≤ rr) = false := decide_eq_false h0
              clear h0
              go_wp2
              refine sch_start [(0, true), (1, true), (2, true), (3, true), (4, true), (5, true), (6, true), (7, true), (8, true), (9, true), (10, true), (11, true), (12, true), (13, true), (14, true), (15, true), (16, true), (17, true), (18, true), (19, true), (20, true), (21, true), (22, true), (23, true), (24, true), (25, true), (26, true), (27, true), (28, true), (29, true), (30, true), (31, true), (32, true), (33, true), (34, true), (35, true)] (fun W => Below w0.heap.size w0 W) (by kernel_rfl) rfl (by kernel_rfl) (fun _ _ _ _ _ h => h) hdr (fun hH => ?_)
              repeat (first | (refine sch_yes (v := ?_) rfl rfl ?_ hH ?_; rotate_left; (focus ((intro W hW; obtain ⟨⟨⟨x0, x1, x2⟩, x3, x4, x5, x6⟩, x7, x8⟩ := HS.out W hW; go_simp) <;> with_reducible rfl)); simp only [Act.put, List.setIfInBounds_toArray, List.set_cons_zero, List.set_cons_succ]) | (refine sch_no rfl rfl hH ?_; simp only [Act.put, List.setIfInBounds_toArray, List.set_cons_zero, List.set_cons_succ]))
              refine sch_done ?_
              clear hH HS
              go_wp2
              go_roundw
              case rel => exact ⟨k + 1, cur2, by omega, by go_num, Lib.hid hdr, HO, Hn3⟩
              case measure => simp [intOf]; omega
          obtain ⟨rfl, h5, h0⟩ := hcc
          obtain ⟨J, hJ, hJl⟩ := Hr3.out h5 h0
          have hJM : J < M := by have := HM.out; omega
          have Hy3 := Lib.hid (Hy1.out J rfl h5 h0 hJ (by have := Hlc.out; omega))
          have T1 := Lib.hid (fun W hW => TG.out W hW rr)
          rw [hJ] at T1
          have h0' : decide (0 ≤ rr) = true := decide_eq_true h0
          have hJ0 : (0 : Int) ≤ (J : Int) := Int.natCast_nonneg J
          have hJn : (J : Int) < (M : Int) := by omega
          subst h5
          clear Hn1 Hy1 Hr3 hJ hJl h0
          go_wp2
          refine sch_start [(0, true), (1, true), (2, true), (3, true), (4, true), (5, true), (6, true), (7, true), (8, true), (9, true), (10, true), (11, true), (12, true), (13, true), (14, true), (15, true), (16, true), (17, true), (18, true), (19, true), (20, true), (21, true), (22, true), (23, true), (24, true), (25, true), (26, true), (27, true), (28, true), (29, true), (30, true), (31, true), (32, true), (33, true), (34, true), (35, true)] (fun W => Below w0.heap.size w0 W) (by kernel_rfl) rfl (by kernel_rfl) (fun _ _ _ _ _ h => h) hdr (fun hH => ?_)
          repeat (first | (refine sch_yes (v := ?_) rfl rfl ?_ hH ?_; rotate_left; (focus ((intro W hW; obtain ⟨⟨⟨x0, x1, x2⟩, x3, x4, x5, x6⟩, x7, x8⟩ := HS.out W hW; go_simp) <;> with_reducible rfl)); simp only [Act.put, List.setIfInBounds_toArray, List.set_cons_zero, List.set_cons_succ]) | (refine sch_no rfl rfl hH ?_; simp only [Act.put, List.setIfInBounds_toArray, List.set_cons_zero, List.set_cons_succ]))
          refine sch_done ?_
          clear hH
          have hown2 : Hid (wt.drew.ownsRow w0.heap.size 4 1 (.slice A9 M c9) M (bools cur2)) := Lib.hid (own_below hown.out (Below.refl _ wt).drew)
          generalize wt.drew = wu at *
          clear hown hF c0 c1 c2 u1 u2 u3 u4
          obtain ⟨gb, xx, rfl, hgb, -, -, -, -⟩ := bools_set hown2.out hJM
          go_wp2
          refine sch_start [(0, true), (1, true), (2, true), (3, true), (4, true), (5, true), (6, true), (7, true), (8, true), (9, true), (10, true), (11, true), (12, false), (13, true), (14, false)] (fun W => Below w0.heap.size w0 W) (by kernel_rfl) rfl (by kernel_rfl) (fun _ _ _ _ _ h => h) hdr.drew (fun hH => ?_)
          repeat (first | (refine sch_yes (v := ?_) rfl rfl ?_ hH ?_; rotate_left; (focus ((intro W hW; obtain ⟨⟨⟨x0, x1, x2⟩, x3, x4, x5, x6⟩, x7, x8⟩ := HS.out W hW; go_simp) <;> with_reducible rfl)); simp only [Act.put, List.setIfInBounds_toArray, List.set_cons_zero, List.set_cons_succ]) | (refine sch_no rfl rfl hH ?_; simp only [Act.put, List.setIfInBounds_toArray, List.set_cons_zero, List.set_cons_succ]))
          refine sch_call rfl rfl (fun K' hK' => ?_)
          go_wp2_with (go_at_call 28; refine (T1.out _ hH).mono ?_; rintro e w4 ⟨rfl, hB4⟩)
          have hD4 := hH.trans (hB4.mono hH.size)
          have hown4 := own_below hown2.out ((Below.refl _ wu).drew.trans hB4)
          refine hK'.out _ _ hD4 ?_
          clear hK' hB4 hH
          have hH := hD4
          repeat (first | (refine sch_yes (v := ?_) rfl rfl ?_ hH ?_; rotate_left; (focus ((intro W hW; obtain ⟨⟨⟨x0, x1, x2⟩, x3, x4, x5, x6⟩, x7, x8⟩ := HS.out W hW; go_simp) <;> with_reducible rfl)); simp only [Act.put, List.setIfInBounds_toArray, List.set_cons_zero, List.set_cons_succ]) | (refine sch_no rfl rfl hH ?_; simp only [Act.put, List.setIfInBounds_toArray, List.set_cons_zero, List.set_cons_succ]))
          refine sch_call rfl rfl (fun K' hK' => ?_)
          obtain ⟨gb', xx', hge, hgb', hgl, hcell, hfrz, hown5⟩ := bools_set hown4 hJM
          injection hge with hge
          injection hge with hge
          subst hge
          go_wp2
          have hD5 := hD4.setCell (p := ⟨gb, J, none⟩) hgb (.bool true)
          refine hK'.out _ _ hD5 ?_
          clear hK' hH
          refine sch_done ?_
          have HD5 := Lib.hid hD5
          have HO5 := Lib.hid hown5
          clear hD4 hD5 hown4 hown5 hcell hfrz HS
          go_wp2
          go_roundw
          case rel => exact ⟨k + 1, cur2.set J true, by omega, by go_num, HD5, HO5, Hy3⟩
          case measure => simp [intOf]; omega
        · obtain rfl : k = ol := by omega
          have Hn5 := Lib.hid (LeapI.next hleap.out Ho.out (by have := Hol.out; omega))
          clear hleap
          go_wp2
          go_roundw
          case rel => exact ⟨i + 1, cur2, by omega, by go_num, hF, hown, Hn5⟩
          case measure => simp [intOf]; omega
    · obtain rfl : i = M := by omega
      have Hn5 := Lib.hid (LeapI.all hleap.out (by have := HM.out; omega))
      go_wp2
      go_ret
      exact ⟨A9, c9, cur, rfl, own_mono hown.out hsz, Hn5.out, HB0.out.trans (hD.out.mono HB0.out.size)⟩
end Go.Proofs.Ytembafogbfcajaa

/- The contract of the document's own Reach (layer 8): just what the plain function tells. Nothing that was there is changed. Condition: names of at most 1048576 bytes. -/
namespace Go.Proofs.Ytembafogbfcajaa
open Go.RowKit

/-- The ids of those that are marked, up to a place. -/
def idsB (os : List Ob) (bs : List Bool) (i : Nat) : List Int := (((os.take i).zip bs).filter (·.2)).map (·.1.1)
theorem idsB_more {os : List Ob} {bs : List Bool} {i : Nat} {o : Ob} {y : Bool} (ho : os[i]? = some o) (hy : bs[i]? = some y) : idsB os bs (i + 1) = idsB os bs i ++ (if y = true then [o.1] else []) := by
  have hlo := (List.getElem?_eq_some_iff.1 ho).1
  have hly := (List.getElem?_eq_some_iff.1 hy).1
  have e : (os.take (i + 1)).zip bs = (os.take i).zip bs ++ [(o, y)] := by
    refine List.ext_getElem? fun j => ?_
    rcases Nat.lt_trichotomy j i with hj | rfl | hj
    · rw [List.getElem?_append_left (by rw [List.length_zip, List.length_take]; omega)]
      obtain ⟨p, hp⟩ : ∃ p, os[j]? = some p := ⟨_, List.getElem?_eq_getElem (by omega)⟩
      obtain ⟨x, hx⟩ : ∃ x, bs[j]? = some x := ⟨_, List.getElem?_eq_getElem (by omega)⟩
      rw [(List.getElem?_zip_eq_some (z := (p, x))).2 ⟨(by rw [List.getElem?_take_of_lt (by omega)]; exact hp), hx⟩,
        (List.getElem?_zip_eq_some (z := (p, x))).2 ⟨(by rw [List.getElem?_take_of_lt hj]; exact hp), hx⟩]
    · rw [(List.getElem?_zip_eq_some (z := (o, y))).2 ⟨(by rw [List.getElem?_take_of_lt (by omega)]; exact ho), hy⟩, List.getElem?_append_right (by rw [List.length_zip, List.length_take]; omega)]
      rw [List.length_zip, List.length_take, show j - min (min j os.length) bs.length = 0 by omega]
      rfl
    · rw [List.getElem?_eq_none (by rw [List.length_zip, List.length_take]; omega), List.getElem?_eq_none (by rw [List.length_append, List.length_zip, List.length_take, List.length_singleton]; omega)]
  rw [idsB, idsB, e, List.filter_append, List.map_append]
  cases y <;> rfl
theorem idsB_le (os : List Ob) (bs : List Bool) (i : Nat) : (idsB os bs i).length ≤ i := by
  rw [idsB, List.length_map]
  refine Nat.le_trans (List.length_filter_le _ _) ?_
  rw [List.length_zip, List.length_take]
  omega
theorem idsB_mem {os : List Ob} {bs : List Bool} {i : Nat} {x : Int} (h : x ∈ idsB os bs i) : ∃ o ∈ os, o.1 = x := by
  rw [idsB, List.mem_map] at h
  obtain ⟨⟨o, y⟩, h1, h2⟩ := h
  have := (List.mem_filter.1 h1).1
  exact ⟨o, List.mem_of_mem_take (List.of_mem_zip this).1, h2⟩
theorem idsB_reach {g : Gr} (hm : mayG g = true) {bs : List Bool} {t : Nat} (h : Leaps g bs t) (ht : g.2.1.length ≤ t) : idsB g.2.1 bs g.2.1.length = reachG g := by
  have hall : ∀ (i : Nat) o y, g.2.1[i]? = some o → bs[i]? = some y → y = @decide (ComeG g o.1) (Classical.propDecidable _) := fun i o y ho hy => by
    have := h.all hm ht ho
    rw [hy] at this
    cases y
    · symm
      simp only [decide_eq_false_iff_not]
      exact fun hc => by have := this.2 hc; cases this
    · symm
      simp only [decide_eq_true_eq]
      exact this.1 rfl
  rw [reachG, sweepG_yes hm, idsB, List.take_of_length_le (Nat.le_refl _)]
  show _ = (g.2.1.filter _).map _
  have hl := h.len
  clear ht h hm
  generalize g.2.1 = os at *
  induction os generalizing bs with
  | nil => simp
  | cons o os ih =>
    cases bs with
    | nil => simp at hl
    | cons y bs =>
      have h0 := hall 0 o y rfl rfl
      have hi := ih (bs := bs) (fun i o y ho hy => hall (i + 1) o y (by simpa using ho) (by simpa using hy)) (by simpa using hl)
      rw [List.zip_cons_cons, List.filter_cons, List.filter_cons, ← h0]
      cases y
      · simpa using hi
      · simp only [if_true, List.map_cons]
        rw [hi]
theorem leaps_start {g : Gr} (hm : mayG g = true) {bs : List Bool} (hl : bs.length = g.2.1.length) (h : ∀ j : Nat, bs[j]? = some true ↔ ∃ (q : Nat) (r : Int), q < g.2.2.length ∧ g.2.2[q]? = some r ∧ 0 ≤ r ∧ findG g.2.1 r = (j : Int)) : Leaps g bs 0 := by
  refine ⟨hl, fun i o ho hb => ?_, fun r hr h0 => ?_, .inr (Nat.zero_le _)⟩
  · obtain ⟨q, r, -, hq, h0, hf⟩ := (h i).1 hb
    obtain ⟨I, p, e1, e2, e3, -⟩ := findG_at (os := g.2.1) (id := r) (by rw [hf]; omega)
    rw [hf] at e1
    obtain rfl : i = I := by omega
    rw [ho] at e2
    injection e2 with e2
    subst e2
    rw [e3]
    exact ⟨r, List.mem_of_getElem? hq, by omega, .here⟩
  · obtain ⟨J, hJ, -⟩ := lroot_at hm hr h0
    obtain ⟨q, hq⟩ := List.getElem?_of_mem hr
    rw [hJ, Int.toNat_natCast]
    exact (h J).2 ⟨q, r, (List.getElem?_eq_some_iff.1 hq).1, hq, h0, hJ⟩
theorem reachG_no {g : Gr} (h : mayG g = false) : reachG g = [] := by rw [reachG, sweepG_no h]; rfl

set_option maxRecDepth 100000 in
set_option maxHeartbeats 4000000 in
theorem rreach_any (A B C : Option Addr) (N c M d K e : Nat) (g : Gr) (w : World) (h : rGr (All w) w [.slice A N c, .slice B M d, .slice C K e] g) (htame : tameS g.1) :
    Calls Try.prog 23 #[.agg #[.slice A N c, .slice B M d, .slice C K e]] w fun e w' => ∃ A1 c1, e = .returned (.slice A1 (reachG g).length c1) ∧ w'.ownsRow w.heap.size 3 1 (.slice A1 (reachG g).length c1) (reachG g).length (ints (reachG g)) ∧ (∀ n ∈ reachG g, (Lit.int .i64 n).wf = true) ∧ Below w.heap.size w w' := by
  obtain ⟨i0, hi, hz0, hz1, hz2⟩ := info_parts info_int
  obtain ⟨hM, -, -⟩ := slice_len (rGr_open h).2.1
  obtain ⟨hK, -, -⟩ := slice_len (rGr_open h).2.2
  have hB0 : Below w.heap.size w (w.alloc (.cells #[.slice A N c, .slice B M d, .slice C K e] 28)) := (Below.refl _ w).alloc (Nat.le_refl _) _
  have p0 := Blk.new w 28 [.slice A N c, .slice B M d, .slice C K e]
  have hsz : w.heap.size ≤ (w.alloc (.cells #[.slice A N c, .slice B M d, .slice C K e] 28)).heap.size := hB0.size
  have Hg := Lib.hid (gr_below hB0 h)
  have HB0 := Lib.hid hB0
  have HM := Lib.hid hM
  have HK := Lib.hid hK
  have TM := Lib.hid (rgmay_any A B C N c M d K e g _ (gr_below hB0 h) htame)
  clear hB0 h hM hK
  by_cases hm : mayG g = true
  case neg =>
    replace hm : mayG g = false := by simpa using hm
    rw [hm] at TM
    have Hr := Lib.hid (reachG_no hm)
    clear hm
    go_enter Try.func23, Try.ntmps23
    go_wp2_with fail
    refine TM.out.mono ?_
    rintro e w1 ⟨rfl, hB1⟩
    go_wp2
    go_ret
    rw [Hr.out]
    exact ⟨none, 0, rfl, World.ownsRow_nil _ _ _ _, by simp, HB0.out.trans (hB1.mono HB0.out.size)⟩
  rw [hm] at TM
  have hM8 : M ≤ 8 := by have := (mayG_parts hm).2.1; have := HM.out; omega
  have hK3 : K ≤ 3 := by have := (mayG_parts hm).2.2.2.1; have := HK.out; omega
  have Hm := Lib.hid hm
  have Hroot := Lib.hid (fun r hr h0 => lroot_at (g := g) (r := r) hm hr h0)
  have Hwf : Hid (∀ n ∈ reachG g, (Lit.int .i64 n).wf = true) := Lib.hid fun n hn => by
    obtain ⟨-, o, ho, rfl⟩ := (reach_mem hm).1 hn
    have mo := mayG_obj hm ho
    have := mo.id0
    have := mo.id1
    exact WalkArith.wf_i64 ⟨by omega, by omega⟩
  clear hm
  go_enter Try.func23, Try.ntmps23
  go_wp2_with fail
  refine TM.out.mono ?_
  rintro e w1 ⟨rfl, hB1⟩
  clear TM
  generalize w.alloc (.cells #[.slice A N c, .slice B M d, .slice C K e] 28) = w0 at *
  have HB1 := Lib.hid hB1
  have P0 := Lib.hid p0
  clear p0
  have TG := Lib.hid (fun W (hW : Below w0.heap.size w0 W) x => rgfind_any A B C N c M d K e g x W (gr_below hW Hg.out))
  have TC := Lib.hid (fun W (hW : Below w0.heap.size w0 W) Z z bs hs => rcome_any A B C N c M d K e g Z z bs W (gr_below hW Hg.out) Hm.out hs)
  have HP := Lib.hid (fun (W : World) (hW : Below w0.heap.size w0 W) => And.intro ((P0.out.to hW).cell (j := 0) rfl) (And.intro ((P0.out.to hW).cell (j := 1) rfl) ((P0.out.to hW).cell (j := 2) rfl)))
  have hmk : ∀ W : World, (Instr.makeSlice 56 (.int .i64 (M : Int)) (.int .i64 (M : Int))).run Try.prog W = .ok (.slice (some ⟨W.heap.size, 0, none⟩) M M) (W.alloc (.cells (madeCells #[.bool false] M) 4)) := fun W =>
    (made_run (P := Try.prog) 56 4 (.bool false) 1 1 rfl (by kernel_rfl) M (by omega) (by simp only [maxLen]; omega) W).trans (by rw [Nat.mul_one]; rfl)
  have hB2 : Below w0.heap.size w0 (w1.alloc (.cells (madeCells #[.bool false] M) 4)) := hB1.alloc hB1.size _
  have b2 : Blk (w1.alloc (.cells (madeCells #[.bool false] M) 4)) w1.heap.size 4 (madeCells #[.bool false] M).toList := Blk.new w1 _ _
  have hmc : (madeCells #[.bool false] M).toList = bools (List.replicate M false) := by
    rw [toList_madeCells_one, bools, List.map_replicate]
  have hown2 : (w1.alloc (.cells (madeCells #[.bool false] M) 4)).ownsRow w0.heap.size 4 1 (.slice (some ⟨w1.heap.size, 0, none⟩) M M) M (bools (List.replicate M false)) :=
    ⟨by simp, .inr ⟨w1.heap.size, M, _, rfl, hB1.size, b2, Nat.le_refl _, by simp only [maxLen]; omega, by simp [size_madeCells], by rw [hmc, Nat.mul_one, List.take_of_length_le (by simp)]⟩⟩
  obtain ⟨c0, c1, c2⟩ := HP.out _ HB1.out
  clear b2 hmc hB1
  go_wp2
  clear c0 c1 c2
  have HB2 := Lib.hid hB2
  have Hown2 := Lib.hid hown2
  clear hB2 hown2 hmk
  generalize w1.alloc (.cells (madeCells #[.bool false] M) 4) = w2 at *
  generalize w1.heap.size = gb at *
  go_loopw [5] (fun iv W => ∃ (q : Nat) (cur : List Bool), q ≤ K ∧ iv = .int .i64 (q : Int) ∧ Hid (Below w0.heap.size w0 W) ∧ Hid (W.ownsRow w0.heap.size 4 1 (.slice (some ⟨gb, 0, none⟩) M M) M (bools cur)) ∧ Hid (cur.length = M ∧ ∀ j : Nat, cur[j]? = some true ↔ ∃ (p : Nat) (r : Int), p < q ∧ g.2.2[p]? = some r ∧ 0 ≤ r ∧ findG g.2.1 r = (j : Int))) (fun iv _ => K - (intOf iv).toNat)
  case atStart => exact ⟨0, List.replicate M false, by omega, rfl, HB2, Hown2, Lib.hid ⟨by simp, fun j => ⟨fun hj => by rw [List.getElem?_replicate] at hj; split at hj <;> simp at hj, fun ⟨p, _, hp, _⟩ => by omega⟩⟩⟩
  case round =>
    rename World => wr
    obtain ⟨q, cur, hq, rfl, hD, hown, hcur⟩ := hrel
    obtain ⟨c0, c1, c2⟩ := HP.out _ hD.out
    by_cases hqK : q < K
    · obtain ⟨r, hr⟩ : ∃ r, g.2.2[q]? = some r := ⟨_, List.getElem?_eq_getElem (by have := HK.out; omega)⟩
      obtain ⟨b, off, rfl, hb, hrc, -⟩ := id_at (rGr_open Hg.out).2.2 hr
      have hql : (q : Int) < (K : Int) := by omega
      have hq0 : (0 : Int) ≤ (q : Int) := Int.natCast_nonneg q
      have HS := Lib.hid (fun (W : World) (hW : Below w0.heap.size w0 W) => And.intro (HP.out W hW) ((hW.cell (p := ⟨b, off + q, none⟩) hb).trans hrc))
      obtain ⟨-, hrc'⟩ := HS.out _ hD.out
      by_cases hr0 : 0 ≤ r
      · have hr0' : decide (0 ≤ r) = true := decide_eq_true hr0
        obtain ⟨J, hJ, hJl⟩ := Hroot.out r (List.mem_of_getElem? hr) hr0
        have hJM : J < M := by have := HM.out; omega
        have T1 := Lib.hid (fun W hW => TG.out W hW r)
        rw [hJ] at T1
        have Hn : Hid ((cur.set J true).length = M ∧ ∀ j : Nat, (cur.set J true)[j]? = some true ↔ ∃ (p : Nat) (r : Int), p < q + 1 ∧ g.2.2[p]? = some r ∧ 0 ≤ r ∧ findG g.2.1 r = (j : Int)) := Lib.hid (by
          obtain ⟨hcl, hcm⟩ := hcur.out
          refine ⟨by rw [List.length_set]; exact hcl, fun j => ?_⟩
          by_cases hj : j = J
          · subst hj
            rw [List.getElem?_set_self (by omega)]
            exact ⟨fun _ => ⟨q, r, by omega, hr, hr0, hJ⟩, fun _ => rfl⟩
          · rw [List.getElem?_set_ne (fun e => hj e.symm), hcm j]
            constructor
            · rintro ⟨p, r', hp, a⟩
              exact ⟨p, r', by omega, a⟩
            · rintro ⟨p, r', hp, a1, a2, a3⟩
              by_cases hpq : p < q
              · exact ⟨p, r', hpq, a1, a2, a3⟩
              · obtain rfl : p = q := by omega
                rw [hr] at a1
                injection a1 with a1
                subst a1
                rw [hJ] at a3
                exact absurd (by omega) hj)
        have hJ0 : (0 : Int) ≤ (J : Int) := Int.natCast_nonneg J
        have hJn : (J : Int) < (M : Int) := by omega
        clear hr hr0 hJ hJl hcur hrc
        go_wp2
        clear c0 c1 c2 hrc'
        refine sch_start [(0, true), (1, true), (2, true), (3, true), (4, true), (5, true), (6, true), (7, false), (8, true), (9, false)] (fun W => Below w0.heap.size w0 W) (by kernel_rfl) rfl (by kernel_rfl) (fun _ _ _ _ _ h => h) hD.out.drew (fun hH => ?_)
        repeat (first | (refine sch_yes (v := ?_) rfl rfl ?_ hH ?_; rotate_left; (focus ((intro W hW; obtain ⟨⟨x0, x1, x2⟩, x3⟩ := HS.out W hW; go_simp) <;> with_reducible rfl)); simp only [Act.put, List.setIfInBounds_toArray, List.set_cons_zero, List.set_cons_succ]) | (refine sch_no rfl rfl hH ?_; simp only [Act.put, List.setIfInBounds_toArray, List.set_cons_zero, List.set_cons_succ]))
        refine sch_call rfl rfl (fun K' hK' => ?_)
        go_wp2_with (go_at_call 28; refine (T1.out _ hH).mono ?_; rintro e w4 ⟨rfl, hB4⟩)
        have hD4 := hH.trans (hB4.mono hH.size)
        have hown4 := own_below hown.out ((Below.refl _ wr).drew.trans hB4)
        refine hK'.out _ _ hD4 ?_
        clear hK' hB4 hH
        have hH := hD4
        repeat (first | (refine sch_yes (v := ?_) rfl rfl ?_ hH ?_; rotate_left; (focus ((intro W hW; obtain ⟨⟨x0, x1, x2⟩, x3⟩ := HS.out W hW; go_simp) <;> with_reducible rfl)); simp only [Act.put, List.setIfInBounds_toArray, List.set_cons_zero, List.set_cons_succ]) | (refine sch_no rfl rfl hH ?_; simp only [Act.put, List.setIfInBounds_toArray, List.set_cons_zero, List.set_cons_succ]))
        refine sch_call rfl rfl (fun K' hK' => ?_)
        obtain ⟨gb', xx', hge, hgb', hgl, hcell, hfrz, hown5⟩ := bools_set hown4 hJM
        injection hge with hge
        injection hge with hge
        subst hge
        go_wp2
        have hD5 := hD4.setCell (p := ⟨gb, J, none⟩) hgb' (.bool true)
        refine hK'.out _ _ hD5 ?_
        clear hK' hH
        refine sch_done ?_
        have HD5 := Lib.hid hD5
        have HO5 := Lib.hid hown5
        clear hD4 hD5 hown4 hown5 hcell hfrz HS
        go_wp2
        go_roundw
        case rel => exact ⟨q + 1, cur.set J true, by omega, by go_num, HD5, HO5, Hn⟩
        case measure => simp [intOf]; omega
      · have hr0' : decide (0 ≤ r) = false := decide_eq_false hr0
        have Hn : Hid (cur.length = M ∧ ∀ j : Nat, cur[j]? = some true ↔ ∃ (p : Nat) (r : Int), p < q + 1 ∧ g.2.2[p]? = some r ∧ 0 ≤ r ∧ findG g.2.1 r = (j : Int)) := Lib.hid (by
          obtain ⟨hcl, hcm⟩ := hcur.out
          refine ⟨hcl, fun j => (hcm j).trans ⟨?_, ?_⟩⟩
          · rintro ⟨p, r', hp, a⟩
            exact ⟨p, r', by omega, a⟩
          · rintro ⟨p, r', hp, a1, a2, a3⟩
            by_cases hpq : p < q
            · exact ⟨p, r', hpq, a1, a2, a3⟩
            · obtain rfl : p = q := by omega
              rw [hr] at a1
              injection a1 with a1
              subst a1
              exact absurd a2 hr0)
        clear hr hr0 hcur hrc
        go_wp2
        go_roundw
        case rel => exact ⟨q + 1, cur, by omega, by go_num, hD, hown, Hn⟩
        case measure => simp [intOf]; omega
    · obtain rfl : q = K := by omega
      have Hl0 : Hid (Leaps g cur 0) := Lib.hid (leaps_start Hm.out (by rw [hcur.out.1]; exact HM.out.symm) (by rw [HK.out]; exact hcur.out.2))
      clear hcur hqK hq
      go_wp2
      clear c0 c1 c2
      go_loopw [4, 6] (fun av iv W => ∃ (i : Nat) (A9 : Option Addr) (c9 : Nat) (cur : List Bool), i ≤ M ∧ iv = .int .i64 (i : Int) ∧ av = .slice A9 M c9 ∧ Hid (Below w0.heap.size w0 W) ∧ Hid (W.ownsRow w0.heap.size 4 1 (.slice A9 M c9) M (bools cur)) ∧ Hid (Leaps g cur i)) (fun _ iv _ => M - (intOf iv).toNat)
      case atStart => exact ⟨0, _, _, cur, by omega, rfl, rfl, hD, hown, Hl0⟩
      case round =>
        rename World => ws
        clear hD hown Hl0
        obtain ⟨i, A9, c9, cur2, hi', rfl, rfl, hE, hown, hl⟩ := hrel
        obtain ⟨c0, c1, c2⟩ := HP.out _ hE.out
        by_cases hin : i < M
        · have hrd := rBools_stays.to (S' := All ws) (w' := ws) (Keeps.mono fun b hb => hb.2) (bools_own hown.out (by rw [hl.out.len]; exact HM.out))
          have T1 := Lib.hid (TC.out _ hE.out A9 c9 cur2 hrd)
          clear hrd
          go_wp2_with fail
          refine T1.out.mono ?_
          rintro e w4 ⟨A10, c10, cur3, rfl, hown4, hlp, hB4⟩
          have HE := Lib.hid (hE.out.trans (hB4.mono hE.out.size))
          have HO := Lib.hid (own_mono hown4 hE.out.size)
          have HL := Lib.hid (hl.out.step Hm.out hlp)
          clear hown4 hlp hB4 T1 hl c0 c1 c2
          go_wp2
          go_roundw
          case rel => exact ⟨i + 1, A10, c10, cur3, by omega, by go_num, rfl, HE, HO, HL⟩
          case measure => simp [intOf]; omega
        · obtain rfl : i = M := by omega
          have Hids : Hid (idsB g.2.1 cur2 i = reachG g) := Lib.hid (by have := idsB_reach Hm.out hl.out (by rw [HM.out]; exact Nat.le_refl _); rwa [HM.out] at this)
          have Hcl : Hid (cur2.length = i) := Lib.hid (hl.out.len.trans HM.out)
          have Hrd := Lib.hid (rBools_stays.to (S' := All ws) (w' := ws) (Keeps.mono fun b hb => hb.2) (bools_own hown.out Hcl.out))
          clear hl hin hi' hown
          have HW := Lib.hid (HB0.out.trans (hE.out.mono HB0.out.size))
          have hsz2 : w.heap.size ≤ ws.heap.size := HW.out.size
          have hsz3 : w0.heap.size ≤ ws.heap.size := hE.out.size
          go_wp2
          clear c0 c1 c2
          go_loopw [7, 8] (fun ov iv W => ∃ (k : Nat), k ≤ i ∧ iv = .int .i64 (k : Int) ∧ Hid (W.ownsRow ws.heap.size 3 1 ov (idsB g.2.1 cur2 k).length (ints (idsB g.2.1 cur2 k))) ∧ Hid (Below ws.heap.size ws W)) (fun _ iv _ => i - (intOf iv).toNat)
          case atStart => exact ⟨0, by omega, rfl, Lib.hid (World.ownsRow_nil _ _ _ _), Lib.hid (Below.refl _ _)⟩
          case round =>
            rename World => wt
            rename_i ov iv
            obtain ⟨k, hk, rfl, hown, hF⟩ := hrel
            have hEF := Lib.hid (hE.out.trans (hF.out.mono hE.out.size))
            obtain ⟨c0, c1, c2⟩ := HP.out _ hEF.out
            by_cases hki : k < i
            · obtain ⟨o, ho⟩ : ∃ o, g.2.1[k]? = some o := ⟨_, List.getElem?_eq_getElem (by have := HM.out; omega)⟩
              obtain ⟨y, hy⟩ : ∃ y, cur2[k]? = some y := ⟨_, List.getElem?_eq_getElem (by have := Hcl.out; omega)⟩
              obtain ⟨b, off, A2, cv, rfl, hb, x0, -, -, -, -, -⟩ := ob_at (rGr_open Hg.out).2.1 ho
              obtain ⟨bz, oz, rfl, hbz, hz⟩ := truth_at (bools_below hF.out Hrd.out) hy
              have hil : (k : Int) < (i : Int) := by omega
              have hi0 : (0 : Int) ≤ (k : Int) := Int.natCast_nonneg k
              have x0' := (hEF.out.cell (p := ⟨b, off + k * 3, none⟩) hb).trans x0
              have Hmore := Lib.hid (idsB_more ho hy)
              have hle := idsB_le g.2.1 cur2 k
              clear ho hy x0
              generalize o.1 = oid at *
              cases y
              · have Hm2 : Hid (idsB g.2.1 cur2 (k + 1) = idsB g.2.1 cur2 k) := Lib.hid (by rw [Hmore.out]; simp)
                clear Hmore
                go_wp2
                go_roundw
                case rel => exact ⟨k + 1, by omega, by go_num, Lib.hid (by rw [Hm2.out]; exact hown.out), hF⟩
                case measure => simp [intOf]; omega
              · have Hm2 : Hid (idsB g.2.1 cur2 (k + 1) = idsB g.2.1 cur2 k ++ [oid]) := Lib.hid (by rw [Hmore.out]; simp)
                clear Hmore
                have Hrd1 := Lib.hid (lit_ints wt [oid])
                have hFs := hF.out.size
                generalize hxs : idsB g.2.1 cur2 k = xs at *
                clear hxs
                go_wp2_with (first
                  | (at_builtin; refine wpList_app rfl (.tmp 60) (.tmp 67) 26 rfl ws.heap.size 3 i0 (.int .i64 0) 8 Try.underlying26 hi hz0 hz1 hz2 rfl _ xs.length (ints xs) rfl (hown.out.alloc _) (some ⟨wt.heap.size, 0, none⟩) 1 1 (ints [oid]) rfl rfl Hrd1.out (ints_one _) (by simp only [maxLen]; omega) (by omega) (by simp; omega) ?_; intro v4 w4 hown4 hg4 _)
                  | fail)
                go_roundw
                case rel =>
                  refine ⟨k + 1, by omega, by go_num, Lib.hid (by rw [Hm2.out, ints_append, List.length_append, List.length_singleton]; exact hown4), Lib.hid ?_⟩
                  exact (hF.out.alloc hF.out.size _).grown hg4 (by simp; omega) (fun k hk => (hown.out.lt k hk).1)
                case measure => simp [intOf]; omega
            · obtain rfl : k = i := by omega
              obtain ⟨A11, c11, rfl, _⟩ := own_slice hown.out
              go_wp2
              go_ret
              have ho9 := hown.out
              rw [Hids.out] at ho9
              refine ⟨A11, c11, by rw [← Hids.out]; rfl, own_mono ho9 hsz2, Hwf.out, HW.out.trans (hF.out.mono HW.out.size)⟩
end Go.Proofs.Ytembafogbfcajaa

/- The contract of the document's own Sweep (layer 8): just what the plain function tells. Nothing that was there is changed. Condition: names of at most 1048576 bytes. -/
namespace Go.Proofs.Ytembafogbfcajaa
open Go.RowKit

/-- A graph whose objects lie in a row of the call's own, and look into what was there. -/
theorem row_graph {w W : World} {A B C B1 : Option Addr} {N c M d K e n1 d1 base : Nat} {g : Gr} {os : List Ob} {xs : List Value} (hB : Below w.heap.size w W) (h : rGr (All w) w [.slice A N c, .slice B M d, .slice C K e] g) (hown : W.ownsRow base 49 3 (.slice B1 n1 d1) n1 xs) (hn : os.length = n1) (hb : w.heap.size ≤ base) (hch : Chunks 3 (rOb (All w) w) xs os) :
    rGr (All W) W [.slice A N c, .slice B1 n1 d1, .slice C K e] (g.1, os, g.2.2) := by
  refine rGr_mk (rGr_open (gr_below hB h)).1 ?_ (rGr_open (gr_below hB h)).2.2
  refine own_rSlice rOb_stays hown hn (hch.imp fun cs o hq => rOb_stays.to (fun b hb' => ⟨⟨Nat.lt_of_lt_of_le hb' hB.size, fun e => ?_⟩, hB.block b hb'⟩) hq)
  have := (hown.lt b e.symm).1
  have hb2 : b < w.heap.size := hb'
  omega
theorem ob_cells {S : Nat → Prop} {w : World} {A0 : Option Addr} {n c : Nat} {l : List Ob} {i : Nat} {o : Ob} (h : rObs S w [.slice A0 n c] l) (hi : l[i]? = some o) :
    ∃ b off A c', A0 = some ⟨b, off, none⟩ ∧ S b ∧ w.cell? ⟨b, off + i * 3, none⟩ = some (.int .i64 o.1) ∧ w.cell? ⟨b, off + i * 3 + 1, none⟩ = some (.int .i64 o.2.1) ∧ w.cell? ⟨b, off + i * 3 + 2, none⟩ = some (.slice A o.2.2.length c') ∧
      rOb S w [.int .i64 o.1, .int .i64 o.2.1, .slice A o.2.2.length c'] o := by
  obtain ⟨b, off, A, c', h1, h2, h3, h4, h5, h6, h7, h8⟩ := ob_at h hi
  exact ⟨b, off, A, c', h1, h2, h3, h4, h5, rOb_mk (WalkArith.wf_i64 h7) (WalkArith.wf_i64 h8) h6⟩
theorem own_slice3 {w : World} {base e size n : Nat} {v : Value} {xs : List Value} (h : w.ownsRow base e size v n xs) : ∃ A c, v = .slice A n c := by
  rcases h.2 with ⟨rfl, rfl⟩ | ⟨g, cap, cur, rfl, _⟩
  · exact ⟨none, 0, rfl⟩
  · exact ⟨_, cap, rfl⟩
theorem reach_come {g : Gr} (hm : mayG g = true) (x : Int) : x ∈ reachG g ↔ ComeG g x := by
  rw [reach_mem hm]
  exact ⟨fun h => h.1, fun h => ⟨h, come_is hm h⟩⟩

set_option maxRecDepth 100000 in
set_option maxHeartbeats 4000000 in
theorem rsweep_any (A B C : Option Addr) (N c M d K e : Nat) (g : Gr) (w : World) (h : rGr (All w) w [.slice A N c, .slice B M d, .slice C K e] g) (htame : tameS g.1) :
    Calls Try.prog 20 #[.agg #[.slice A N c, .slice B M d, .slice C K e]] w fun e w' => ∃ A1 c1 B1 d1 C1 e1, e = .returned (.agg #[.slice A1 (sweepG g).1.length c1, .slice B1 (sweepG g).2.1.length d1, .slice C1 (sweepG g).2.2.length e1]) ∧
      rGr (All w') w' [.slice A1 (sweepG g).1.length c1, .slice B1 (sweepG g).2.1.length d1, .slice C1 (sweepG g).2.2.length e1] (sweepG g) ∧ Below w.heap.size w w' := by
  obtain ⟨i0, hi, hz0, hz1, hz2⟩ := info_parts info_obj
  obtain ⟨hN, -, -⟩ := slice_len (rGr_open h).1
  obtain ⟨hM, -, -⟩ := slice_len (rGr_open h).2.1
  obtain ⟨hK, -, -⟩ := slice_len (rGr_open h).2.2
  have hB0 : Below w.heap.size w ((w.alloc (.cells #[.slice A N c, .slice B M d, .slice C K e] 28)).alloc (.cells #[.slice none 0 0, .slice none 0 0, .slice none 0 0] 28)) := ((Below.refl _ w).alloc (Nat.le_refl _) _).alloc (by simp) _
  obtain ⟨p1, p2⟩ := blk_two w 28 28 [.slice A N c, .slice B M d, .slice C K e] [.slice none 0 0, .slice none 0 0, .slice none 0 0]
  have TM := Lib.hid (rgmay_any A B C N c M d K e g _ (gr_below hB0 h) htame)
  have TR := Lib.hid (fun W (hW : Below w.heap.size w W) => rreach_any A B C N c M d K e g W (gr_below hW h) htame)
  have HB0 := Lib.hid hB0
  have s0 : w.heap.size + 2 = ((w.alloc (.cells #[.slice A N c, .slice B M d, .slice C K e] 28)).alloc (.cells #[.slice none 0 0, .slice none 0 0, .slice none 0 0] 28)).heap.size := by simp
  have Hh := Lib.hid h
  have HN := Lib.hid hN
  have HM := Lib.hid hM
  have HK := Lib.hid hK
  clear hB0 htame h hN hM hK
  by_cases hm : mayG g = true
  case neg =>
    replace hm : mayG g = false := by simpa using hm
    rw [hm] at TM
    go_enter Try.func20, Try.ntmps20
    go_wp2_with fail
    refine TM.out.mono ?_
    rintro e w1 ⟨rfl, hB1⟩
    have H1 := Lib.hid (HB0.out.trans (hB1.mono HB0.out.size))
    replace p2 := p2.to hB1
    have y0 := p2.cell (j := 0) rfl
    have y1 := p2.cell (j := 1) rfl
    have y2 := p2.cell (j := 2) rfl
    have g0 := p2.frozen 0
    have g1 := p2.frozen 1
    have g2 := p2.frozen 2
    go_wp2
    have P9 := ((p2.set 0 (.slice none 0 0)).set 1 (.slice none 0 0)).set 2 (.slice none 0 0)
    refine ret_cell0 (d := .struct _) (cs := [.slice none 0 0, .slice none 0 0, .slice none 0 0]) rfl P9 rfl rfl rfl rfl rfl ?_
    rw [sweepG_no hm]
    refine ⟨none, 0, none, 0, none, 0, rfl, rGr_mk ⟨none, 0, [], rfl, Nat.le_refl _, Nat.zero_le _, .inl rfl, Chunks.nil⟩ ⟨none, 0, [], rfl, Nat.le_refl _, Nat.zero_le _, .inl rfl, Chunks.nil⟩ ⟨none, 0, [], rfl, Nat.le_refl _, Nat.zero_le _, .inl rfl, Chunks.nil⟩, ?_⟩
    exact ((H1.out.setCell (p := ⟨w.heap.size + 1, 0, none⟩) (by simp) (.slice none 0 0)).setCell (p := ⟨w.heap.size + 1, 1, none⟩) (by simp) (.slice none 0 0)).setCell (p := ⟨w.heap.size + 1, 2, none⟩) (by simp) (.slice none 0 0)
  rw [hm] at TM
  have hM8 : M ≤ 8 := by have := (mayG_parts hm).2.1; have := HM.out; omega
  have Hsw := Lib.hid (sweepG_set hm (L := reachG g) (reach_come hm))
  clear hm
  go_enter Try.func20, Try.ntmps20
  go_wp2_with fail
  refine TM.out.mono ?_
  rintro e w1 ⟨rfl, hB1⟩
  have H1 := Lib.hid (HB0.out.trans (hB1.mono HB0.out.size))
  have l1 : w.heap.size + 2 ≤ w1.heap.size := by rw [s0]; exact hB1.size
  replace p1 := p1.to hB1
  replace p2 := p2.to hB1
  clear hB1 HB0 s0 TM
  have c0 := p1.cell (j := 0) rfl
  have c1 := p1.cell (j := 1) rfl
  have c2 := p1.cell (j := 2) rfl
  go_wp2_with fail
  refine (TR.out _ H1.out).mono ?_
  rintro e w2 ⟨Al, cl, rfl, hl, hlw, hB2⟩
  have H2 := Lib.hid (H1.out.trans (hB2.mono H1.out.size))
  have l2 : w.heap.size + 2 ≤ w2.heap.size := Nat.le_trans l1 hB2.size
  replace p1 := p1.to hB2
  replace p2 := p2.to hB2
  have HL := Lib.hid (rIds_stays.to (S' := All w2) (w' := w2) (Keeps.mono fun b hb => hb.2) (ids_own hl rfl hlw))
  clear hB2 H1 TR hl hlw c0 c1 c2
  have P1 := Lib.hid p1
  have P2 := Lib.hid p2
  clear p1 p2
  generalize hRR : reachG g = R at *
  clear hRR
  go_wp2
  go_loopw [5, 6] (fun ov iv W => ∃ (i : Nat) (xs : List Value), i ≤ M ∧ iv = .int .i64 (i : Int) ∧ Hid (W.ownsRow w2.heap.size 49 3 ov ((g.2.1.take i).filter (fun o => decide (o.1 ∈ R))).length xs) ∧ Hid (Chunks 3 (rOb (All w) w) xs ((g.2.1.take i).filter (fun o => decide (o.1 ∈ R)))) ∧ Hid (Below w2.heap.size w2 W)) (fun _ iv _ => M - (intOf iv).toNat)
  case atStart => exact ⟨0, [], by omega, rfl, Lib.hid (World.ownsRow_nil _ _ _ _), Lib.hid Chunks.nil, Lib.hid (Below.refl _ _)⟩
  case round =>
    rename World => wr
    rename_i ov iv
    obtain ⟨i, xs, hi', rfl, hown, hch, hF⟩ := hrel
    have c0 := (P1.out.to hF.out).cell (j := 0) rfl
    have c1 := (P1.out.to hF.out).cell (j := 1) rfl
    have c2 := (P1.out.to hF.out).cell (j := 2) rfl
    have Hw := Lib.hid (H2.out.trans (hF.out.mono H2.out.size))
    by_cases hin : i < M
    · obtain ⟨o, ho⟩ : ∃ o, g.2.1[i]? = some o := ⟨_, List.getElem?_eq_getElem (by have := HM.out; omega)⟩
      obtain ⟨b, off, A2, cv, rfl, hb, x0, x1, x2, hro⟩ := ob_cells (rGr_open Hh.out).2.1 ho
      have hil : (i : Int) < (M : Int) := by omega
      have hi0 : (0 : Int) ≤ (i : Int) := Int.natCast_nonneg i
      have x0' := (Hw.out.cell (p := ⟨b, off + i * 3, none⟩) hb).trans x0
      have x1' := (Hw.out.cell (p := ⟨b, off + i * 3 + 1, none⟩) hb).trans x1
      have x2' := (Hw.out.cell (p := ⟨b, off + i * 3 + 2, none⟩) hb).trans x2
      have T1 := Lib.hid (rhas_any Al R.length cl R o.1 wr (ids_below hF.out HL.out))
      have htk : (g.2.1.take (i + 1)).filter (fun o => decide (o.1 ∈ R)) = (g.2.1.take i).filter (fun o => decide (o.1 ∈ R)) ++ (if decide (o.1 ∈ R) = true then [o] else []) := by
        rw [take_at ho, List.filter_append, List.filter_cons, List.filter_nil]
      have hle : ((g.2.1.take i).filter (fun o => decide (o.1 ∈ R))).length ≤ i := by
        refine Nat.le_trans (List.length_filter_le _ _) ?_
        rw [List.length_take]; omega
      have Htk := Lib.hid htk
      have Hro := Lib.hid hro
      clear htk hro ho x0 x1 x2
      generalize (g.2.1.take i).filter (fun o => decide (o.1 ∈ R)) = ys at *
      generalize decide (o.1 ∈ R) = bb at *
      go_wp2_with fail
      refine T1.out.mono ?_
      rintro e w3 ⟨rfl, hw3⟩
      replace hw3 := hw3.symm
      subst hw3
      cases bb
      · have Ht2 : Hid ((g.2.1.take (i + 1)).filter (fun o => decide (o.1 ∈ R)) = ys) := Lib.hid (by rw [Htk.out]; simp)
        clear Htk
        go_wp2
        go_roundw
        case rel => exact ⟨i + 1, xs, by omega, by go_num, Lib.hid (by rw [Ht2.out]; exact hown.out), Lib.hid (by rw [Ht2.out]; exact hch.out), hF⟩
        case measure => simp [intOf]; omega
      · have Ht2 : Hid ((g.2.1.take (i + 1)).filter (fun o => decide (o.1 ∈ R)) = ys ++ [o]) := Lib.hid (by rw [Htk.out]; simp)
        have Hch2 := Lib.hid (hch.out.append (Chunks.one (size := 3) rfl Hro.out))
        clear Htk Hro hch
        have hFs := hF.out.size
        have hbx : Rd (wr.alloc (.cells #[.int .i64 o.1, .int .i64 o.2.1, .slice A2 o.2.2.length cv] 49)) (some ⟨wr.heap.size, 0, none⟩) [.int .i64 o.1, .int .i64 o.2.1, .slice A2 o.2.2.length cv] := (Blk.new wr 49 [.int .i64 o.1, .int .i64 o.2.1, .slice A2 o.2.2.length cv]).rd
        generalize o.1 = n1 at *
        generalize o.2.1 = n2 at *
        generalize o.2.2.length = n3 at *
        go_wp2_with (first
          | (at_builtin; refine wpList_apps rfl (.tmp 31) (.tmp 37) 25 rfl w2.heap.size 49 i0 (.agg #[.int .i64 0, .int .i64 0, .slice none 0 0]) 3 40 Try.underlying25 hi hz0 hz1 hz2 rfl (by omega) _ ys.length xs rfl (hown.out.alloc _) (some ⟨wr.heap.size, 0, none⟩) 1 1 [.int .i64 n1, .int .i64 n2, .slice A2 n3 cv] rfl rfl hbx (by simp [Value.oneCell']) (by simp only [maxLen]; omega) (by omega) (by simp; omega) ?_; intro v4 w4 hown4 hg4 _)
          | fail)
        go_roundw
        case rel =>
          refine ⟨i + 1, _, by omega, by go_num, Lib.hid (by rw [Ht2.out, List.length_append, List.length_singleton]; exact hown4), Lib.hid (by rw [Ht2.out]; exact Hch2.out), Lib.hid ?_⟩
          exact (hF.out.alloc hF.out.size _).grown hg4 (by simp; omega) (fun k hk => (hown.out.lt k hk).1)
        case measure => simp [intOf]; omega
    · obtain rfl : i = M := by omega
      rw [List.take_of_length_le (by have := HM.out; omega)] at hown hch
      obtain ⟨A9, c9, hv9⟩ := own_slice3 hown.out
      subst hv9
      have q1 := P1.out.to hF.out
      have q2 := P2.out.to hF.out
      clear c0 c1 c2
      have d1 := q1.cell (j := 1) rfl
      have f1 := q1.frozen 1
      generalize hsl : (g.2.1.filter (fun o => decide (o.1 ∈ R))).length = sl at *
      have r1 := q1.set 1 (.slice A9 sl c9)
      have r2 := q2.other ⟨w.heap.size, 1, none⟩ (.slice A9 sl c9) (by simp)
      have x0 := r1.cell (j := 0) rfl
      have x1 := r1.cell (j := 1) rfl
      have x2 := r1.cell (j := 2) rfl
      have y0 := r2.cell (j := 0) rfl
      have y1 := r2.cell (j := 1) rfl
      have y2 := r2.cell (j := 2) rfl
      have g0 := r2.frozen 0
      have g1 := r2.frozen 1
      have g2 := r2.frozen 2
      go_wp2
      have P9 := ((r2.set 0 (.slice A N c)).set 1 (.slice A9 sl c9)).set 2 (.slice C K e)
      refine ret_cell0 (d := .struct _) (cs := [.slice A N c, .slice A9 sl c9, .slice C K e]) rfl P9 rfl rfl rfl rfl rfl ?_
      have hkeep : ∀ b, b ≠ w.heap.size → b ≠ w.heap.size + 1 → ((((wr.setCell ⟨w.heap.size, 1, none⟩ (.slice A9 sl c9)).setCell ⟨w.heap.size + 1, 0, none⟩ (.slice A N c)).setCell ⟨w.heap.size + 1, 1, none⟩ (.slice A9 sl c9)).setCell ⟨w.heap.size + 1, 2, none⟩ (.slice C K e)).heap[b]? = wr.heap[b]? := fun b n1 n2 => by
        rw [Below.heap_setCell _ _ _ _ n2, Below.heap_setCell _ _ _ _ n2, Below.heap_setCell _ _ _ _ n2, Below.heap_setCell _ _ _ _ n1]
      have hBz := (((Hw.out.setCell (p := ⟨w.heap.size, 1, none⟩) (Nat.le_refl _) (.slice A9 sl c9)).setCell (p := ⟨w.heap.size + 1, 0, none⟩) (by simp) (.slice A N c)).setCell (p := ⟨w.heap.size + 1, 1, none⟩) (by simp) (.slice A9 sl c9)).setCell (p := ⟨w.heap.size + 1, 2, none⟩) (by simp) (.slice C K e)
      have hown9 := own_keep hown.out (fun b n1 n2 => hkeep b (by omega) (by omega))
      have hrd := row_graph hBz Hh.out hown9 hsl (by omega) hch.out
      rw [Hsw.out]
      refine ⟨A, c, A9, c9, C, e, ?_, ?_, hBz⟩
      · rw [HN.out, hsl, HK.out]
      · rw [HN.out, hsl, HK.out]
        exact hrd
end Go.Proofs.Ytembafogbfcajaa

/- Rows of the call's own of elements of several cells: one cell set; objects and values in such rows, read. No condition. -/
namespace Go.Proofs.Ytembafogbfcajaa
open Go.RowKit

theorem info_vals : (Try.prog.info? 30).map (fun i => (i.zero, i.size, i.bytes)) = some (some (.agg #[.int .i64 0, .string ⟨#[]⟩, .int .i64 0]), 3, 32) := by kernel_rfl
theorem own_set {w : World} {base e size n c p : Nat} {A : Option Addr} {xs : List Value} (h : w.ownsRow base e size (.slice A n c) n xs) (hp : p < n * size) :
    ∃ gb y, A = some ⟨gb, 0, none⟩ ∧ base ≤ gb ∧ gb < w.heap.size ∧ xs[p]? = some y ∧ w.cell? ⟨gb, p, none⟩ = some y ∧ w.frozen? ⟨gb, p, none⟩ = false ∧ ∀ u, (w.setCell ⟨gb, p, none⟩ u).ownsRow base e size (.slice A n c) n (xs.set p u) := by
  have hl := h.1
  rcases h.2 with ⟨_, h0⟩ | ⟨g, cap, cur, hv, hb, hg, hnc, hcm, hcs, htk⟩
  · subst h0; omega
  · injection hv with e1 _ e3
    subst e1 e3
    have B : Blk w g e cur.toList := hg
    have hcl : cur.toList.length = c * size := by simpa using hcs
    have hle : n * size ≤ c * size := Nat.mul_le_mul_right _ hnc
    obtain ⟨y, hy⟩ : ∃ y, cur.toList[p]? = some y := ⟨_, List.getElem?_eq_getElem (by omega)⟩
    have hx : xs[p]? = some y := by rw [← htk, List.getElem?_take_of_lt hp]; exact hy
    refine ⟨g, y, rfl, hb, B.lt, hx, B.cell (j := p) hy, B.frozen p, fun u => ?_⟩
    refine ⟨by simpa using hl, .inr ⟨g, c, (cur.toList.set p u).toArray, rfl, hb, B.set p u, hnc, hcm, by simpa using hcs, ?_⟩⟩
    rw [← htk, List.take_set]
/-- The same, where the block is known. -/
theorem own_put {w : World} {base e size n c p gb : Nat} {xs : List Value} (h : w.ownsRow base e size (.slice (some ⟨gb, 0, none⟩) n c) n xs) (hp : p < n * size) :
    (∃ y, xs[p]? = some y ∧ w.cell? ⟨gb, p, none⟩ = some y) ∧ w.frozen? ⟨gb, p, none⟩ = false ∧ ∀ u, (w.setCell ⟨gb, p, none⟩ u).ownsRow base e size (.slice (some ⟨gb, 0, none⟩) n c) n (xs.set p u) := by
  obtain ⟨gb', y, hge, -, -, h1, h2, h3, h4⟩ := own_set h hp
  injection hge with hge
  injection hge with hge
  subst hge
  exact ⟨⟨y, h1, h2⟩, h3, h4⟩
theorem own_rdIn {w : World} {base e size n c g : Nat} {xs : List Value} (h : w.ownsRow base e size (.slice (some ⟨g, 0, none⟩) n c) n xs) : RdIn (fun b => b = g) w (some ⟨g, 0, none⟩) xs ∧ n ≤ c ∧ c ≤ maxLen := by
  rcases h.2 with ⟨hv, _⟩ | ⟨g', cap, cur, hv, hb, hg, hnc, hcm, hcs, htk⟩
  · cases hv
  · injection hv with e1 _ e3
    injection e1 with e1
    injection e1 with e1
    subst e1 e3
    have B : Blk w g e cur.toList := hg
    refine ⟨.inr ⟨g, 0, rfl, rfl, fun j u hu => ?_⟩, hnc, hcm⟩
    rw [Nat.zero_add]
    refine B.cell ?_
    rw [← htk, List.getElem?_take] at hu
    split at hu
    · exact hu
    · cases hu
theorem slice_cells {α : Type} {size : Nat} {R : Reader α} {w : World} {A : Option Addr} {n c : Nat} {l : List α} (h : rSlice size R (All w) w [.slice A n c] l) : ∃ xs, Rd w A xs ∧ xs.length = n * size ∧ Chunks size (R (All w) w) xs l := by
  obtain ⟨A1, c1, xs, hv, _, _, hr, hc⟩ := h
  have e : A = A1 ∧ n = l.length := by simp at hv; exact ⟨hv.1, hv.2.1⟩
  obtain ⟨rfl, rfl⟩ := e
  exact ⟨xs, hr, hc.1, hc⟩
theorem chunks_all1 {α : Type} {R : List Value → α → Prop} {xs : List Value} {l : List α} (hR : ∀ cs a, R cs a → ∀ u ∈ cs, u.oneCell' = true) (h : Chunks 3 R xs l) : ∀ u ∈ xs, u.oneCell' = true := by
  intro u hu
  obtain ⟨j, hj⟩ := List.getElem?_of_mem hu
  have hlt := (List.getElem?_eq_some_iff.1 hj).1
  have hl := h.1
  obtain ⟨a, ha⟩ : ∃ a, l[j / 3]? = some a := ⟨_, List.getElem?_eq_getElem (by omega)⟩
  refine hR _ _ (h.2 (j / 3) a ha) u ?_
  refine List.mem_of_getElem? (i := j % 3) ?_
  rw [List.getElem?_take_of_lt (by omega), List.getElem?_drop, show j / 3 * 3 + j % 3 = j by omega]
  exact hj
theorem ob_one {S : Nat → Prop} {w : World} (cs : List Value) (o : Ob) (h : rOb S w cs o) : ∀ u ∈ cs, u.oneCell' = true := by
  obtain ⟨A, c, rfl, _⟩ := rOb_open h
  intro u hu
  simp only [List.mem_cons, List.not_mem_nil, or_false] at hu
  rcases hu with rfl | rfl | rfl <;> rfl
theorem val_one {S : Nat → Prop} {w : World} (cs : List Value) (v : Vl) (h : rVal S w cs v) : ∀ u ∈ cs, u.oneCell' = true := by
  obtain ⟨s, rfl, _⟩ := rVal_open h
  intro u hu
  simp only [List.mem_cons, List.not_mem_nil, or_false] at hu
  rcases hu with rfl | rfl | rfl <;> rfl
theorem chunks_at3 {α : Type} {R : List Value → α → Prop} {xs : List Value} {l : List α} {i : Nat} {a : α} (h : Chunks 3 R xs l) (ha : l[i]? = some a) : ∃ x y z, xs[i * 3]? = some x ∧ xs[i * 3 + 1]? = some y ∧ xs[i * 3 + 2]? = some z ∧ R [x, y, z] a := by
  have hR := h.2 i a ha
  have hlt := (List.getElem?_eq_some_iff.1 ha).1
  have hl := h.1
  have e : ∀ j, j < 3 → ((xs.drop (i * 3)).take 3)[j]? = xs[i * 3 + j]? := fun j hj => by rw [List.getElem?_take_of_lt hj, List.getElem?_drop]
  have h0 : i * 3 < xs.length := by omega
  have h1 : i * 3 + 1 < xs.length := by omega
  have h2 : i * 3 + 2 < xs.length := by omega
  refine ⟨xs[i * 3], xs[i * 3 + 1], xs[i * 3 + 2], List.getElem?_eq_getElem h0, List.getElem?_eq_getElem h1, List.getElem?_eq_getElem h2, ?_⟩
  have e3 : (xs.drop (i * 3)).take 3 = [xs[i * 3], xs[i * 3 + 1], xs[i * 3 + 2]] := by
    rw [List.drop_eq_getElem_cons h0, List.drop_eq_getElem_cons h1, List.drop_eq_getElem_cons h2]
    rfl
  rw [← e3]
  exact hR
/-- A graph whose objects lie in a row of the call's own, one of which has its values in another one. -/
theorem set_graph {w W : World} {A B C : Option Addr} {N c M d K e d1 cf gb gf base I kn vl : Nat} {g : Gr} {o : Ob} {v : Vl} {xs ys : List Value} {a b' c' : Value} (hB : Below w.heap.size w W) (h : rGr (All w) w [.slice A N c, .slice B M d, .slice C K e] g)
    (hO : W.ownsRow base 49 3 (.slice (some ⟨gb, 0, none⟩) M d1) M (xs.set (I * 3 + 2) (.slice (some ⟨gf, 0, none⟩) vl cf))) (hF : W.ownsRow base 30 3 (.slice (some ⟨gf, 0, none⟩) vl cf) vl (((ys.set (kn * 3) a).set (kn * 3 + 1) b').set (kn * 3 + 2) c'))
    (hgf : gf ≠ gb) (hfl : gf < W.heap.size) (hb : w.heap.size ≤ base) (hchO : Chunks 3 (rOb (All w) w) xs g.2.1) (hchF : Chunks 3 (rVal (All w) w) ys o.2.2) (ho : g.2.1[I]? = some o) (hk : kn < o.2.2.length) (hvl : o.2.2.length = vl) (hrv : ∀ S W, rVal S W [a, b', c'] v) :
    rGr (All W) W [.slice A N c, .slice (some ⟨gb, 0, none⟩) M d1, .slice C K e] (g.1, g.2.1.set I (o.1, o.2.1, o.2.2.set kn v), g.2.2) := by
  refine rGr_mk (rGr_open (gr_below hB h)).1 ?_ (rGr_open (gr_below hB h)).2.2
  have hM := (slice_len (rGr_open h).2.1).1
  have hgb : ∀ b, (Value.slice (some ⟨gb, 0, none⟩) M d1).ownBlock = some b → base ≤ b := fun b e => (hO.lt b e).1
  have hgb2 : base ≤ gb := hgb gb rfl
  have hkeep : Keeps (All w) (fun b => b < W.heap.size ∧ some b ≠ (Value.slice (some ⟨gb, 0, none⟩) M d1).ownBlock) w W := fun b hb' => ⟨⟨Nat.lt_of_lt_of_le hb' hB.size, fun e => by
    have h1 := hgb b e.symm
    have h2 : b < w.heap.size := hb'
    omega⟩, hB.block b hb'⟩
  have hF2 : rVals (fun b => b < W.heap.size ∧ some b ≠ (Value.slice (some ⟨gb, 0, none⟩) M d1).ownBlock) W [.slice (some ⟨gf, 0, none⟩) vl cf] (o.2.2.set kn v) := by
    obtain ⟨hr, h1, h2⟩ := own_rdIn hF
    refine ⟨some ⟨gf, 0, none⟩, cf, _, by rw [List.length_set, hvl], by rw [List.length_set, hvl]; exact h1, h2, hr.keeps (fun b e => by subst e; exact ⟨⟨hfl, fun e => hgf (by injection e)⟩, rfl⟩), ?_⟩
    exact chunks_set3 (hchF.imp fun cs x hq => rVal_stays.to hkeep hq) hk (hrv _ _)
  have hcO := hchO.imp (R' := rOb (fun b => b < W.heap.size ∧ some b ≠ (Value.slice (some ⟨gb, 0, none⟩) M d1).ownBlock) W) fun cs x hq => rOb_stays.to hkeep hq
  obtain ⟨x, y, z, e0, e1, e2, hR⟩ := chunks_at3 hchO ho
  obtain ⟨A2, cv, hcs, -, hw1, hw2⟩ := rOb_open hR
  simp only [List.cons.injEq, and_true] at hcs
  obtain ⟨rfl, rfl, rfl⟩ := hcs
  have hl : I < g.2.1.length := (List.getElem?_eq_some_iff.1 ho).1
  have hset := chunks_set3 hcO hl (a := .int .i64 o.1) (b := .int .i64 o.2.1) (c := .slice (some ⟨gf, 0, none⟩) vl cf) (v := (o.1, o.2.1, o.2.2.set kn v)) (rOb_mk (o := (o.1, o.2.1, o.2.2.set kn v)) (WalkArith.wf_i64 hw1) (WalkArith.wf_i64 hw2) hF2)
  rw [set_same e0, set_same e1] at hset
  exact own_rSlice rOb_stays hO (by rw [List.length_set]; exact hM) hset
end Go.Proofs.Ytembafogbfcajaa
