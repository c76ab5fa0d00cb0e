/- A value that is set, and set back, on plain data. No condition. -/
import Derived.Test.YtembafogbfcajaaGrStayPlain
namespace Go.Proofs.Ytembafogbfcajaa

theorem find_set {os : List Ob} {id : Int} {I : Nat} {o p : Ob} (hI : findG os id = (I : Int)) (ho : os[I]? = some o) (he : p.1 = o.1) : findG (os.set I p) id = (I : Int) := by
  obtain ⟨⟨q, hq, hd⟩, hlt⟩ := (idxP_iff _ os I).1 hI
  rw [ho] at hq
  injection hq with hq
  subst hq
  have hl := (List.getElem?_eq_some_iff.1 ho).1
  refine (idxP_iff _ _ I).2 ⟨⟨p, List.getElem?_set_self hl, ?_⟩, fun j b hj hb => ?_⟩
  · rw [decide_eq_true_eq] at hd ⊢
    omega
  · rw [List.getElem?_set_ne (by omega)] at hb
    exact hlt j b hj hb
theorem set_same {α : Type} {l : List α} {i : Nat} {a : α} (h : l[i]? = some a) : l.set i a = l := by
  obtain ⟨hl, rfl⟩ := List.getElem?_eq_some_iff.1 h
  exact List.set_getElem_self hl
/-- What stands where, and that the one that was can be set back. -/
theorem set_back {g : Gr} {id k : Int} {v : Vl} (h : setE g id k v = 0) : ∃ (I kn : Nat) (o : Ob) (v0 : Vl), findG g.2.1 id = (I : Int) ∧ g.2.1[I]? = some o ∧ k = (kn : Int) ∧ kn < o.2.2.length ∧ o.2.2[kn]? = some v0 ∧ (setN g id k v).1.length = g.1.length ∧ (setN g id k v).2.1.length = g.2.1.length ∧ (setN g id k v).2.2.length = g.2.2.length ∧
    (setN g id k v).2.1[I]? = some (o.1, o.2.1, o.2.2.set kn v) ∧ (o.2.2.set kn v)[kn]? = some v ∧ mayG (setN g id k v) = true ∧ setE (setN g id k v) id k v0 = 0 ∧ setN (setN g id k v) id k v0 = g := by
  obtain ⟨hm, hf, hk0, hkl, hv⟩ := setE_0 h
  obtain ⟨I, o, hI, hgi, -, -⟩ := findG_at hf
  have hoe := objG_at hI hgi
  rw [hoe] at hkl hv
  obtain ⟨kn, rfl⟩ : ∃ kn : Nat, k = (kn : Int) := ⟨k.toNat, by omega⟩
  have hkl' : kn < o.2.2.length := by omega
  obtain ⟨v0, hv0⟩ : ∃ v0, o.2.2[kn]? = some v0 := ⟨_, List.getElem?_eq_getElem hkl'⟩
  have hmn := setN_may h
  have hIl := (List.getElem?_eq_some_iff.1 hgi).1
  have e : setN g id (kn : Int) v = (g.1, g.2.1.set I (o.1, o.2.1, o.2.2.set kn v), g.2.2) := by rw [setN, if_pos h, hI, hoe, Int.toNat_natCast, Int.toNat_natCast]
  have hat : (g.2.1.set I (o.1, o.2.1, o.2.2.set kn v))[I]? = some (o.1, o.2.1, o.2.2.set kn v) := List.getElem?_set_self hIl
  have hfi := find_set (p := (o.1, o.2.1, o.2.2.set kn v)) hI hgi rfl
  have hon := objG_at hfi hat
  have hom := List.mem_of_getElem? hgi
  have mo := mayG_obj hm hom
  have hs := mayG_sorted hm
  have hsn := setN_sorted (p := (o.1, o.2.1, o.2.2.set kn v)) hs hgi rfl
  have hhv : haveG (g.1, g.2.1.set I (o.1, o.2.1, o.2.2.set kn v), g.2.2) ((fldsG g.1 o.2.1).getD kn ([], 0, [])) v0 = true := by
    obtain ⟨f, hf'⟩ : ∃ f, (fldsG g.1 o.2.1)[kn]? = some f := ⟨_, List.getElem?_eq_getElem (by have := mo.len; omega)⟩
    rw [List.getD_eq_getElem?_getD, hf', Option.getD_some]
    refine haveG_mono (g := g) rfl (mo.have' kn f v0 hf' hv0) fun _ _ hr => find_of hs hsn (fun q hq _ => ?_) hr
    obtain ⟨j, hj⟩ := List.getElem?_of_mem hq
    by_cases hji : j = I
    · subst hji
      rw [hgi] at hj
      injection hj with hj
      subst hj
      exact ⟨_, List.mem_set hIl _, rfl, rfl⟩
    · exact ⟨q, List.mem_of_getElem? (i := j) (by rw [List.getElem?_set_ne (fun e => hji e.symm)]; exact hj), rfl, rfl⟩
  rw [e] at hmn ⊢
  have hE : setE (g.1, g.2.1.set I (o.1, o.2.1, o.2.2.set kn v), g.2.2) id (kn : Int) v0 = 0 := by
    rw [setE, if_pos hmn]
    show (if findG (g.2.1.set I (o.1, o.2.1, o.2.2.set kn v)) id ≠ -1 ∧ _ then _ else _) = (0 : Int)
    rw [hon, hfi, if_pos ⟨by omega, by simp [hkl']⟩]
    show (if haveG _ ((fldsG g.1 o.2.1).getD (kn : Int).toNat ([], 0, [])) v0 = true then _ else _) = (0 : Int)
    rw [Int.toNat_natCast, if_pos hhv]
  refine ⟨I, kn, o, v0, hI, hgi, rfl, hkl', hv0, rfl, List.length_set, rfl, hat, List.getElem?_set_self hkl', hmn, hE, ?_⟩
  rw [setN, if_pos hE]
  show (g.1, (g.2.1.set I (o.1, o.2.1, o.2.2.set kn v)).set (findG (g.2.1.set I (o.1, o.2.1, o.2.2.set kn v)) id).toNat ((objG (g.2.1.set I (o.1, o.2.1, o.2.2.set kn v)) id).1, (objG (g.2.1.set I (o.1, o.2.1, o.2.2.set kn v)) id).2.1, (objG (g.2.1.set I (o.1, o.2.1, o.2.2.set kn v)) id).2.2.set (kn : Int).toNat v0), g.2.2) = g
  rw [hon, hfi, Int.toNat_natCast, Int.toNat_natCast]
  show (g.1, (g.2.1.set I (o.1, o.2.1, o.2.2.set kn v)).set I (o.1, o.2.1, (o.2.2.set kn v).set kn v0), g.2.2) = g
  rw [List.set_set, List.set_set, set_same hv0, set_same hgi]
end Go.Proofs.Ytembafogbfcajaa
