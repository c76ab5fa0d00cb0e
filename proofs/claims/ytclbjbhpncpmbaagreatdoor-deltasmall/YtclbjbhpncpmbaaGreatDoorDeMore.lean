/- The laws of deltas, on plain data: what a delta that is not applied says; a graph that stays as it is; one value that is set. No condition. -/
import Derived.Test.YtclbjbhpncpmbaaGreatDoorDePlain
namespace Go.Proofs.YtclbjbhpncpmbaaGreatDoor

theorem makeE_0 {a b : Gr} (h : makeE a b = 0) : mayG a = true ∧ mayG b = true ∧ kindG a b = true ∧ codeE a = 0 := by
  rw [makeE] at h
  split at h
  · rename_i hab
    rw [Bool.and_eq_true] at hab
    split at h
    · rename_i hk
      exact ⟨hab.1, hab.2, hk, h⟩
    · cases h
  · cases h
theorem objsD_len {c : Gr} {l : List Itm} : ∀ {xs : List Itm} {k : Nat} {os : List Ob}, objsD c l k xs = some os → os.length = xs.length
  | [], k, os, h => by
    rw [objsD] at h
    injection h with h
    subst h
    rfl
  | x :: xs, k, os, h => by
    rw [objsD] at h
    cases ho : objD c l k x with
    | none => rw [ho] at h; cases h
    | some o =>
      rw [ho, Option.bind_some] at h
      cases hr : objsD c l (k + 1) xs with
      | none => rw [hr] at h; cases h
      | some r =>
        rw [hr] at h
        injection h with h
        subst h
        rw [List.length_cons, List.length_cons, objsD_len hr]
/-- What a delta makes, or why nothing. -/
theorem apply_base (g : Gr) (d : Dlt) : (codeE g ≠ 0 ∧ applyD g d = (([], [], []), codeE g)) ∨ (codeE g = 0 ∧ (codeS g : Int) ≠ d.1 ∧ applyD g d = (([], [], []), 7)) ∨
    (codeE g = 0 ∧ (codeS g : Int) = d.1 ∧ (applyD g d = (([], [], []), 2) ∨ ((applyD g d).2 = 0 ∧ mayG (applyD g d).1 = true ∧ canonG (applyD g d).1 = (applyD g d).1 ∧ (applyD g d).1.2.1.length = d.2.2.length))) := by
  by_cases h0 : codeE g = 0
  · by_cases h1 : (codeS g : Int) = d.1
    · refine .inr (.inr ⟨h0, h1, ?_⟩)
      rw [applyD, if_neg (by simpa using h0), if_neg (by simpa using h1)]
      cases ho : objsD (canonG g) d.2.2 0 d.2.2 with
      | none => exact .inl rfl
      | some l =>
        simp only
        by_cases hm : mayG (g.1, l, d.2.1) = true ∧ canonG (g.1, l, d.2.1) = (g.1, l, d.2.1)
        · rw [if_pos hm]
          exact .inr ⟨rfl, hm.1, hm.2, objsD_len ho⟩
        · rw [if_neg hm]
          exact .inl rfl
    · exact .inr (.inl ⟨h0, h1, by rw [applyD, if_neg (by simpa using h0), if_pos h1]⟩)
  · exact .inl ⟨h0, by rw [applyD, if_pos h0]⟩
theorem setK_same {old c : List Vl} (n : Nat) : setK false old old c n = [] := by
  rw [setK, List.filterMap_eq_nil_iff]
  intro j _
  rw [if_pos ⟨rfl, rfl⟩]
/-- Of a graph that stays as it is nothing is set. -/
theorem self_item {a : Gr} (ha : mayG a = true) {i : Nat} {x : Int} (hx : (ordG a)[i]? = some x) : (itemD a a i x).1 = (i : Int) ∧ (itemD a a i x).2.2 = [] := by
  have h1 := atL_at (ordG_nodup ha) hx
  refine ⟨h1, ?_⟩
  rw [itemD]
  simp only
  rw [decide_eq_false (by omega : ¬ atL (ordG a) x < 0)]
  exact setK_same _
/-- Nothing is set, nothing new or gone, and the roots are the same: it is alike. -/
theorem self_iso {a b : Gr} (h : makeE a b = 0) (hl : (ordG b).length = (ordG a).length) (hs : ∀ (i : Nat) x, (ordG b)[i]? = some x → (itemD a b i x).1 = (i : Int) ∧ (itemD a b i x).2.2 = []) (hr : (canonG b).2.2 = (canonG a).2.2) : isoG a b = true := by
  obtain ⟨ha, hb, hk, -⟩ := makeE_0 h
  have hsch := kind_sch hk
  have hord : ordG a = ordG b := by
    refine List.ext_getElem? fun i => ?_
    cases hx : (ordG b)[i]? with
    | none =>
      rw [List.getElem?_eq_none_iff] at hx ⊢
      omega
    | some x =>
      have h1 : atL (ordG a) x = (i : Int) := (hs i x hx).1
      obtain ⟨j, h2, h3⟩ := atL_mem (at_in (l := ordG a) (x := x) (by omega))
      obtain rfl : j = i := by omega
      exact h3
  have hobj : (canonG a).2.1 = (canonG b).2.1 := by
    refine List.ext_getElem? fun i => ?_
    cases hx : (ordG b)[i]? with
    | none =>
      have h1 := List.getElem?_eq_none_iff.1 hx
      rw [List.getElem?_eq_none (by rw [canon_len ha, hord]; exact h1), List.getElem?_eq_none (by rw [canon_len hb]; exact h1)]
    | some x =>
      have hxa : (ordG a)[i]? = some x := by rw [hord]; exact hx
      rw [canon_at ha hxa, canon_at hb hx]
      have ma := List.mem_of_getElem? hxa
      have mb := List.mem_of_getElem? hx
      have hty := kind_typ ha hb hk ma mb
      obtain ⟨p, hp, hpx, hpb⟩ := ord_obj hb mb
      obtain ⟨o, ho, hox, hob⟩ := ord_obj ha ma
      have lp := (mayG_obj hb hp).len
      have lo := (mayG_obj ha ho).len
      have hvals : (objG a.2.1 x).2.2 = (objG b.2.1 x).2.2 := by
        have hll : (objG a.2.1 x).2.2.length = (objG b.2.1 x).2.2.length := by rw [hob, hpb, ← lo, ← lp, hsch, ← hob, ← hpb, hty]
        refine List.ext_getElem? fun k => ?_
        by_cases hkl : k < (objG b.2.1 x).2.2.length
        · rcases Classical.em ((objG a.2.1 x).2.2[k]? = (objG b.2.1 x).2.2[k]?) with he | he
          · exact he
          · have hset := (hs i x hx).2
            rw [itemD] at hset
            simp only at hset
            have hcl : (canO b (ordG b) i x).2.2.length = (objG b.2.1 x).2.2.length := leadV_len _ _ _ (by rw [hpb]; exact lp)
            have hmem : (((k : Nat) : Int), (canO b (ordG b) i x).2.2[k]'(by omega)) ∈ setK (decide (atL (ordG a) x < 0)) (objG a.2.1 x).2.2 (objG b.2.1 x).2.2 (canO b (ordG b) i x).2.2 (objG b.2.1 x).2.2.length :=
              setK_mem.2 ⟨k, hkl, rfl, List.getElem?_eq_getElem _, fun h => he h.2⟩
            rw [hset] at hmem
            cases hmem
        · rw [List.getElem?_eq_none (by omega), List.getElem?_eq_none (by omega)]
      rw [canO, canO, hty, hvals, hord, hsch]
  rw [isoG, ha, hb, Bool.and_true, Bool.true_and]
  refine decide_eq_true ?_
  have e1 : (canonG a).1 = (canonG b).1 := by rw [canon_sch ha, canon_sch hb, hsch]
  exact Prod.ext e1 (Prod.ext hobj hr.symm)
/-- Another value, that is no Ref: the object, the others, and the order. -/
theorem set_objs {g : Gr} {id : Int} {k : Nat} {v : Vl} {I : Nat} {o : Ob} {f : Fld} (he : setE g id (k : Int) v = 0) (hI : findG g.2.1 id = (I : Int)) (ho : g.2.1[I]? = some o) (hf : (fldsG g.1 o.2.1)[k]? = some f) (h5 : f.2.1 ≠ 5) :
    objG (setN g id (k : Int) v).2.1 id = (o.1, o.2.1, o.2.2.set k v) ∧ (∀ x, IdG g x → x ≠ id → objG (setN g id (k : Int) v).2.1 x = objG g.2.1 x) ∧ ordG (setN g id (k : Int) v) = ordG g := by
  obtain ⟨hm, -⟩ := setE_0 he
  have hoe := objG_at hI ho
  have e : setN g id (k : Int) v = (g.1, g.2.1.set I (o.1, o.2.1, o.2.2.set k v), g.2.2) := by rw [setN, if_pos he, hI, hoe, Int.toNat_natCast, Int.toNat_natCast]
  have hm2 := setN_may he
  have hl := (List.getElem?_eq_some_iff.1 ho).1
  have hoid : o.1 = id := by
    obtain ⟨⟨q, hq, hd⟩, -⟩ := (idxP_iff _ g.2.1 I).1 hI
    rw [ho] at hq
    injection hq with hq
    subst hq
    exact of_decide_eq_true hd
  have hfi := find_set (p := (o.1, o.2.1, o.2.2.set k v)) hI ho rfl
  have hat : (g.2.1.set I (o.1, o.2.1, o.2.2.set k v))[I]? = some (o.1, o.2.1, o.2.2.set k v) := List.getElem?_set_self hl
  have hobj : objG (setN g id (k : Int) v).2.1 id = (o.1, o.2.1, o.2.2.set k v) := by rw [e]; exact objG_at hfi hat
  have hoth : ∀ x, IdG g x → x ≠ id → objG (setN g id (k : Int) v).2.1 x = objG g.2.1 x := fun x hix hx => by
    rw [e]
    show objG (g.2.1.set I (o.1, o.2.1, o.2.2.set k v)) x = objG g.2.1 x
    obtain ⟨J, p, h1, h2, h3, -⟩ := findG_at (findG_mem.2 hix)
    have hJI : J ≠ I := fun e2 => by
      subst e2
      rw [ho] at h2
      injection h2 with h2
      subst h2
      exact hx (h3.symm.trans hoid)
    have h4 : (g.2.1.set I (o.1, o.2.1, o.2.2.set k v))[J]? = some p := by rw [List.getElem?_set_ne (fun e2 => hJI e2.symm)]; exact h2
    have h5' : findG (g.2.1.set I (o.1, o.2.1, o.2.2.set k v)) x = (J : Int) := by
      obtain ⟨-, hlt⟩ := (idxP_iff _ g.2.1 J).1 h1
      refine (idxP_iff _ _ J).2 ⟨⟨p, h4, decide_eq_true h3⟩, fun j q hj hq => ?_⟩
      by_cases hjI : j = I
      · subst hjI
        rw [hat] at hq
        injection hq with hq
        subst hq
        exact decide_eq_false fun e2 => hx (e2.symm.trans hoid)
      · rw [List.getElem?_set_ne (fun e2 => hjI e2.symm)] at hq
        exact hlt j q hj hq
    rw [objG_at h5' h4, objG_at h1 h2]
  refine ⟨hobj, hoth, ?_⟩
  have hrefs : ∀ x, IdG g x → refsL (setN g id (k : Int) v).1 (objG (setN g id (k : Int) v).2.1 x) = refsL g.1 (objG g.2.1 x) := fun x hix => by
    by_cases hx : x = id
    · subst hx
      rw [hobj, hoe, e]
      exact refs_set hf h5
    · rw [hoth x hix hx, e]
  rw [ordG_yes hm, ordG_yes hm2, show (setN g id (k : Int) v).2.2 = g.2.2 by rw [e]]
  exact ordN_congr hrefs (refs_step hm) _ _ _ (roots_ids hm)
theorem setK_one {old now c : List Vl} {k : Nat} (h : ∀ j, j ≠ k → old[j]? = now[j]?) : ∀ {n : Nat}, setK false old now c n = if k < n ∧ old[k]? ≠ now[k]? then ((c[k]?).map fun v => ((k : Int), v)).toList else []
  | 0 => by simp [setK]
  | n + 1 => by
    rw [setK_succ, setK_one h (n := n)]
    by_cases hkn : k = n
    · subst hkn
      rw [if_neg (fun h => Nat.lt_irrefl _ h.1), List.nil_append]
      by_cases he : old[k]? = now[k]?
      · rw [if_pos ⟨rfl, he⟩, if_neg (fun h => h.2 he)]; rfl
      · rw [if_neg (fun h => he h.2), if_pos ⟨by omega, he⟩]
    · rw [if_pos (show false = false ∧ old[n]? = now[n]? from ⟨rfl, h n (fun e => hkn e.symm)⟩)]
      simp only [Option.toList_none, List.append_nil]
      by_cases hc : k < n ∧ old[k]? ≠ now[k]?
      · rw [if_pos hc, if_pos ⟨by omega, hc.2⟩]
      · rw [if_neg hc, if_neg (fun h => hc ⟨by omega, h.2⟩)]
/-- Of one value that is set just that is set, if it is another one. -/
theorem small_item {g : Gr} {id : Int} {k : Nat} {v v0 : Vl} {I : Nat} {o : Ob} {f : Fld} (he : setE g id (k : Int) v = 0) (hI : findG g.2.1 id = (I : Int)) (ho : g.2.1[I]? = some o) (hv0 : o.2.2[k]? = some v0) (hf : (fldsG g.1 o.2.1)[k]? = some f) (h5 : f.2.1 ≠ 5) {j : Nat} {x : Int} (hx : (ordG g)[j]? = some x) :
    (itemD g (setN g id (k : Int) v) j x).2.2 = if x = id ∧ v0 ≠ v then [((k : Int), v)] else [] := by
  obtain ⟨hm, -⟩ := setE_0 he
  obtain ⟨h1, h2, h3⟩ := set_objs he hI ho hf h5
  have hpos : ¬ atL (ordG g) x < 0 := by rw [atL_at (ordG_nodup hm) hx]; omega
  have hoe := objG_at hI ho
  rw [itemD]
  simp only
  rw [decide_eq_false hpos]
  by_cases hxi : x = id
  · subst hxi
    rw [h1, hoe]
    simp only
    have hkl := (List.getElem?_eq_some_iff.1 hv0).1
    rw [setK_one (k := k) (fun m hmk => by rw [List.getElem?_set_ne (fun e => hmk e.symm)]), List.length_set, List.getElem?_set_self hkl, hv0]
    have hc : (canO (setN g x (k : Int) v) (ordG (setN g x (k : Int) v)) j x).2.2[k]? = some v := by
      rw [canO, h1]
      have := leadV_at (atL (ordG (setN g x (k : Int) v))) (fs := fldsG (setN g x (k : Int) v).1 o.2.1) (vs := o.2.2.set k v) (k := k) (a := f) (v := v) (by rw [setN_sch]; exact hf) (List.getElem?_set_self hkl)
      rwa [if_neg h5] at this
    rw [hc]
    by_cases hvv : v0 = v
    · rw [if_neg (fun h => h.2 (by rw [hvv])), if_neg (fun h => h.2 hvv)]
    · rw [if_pos ⟨hkl, fun e => hvv (Option.some.inj e)⟩, if_pos ⟨trivial, hvv⟩]
      rfl
  · rw [if_neg (fun h => hxi h.1), h2 x (ordG_ids hm x (List.mem_of_getElem? hx)) hxi]
    exact setK_same _
end Go.Proofs.YtclbjbhpncpmbaaGreatDoor
