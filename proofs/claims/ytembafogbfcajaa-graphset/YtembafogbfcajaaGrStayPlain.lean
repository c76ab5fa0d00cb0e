/- What may be stays so: with a new object, another value, another root, and swept; what is come to, swept. No condition. -/
import Derived.Test.YtembafogbfcajaaGrRootPlain
import Derived.Test.YtembafogbfcajaaGrSetMem
namespace Go.Proofs.Ytembafogbfcajaa

theorem riseG_iff {g : Gr} : ∀ {last : Int} {l : List Ob}, riseG g last l = true ↔ (∀ o ∈ l, last < o.1 ∧ o.1 ≤ 1073741824 ∧ mayO g o = true) ∧ l.Pairwise fun o p => o.1 < p.1
  | last, [] => by simp [riseG]
  | last, o :: l => by
    constructor
    · exact fun h => ⟨riseG_mem h, riseG_sorted h⟩
    · rintro ⟨h1, h2⟩
      rw [List.pairwise_cons] at h2
      obtain ⟨a1, a2, a3⟩ := h1 o (List.mem_cons_self ..)
      rw [riseG, Bool.and_eq_true, Bool.and_eq_true, Bool.and_eq_true, decide_eq_true_eq, decide_eq_true_eq]
      refine ⟨⟨⟨a1, a2⟩, a3⟩, riseG_iff.2 ⟨fun p hp => ?_, h2.2⟩⟩
      obtain ⟨b1, b2, b3⟩ := h1 p (List.mem_cons_of_mem _ hp)
      exact ⟨h2.1 p hp, b2, b3⟩
theorem mayG_mk {g : Gr} (h1 : mayS g.1 = true) (h2 : g.2.1.length ≤ 8) (h3 : g.2.2.length ≤ 3) (h4 : ∀ r ∈ g.2.2, rootG g.2.1 r = true) (h5 : ∀ o ∈ g.2.1, MayObj g o) (h6 : g.2.1.Pairwise fun o p => o.1 < p.1) : mayG g = true := by
  rw [mayG, mayOs, mayRs]
  simp only [Bool.and_eq_true, decide_eq_true_eq, List.all_eq_true]
  refine ⟨⟨h1, h2, riseG_iff.2 ⟨fun o ho => ?_, h6⟩⟩, h3, h4⟩
  have m := h5 o ho
  have := m.id0
  exact ⟨by omega, m.id1, mayO_iff.2 ⟨⟨m.t0, m.t1⟩, m.len, m.have'⟩⟩
theorem mayG_sorted {g : Gr} (h : mayG g = true) : g.2.1.Pairwise fun o p => o.1 < p.1 := riseG_sorted (mayG_parts h).2.2.1
theorem haveG_mono {g h : Gr} {f : Fld} {v : Vl} (hs : h.1 = g.1) (hh : haveG g f v = true) (hf : f.2.1 = 5 → v.2.2 ≠ -1 → findG g.2.1 v.2.2 ≠ -1 → findG h.2.1 v.2.2 ≠ -1 ∧ typG h.2.1 v.2.2 = typG g.2.1 v.2.2) : haveG h f v = true := by
  by_cases h5 : f.2.1 = 5
  · by_cases hr : v.2.2 = -1
    · rw [haveG] at hh ⊢
      simp only [hr, decide_true, Bool.or_true, Bool.true_or, Bool.and_true] at hh ⊢
      exact hh
    · obtain ⟨a1, a2⟩ := haveG_ref hh h5 hr
      obtain ⟨b1, b2⟩ := hf h5 hr a1
      rw [haveG] at hh ⊢
      rw [Bool.and_eq_true] at hh
      rw [hh.1, b2, a2, hs]
      simp [b1]
  · rw [haveG] at hh ⊢
    simp only [ne_eq, h5, not_false_eq_true, decide_true, Bool.true_or, Bool.and_true] at hh ⊢
    exact hh
/-- Where an object of that id stands, its type's place is told. -/
theorem typG_of {os : List Ob} {o : Ob} (hs : os.Pairwise fun o p => o.1 < p.1) (ho : o ∈ os) : findG os o.1 ≠ -1 ∧ typG os o.1 = o.2.1 := by
  have h := findG_mem.2 ⟨o, ho, rfl⟩
  obtain ⟨i, p, -, h2, h3, h4⟩ := findG_at h
  obtain rfl := sorted_apart hs (List.mem_of_getElem? h2) ho h3
  exact ⟨h, h4⟩
/-- Objects of the same ids and types are found alike. -/
theorem find_of {os ps : List Ob} {r : Int} (hs : os.Pairwise fun o p => o.1 < p.1) (hp : ps.Pairwise fun o p => o.1 < p.1) (h : ∀ o ∈ os, o.1 = r → ∃ p ∈ ps, p.1 = o.1 ∧ p.2.1 = o.2.1) (hr : findG os r ≠ -1) : findG ps r ≠ -1 ∧ typG ps r = typG os r := by
  obtain ⟨o, ho, rfl⟩ := findG_mem.1 hr
  obtain ⟨p, hpp, e1, e2⟩ := h o ho rfl
  have a := typG_of hs ho
  have b := typG_of hp hpp
  rw [e1] at b
  exact ⟨b.1, by rw [b.2, a.2, e2]⟩
theorem nextG_above {g : Gr} (hm : mayG g = true) : ∀ o ∈ g.2.1, o.1 < nextG g.2.1 := by
  intro o ho
  obtain ⟨i, hi⟩ := List.getElem?_of_mem ho
  have hil := (List.getElem?_eq_some_iff.1 hi).1
  obtain ⟨q, hq⟩ : ∃ q, g.2.1[g.2.1.length - 1]? = some q := ⟨_, List.getElem?_eq_getElem (by omega)⟩
  rw [nextG_last hq]
  have hs := mayG_sorted hm
  rw [List.pairwise_iff_getElem] at hs
  by_cases hl : i = g.2.1.length - 1
  · subst hl
    rw [hi] at hq
    injection hq with hq
    subst hq
    omega
  · have := hs i (g.2.1.length - 1) hil (by omega) (by omega)
    rw [(List.getElem?_eq_some_iff.1 hi).2, (List.getElem?_eq_some_iff.1 hq).2] at this
    omega
theorem nextG_low {g : Gr} (hm : mayG g = true) : 0 ≤ nextG g.2.1 := by
  rw [nextG]
  split
  · omega
  · rename_i o ho
    have := (mayG_obj hm (List.mem_of_getLast? ho)).id0
    omega
theorem newG_may {g : Gr} {t : Int} (h : newE g t = 0) : mayG (newG g t) = true := by
  obtain ⟨hm, ht, h8, hx⟩ := newE_0 h
  obtain ⟨m1, m2, m3, m4, m5⟩ := mayG_parts hm
  have hab := nextG_above hm
  have hlo := nextG_low hm
  have hs := mayG_sorted hm
  obtain ⟨tn, htn⟩ : ∃ tn : Nat, t = (tn : Int) := ⟨t.toNat, by omega⟩
  obtain ⟨ty, hty⟩ : ∃ ty, g.1[tn]? = some ty := ⟨_, List.getElem?_eq_getElem (by omega)⟩
  have hff := fldsG_at htn hty
  have hsn : (g.2.1 ++ [((nextG g.2.1, t, (fldsG g.1 t).map fun f => zeroV f.2.1) : Ob)]).Pairwise fun o p => o.1 < p.1 := by
    rw [List.pairwise_append]
    refine ⟨hs, List.pairwise_singleton _ _, fun o ho p hp => ?_⟩
    simp at hp
    subst hp
    exact hab o ho
  rw [newG, if_pos h]
  refine mayG_mk m1 (by rw [List.length_append, List.length_singleton]; omega) m4 (fun r hr => ?_) (fun o ho => ?_) hsn
  · have := m5 r hr
    rw [rootG, Bool.or_eq_true, decide_eq_true_eq, decide_eq_true_eq] at this ⊢
    refine this.imp id fun h1 => ?_
    obtain ⟨o, ho, e⟩ := findG_mem.1 h1
    exact findG_mem.2 ⟨o, List.mem_append_left _ ho, e⟩
  · rcases List.mem_append.1 ho with ho | ho
    · have m := mayG_obj hm ho
      refine ⟨m.id0, m.id1, m.t0, m.t1, m.len, fun k f v hf hv => ?_⟩
      exact haveG_mono (g := g) rfl (m.have' k f v hf hv) fun _ _ hr => find_of hs hsn (fun o ho _ => ⟨o, List.mem_append_left _ ho, rfl, rfl⟩) hr
    · simp at ho
      subst ho
      refine ⟨hlo, hx, ht.1, ht.2, by simp, fun k f v hf hv => ?_⟩
      have hf' : (fldsG g.1 t)[k]? = some f := hf
      have hv' : ((fldsG g.1 t).map fun f => zeroV f.2.1)[k]? = some v := hv
      rw [List.getElem?_map, hf', Option.map_some] at hv'
      injection hv' with hv'
      subst hv'
      rw [hff] at hf'
      obtain ⟨-, m7⟩ := (mayS_iff g.1).1 m1
      obtain ⟨-, -, -, m8⟩ := (mayT_iff g.1 tn ty).1 (m7 tn ty hty)
      obtain ⟨-, -, m9⟩ := (mayF_iff g.1 ty.2 k f).1 (m8 k f hf')
      rw [leadS] at m9
      rw [haveG]
      split at m9
      · rename_i h5
        rw [h5, show fitsV 5 (zeroV 5) = true by decide, show (zeroV 5).2.2 = -1 by decide]
        simp
      · rename_i h5
        simp only [Bool.and_eq_true, decide_eq_true_eq] at m9
        rw [vl_fits_zero, decide_eq_true (by omega)]
        simp [h5]
theorem setN_sorted {os : List Ob} {I : Nat} {o p : Ob} (hs : os.Pairwise fun o p => o.1 < p.1) (ho : os[I]? = some o) (he : p.1 = o.1) : (os.set I p).Pairwise fun o p => o.1 < p.1 := by
  have e : (os.set I p).map (·.1) = os.map (·.1) := by
    rw [List.map_set, he]
    refine List.ext_getElem? fun i => ?_
    by_cases hi : i = I
    · subst hi
      have hl := (List.getElem?_eq_some_iff.1 ho).1
      rw [List.getElem?_set_self (by simpa using hl), List.getElem?_map, ho]; rfl
    · rw [List.getElem?_set_ne (fun e => hi e.symm)]
  have h1 : (os.map (·.1)).Pairwise (· < ·) := List.pairwise_map.2 hs
  rw [← e] at h1
  exact List.pairwise_map.1 h1
theorem setN_may {g : Gr} {id k : Int} {v : Vl} (h : setE g id k v = 0) : mayG (setN g id k v) = true := by
  obtain ⟨hm, hf, hk0, hkl, hv⟩ := setE_0 h
  obtain ⟨m1, m2, m3, m4, m5⟩ := mayG_parts hm
  obtain ⟨I, o, hI, hgi, -, -⟩ := findG_at hf
  have hoe := objG_at hI hgi
  rw [hoe] at hkl hv
  have hs := mayG_sorted hm
  have hom := List.mem_of_getElem? hgi
  have hIl := (List.getElem?_eq_some_iff.1 hgi).1
  rw [setN, if_pos h, hI, hoe, Int.toNat_natCast]
  have hsn := setN_sorted (p := (o.1, o.2.1, o.2.2.set k.toNat v)) hs hgi rfl
  have hfind : ∀ q ∈ g.2.1, ∃ p ∈ g.2.1.set I (o.1, o.2.1, o.2.2.set k.toNat v), p.1 = q.1 ∧ p.2.1 = q.2.1 := by
    intro q hq
    obtain ⟨j, hj⟩ := List.getElem?_of_mem hq
    by_cases hji : j = I
    · subst hji
      rw [hgi] at hj
      injection hj with hj
      subst hj
      exact ⟨_, List.mem_set hIl _, rfl, rfl⟩
    · exact ⟨q, List.mem_of_getElem? (i := j) (by rw [List.getElem?_set_ne (fun e => hji e.symm)]; exact hj), rfl, rfl⟩
  have hmono : ∀ f w, haveG g f w = true → haveG (g.1, g.2.1.set I (o.1, o.2.1, o.2.2.set k.toNat v), g.2.2) f w = true := fun f w hw =>
    haveG_mono (g := g) rfl hw fun _ _ hr => find_of hs hsn (fun q hq _ => by obtain ⟨p, h1, h2, h3⟩ := hfind q hq; exact ⟨p, h1, h2, h3⟩) hr
  refine mayG_mk m1 (by rw [List.length_set]; exact m2) m4 (fun r hr => ?_) (fun p hp => ?_) hsn
  · have := m5 r hr
    rw [rootG, Bool.or_eq_true, decide_eq_true_eq, decide_eq_true_eq] at this ⊢
    refine this.imp (fun h => h) fun h1 => ?_
    obtain ⟨q, hq, e⟩ := findG_mem.1 h1
    obtain ⟨p, h1, h2, -⟩ := hfind q hq
    exact findG_mem.2 ⟨p, h1, by rw [h2, e]⟩
  · rcases List.mem_or_eq_of_mem_set hp with hp | rfl
    · have m := mayG_obj hm hp
      exact ⟨m.id0, m.id1, m.t0, m.t1, m.len, fun k f v hf hv => hmono f v (m.have' k f v hf hv)⟩
    · have m := mayG_obj hm hom
      refine ⟨m.id0, m.id1, m.t0, m.t1, by simpa using m.len, fun j f w hf hw => hmono f w ?_⟩
      have hf' : (fldsG g.1 o.2.1)[j]? = some f := hf
      have hw' : (o.2.2.set k.toNat v)[j]? = some w := hw
      by_cases hjk : j = k.toNat
      · subst hjk
        rw [List.getElem?_set_self (by omega)] at hw'
        injection hw' with hw'
        subst hw'
        rw [List.getD_eq_getElem?_getD, hf', Option.getD_some] at hv
        exact hv
      · rw [List.getElem?_set_ne (fun e => hjk e.symm)] at hw'
        exact m.have' j f w hf' hw'
/-- Where a Ref of what is come to leads is come to, and is there. -/
theorem come_ref {g : Gr} (hm : mayG g = true) {o : Ob} (ho : o ∈ g.2.1) (hc : ComeG g o.1) {k : Nat} {f : Fld} {v : Vl} (hf : (fldsG g.1 o.2.1)[k]? = some f) (hv : o.2.2[k]? = some v) (h5 : f.2.1 = 5) (hr : v.2.2 ≠ -1) : ComeG g v.2.2 ∧ ∃ p ∈ g.2.1, p.1 = v.2.2 := by
  obtain ⟨id, h1, h2, h3⟩ := hc
  exact ⟨⟨id, h1, h2, .step h3 ho (refsG_mem.2 ⟨k, f, v, hf, hv, h5, hr, rfl⟩)⟩, findG_mem.1 (haveG_ref ((mayG_obj hm ho).have' k f v hf hv) h5 hr).1⟩
theorem come_is {g : Gr} (hm : mayG g = true) {x : Int} (hc : ComeG g x) : ∃ p ∈ g.2.1, p.1 = x := by
  obtain ⟨id, h1, h2, h3⟩ := hc
  cases h3 with
  | here =>
    have := (mayG_parts hm).2.2.2.2 _ h1
    rw [rootG, Bool.or_eq_true, decide_eq_true_eq, decide_eq_true_eq] at this
    exact findG_mem.1 (this.resolve_left h2)
  | step hf ho hr =>
    obtain ⟨k, f, v, a1, a2, a3, a4, rfl⟩ := refsG_mem.1 hr
    exact findG_mem.1 (haveG_ref ((mayG_obj hm ho).have' k f v a1 a2) a3 a4).1
theorem sweep_mem {g : Gr} (hm : mayG g = true) {o : Ob} : o ∈ (sweepG g).2.1 ↔ o ∈ g.2.1 ∧ ComeG g o.1 := by
  rw [sweepG_yes hm]
  simp [List.mem_filter]
theorem sweepG_may {g : Gr} (hm : mayG g = true) : mayG (sweepG g) = true := by
  obtain ⟨m1, m2, m3, m4, m5⟩ := mayG_parts hm
  have hs := mayG_sorted hm
  have e1 : (sweepG g).1 = g.1 := by rw [sweepG_yes hm]
  have e3 : (sweepG g).2.2 = g.2.2 := by rw [sweepG_yes hm]
  have hsub : ((sweepG g).2.1).Sublist g.2.1 := by rw [sweepG_yes hm]; exact List.filter_sublist
  have hsn := hs.sublist hsub
  refine mayG_mk (by rw [e1]; exact m1) (Nat.le_trans hsub.length_le m2) (by rw [e3]; exact m4) (fun r hr => ?_) (fun o ho => ?_) hsn
  · rw [e3] at hr
    have := m5 r hr
    rw [rootG, Bool.or_eq_true, decide_eq_true_eq, decide_eq_true_eq] at this ⊢
    by_cases h1 : r = -1
    · exact .inl h1
    · obtain ⟨o, ho, e⟩ := findG_mem.1 (this.resolve_left h1)
      exact .inr (findG_mem.2 ⟨o, (sweep_mem hm).2 ⟨ho, ⟨r, hr, h1, by rw [e]; exact .here⟩⟩, e⟩)
  · obtain ⟨ho1, ho2⟩ := (sweep_mem hm).1 ho
    have m := mayG_obj hm ho1
    refine ⟨m.id0, m.id1, m.t0, by rw [e1]; exact m.t1, by rw [e1]; exact m.len, fun k f v hf hv => ?_⟩
    rw [e1] at hf
    refine haveG_mono (g := g) e1 (m.have' k f v hf hv) fun h5 hr hfi => ?_
    obtain ⟨hc, p, hp, e⟩ := come_ref hm ho1 ho2 hf hv h5 hr
    refine find_of hs hsn (fun q hq hqr => ⟨q, (sweep_mem hm).2 ⟨hq, by rw [hqr]; exact hc⟩, rfl, rfl⟩) hfi
theorem sweep_come {g : Gr} (hm : mayG g = true) (x : Int) : ComeG (sweepG g) x ↔ ComeG g x := by
  have e1 : (sweepG g).1 = g.1 := by rw [sweepG_yes hm]
  have e3 : (sweepG g).2.2 = g.2.2 := by rw [sweepG_yes hm]
  constructor
  · rintro ⟨id, h1, h2, h3⟩
    rw [e3] at h1
    refine ⟨id, h1, h2, ?_⟩
    induction h3 with
    | here => exact .here
    | step _ ho hr ih => rw [e1] at hr; exact .step ih ((sweep_mem hm).1 ho).1 hr
  · rintro ⟨id, h1, h2, h3⟩
    refine ⟨id, by rw [e3]; exact h1, h2, ?_⟩
    induction h3 with
    | here => exact .here
    | step hf ho hr ih => exact .step ih ((sweep_mem hm).2 ⟨ho, id, h1, h2, hf⟩) (by rw [e1]; exact hr)
theorem sweep_twice {g : Gr} (hm : mayG g = true) : sweepG (sweepG g) = sweepG g := by
  rw [sweepG_yes (sweepG_may hm)]
  have e : (sweepG g).2.1.filter (fun o => @decide (ComeG (sweepG g) o.1) (Classical.propDecidable _)) = (sweepG g).2.1 := List.filter_eq_self.2 fun o ho => by
    simp only [decide_eq_true_eq]
    exact (sweep_come hm _).2 ((sweep_mem hm).1 ho).2
  rw [e]
theorem reach_twice {g : Gr} (hm : mayG g = true) : reachG (sweepG g) = reachG g := by rw [reachG, sweep_twice hm, reachG]
end Go.Proofs.Ytembafogbfcajaa
