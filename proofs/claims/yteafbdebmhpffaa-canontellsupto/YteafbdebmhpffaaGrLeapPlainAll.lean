/- The texts GrRootPlain, GrStayPlain, GrLeastPlain, GrSetPlain, GrNewPlain, GrLeapPlain in one; what each proves, and its conditions, stands before it. -/
import Derived.Test.YteafbdebmhpffaaGrActsAll
/- More roots, no roots: what may be, and what is come to. No condition. -/
namespace Go.Proofs.Yteafbdebmhpffaa

theorem riseG_roots (g : Gr) (l : List Int) : ∀ (last : Int) (os : List Ob), riseG (g.1, g.2.1, l) last os = riseG g last os
  | _, [] => rfl
  | last, o :: os => by rw [riseG, riseG, riseG_roots g l o.1 os]; rfl
theorem mayG_roots {g : Gr} {l : List Int} (h : mayG g = true) (hl : l.length ≤ 3) (hr : ∀ r ∈ l, rootG g.2.1 r = true) : mayG (g.1, g.2.1, l) = true := by
  obtain ⟨m1, m2, m3, -, -⟩ := mayG_parts h
  rw [mayG, mayOs, mayRs]
  simp only [Bool.and_eq_true, decide_eq_true_eq, List.all_eq_true]
  exact ⟨⟨m1, m2, by rw [riseG_roots]; exact m3⟩, hl, hr⟩
theorem rootN_may {g : Gr} {i id : Int} (h : rootE g i id = 0) : mayG (rootN g i id) = true := by
  obtain ⟨hm, h0, h3, hK, hr⟩ := rootE_0 h
  have hp := (mayG_parts hm).2.2.2
  rw [rootN, if_pos h]
  refine mayG_roots hm ?_ ?_
  · split
    · rw [List.length_append, List.length_singleton]; omega
    · rw [List.length_set]; exact hp.1
  · intro r hr'
    split at hr'
    · rcases List.mem_append.1 hr' with h1 | h1
      · exact hp.2 r h1
      · simp at h1; subst h1; exact hr
    · rcases List.mem_or_eq_of_mem_set hr' with h1 | h1
      · exact hp.2 r h1
      · subst h1; exact hr
theorem from_roots {g : Gr} {l : List Int} {id x : Int} (h : From g id x) : From (g.1, g.2.1, l) id x := by
  induction h with
  | here => exact .here
  | step _ ho hr ih => exact .step ih ho hr
theorem come_roots {g : Gr} {l : List Int} {x : Int} (h : ComeG g x) (hl : ∀ r ∈ g.2.2, r ∈ l) : ComeG (g.1, g.2.1, l) x := by
  obtain ⟨id, hid, hn, hf⟩ := h
  exact ⟨id, hl id hid, hn, from_roots hf⟩
theorem reach_none {g : Gr} : reachG (g.1, g.2.1, []) = [] := by
  rw [reachG]
  by_cases h : mayG (g.1, g.2.1, []) = true
  · rw [sweepG_yes h]
    have : (g.1, g.2.1, ([] : List Int)).2.1.filter (fun o => @decide (ComeG (g.1, g.2.1, []) o.1) (Classical.propDecidable _)) = [] := List.filter_eq_nil_iff.2 fun o _ => by
      simp only [decide_eq_true_eq]
      rintro ⟨id, hid, -⟩
      cases hid
    rw [this]; rfl
  · rw [sweepG_no (by simpa using h)]; rfl
theorem reach_mono {g h : Gr} (hg : mayG g = true) (hh : mayG h = true) (he : h.2.1 = g.2.1) (hc : ∀ x, ComeG g x → ComeG h x) : (reachG g).length ≤ (reachG h).length := by
  rw [reachG, reachG, List.length_map, List.length_map, sweepG_yes hg, sweepG_yes hh]
  show (List.filter _ g.2.1).length ≤ (List.filter _ h.2.1).length
  rw [he, ← List.countP_eq_length_filter, ← List.countP_eq_length_filter]
  exact List.countP_mono_left fun o _ ho => by simp only [decide_eq_true_eq] at ho ⊢; exact hc _ ho
theorem reach_mem {g : Gr} (hg : mayG g = true) {x : Int} : x ∈ reachG g ↔ ComeG g x ∧ ∃ o ∈ g.2.1, o.1 = x := by
  rw [reachG, sweepG_yes hg, List.mem_map]
  simp only [List.mem_filter, decide_eq_true_eq]
  constructor
  · rintro ⟨o, ⟨h1, h2⟩, rfl⟩
    exact ⟨h2, o, h1, rfl⟩
  · rintro ⟨h1, o, h2, rfl⟩
    exact ⟨o, ⟨h2, h1⟩, rfl⟩
theorem root_more {g : Gr} {id : Int} (h : rootE g (g.2.2.length : Int) id = 0) : (reachG g).length ≤ (reachG (rootN g (g.2.2.length : Int) id)).length := by
  have hm := rootN_may h
  rw [rootN, if_pos h, if_pos rfl] at hm ⊢
  exact reach_mono (rootE_0 h).1 hm rfl fun x hx => come_roots hx fun r hr => List.mem_append_left _ hr
theorem root_here {g : Gr} {i id : Int} (h : rootE g i id = 0) (hid : 0 ≤ id) : id ∈ reachG (rootN g i id) := by
  obtain ⟨hm, h0, h3, hK, hr⟩ := rootE_0 h
  rw [rootG, Bool.or_eq_true, decide_eq_true_eq, decide_eq_true_eq] at hr
  obtain ⟨o, ho, he⟩ := findG_mem.1 (hr.resolve_left (by omega))
  rw [reach_mem (rootN_may h)]
  rw [rootN, if_pos h]
  refine ⟨⟨id, ?_, by omega, .here⟩, o, ho, he⟩
  show id ∈ (if i = (g.2.2.length : Int) then g.2.2 ++ [id] else g.2.2.set i.toNat id)
  split
  · simp
  · exact List.mem_set (by omega) _
end Go.Proofs.Yteafbdebmhpffaa

/- What may be stays so: with a new object, another value, another root, and swept; what is come to, swept. No condition. -/
namespace Go.Proofs.Yteafbdebmhpffaa

theorem riseG_iff {g : Gr} : ∀ {last : Int} {l : List Ob}, riseG g last l = true ↔ (∀ o ∈ l, last < o.1 ∧ o.1 ≤ 1073741824 ∧ mayO g o = true) ∧ l.Pairwise fun o p => o.1 < p.1
  | last, [] => by simp [riseG]
  | last, o :: l => by
    constructor
    · exact fun h => ⟨riseG_mem h, riseG_sorted h⟩
    · rintro ⟨h1, h2⟩
      rw [List.pairwise_cons] at h2
      obtain ⟨a1, a2, a3⟩ := h1 o (List.mem_cons_self ..)
      rw [riseG, Bool.and_eq_true, Bool.and_eq_true, Bool.and_eq_true, decide_eq_true_eq, decide_eq_true_eq]
      refine ⟨⟨⟨a1, a2⟩, a3⟩, riseG_iff.2 ⟨fun p hp => ?_, h2.2⟩⟩
      obtain ⟨b1, b2, b3⟩ := h1 p (List.mem_cons_of_mem _ hp)
      exact ⟨h2.1 p hp, b2, b3⟩
theorem mayG_mk {g : Gr} (h1 : mayS g.1 = true) (h2 : g.2.1.length ≤ 8) (h3 : g.2.2.length ≤ 3) (h4 : ∀ r ∈ g.2.2, rootG g.2.1 r = true) (h5 : ∀ o ∈ g.2.1, MayObj g o) (h6 : g.2.1.Pairwise fun o p => o.1 < p.1) : mayG g = true := by
  rw [mayG, mayOs, mayRs]
  simp only [Bool.and_eq_true, decide_eq_true_eq, List.all_eq_true]
  refine ⟨⟨h1, h2, riseG_iff.2 ⟨fun o ho => ?_, h6⟩⟩, h3, h4⟩
  have m := h5 o ho
  have := m.id0
  exact ⟨by omega, m.id1, mayO_iff.2 ⟨⟨m.t0, m.t1⟩, m.len, m.have'⟩⟩
theorem mayG_sorted {g : Gr} (h : mayG g = true) : g.2.1.Pairwise fun o p => o.1 < p.1 := riseG_sorted (mayG_parts h).2.2.1
theorem haveG_mono {g h : Gr} {f : Fld} {v : Vl} (hs : h.1 = g.1) (hh : haveG g f v = true) (hf : f.2.1 = 5 → v.2.2 ≠ -1 → findG g.2.1 v.2.2 ≠ -1 → findG h.2.1 v.2.2 ≠ -1 ∧ typG h.2.1 v.2.2 = typG g.2.1 v.2.2) : haveG h f v = true := by
  by_cases h5 : f.2.1 = 5
  · by_cases hr : v.2.2 = -1
    · rw [haveG] at hh ⊢
      simp only [hr, decide_true, Bool.or_true, Bool.true_or, Bool.and_true] at hh ⊢
      exact hh
    · obtain ⟨a1, a2⟩ := haveG_ref hh h5 hr
      obtain ⟨b1, b2⟩ := hf h5 hr a1
      rw [haveG] at hh ⊢
      rw [Bool.and_eq_true] at hh
      rw [hh.1, b2, a2, hs]
      simp [b1]
  · rw [haveG] at hh ⊢
    simp only [ne_eq, h5, not_false_eq_true, decide_true, Bool.true_or, Bool.and_true] at hh ⊢
    exact hh
/-- Where an object of that id stands, its type's place is told. -/
theorem typG_of {os : List Ob} {o : Ob} (hs : os.Pairwise fun o p => o.1 < p.1) (ho : o ∈ os) : findG os o.1 ≠ -1 ∧ typG os o.1 = o.2.1 := by
  have h := findG_mem.2 ⟨o, ho, rfl⟩
  obtain ⟨i, p, -, h2, h3, h4⟩ := findG_at h
  obtain rfl := sorted_apart hs (List.mem_of_getElem? h2) ho h3
  exact ⟨h, h4⟩
/-- Objects of the same ids and types are found alike. -/
theorem find_of {os ps : List Ob} {r : Int} (hs : os.Pairwise fun o p => o.1 < p.1) (hp : ps.Pairwise fun o p => o.1 < p.1) (h : ∀ o ∈ os, o.1 = r → ∃ p ∈ ps, p.1 = o.1 ∧ p.2.1 = o.2.1) (hr : findG os r ≠ -1) : findG ps r ≠ -1 ∧ typG ps r = typG os r := by
  obtain ⟨o, ho, rfl⟩ := findG_mem.1 hr
  obtain ⟨p, hpp, e1, e2⟩ := h o ho rfl
  have a := typG_of hs ho
  have b := typG_of hp hpp
  rw [e1] at b
  exact ⟨b.1, by rw [b.2, a.2, e2]⟩
theorem nextG_above {g : Gr} (hm : mayG g = true) : ∀ o ∈ g.2.1, o.1 < nextG g.2.1 := by
  intro o ho
  obtain ⟨i, hi⟩ := List.getElem?_of_mem ho
  have hil := (List.getElem?_eq_some_iff.1 hi).1
  obtain ⟨q, hq⟩ : ∃ q, g.2.1[g.2.1.length - 1]? = some q := ⟨_, List.getElem?_eq_getElem (by omega)⟩
  rw [nextG_last hq]
  have hs := mayG_sorted hm
  rw [List.pairwise_iff_getElem] at hs
  by_cases hl : i = g.2.1.length - 1
  · subst hl
    rw [hi] at hq
    injection hq with hq
    subst hq
    omega
  · have := hs i (g.2.1.length - 1) hil (by omega) (by omega)
    rw [(List.getElem?_eq_some_iff.1 hi).2, (List.getElem?_eq_some_iff.1 hq).2] at this
    omega
theorem nextG_low {g : Gr} (hm : mayG g = true) : 0 ≤ nextG g.2.1 := by
  rw [nextG]
  split
  · omega
  · rename_i o ho
    have := (mayG_obj hm (List.mem_of_getLast? ho)).id0
    omega
theorem newG_may {g : Gr} {t : Int} (h : newE g t = 0) : mayG (newG g t) = true := by
  obtain ⟨hm, ht, h8, hx⟩ := newE_0 h
  obtain ⟨m1, m2, m3, m4, m5⟩ := mayG_parts hm
  have hab := nextG_above hm
  have hlo := nextG_low hm
  have hs := mayG_sorted hm
  obtain ⟨tn, htn⟩ : ∃ tn : Nat, t = (tn : Int) := ⟨t.toNat, by omega⟩
  obtain ⟨ty, hty⟩ : ∃ ty, g.1[tn]? = some ty := ⟨_, List.getElem?_eq_getElem (by omega)⟩
  have hff := fldsG_at htn hty
  have hsn : (g.2.1 ++ [((nextG g.2.1, t, (fldsG g.1 t).map fun f => zeroV f.2.1) : Ob)]).Pairwise fun o p => o.1 < p.1 := by
    rw [List.pairwise_append]
    refine ⟨hs, List.pairwise_singleton _ _, fun o ho p hp => ?_⟩
    simp at hp
    subst hp
    exact hab o ho
  rw [newG, if_pos h]
  refine mayG_mk m1 (by rw [List.length_append, List.length_singleton]; omega) m4 (fun r hr => ?_) (fun o ho => ?_) hsn
  · have := m5 r hr
    rw [rootG, Bool.or_eq_true, decide_eq_true_eq, decide_eq_true_eq] at this ⊢
    refine this.imp id fun h1 => ?_
    obtain ⟨o, ho, e⟩ := findG_mem.1 h1
    exact findG_mem.2 ⟨o, List.mem_append_left _ ho, e⟩
  · rcases List.mem_append.1 ho with ho | ho
    · have m := mayG_obj hm ho
      refine ⟨m.id0, m.id1, m.t0, m.t1, m.len, fun k f v hf hv => ?_⟩
      exact haveG_mono (g := g) rfl (m.have' k f v hf hv) fun _ _ hr => find_of hs hsn (fun o ho _ => ⟨o, List.mem_append_left _ ho, rfl, rfl⟩) hr
    · simp at ho
      subst ho
      refine ⟨hlo, hx, ht.1, ht.2, by simp, fun k f v hf hv => ?_⟩
      have hf' : (fldsG g.1 t)[k]? = some f := hf
      have hv' : ((fldsG g.1 t).map fun f => zeroV f.2.1)[k]? = some v := hv
      rw [List.getElem?_map, hf', Option.map_some] at hv'
      injection hv' with hv'
      subst hv'
      rw [hff] at hf'
      obtain ⟨-, m7⟩ := (mayS_iff g.1).1 m1
      obtain ⟨-, -, -, m8⟩ := (mayT_iff g.1 tn ty).1 (m7 tn ty hty)
      obtain ⟨-, -, m9⟩ := (mayF_iff g.1 ty.2 k f).1 (m8 k f hf')
      rw [leadS] at m9
      rw [haveG]
      split at m9
      · rename_i h5
        rw [h5, show fitsV 5 (zeroV 5) = true by decide, show (zeroV 5).2.2 = -1 by decide]
        simp
      · rename_i h5
        simp only [Bool.and_eq_true, decide_eq_true_eq] at m9
        rw [vl_fits_zero, decide_eq_true (by omega)]
        simp [h5]
theorem setN_sorted {os : List Ob} {I : Nat} {o p : Ob} (hs : os.Pairwise fun o p => o.1 < p.1) (ho : os[I]? = some o) (he : p.1 = o.1) : (os.set I p).Pairwise fun o p => o.1 < p.1 := by
  have e : (os.set I p).map (·.1) = os.map (·.1) := by
    rw [List.map_set, he]
    refine List.ext_getElem? fun i => ?_
    by_cases hi : i = I
    · subst hi
      have hl := (List.getElem?_eq_some_iff.1 ho).1
      rw [List.getElem?_set_self (by simpa using hl), List.getElem?_map, ho]; rfl
    · rw [List.getElem?_set_ne (fun e => hi e.symm)]
  have h1 : (os.map (·.1)).Pairwise (· < ·) := List.pairwise_map.2 hs
  rw [← e] at h1
  exact List.pairwise_map.1 h1
theorem setN_may {g : Gr} {id k : Int} {v : Vl} (h : setE g id k v = 0) : mayG (setN g id k v) = true := by
  obtain ⟨hm, hf, hk0, hkl, hv⟩ := setE_0 h
  obtain ⟨m1, m2, m3, m4, m5⟩ := mayG_parts hm
  obtain ⟨I, o, hI, hgi, -, -⟩ := findG_at hf
  have hoe := objG_at hI hgi
  rw [hoe] at hkl hv
  have hs := mayG_sorted hm
  have hom := List.mem_of_getElem? hgi
  have hIl := (List.getElem?_eq_some_iff.1 hgi).1
  rw [setN, if_pos h, hI, hoe, Int.toNat_natCast]
  have hsn := setN_sorted (p := (o.1, o.2.1, o.2.2.set k.toNat v)) hs hgi rfl
  have hfind : ∀ q ∈ g.2.1, ∃ p ∈ g.2.1.set I (o.1, o.2.1, o.2.2.set k.toNat v), p.1 = q.1 ∧ p.2.1 = q.2.1 := by
    intro q hq
    obtain ⟨j, hj⟩ := List.getElem?_of_mem hq
    by_cases hji : j = I
    · subst hji
      rw [hgi] at hj
      injection hj with hj
      subst hj
      exact ⟨_, List.mem_set hIl _, rfl, rfl⟩
    · exact ⟨q, List.mem_of_getElem? (i := j) (by rw [List.getElem?_set_ne (fun e => hji e.symm)]; exact hj), rfl, rfl⟩
  have hmono : ∀ f w, haveG g f w = true → haveG (g.1, g.2.1.set I (o.1, o.2.1, o.2.2.set k.toNat v), g.2.2) f w = true := fun f w hw =>
    haveG_mono (g := g) rfl hw fun _ _ hr => find_of hs hsn (fun q hq _ => by obtain ⟨p, h1, h2, h3⟩ := hfind q hq; exact ⟨p, h1, h2, h3⟩) hr
  refine mayG_mk m1 (by rw [List.length_set]; exact m2) m4 (fun r hr => ?_) (fun p hp => ?_) hsn
  · have := m5 r hr
    rw [rootG, Bool.or_eq_true, decide_eq_true_eq, decide_eq_true_eq] at this ⊢
    refine this.imp (fun h => h) fun h1 => ?_
    obtain ⟨q, hq, e⟩ := findG_mem.1 h1
    obtain ⟨p, h1, h2, -⟩ := hfind q hq
    exact findG_mem.2 ⟨p, h1, by rw [h2, e]⟩
  · rcases List.mem_or_eq_of_mem_set hp with hp | rfl
    · have m := mayG_obj hm hp
      exact ⟨m.id0, m.id1, m.t0, m.t1, m.len, fun k f v hf hv => hmono f v (m.have' k f v hf hv)⟩
    · have m := mayG_obj hm hom
      refine ⟨m.id0, m.id1, m.t0, m.t1, by simpa using m.len, fun j f w hf hw => hmono f w ?_⟩
      have hf' : (fldsG g.1 o.2.1)[j]? = some f := hf
      have hw' : (o.2.2.set k.toNat v)[j]? = some w := hw
      by_cases hjk : j = k.toNat
      · subst hjk
        rw [List.getElem?_set_self (by omega)] at hw'
        injection hw' with hw'
        subst hw'
        rw [List.getD_eq_getElem?_getD, hf', Option.getD_some] at hv
        exact hv
      · rw [List.getElem?_set_ne (fun e => hjk e.symm)] at hw'
        exact m.have' j f w hf' hw'
/-- Where a Ref of what is come to leads is come to, and is there. -/
theorem come_ref {g : Gr} (hm : mayG g = true) {o : Ob} (ho : o ∈ g.2.1) (hc : ComeG g o.1) {k : Nat} {f : Fld} {v : Vl} (hf : (fldsG g.1 o.2.1)[k]? = some f) (hv : o.2.2[k]? = some v) (h5 : f.2.1 = 5) (hr : v.2.2 ≠ -1) : ComeG g v.2.2 ∧ ∃ p ∈ g.2.1, p.1 = v.2.2 := by
  obtain ⟨id, h1, h2, h3⟩ := hc
  exact ⟨⟨id, h1, h2, .step h3 ho (refsG_mem.2 ⟨k, f, v, hf, hv, h5, hr, rfl⟩)⟩, findG_mem.1 (haveG_ref ((mayG_obj hm ho).have' k f v hf hv) h5 hr).1⟩
theorem come_is {g : Gr} (hm : mayG g = true) {x : Int} (hc : ComeG g x) : ∃ p ∈ g.2.1, p.1 = x := by
  obtain ⟨id, h1, h2, h3⟩ := hc
  cases h3 with
  | here =>
    have := (mayG_parts hm).2.2.2.2 _ h1
    rw [rootG, Bool.or_eq_true, decide_eq_true_eq, decide_eq_true_eq] at this
    exact findG_mem.1 (this.resolve_left h2)
  | step hf ho hr =>
    obtain ⟨k, f, v, a1, a2, a3, a4, rfl⟩ := refsG_mem.1 hr
    exact findG_mem.1 (haveG_ref ((mayG_obj hm ho).have' k f v a1 a2) a3 a4).1
theorem sweep_mem {g : Gr} (hm : mayG g = true) {o : Ob} : o ∈ (sweepG g).2.1 ↔ o ∈ g.2.1 ∧ ComeG g o.1 := by
  rw [sweepG_yes hm]
  simp [List.mem_filter]
theorem sweepG_may {g : Gr} (hm : mayG g = true) : mayG (sweepG g) = true := by
  obtain ⟨m1, m2, m3, m4, m5⟩ := mayG_parts hm
  have hs := mayG_sorted hm
  have e1 : (sweepG g).1 = g.1 := by rw [sweepG_yes hm]
  have e3 : (sweepG g).2.2 = g.2.2 := by rw [sweepG_yes hm]
  have hsub : ((sweepG g).2.1).Sublist g.2.1 := by rw [sweepG_yes hm]; exact List.filter_sublist
  have hsn := hs.sublist hsub
  refine mayG_mk (by rw [e1]; exact m1) (Nat.le_trans hsub.length_le m2) (by rw [e3]; exact m4) (fun r hr => ?_) (fun o ho => ?_) hsn
  · rw [e3] at hr
    have := m5 r hr
    rw [rootG, Bool.or_eq_true, decide_eq_true_eq, decide_eq_true_eq] at this ⊢
    by_cases h1 : r = -1
    · exact .inl h1
    · obtain ⟨o, ho, e⟩ := findG_mem.1 (this.resolve_left h1)
      exact .inr (findG_mem.2 ⟨o, (sweep_mem hm).2 ⟨ho, ⟨r, hr, h1, by rw [e]; exact .here⟩⟩, e⟩)
  · obtain ⟨ho1, ho2⟩ := (sweep_mem hm).1 ho
    have m := mayG_obj hm ho1
    refine ⟨m.id0, m.id1, m.t0, by rw [e1]; exact m.t1, by rw [e1]; exact m.len, fun k f v hf hv => ?_⟩
    rw [e1] at hf
    refine haveG_mono (g := g) e1 (m.have' k f v hf hv) fun h5 hr hfi => ?_
    obtain ⟨hc, p, hp, e⟩ := come_ref hm ho1 ho2 hf hv h5 hr
    refine find_of hs hsn (fun q hq hqr => ⟨q, (sweep_mem hm).2 ⟨hq, by rw [hqr]; exact hc⟩, rfl, rfl⟩) hfi
theorem sweep_come {g : Gr} (hm : mayG g = true) (x : Int) : ComeG (sweepG g) x ↔ ComeG g x := by
  have e1 : (sweepG g).1 = g.1 := by rw [sweepG_yes hm]
  have e3 : (sweepG g).2.2 = g.2.2 := by rw [sweepG_yes hm]
  constructor
  · rintro ⟨id, h1, h2, h3⟩
    rw [e3] at h1
    refine ⟨id, h1, h2, ?_⟩
    induction h3 with
    | here => exact .here
    | step _ ho hr ih => rw [e1] at hr; exact .step ih ((sweep_mem hm).1 ho).1 hr
  · rintro ⟨id, h1, h2, h3⟩
    refine ⟨id, by rw [e3]; exact h1, h2, ?_⟩
    induction h3 with
    | here => exact .here
    | step hf ho hr ih => exact .step ih ((sweep_mem hm).2 ⟨ho, id, h1, h2, hf⟩) (by rw [e1]; exact hr)
theorem sweep_twice {g : Gr} (hm : mayG g = true) : sweepG (sweepG g) = sweepG g := by
  rw [sweepG_yes (sweepG_may hm)]
  have e : (sweepG g).2.1.filter (fun o => @decide (ComeG (sweepG g) o.1) (Classical.propDecidable _)) = (sweepG g).2.1 := List.filter_eq_self.2 fun o ho => by
    simp only [decide_eq_true_eq]
    exact (sweep_come hm _).2 ((sweep_mem hm).1 ho).2
  rw [e]
theorem reach_twice {g : Gr} (hm : mayG g = true) : reachG (sweepG g) = reachG g := by rw [reachG, sweep_twice hm, reachG]
end Go.Proofs.Yteafbdebmhpffaa

/- Nothing is come to but roots, and what leads from them. No condition. -/
namespace Go.Proofs.Yteafbdebmhpffaa

/-- Of objects of which are all roots, and where their Refs lead, all that is come to is one. -/
theorem least_come {g : Gr} {some : List Bool} (hm : mayG g = true) (hr : ∀ r ∈ g.2.2, 0 ≤ r → some[(findG g.2.1 r).toNat]? = Option.some true)
    (hs : ∀ (i : Nat) o (k : Nat) f v, g.2.1[i]? = Option.some o → some[i]? = Option.some true → (fldsG g.1 o.2.1)[k]? = Option.some f → o.2.2[k]? = Option.some v → f.2.1 = 5 → 0 ≤ v.2.2 → some[(findG g.2.1 v.2.2).toNat]? = Option.some true) {x : Int} (hx : ComeG g x) : some[(findG g.2.1 x).toNat]? = Option.some true := by
  obtain ⟨id, h1, h2, h3⟩ := hx
  induction h3 with
  | here =>
    obtain ⟨p, hp, e⟩ := come_is hm (x := id) ⟨id, h1, h2, .here⟩
    have := (mayG_obj hm hp).id0
    exact hr id h1 (by omega)
  | step hf ho hr' ih =>
    rename_i o r
    obtain ⟨k, f, v, a1, a2, a3, a4, rfl⟩ := refsG_mem.1 hr'
    have hfo := findG_mem.2 ⟨o, ho, rfl⟩
    obtain ⟨i, p, e1, e2, e3, -⟩ := findG_at hfo
    obtain rfl := mayG_apart hm (List.mem_of_getElem? e2) ho e3
    rw [e1, Int.toNat_natCast] at ih
    obtain ⟨q, hq, e⟩ := findG_mem.1 (haveG_ref ((mayG_obj hm ho).have' k f v a1 a2) a3 a4).1
    have := (mayG_obj hm hq).id0
    exact hs i p k f v e2 ih a1 a2 a3 (by omega)
end Go.Proofs.Yteafbdebmhpffaa

/- A value that is set, and set back, on plain data. No condition. -/
namespace Go.Proofs.Yteafbdebmhpffaa

theorem find_set {os : List Ob} {id : Int} {I : Nat} {o p : Ob} (hI : findG os id = (I : Int)) (ho : os[I]? = some o) (he : p.1 = o.1) : findG (os.set I p) id = (I : Int) := by
  obtain ⟨⟨q, hq, hd⟩, hlt⟩ := (idxP_iff _ os I).1 hI
  rw [ho] at hq
  injection hq with hq
  subst hq
  have hl := (List.getElem?_eq_some_iff.1 ho).1
  refine (idxP_iff _ _ I).2 ⟨⟨p, List.getElem?_set_self hl, ?_⟩, fun j b hj hb => ?_⟩
  · rw [decide_eq_true_eq] at hd ⊢
    omega
  · rw [List.getElem?_set_ne (by omega)] at hb
    exact hlt j b hj hb
theorem set_same {α : Type} {l : List α} {i : Nat} {a : α} (h : l[i]? = some a) : l.set i a = l := by
  obtain ⟨hl, rfl⟩ := List.getElem?_eq_some_iff.1 h
  exact List.set_getElem_self hl
/-- What stands where, and that the one that was can be set back. -/
theorem set_back {g : Gr} {id k : Int} {v : Vl} (h : setE g id k v = 0) : ∃ (I kn : Nat) (o : Ob) (v0 : Vl), findG g.2.1 id = (I : Int) ∧ g.2.1[I]? = some o ∧ k = (kn : Int) ∧ kn < o.2.2.length ∧ o.2.2[kn]? = some v0 ∧ (setN g id k v).1.length = g.1.length ∧ (setN g id k v).2.1.length = g.2.1.length ∧ (setN g id k v).2.2.length = g.2.2.length ∧
    (setN g id k v).2.1[I]? = some (o.1, o.2.1, o.2.2.set kn v) ∧ (o.2.2.set kn v)[kn]? = some v ∧ mayG (setN g id k v) = true ∧ setE (setN g id k v) id k v0 = 0 ∧ setN (setN g id k v) id k v0 = g := by
  obtain ⟨hm, hf, hk0, hkl, hv⟩ := setE_0 h
  obtain ⟨I, o, hI, hgi, -, -⟩ := findG_at hf
  have hoe := objG_at hI hgi
  rw [hoe] at hkl hv
  obtain ⟨kn, rfl⟩ : ∃ kn : Nat, k = (kn : Int) := ⟨k.toNat, by omega⟩
  have hkl' : kn < o.2.2.length := by omega
  obtain ⟨v0, hv0⟩ : ∃ v0, o.2.2[kn]? = some v0 := ⟨_, List.getElem?_eq_getElem hkl'⟩
  have hmn := setN_may h
  have hIl := (List.getElem?_eq_some_iff.1 hgi).1
  have e : setN g id (kn : Int) v = (g.1, g.2.1.set I (o.1, o.2.1, o.2.2.set kn v), g.2.2) := by rw [setN, if_pos h, hI, hoe, Int.toNat_natCast, Int.toNat_natCast]
  have hat : (g.2.1.set I (o.1, o.2.1, o.2.2.set kn v))[I]? = some (o.1, o.2.1, o.2.2.set kn v) := List.getElem?_set_self hIl
  have hfi := find_set (p := (o.1, o.2.1, o.2.2.set kn v)) hI hgi rfl
  have hon := objG_at hfi hat
  have hom := List.mem_of_getElem? hgi
  have mo := mayG_obj hm hom
  have hs := mayG_sorted hm
  have hsn := setN_sorted (p := (o.1, o.2.1, o.2.2.set kn v)) hs hgi rfl
  have hhv : haveG (g.1, g.2.1.set I (o.1, o.2.1, o.2.2.set kn v), g.2.2) ((fldsG g.1 o.2.1).getD kn ([], 0, [])) v0 = true := by
    obtain ⟨f, hf'⟩ : ∃ f, (fldsG g.1 o.2.1)[kn]? = some f := ⟨_, List.getElem?_eq_getElem (by have := mo.len; omega)⟩
    rw [List.getD_eq_getElem?_getD, hf', Option.getD_some]
    refine haveG_mono (g := g) rfl (mo.have' kn f v0 hf' hv0) fun _ _ hr => find_of hs hsn (fun q hq _ => ?_) hr
    obtain ⟨j, hj⟩ := List.getElem?_of_mem hq
    by_cases hji : j = I
    · subst hji
      rw [hgi] at hj
      injection hj with hj
      subst hj
      exact ⟨_, List.mem_set hIl _, rfl, rfl⟩
    · exact ⟨q, List.mem_of_getElem? (i := j) (by rw [List.getElem?_set_ne (fun e => hji e.symm)]; exact hj), rfl, rfl⟩
  rw [e] at hmn ⊢
  have hE : setE (g.1, g.2.1.set I (o.1, o.2.1, o.2.2.set kn v), g.2.2) id (kn : Int) v0 = 0 := by
    rw [setE, if_pos hmn]
    show (if findG (g.2.1.set I (o.1, o.2.1, o.2.2.set kn v)) id ≠ -1 ∧ _ then _ else _) = (0 : Int)
    rw [hon, hfi, if_pos ⟨by omega, by simp [hkl']⟩]
    show (if haveG _ ((fldsG g.1 o.2.1).getD (kn : Int).toNat ([], 0, [])) v0 = true then _ else _) = (0 : Int)
    rw [Int.toNat_natCast, if_pos hhv]
  refine ⟨I, kn, o, v0, hI, hgi, rfl, hkl', hv0, rfl, List.length_set, rfl, hat, List.getElem?_set_self hkl', hmn, hE, ?_⟩
  rw [setN, if_pos hE]
  show (g.1, (g.2.1.set I (o.1, o.2.1, o.2.2.set kn v)).set (findG (g.2.1.set I (o.1, o.2.1, o.2.2.set kn v)) id).toNat ((objG (g.2.1.set I (o.1, o.2.1, o.2.2.set kn v)) id).1, (objG (g.2.1.set I (o.1, o.2.1, o.2.2.set kn v)) id).2.1, (objG (g.2.1.set I (o.1, o.2.1, o.2.2.set kn v)) id).2.2.set (kn : Int).toNat v0), g.2.2) = g
  rw [hon, hfi, Int.toNat_natCast, Int.toNat_natCast]
  show (g.1, (g.2.1.set I (o.1, o.2.1, o.2.2.set kn v)).set I (o.1, o.2.1, (o.2.2.set kn v).set kn v0), g.2.2) = g
  rw [List.set_set, List.set_set, set_same hv0, set_same hgi]
end Go.Proofs.Yteafbdebmhpffaa

/- A new object: by an Id that was not there; nothing comes to it, and all that was come to still is. No condition. -/
namespace Go.Proofs.Yteafbdebmhpffaa

theorem new_none {g : Gr} (hm : mayG g = true) : findG g.2.1 (nextG g.2.1) = -1 := by
  rcases Classical.em (findG g.2.1 (nextG g.2.1) = -1) with h | h
  · exact h
  · obtain ⟨o, ho, e⟩ := findG_mem.1 h
    have := nextG_above hm o ho
    omega
theorem new_last {g : Gr} {o : Ob} (hm : mayG g = true) (ho : o.1 = nextG g.2.1) : findG (g.2.1 ++ [o]) (nextG g.2.1) = (g.2.1.length : Int) := by
  refine (idxP_iff _ _ g.2.1.length).2 ⟨⟨o, by simp, decide_eq_true ho⟩, fun j p hj hp => ?_⟩
  rw [List.getElem?_append_left hj] at hp
  have := nextG_above hm p (List.mem_of_getElem? hp)
  exact decide_eq_false (by omega)
theorem new_from {g : Gr} {o : Ob} (hm : mayG g = true) (ho : o.1 = nextG g.2.1) {id x : Int} (hid : ∃ p ∈ g.2.1, p.1 = id) (h : From (g.1, g.2.1 ++ [o], g.2.2) id x) : From g id x ∧ ∃ p ∈ g.2.1, p.1 = x := by
  induction h with
  | here => exact ⟨.here, hid⟩
  | step hf hq hr ih =>
    rename_i q r
    obtain ⟨h1, p, hp, e⟩ := ih
    have hq' : q ∈ g.2.1 := by
      rcases List.mem_append.1 hq with h | h
      · exact h
      · simp at h
        subst h
        have := nextG_above hm p hp
        omega
    have hr' : r ∈ refsG g.1 q := hr
    refine ⟨.step h1 hq' hr', ?_⟩
    obtain ⟨k, f, v, a1, a2, a3, a4, rfl⟩ := refsG_mem.1 hr'
    exact findG_mem.1 (haveG_ref ((mayG_obj hm hq').have' k f v a1 a2) a3 a4).1
theorem new_come {g : Gr} {o : Ob} (hm : mayG g = true) (ho : o.1 = nextG g.2.1) (x : Int) : ComeG (g.1, g.2.1 ++ [o], g.2.2) x ↔ ComeG g x := by
  constructor
  · rintro ⟨id, h1, h2, h3⟩
    have := (mayG_parts hm).2.2.2.2 id h1
    rw [rootG, Bool.or_eq_true, decide_eq_true_eq, decide_eq_true_eq] at this
    exact ⟨id, h1, h2, (new_from hm ho (findG_mem.1 (this.resolve_left h2)) h3).1⟩
  · rintro ⟨id, h1, h2, h3⟩
    refine ⟨id, h1, h2, ?_⟩
    induction h3 with
    | here => exact .here
    | step _ hq hr ih => exact .step ih (List.mem_append_left _ hq) hr
theorem new_reach {g : Gr} {t : Int} (h : newE g t = 0) : (reachG (newG g t)).length = (reachG g).length := by
  obtain ⟨hm, -, -, -⟩ := newE_0 h
  have hmn := newG_may h
  rw [newG, if_pos h] at hmn ⊢
  rw [reachG, reachG, List.length_map, List.length_map, sweepG_yes hm, sweepG_yes hmn]
  show (List.filter _ (g.2.1 ++ _)).length = (List.filter _ g.2.1).length
  rw [List.filter_append, List.length_append]
  have e1 : g.2.1.filter (fun o => @decide (ComeG (g.1, g.2.1 ++ [((nextG g.2.1, t, (fldsG g.1 t).map fun f => zeroV f.2.1) : Ob)], g.2.2) o.1) (Classical.propDecidable _)) = g.2.1.filter (fun o => @decide (ComeG g o.1) (Classical.propDecidable _)) :=
    List.filter_congr fun o _ => by simp [new_come hm]
  have e2 : ([((nextG g.2.1, t, (fldsG g.1 t).map fun f => zeroV f.2.1) : Ob)] : List Ob).filter (fun o => @decide (ComeG (g.1, g.2.1 ++ [((nextG g.2.1, t, (fldsG g.1 t).map fun f => zeroV f.2.1) : Ob)], g.2.2) o.1) (Classical.propDecidable _)) = [] := by
    refine List.filter_eq_nil_iff.2 fun o ho => ?_
    simp at ho
    subst ho
    simp only [decide_eq_true_eq, new_come hm]
    intro hc
    obtain ⟨p, hp, e⟩ := come_is hm hc
    have := nextG_above hm p hp
    have e' : p.1 = nextG g.2.1 := e
    omega
  rw [e1, e2]
  rfl
/-- Why there is none. -/
theorem new_why {g : Gr} {t : Int} (hm : mayG g = true) (ht : 0 ≤ t ∧ t < (g.1.length : Int)) (h : newE g t ≠ 0) : g.2.1.length = 8 ∨ ∃ o, g.2.1[g.2.1.length - 1]? = some o ∧ o.1 = 1073741824 := by
  rw [newE, if_pos hm, if_pos (by simp [ht])] at h
  split at h
  · rename_i h1
    rcases h1 with h1 | h1
    · exact .inl h1
    · refine .inr ?_
      by_cases h0 : g.2.1 = []
      · rw [h0, nextG_nil] at h1; omega
      · obtain ⟨q, hq⟩ : ∃ q, g.2.1[g.2.1.length - 1]? = some q := ⟨_, List.getElem?_eq_getElem (by have := List.length_pos_iff.2 h0; omega)⟩
        rw [nextG_last hq] at h1
        have := (mayG_obj hm (List.mem_of_getElem? hq)).id1
        exact ⟨q, hq, by omega⟩
  · exact absurd rfl h
theorem new_type {g : Gr} {t : Int} (hm : mayG g = true) (ht : ¬ (0 ≤ t ∧ t < (g.1.length : Int))) : newE g t = 6 := by
  rw [newE, if_pos hm, if_neg (by simpa using ht)]
end Go.Proofs.Yteafbdebmhpffaa

/- What is come to by so many leaps, on plain data: as many as there are objects are enough. No condition. -/
namespace Go.Proofs.Yteafbdebmhpffaa

/-- A Ref, at a field of an object that is marked, that leads to the place j. -/
def Lead (g : Gr) (bs : List Bool) (i : Nat) (o : Ob) (k : Nat) (f : Fld) (v : Vl) (j : Nat) : Prop :=
  g.2.1[i]? = some o ∧ bs[i]? = some true ∧ (fldsG g.1 o.2.1)[k]? = some f ∧ o.2.2[k]? = some v ∧ f.2.1 = 5 ∧ 0 ≤ v.2.2 ∧ findG g.2.1 v.2.2 = (j : Int)
/-- One leap more, so far: up to the field k of the object i. -/
structure LeapI (g : Gr) (bs cur : List Bool) (i k : Nat) : Prop where
  len : cur.length = bs.length
  mem : ∀ j : Nat, cur[j]? = some true ↔ (bs[j]? = some true ∨ ∃ i' o k' f v, (i' < i ∨ (i' = i ∧ k' < k)) ∧ Lead g bs i' o k' f v j)
structure Leap (g : Gr) (bs cur : List Bool) : Prop where
  len : cur.length = bs.length
  mem : ∀ j : Nat, cur[j]? = some true ↔ (bs[j]? = some true ∨ ∃ i' o k' f v, Lead g bs i' o k' f v j)
theorem LeapI.start (g : Gr) (bs : List Bool) : LeapI g bs bs 0 0 := ⟨rfl, fun j => ⟨.inl, fun h => h.elim id fun ⟨i', _, _, _, _, h, _⟩ => by omega⟩⟩
theorem LeapI.skip {g : Gr} {bs cur : List Bool} {i k : Nat} (h : LeapI g bs cur i k) (hn : ∀ o f v j, ¬ Lead g bs i o k f v j) : LeapI g bs cur i (k + 1) := by
  refine ⟨h.len, fun j => (h.mem j).trans (or_congr Iff.rfl ⟨?_, ?_⟩)⟩
  · rintro ⟨i', o, k', f, v, hk, hl⟩
    exact ⟨i', o, k', f, v, by omega, hl⟩
  · rintro ⟨i', o, k', f, v, hk, hl⟩
    by_cases he : i' = i ∧ k' = k
    · obtain ⟨rfl, rfl⟩ := he
      exact absurd hl (hn o f v j)
    · exact ⟨i', o, k', f, v, by omega, hl⟩
theorem LeapI.take {g : Gr} {bs cur : List Bool} {i k J : Nat} {o : Ob} {f : Fld} {v : Vl} (h : LeapI g bs cur i k) (hl : Lead g bs i o k f v J) (hJ : J < cur.length) : LeapI g bs (cur.set J true) i (k + 1) := by
  refine ⟨by rw [List.length_set]; exact h.len, fun j => ?_⟩
  by_cases hj : j = J
  · subst hj
    rw [List.getElem?_set_self hJ]
    exact ⟨fun _ => .inr ⟨i, o, k, f, v, by omega, hl⟩, fun _ => rfl⟩
  · rw [List.getElem?_set_ne (fun e => hj e.symm), h.mem j]
    refine or_congr Iff.rfl ⟨?_, ?_⟩
    · rintro ⟨i', o', k', f', v', hk, hl'⟩
      exact ⟨i', o', k', f', v', by omega, hl'⟩
    · rintro ⟨i', o', k', f', v', hk, hl'⟩
      by_cases he : i' = i ∧ k' = k
      · obtain ⟨rfl, rfl⟩ := he
        obtain ⟨a1, a2, a3, a4, a5, a6, a7⟩ := hl
        obtain ⟨b1, b2, b3, b4, b5, b6, b7⟩ := hl'
        rw [a1] at b1
        injection b1 with b1
        subst b1
        rw [a4] at b4
        injection b4 with b4
        subst b4
        rw [a7] at b7
        exact absurd (by omega) hj
      · exact ⟨i', o', k', f', v', by omega, hl'⟩
theorem LeapI.next {g : Gr} {bs cur : List Bool} {i k : Nat} {o : Ob} (h : LeapI g bs cur i k) (ho : g.2.1[i]? = some o) (hk : o.2.2.length ≤ k) : LeapI g bs cur (i + 1) 0 := by
  refine ⟨h.len, fun j => (h.mem j).trans (or_congr Iff.rfl ⟨?_, ?_⟩)⟩
  · rintro ⟨i', o', k', f, v, hk', hl⟩
    exact ⟨i', o', k', f, v, by omega, hl⟩
  · rintro ⟨i', o', k', f, v, hk', hl⟩
    refine ⟨i', o', k', f, v, ?_, hl⟩
    by_cases hi : i' < i
    · exact .inl hi
    · obtain rfl : i' = i := by omega
      obtain ⟨a1, a2, a3, a4, -⟩ := hl
      rw [ho] at a1
      injection a1 with a1
      subst a1
      have := (List.getElem?_eq_some_iff.1 a4).1
      exact .inr ⟨rfl, by omega⟩
theorem LeapI.all {g : Gr} {bs cur : List Bool} {i : Nat} (h : LeapI g bs cur i 0) (hi : g.2.1.length ≤ i) : Leap g bs cur := by
  refine ⟨h.len, fun j => (h.mem j).trans (or_congr Iff.rfl ⟨?_, ?_⟩)⟩
  · rintro ⟨i', o', k', f, v, hk', hl⟩
    exact ⟨i', o', k', f, v, hl⟩
  · rintro ⟨i', o', k', f, v, hl⟩
    exact ⟨i', o', k', f, v, .inl (by have := (List.getElem?_eq_some_iff.1 hl.1).1; omega), hl⟩

theorem count_le : ∀ {bs cs : List Bool}, bs.length = cs.length → (∀ j : Nat, bs[j]? = some true → cs[j]? = some true) → bs.count true ≤ cs.count true
  | [], cs, _, _ => by simp
  | b :: bs, [], h, _ => by simp at h
  | b :: bs, c :: cs, h, hm => by
    have ih := count_le (bs := bs) (cs := cs) (by simpa using h) (fun j hj => by simpa using hm (j + 1) (by simpa using hj))
    have h0 := hm 0
    simp at h0
    cases b <;> cases c <;> simp_all <;> omega
theorem count_lt : ∀ {bs cs : List Bool}, bs.length = cs.length → (∀ j : Nat, bs[j]? = some true → cs[j]? = some true) → (∃ j : Nat, cs[j]? = some true ∧ bs[j]? ≠ some true) → bs.count true < cs.count true
  | [], cs, h, _, ⟨j, hj, _⟩ => by
    have : cs = [] := List.eq_nil_of_length_eq_zero (by simpa using h.symm)
    subst this
    simp at hj
  | b :: bs, [], h, _, _ => by simp at h
  | b :: bs, c :: cs, h, hm, ⟨j, hj, hn⟩ => by
    have hl : bs.length = cs.length := by simpa using h
    have hm' : ∀ j : Nat, bs[j]? = some true → cs[j]? = some true := fun j hj => by simpa using hm (j + 1) (by simpa using hj)
    have h0 := hm 0
    simp at h0
    cases j with
    | zero =>
      have := count_le hl hm'
      simp at hj hn
      subst hj
      cases b
      · simp; omega
      · simp at hn
    | succ j =>
      have := count_lt hl hm' ⟨j, by simpa using hj, by simpa using hn⟩
      cases b <;> cases c <;> simp_all <;> omega
/-- Nothing leads out of those that are marked. -/
def Shut (g : Gr) (bs : List Bool) : Prop := ∀ (i : Nat) o (k : Nat) f v, g.2.1[i]? = some o → bs[i]? = some true → (fldsG g.1 o.2.1)[k]? = some f → o.2.2[k]? = some v → f.2.1 = 5 → 0 ≤ v.2.2 → bs[(findG g.2.1 v.2.2).toNat]? = some true
/-- Behind t leaps. -/
structure Leaps (g : Gr) (bs : List Bool) (t : Nat) : Prop where
  len : bs.length = g.2.1.length
  only : ∀ (i : Nat) o, g.2.1[i]? = some o → bs[i]? = some true → ComeG g o.1
  roots : ∀ r ∈ g.2.2, 0 ≤ r → bs[(findG g.2.1 r).toNat]? = some true
  shut : Shut g bs ∨ t ≤ bs.count true
theorem Leaps.step {g : Gr} (hm : mayG g = true) {bs cs : List Bool} {t : Nat} (h : Leaps g bs t) (hl : Leap g bs cs) : Leaps g cs (t + 1) := by
  have hlen : bs.length = cs.length := hl.len.symm
  have hsub : ∀ j : Nat, bs[j]? = some true → cs[j]? = some true := fun j hj => (hl.mem j).2 (.inl hj)
  refine ⟨hl.len.trans h.len, fun i o ho hc => ?_, fun r hr h0 => hsub _ (h.roots r hr h0), ?_⟩
  · rcases (hl.mem i).1 hc with hb | ⟨i', o', k, f, v, a1, a2, a3, a4, a5, a6, a7⟩
    · exact h.only i o ho hb
    · obtain ⟨hc', -⟩ := come_ref hm (List.mem_of_getElem? a1) (h.only i' o' a1 a2) a3 a4 a5 (by omega)
      obtain ⟨i2, p, e1, e2, e3, -⟩ := findG_at (os := g.2.1) (id := v.2.2) (by rw [a7]; omega)
      rw [a7] at e1
      obtain rfl : i = i2 := by omega
      rw [ho] at e2
      injection e2 with e2
      subst e2
      rw [e3]
      exact hc'
  · by_cases hs : Shut g bs
    · have hsame : ∀ j : Nat, cs[j]? = some true ↔ bs[j]? = some true := fun j => ⟨fun hc => by
        rcases (hl.mem j).1 hc with hb | ⟨i', o', k, f, v, a1, a2, a3, a4, a5, a6, a7⟩
        · exact hb
        · have := hs i' o' k f v a1 a2 a3 a4 a5 a6
          rwa [a7, Int.toNat_natCast] at this, hsub j⟩
      exact .inl fun i o k f v a1 a2 a3 a4 a5 a6 => (hsame _).2 (hs i o k f v a1 ((hsame i).1 a2) a3 a4 a5 a6)
    · have ht := h.shut.resolve_left hs
      refine .inr (Nat.lt_of_le_of_lt ht (count_lt hlen hsub ?_))
      rcases Classical.em (∃ j : Nat, cs[j]? = some true ∧ bs[j]? ≠ some true) with hh | hh
      · exact hh
      · refine absurd (fun i o k f v a1 a2 a3 a4 a5 a6 => ?_) hs
        obtain ⟨I, p, e1, e2, e3, -⟩ := findG_at (haveG_ref ((mayG_obj hm (List.mem_of_getElem? a1)).have' k f v a3 a4) a5 (by omega)).1
        have hc := (hl.mem I).2 (.inr ⟨i, o, k, f, v, a1, a2, a3, a4, a5, a6, e1⟩)
        rcases Classical.em (bs[I]? = some true) with hb | hb
        · rw [e1, Int.toNat_natCast]; exact hb
        · exact absurd ⟨I, hc, hb⟩ hh
theorem Leaps.all {g : Gr} (hm : mayG g = true) {bs : List Bool} {t : Nat} (h : Leaps g bs t) (ht : g.2.1.length ≤ t) {i : Nat} {o : Ob} (ho : g.2.1[i]? = some o) : bs[i]? = some true ↔ ComeG g o.1 := by
  have hs : Shut g bs := by
    rcases h.shut with hs | hs
    · exact hs
    · have hc : bs.count true = bs.length := Nat.le_antisymm (List.count_le_length) (by rw [h.len]; omega)
      have hall := List.count_eq_length.1 hc
      intro i o k f v a1 a2 a3 a4 a5 a6
      obtain ⟨I, p, e1, e2, e3, -⟩ := findG_at (haveG_ref ((mayG_obj hm (List.mem_of_getElem? a1)).have' k f v a3 a4) a5 (by omega)).1
      have hI : I < bs.length := by rw [h.len]; exact (List.getElem?_eq_some_iff.1 e2).1
      rw [e1, Int.toNat_natCast, List.getElem?_eq_getElem hI, ← hall _ (List.getElem_mem hI)]
  refine ⟨h.only i o ho, fun hc => ?_⟩
  have := least_come hm (some := bs) h.roots hs hc
  obtain ⟨I, p, e1, e2, e3, -⟩ := findG_at (findG_mem.2 ⟨o, List.mem_of_getElem? ho, rfl⟩)
  have hpo := mayG_apart hm (List.mem_of_getElem? e2) (List.mem_of_getElem? ho) e3
  subst hpo
  have hII : I = i := by
    have hs2 := mayG_sorted hm
    rw [List.pairwise_iff_getElem] at hs2
    have l1 := (List.getElem?_eq_some_iff.1 e2).1
    have l2 := (List.getElem?_eq_some_iff.1 ho).1
    rcases Nat.lt_trichotomy I i with hlt | rfl | hlt
    · have := hs2 I i l1 l2 hlt
      rw [(List.getElem?_eq_some_iff.1 e2).2, (List.getElem?_eq_some_iff.1 ho).2] at this
      omega
    · rfl
    · have := hs2 i I l2 l1 hlt
      rw [(List.getElem?_eq_some_iff.1 e2).2, (List.getElem?_eq_some_iff.1 ho).2] at this
      omega
  rw [e1, Int.toNat_natCast, hII] at this
  exact this
theorem lref_at {g : Gr} (hm : mayG g = true) {o : Ob} (ho : o ∈ g.2.1) {k : Nat} {f : Fld} {v : Vl} (hf : (fldsG g.1 o.2.1)[k]? = some f) (hv : o.2.2[k]? = some v) (h5 : f.2.1 = 5) (h0 : 0 ≤ v.2.2) : ∃ I : Nat, findG g.2.1 v.2.2 = (I : Int) ∧ I < g.2.1.length := by
  obtain ⟨I, o, h1, h2, -, -⟩ := findG_at (haveG_ref ((mayG_obj hm ho).have' k f v hf hv) h5 (by omega)).1
  exact ⟨I, h1, (List.getElem?_eq_some_iff.1 h2).1⟩
theorem lroot_at {g : Gr} (hm : mayG g = true) {r : Int} (hr : r ∈ g.2.2) (h0 : 0 ≤ r) : ∃ I : Nat, findG g.2.1 r = (I : Int) ∧ I < g.2.1.length := by
  have := (mayG_parts hm).2.2.2.2 r hr
  rw [rootG, Bool.or_eq_true, decide_eq_true_eq, decide_eq_true_eq] at this
  obtain ⟨I, o, h1, h2, -, -⟩ := findG_at (this.resolve_left (by omega))
  exact ⟨I, h1, (List.getElem?_eq_some_iff.1 h2).1⟩
end Go.Proofs.Yteafbdebmhpffaa
