/- The texts GrRootPlain, GrSetMem, GrStayPlain, VlRefFits in one; what each proves, and its conditions, stands before it. -/
import Derived.Test.YtembafogbfcajaaGrTame
import Derived.Test.YtembafogbfcajaaGrRoot
import Derived.Test.YtembafogbfcajaaGrWhy
import Derived.Test.YtembafogbfcajaaGrOwn
import Derived.Test.YtembafogbfcajaaVlFitsAll
/- More roots, no roots: what may be, and what is come to. No condition. -/
namespace Go.Proofs.Ytembafogbfcajaa

theorem riseG_roots (g : Gr) (l : List Int) : ∀ (last : Int) (os : List Ob), riseG (g.1, g.2.1, l) last os = riseG g last os
  | _, [] => rfl
  | last, o :: os => by rw [riseG, riseG, riseG_roots g l o.1 os]; rfl
theorem mayG_roots {g : Gr} {l : List Int} (h : mayG g = true) (hl : l.length ≤ 3) (hr : ∀ r ∈ l, rootG g.2.1 r = true) : mayG (g.1, g.2.1, l) = true := by
  obtain ⟨m1, m2, m3, -, -⟩ := mayG_parts h
  rw [mayG, mayOs, mayRs]
  simp only [Bool.and_eq_true, decide_eq_true_eq, List.all_eq_true]
  exact ⟨⟨m1, m2, by rw [riseG_roots]; exact m3⟩, hl, hr⟩
theorem rootN_may {g : Gr} {i id : Int} (h : rootE g i id = 0) : mayG (rootN g i id) = true := by
  obtain ⟨hm, h0, h3, hK, hr⟩ := rootE_0 h
  have hp := (mayG_parts hm).2.2.2
  rw [rootN, if_pos h]
  refine mayG_roots hm ?_ ?_
  · split
    · rw [List.length_append, List.length_singleton]; omega
    · rw [List.length_set]; exact hp.1
  · intro r hr'
    split at hr'
    · rcases List.mem_append.1 hr' with h1 | h1
      · exact hp.2 r h1
      · simp at h1; subst h1; exact hr
    · rcases List.mem_or_eq_of_mem_set hr' with h1 | h1
      · exact hp.2 r h1
      · subst h1; exact hr
theorem from_roots {g : Gr} {l : List Int} {id x : Int} (h : From g id x) : From (g.1, g.2.1, l) id x := by
  induction h with
  | here => exact .here
  | step _ ho hr ih => exact .step ih ho hr
theorem come_roots {g : Gr} {l : List Int} {x : Int} (h : ComeG g x) (hl : ∀ r ∈ g.2.2, r ∈ l) : ComeG (g.1, g.2.1, l) x := by
  obtain ⟨id, hid, hn, hf⟩ := h
  exact ⟨id, hl id hid, hn, from_roots hf⟩
theorem reach_none {g : Gr} : reachG (g.1, g.2.1, []) = [] := by
  rw [reachG]
  by_cases h : mayG (g.1, g.2.1, []) = true
  · rw [sweepG_yes h]
    have : (g.1, g.2.1, ([] : List Int)).2.1.filter (fun o => @decide (ComeG (g.1, g.2.1, []) o.1) (Classical.propDecidable _)) = [] := List.filter_eq_nil_iff.2 fun o _ => by
      simp only [decide_eq_true_eq]
      rintro ⟨id, hid, -⟩
      cases hid
    rw [this]; rfl
  · rw [sweepG_no (by simpa using h)]; rfl
theorem reach_mono {g h : Gr} (hg : mayG g = true) (hh : mayG h = true) (he : h.2.1 = g.2.1) (hc : ∀ x, ComeG g x → ComeG h x) : (reachG g).length ≤ (reachG h).length := by
  rw [reachG, reachG, List.length_map, List.length_map, sweepG_yes hg, sweepG_yes hh]
  show (List.filter _ g.2.1).length ≤ (List.filter _ h.2.1).length
  rw [he, ← List.countP_eq_length_filter, ← List.countP_eq_length_filter]
  exact List.countP_mono_left fun o _ ho => by simp only [decide_eq_true_eq] at ho ⊢; exact hc _ ho
theorem reach_mem {g : Gr} (hg : mayG g = true) {x : Int} : x ∈ reachG g ↔ ComeG g x ∧ ∃ o ∈ g.2.1, o.1 = x := by
  rw [reachG, sweepG_yes hg, List.mem_map]
  simp only [List.mem_filter, decide_eq_true_eq]
  constructor
  · rintro ⟨o, ⟨h1, h2⟩, rfl⟩
    exact ⟨h2, o, h1, rfl⟩
  · rintro ⟨h1, o, h2, rfl⟩
    exact ⟨o, ⟨h2, h1⟩, rfl⟩
theorem root_more {g : Gr} {id : Int} (h : rootE g (g.2.2.length : Int) id = 0) : (reachG g).length ≤ (reachG (rootN g (g.2.2.length : Int) id)).length := by
  have hm := rootN_may h
  rw [rootN, if_pos h, if_pos rfl] at hm ⊢
  exact reach_mono (rootE_0 h).1 hm rfl fun x hx => come_roots hx fun r hr => List.mem_append_left _ hr
theorem root_here {g : Gr} {i id : Int} (h : rootE g i id = 0) (hid : 0 ≤ id) : id ∈ reachG (rootN g i id) := by
  obtain ⟨hm, h0, h3, hK, hr⟩ := rootE_0 h
  rw [rootG, Bool.or_eq_true, decide_eq_true_eq, decide_eq_true_eq] at hr
  obtain ⟨o, ho, he⟩ := findG_mem.1 (hr.resolve_left (by omega))
  rw [reach_mem (rootN_may h)]
  rw [rootN, if_pos h]
  refine ⟨⟨id, ?_, by omega, .here⟩, o, ho, he⟩
  show id ∈ (if i = (g.2.2.length : Int) then g.2.2 ++ [id] else g.2.2.set i.toNat id)
  split
  · simp
  · exact List.mem_set (by omega) _
end Go.Proofs.Ytembafogbfcajaa

/- A value that is set, in memory of the call's own. No condition. -/
namespace Go.Proofs.Ytembafogbfcajaa
open Go.RowKit

def setN (g : Gr) (id k : Int) (v : Vl) : Gr := if setE g id k v = 0 then (g.1, g.2.1.set (findG g.2.1 id).toNat ((objG g.2.1 id).1, (objG g.2.1 id).2.1, (objG g.2.1 id).2.2.set k.toNat v), g.2.2) else g
theorem setE_0 {g : Gr} {id k : Int} {v : Vl} (h : setE g id k v = 0) : mayG g = true ∧ findG g.2.1 id ≠ -1 ∧ 0 ≤ k ∧ k < ((objG g.2.1 id).2.2.length : Int) ∧ haveG g ((fldsG g.1 (objG g.2.1 id).2.1).getD k.toNat ([], 0, [])) v = true := by
  rw [setE] at h
  split at h
  · rename_i h1
    split at h
    · rename_i h2
      split at h
      · rename_i h3
        have h4 := h2.2
        simp at h4
        exact ⟨h1, h2.1, h4.1, h4.2, h3⟩
      · cases h
    · cases h
  · cases h
theorem chunks_set3 {α : Type} {R : List Value → α → Prop} {xs : List Value} {l : List α} {a b c : Value} {v : α} {k : Nat} (h : Chunks 3 R xs l) (hk : k < l.length) (hR : R [a, b, c] v) : Chunks 3 R (((xs.set (k * 3) a).set (k * 3 + 1) b).set (k * 3 + 2) c) (l.set k v) := by
  have hl := h.1
  refine ⟨by simp [hl], fun i x hx => ?_⟩
  by_cases hik : i = k
  · subst hik
    have hx' : v = x := by simpa [hk] using hx
    subst hx'
    have : (((((xs.set (i * 3) a).set (i * 3 + 1) b).set (i * 3 + 2) c).drop (i * 3)).take 3) = [a, b, c] := by
      refine List.ext_getElem? fun j => ?_
      rw [List.getElem?_take]
      rcases Nat.lt_or_ge j 3 with hj | hj
      · rw [if_pos hj, List.getElem?_drop]
        have : j = 0 ∨ j = 1 ∨ j = 2 := by omega
        rcases this with rfl | rfl | rfl
        · rw [List.getElem?_set_ne (by omega), List.getElem?_set_ne (by omega), Nat.add_zero, List.getElem?_set_self (by omega)]; rfl
        · rw [List.getElem?_set_ne (by omega), List.getElem?_set_self (by simp; omega)]; rfl
        · rw [List.getElem?_set_self (by simp; omega)]; rfl
      · rw [if_neg (by omega), List.getElem?_eq_none (by simpa using hj)]
    rw [this]
    exact hR
  · have hx' : l[i]? = some x := by rwa [List.getElem?_set_ne (fun e => hik e.symm)] at hx
    have : (((((xs.set (k * 3) a).set (k * 3 + 1) b).set (k * 3 + 2) c).drop (i * 3)).take 3) = (xs.drop (i * 3)).take 3 := by
      refine List.ext_getElem? fun j => ?_
      rw [List.getElem?_take, List.getElem?_take]
      rcases Nat.lt_or_ge j 3 with hj | hj
      · rw [if_pos hj, if_pos hj, List.getElem?_drop, List.getElem?_drop, List.getElem?_set_ne (by omega), List.getElem?_set_ne (by omega), List.getElem?_set_ne (by omega)]
      · rw [if_neg (by omega), if_neg (by omega)]
    rw [this]
    exact h.2 i x hx'
theorem obCells_at : ∀ {os : List Ob} {bs : List Nat} {i : Nat} {o : Ob} {b : Nat}, os[i]? = some o → bs[i]? = some b → (obCells os bs)[i * 3 + 2]? = some (.slice (some ⟨b, 0, none⟩) o.2.2.length o.2.2.length)
  | [], _, _, _, _, h, _ => by simp at h
  | _ :: _, [], _, _, _, _, h => by simp at h
  | p :: os, c :: bs, 0, o, b, h, h' => by simp at h h'; subst h h'; rfl
  | p :: os, c :: bs, i + 1, o, b, h, h' => by
    rw [obCells, show (i + 1) * 3 + 2 = i * 3 + 2 + 1 + 1 + 1 by omega]
    simp only [List.getElem?_cons_succ]
    exact obCells_at (by simpa using h) (by simpa using h')
theorem obCells_set : ∀ {os : List Ob} {bs : List Nat} {i : Nat} {o p : Ob}, os[i]? = some o → p.1 = o.1 → p.2.1 = o.2.1 → p.2.2.length = o.2.2.length → obCells (os.set i p) bs = obCells os bs
  | [], _, _, _, _, h, _, _, _ => by simp at h
  | q :: os, [], i, o, p, _, _, _, _ => by cases i <;> rfl
  | q :: os, c :: bs, 0, o, p, h, h1, h2, h3 => by simp at h; subst h; rw [List.set_cons_zero, obCells, obCells, h1, h2, h3]
  | q :: os, c :: bs, i + 1, o, p, h, h1, h2, h3 => by rw [List.set_cons_succ, obCells, obCells, obCells_set (by simpa using h) h1 h2 h3]
/-- One of the objects' own values is set. -/
theorem ObIn.set {lo hi : Nat} {w W : World} {bs : List Nat} {os : List Ob} {I k b : Nat} {o : Ob} {v : Vl} {vs : List Value} {x y z : Value} (h2 : os.length = bs.length) (h3 : bs.Pairwise (· < ·)) (h4 : ∀ (i : Nat) o b, os[i]? = some o → bs[i]? = some b → lo < b ∧ b < hi ∧ OwnF w b o)
    (ho : os[I]? = some o) (hb : bs[I]? = some b) (hk : k < o.2.2.length) (hvs : Blk w b 30 vs) (hch : Chunks 3 (rVal (fun _ => True) w) vs o.2.2) (hv : ∀ S W', rVal S W' [x, y, z] v) (hW : Blk W b 30 (((vs.set (k * 3) x).set (k * 3 + 1) y).set (k * 3 + 2) z)) (hkeep : ∀ c, lo < c → c < hi → c ≠ b → W.heap[c]? = w.heap[c]?) :
    ObIn lo hi W (obCells os bs) (os.set I (o.1, o.2.1, o.2.2.set k v)) := by
  have _ := hvs
  refine ⟨bs, (obCells_set (p := (o.1, o.2.1, o.2.2.set k v)) ho rfl rfl (by simp)).symm, by rw [List.length_set, h2], h3, fun i p c hp hc => ?_⟩
  have hIl := (List.getElem?_eq_some_iff.1 ho).1
  by_cases hi : i = I
  · subst hi
    have e : (o.1, o.2.1, o.2.2.set k v) = p := by simpa [hIl] using hp
    subst e
    rw [hb] at hc
    injection hc with hc
    subst hc
    obtain ⟨h5, h6, h7, h8, h9, -⟩ := h4 i o b ho hb
    exact ⟨h5, h6, h7, h8, by simpa using h9, _, hW, chunks_set3 (R := rVal (fun _ => True) W) hch hk (hv _ _)⟩
  · rw [List.getElem?_set_ne (fun e => hi e.symm)] at hp
    obtain ⟨h5, h6, h7⟩ := h4 i p c hp hc
    refine ⟨h5, h6, h7.keep (hkeep c h5 h6 fun e => ?_)⟩
    subst e
    have hil := (List.getElem?_eq_some_iff.1 hc).1
    have hIb := (List.getElem?_eq_some_iff.1 hb).1
    rw [List.pairwise_iff_getElem] at h3
    rcases Nat.lt_or_gt_of_ne hi with hlt | hlt
    · have := h3 i I hil hIb hlt
      rw [(List.getElem?_eq_some_iff.1 hc).2, (List.getElem?_eq_some_iff.1 hb).2] at this
      omega
    · have := h3 I i hIb hil hlt
      rw [(List.getElem?_eq_some_iff.1 hc).2, (List.getElem?_eq_some_iff.1 hb).2] at this
      omega
end Go.Proofs.Ytembafogbfcajaa

/- What may be stays so: with a new object, another value, another root, and swept; what is come to, swept. No condition. -/
namespace Go.Proofs.Ytembafogbfcajaa

theorem riseG_iff {g : Gr} : ∀ {last : Int} {l : List Ob}, riseG g last l = true ↔ (∀ o ∈ l, last < o.1 ∧ o.1 ≤ 1073741824 ∧ mayO g o = true) ∧ l.Pairwise fun o p => o.1 < p.1
  | last, [] => by simp [riseG]
  | last, o :: l => by
    constructor
    · exact fun h => ⟨riseG_mem h, riseG_sorted h⟩
    · rintro ⟨h1, h2⟩
      rw [List.pairwise_cons] at h2
      obtain ⟨a1, a2, a3⟩ := h1 o (List.mem_cons_self ..)
      rw [riseG, Bool.and_eq_true, Bool.and_eq_true, Bool.and_eq_true, decide_eq_true_eq, decide_eq_true_eq]
      refine ⟨⟨⟨a1, a2⟩, a3⟩, riseG_iff.2 ⟨fun p hp => ?_, h2.2⟩⟩
      obtain ⟨b1, b2, b3⟩ := h1 p (List.mem_cons_of_mem _ hp)
      exact ⟨h2.1 p hp, b2, b3⟩
theorem mayG_mk {g : Gr} (h1 : mayS g.1 = true) (h2 : g.2.1.length ≤ 8) (h3 : g.2.2.length ≤ 3) (h4 : ∀ r ∈ g.2.2, rootG g.2.1 r = true) (h5 : ∀ o ∈ g.2.1, MayObj g o) (h6 : g.2.1.Pairwise fun o p => o.1 < p.1) : mayG g = true := by
  rw [mayG, mayOs, mayRs]
  simp only [Bool.and_eq_true, decide_eq_true_eq, List.all_eq_true]
  refine ⟨⟨h1, h2, riseG_iff.2 ⟨fun o ho => ?_, h6⟩⟩, h3, h4⟩
  have m := h5 o ho
  have := m.id0
  exact ⟨by omega, m.id1, mayO_iff.2 ⟨⟨m.t0, m.t1⟩, m.len, m.have'⟩⟩
theorem mayG_sorted {g : Gr} (h : mayG g = true) : g.2.1.Pairwise fun o p => o.1 < p.1 := riseG_sorted (mayG_parts h).2.2.1
theorem haveG_mono {g h : Gr} {f : Fld} {v : Vl} (hs : h.1 = g.1) (hh : haveG g f v = true) (hf : f.2.1 = 5 → v.2.2 ≠ -1 → findG g.2.1 v.2.2 ≠ -1 → findG h.2.1 v.2.2 ≠ -1 ∧ typG h.2.1 v.2.2 = typG g.2.1 v.2.2) : haveG h f v = true := by
  by_cases h5 : f.2.1 = 5
  · by_cases hr : v.2.2 = -1
    · rw [haveG] at hh ⊢
      simp only [hr, decide_true, Bool.or_true, Bool.true_or, Bool.and_true] at hh ⊢
      exact hh
    · obtain ⟨a1, a2⟩ := haveG_ref hh h5 hr
      obtain ⟨b1, b2⟩ := hf h5 hr a1
      rw [haveG] at hh ⊢
      rw [Bool.and_eq_true] at hh
      rw [hh.1, b2, a2, hs]
      simp [b1]
  · rw [haveG] at hh ⊢
    simp only [ne_eq, h5, not_false_eq_true, decide_true, Bool.true_or, Bool.and_true] at hh ⊢
    exact hh
/-- Where an object of that id stands, its type's place is told. -/
theorem typG_of {os : List Ob} {o : Ob} (hs : os.Pairwise fun o p => o.1 < p.1) (ho : o ∈ os) : findG os o.1 ≠ -1 ∧ typG os o.1 = o.2.1 := by
  have h := findG_mem.2 ⟨o, ho, rfl⟩
  obtain ⟨i, p, -, h2, h3, h4⟩ := findG_at h
  obtain rfl := sorted_apart hs (List.mem_of_getElem? h2) ho h3
  exact ⟨h, h4⟩
/-- Objects of the same ids and types are found alike. -/
theorem find_of {os ps : List Ob} {r : Int} (hs : os.Pairwise fun o p => o.1 < p.1) (hp : ps.Pairwise fun o p => o.1 < p.1) (h : ∀ o ∈ os, o.1 = r → ∃ p ∈ ps, p.1 = o.1 ∧ p.2.1 = o.2.1) (hr : findG os r ≠ -1) : findG ps r ≠ -1 ∧ typG ps r = typG os r := by
  obtain ⟨o, ho, rfl⟩ := findG_mem.1 hr
  obtain ⟨p, hpp, e1, e2⟩ := h o ho rfl
  have a := typG_of hs ho
  have b := typG_of hp hpp
  rw [e1] at b
  exact ⟨b.1, by rw [b.2, a.2, e2]⟩
theorem nextG_above {g : Gr} (hm : mayG g = true) : ∀ o ∈ g.2.1, o.1 < nextG g.2.1 := by
  intro o ho
  obtain ⟨i, hi⟩ := List.getElem?_of_mem ho
  have hil := (List.getElem?_eq_some_iff.1 hi).1
  obtain ⟨q, hq⟩ : ∃ q, g.2.1[g.2.1.length - 1]? = some q := ⟨_, List.getElem?_eq_getElem (by omega)⟩
  rw [nextG_last hq]
  have hs := mayG_sorted hm
  rw [List.pairwise_iff_getElem] at hs
  by_cases hl : i = g.2.1.length - 1
  · subst hl
    rw [hi] at hq
    injection hq with hq
    subst hq
    omega
  · have := hs i (g.2.1.length - 1) hil (by omega) (by omega)
    rw [(List.getElem?_eq_some_iff.1 hi).2, (List.getElem?_eq_some_iff.1 hq).2] at this
    omega
theorem nextG_low {g : Gr} (hm : mayG g = true) : 0 ≤ nextG g.2.1 := by
  rw [nextG]
  split
  · omega
  · rename_i o ho
    have := (mayG_obj hm (List.mem_of_getLast? ho)).id0
    omega
theorem newG_may {g : Gr} {t : Int} (h : newE g t = 0) : mayG (newG g t) = true := by
  obtain ⟨hm, ht, h8, hx⟩ := newE_0 h
  obtain ⟨m1, m2, m3, m4, m5⟩ := mayG_parts hm
  have hab := nextG_above hm
  have hlo := nextG_low hm
  have hs := mayG_sorted hm
  obtain ⟨tn, htn⟩ : ∃ tn : Nat, t = (tn : Int) := ⟨t.toNat, by omega⟩
  obtain ⟨ty, hty⟩ : ∃ ty, g.1[tn]? = some ty := ⟨_, List.getElem?_eq_getElem (by omega)⟩
  have hff := fldsG_at htn hty
  have hsn : (g.2.1 ++ [((nextG g.2.1, t, (fldsG g.1 t).map fun f => zeroV f.2.1) : Ob)]).Pairwise fun o p => o.1 < p.1 := by
    rw [List.pairwise_append]
    refine ⟨hs, List.pairwise_singleton _ _, fun o ho p hp => ?_⟩
    simp at hp
    subst hp
    exact hab o ho
  rw [newG, if_pos h]
  refine mayG_mk m1 (by rw [List.length_append, List.length_singleton]; omega) m4 (fun r hr => ?_) (fun o ho => ?_) hsn
  · have := m5 r hr
    rw [rootG, Bool.or_eq_true, decide_eq_true_eq, decide_eq_true_eq] at this ⊢
    refine this.imp id fun h1 => ?_
    obtain ⟨o, ho, e⟩ := findG_mem.1 h1
    exact findG_mem.2 ⟨o, List.mem_append_left _ ho, e⟩
  · rcases List.mem_append.1 ho with ho | ho
    · have m := mayG_obj hm ho
      refine ⟨m.id0, m.id1, m.t0, m.t1, m.len, fun k f v hf hv => ?_⟩
      exact haveG_mono (g := g) rfl (m.have' k f v hf hv) fun _ _ hr => find_of hs hsn (fun o ho _ => ⟨o, List.mem_append_left _ ho, rfl, rfl⟩) hr
    · simp at ho
      subst ho
      refine ⟨hlo, hx, ht.1, ht.2, by simp, fun k f v hf hv => ?_⟩
      have hf' : (fldsG g.1 t)[k]? = some f := hf
      have hv' : ((fldsG g.1 t).map fun f => zeroV f.2.1)[k]? = some v := hv
      rw [List.getElem?_map, hf', Option.map_some] at hv'
      injection hv' with hv'
      subst hv'
      rw [hff] at hf'
      obtain ⟨-, m7⟩ := (mayS_iff g.1).1 m1
      obtain ⟨-, -, -, m8⟩ := (mayT_iff g.1 tn ty).1 (m7 tn ty hty)
      obtain ⟨-, -, m9⟩ := (mayF_iff g.1 ty.2 k f).1 (m8 k f hf')
      rw [leadS] at m9
      rw [haveG]
      split at m9
      · rename_i h5
        rw [h5, show fitsV 5 (zeroV 5) = true by decide, show (zeroV 5).2.2 = -1 by decide]
        simp
      · rename_i h5
        simp only [Bool.and_eq_true, decide_eq_true_eq] at m9
        rw [vl_fits_zero, decide_eq_true (by omega)]
        simp [h5]
theorem setN_sorted {os : List Ob} {I : Nat} {o p : Ob} (hs : os.Pairwise fun o p => o.1 < p.1) (ho : os[I]? = some o) (he : p.1 = o.1) : (os.set I p).Pairwise fun o p => o.1 < p.1 := by
  have e : (os.set I p).map (·.1) = os.map (·.1) := by
    rw [List.map_set, he]
    refine List.ext_getElem? fun i => ?_
    by_cases hi : i = I
    · subst hi
      have hl := (List.getElem?_eq_some_iff.1 ho).1
      rw [List.getElem?_set_self (by simpa using hl), List.getElem?_map, ho]; rfl
    · rw [List.getElem?_set_ne (fun e => hi e.symm)]
  have h1 : (os.map (·.1)).Pairwise (· < ·) := List.pairwise_map.2 hs
  rw [← e] at h1
  exact List.pairwise_map.1 h1
theorem setN_may {g : Gr} {id k : Int} {v : Vl} (h : setE g id k v = 0) : mayG (setN g id k v) = true := by
  obtain ⟨hm, hf, hk0, hkl, hv⟩ := setE_0 h
  obtain ⟨m1, m2, m3, m4, m5⟩ := mayG_parts hm
  obtain ⟨I, o, hI, hgi, -, -⟩ := findG_at hf
  have hoe := objG_at hI hgi
  rw [hoe] at hkl hv
  have hs := mayG_sorted hm
  have hom := List.mem_of_getElem? hgi
  have hIl := (List.getElem?_eq_some_iff.1 hgi).1
  rw [setN, if_pos h, hI, hoe, Int.toNat_natCast]
  have hsn := setN_sorted (p := (o.1, o.2.1, o.2.2.set k.toNat v)) hs hgi rfl
  have hfind : ∀ q ∈ g.2.1, ∃ p ∈ g.2.1.set I (o.1, o.2.1, o.2.2.set k.toNat v), p.1 = q.1 ∧ p.2.1 = q.2.1 := by
    intro q hq
    obtain ⟨j, hj⟩ := List.getElem?_of_mem hq
    by_cases hji : j = I
    · subst hji
      rw [hgi] at hj
      injection hj with hj
      subst hj
      exact ⟨_, List.mem_set hIl _, rfl, rfl⟩
    · exact ⟨q, List.mem_of_getElem? (i := j) (by rw [List.getElem?_set_ne (fun e => hji e.symm)]; exact hj), rfl, rfl⟩
  have hmono : ∀ f w, haveG g f w = true → haveG (g.1, g.2.1.set I (o.1, o.2.1, o.2.2.set k.toNat v), g.2.2) f w = true := fun f w hw =>
    haveG_mono (g := g) rfl hw fun _ _ hr => find_of hs hsn (fun q hq _ => by obtain ⟨p, h1, h2, h3⟩ := hfind q hq; exact ⟨p, h1, h2, h3⟩) hr
  refine mayG_mk m1 (by rw [List.length_set]; exact m2) m4 (fun r hr => ?_) (fun p hp => ?_) hsn
  · have := m5 r hr
    rw [rootG, Bool.or_eq_true, decide_eq_true_eq, decide_eq_true_eq] at this ⊢
    refine this.imp (fun h => h) fun h1 => ?_
    obtain ⟨q, hq, e⟩ := findG_mem.1 h1
    obtain ⟨p, h1, h2, -⟩ := hfind q hq
    exact findG_mem.2 ⟨p, h1, by rw [h2, e]⟩
  · rcases List.mem_or_eq_of_mem_set hp with hp | rfl
    · have m := mayG_obj hm hp
      exact ⟨m.id0, m.id1, m.t0, m.t1, m.len, fun k f v hf hv => hmono f v (m.have' k f v hf hv)⟩
    · have m := mayG_obj hm hom
      refine ⟨m.id0, m.id1, m.t0, m.t1, by simpa using m.len, fun j f w hf hw => hmono f w ?_⟩
      have hf' : (fldsG g.1 o.2.1)[j]? = some f := hf
      have hw' : (o.2.2.set k.toNat v)[j]? = some w := hw
      by_cases hjk : j = k.toNat
      · subst hjk
        rw [List.getElem?_set_self (by omega)] at hw'
        injection hw' with hw'
        subst hw'
        rw [List.getD_eq_getElem?_getD, hf', Option.getD_some] at hv
        exact hv
      · rw [List.getElem?_set_ne (fun e => hjk e.symm)] at hw'
        exact m.have' j f w hf' hw'
/-- Where a Ref of what is come to leads is come to, and is there. -/
theorem come_ref {g : Gr} (hm : mayG g = true) {o : Ob} (ho : o ∈ g.2.1) (hc : ComeG g o.1) {k : Nat} {f : Fld} {v : Vl} (hf : (fldsG g.1 o.2.1)[k]? = some f) (hv : o.2.2[k]? = some v) (h5 : f.2.1 = 5) (hr : v.2.2 ≠ -1) : ComeG g v.2.2 ∧ ∃ p ∈ g.2.1, p.1 = v.2.2 := by
  obtain ⟨id, h1, h2, h3⟩ := hc
  exact ⟨⟨id, h1, h2, .step h3 ho (refsG_mem.2 ⟨k, f, v, hf, hv, h5, hr, rfl⟩)⟩, findG_mem.1 (haveG_ref ((mayG_obj hm ho).have' k f v hf hv) h5 hr).1⟩
theorem come_is {g : Gr} (hm : mayG g = true) {x : Int} (hc : ComeG g x) : ∃ p ∈ g.2.1, p.1 = x := by
  obtain ⟨id, h1, h2, h3⟩ := hc
  cases h3 with
  | here =>
    have := (mayG_parts hm).2.2.2.2 _ h1
    rw [rootG, Bool.or_eq_true, decide_eq_true_eq, decide_eq_true_eq] at this
    exact findG_mem.1 (this.resolve_left h2)
  | step hf ho hr =>
    obtain ⟨k, f, v, a1, a2, a3, a4, rfl⟩ := refsG_mem.1 hr
    exact findG_mem.1 (haveG_ref ((mayG_obj hm ho).have' k f v a1 a2) a3 a4).1
theorem sweep_mem {g : Gr} (hm : mayG g = true) {o : Ob} : o ∈ (sweepG g).2.1 ↔ o ∈ g.2.1 ∧ ComeG g o.1 := by
  rw [sweepG_yes hm]
  simp [List.mem_filter]
theorem sweepG_may {g : Gr} (hm : mayG g = true) : mayG (sweepG g) = true := by
  obtain ⟨m1, m2, m3, m4, m5⟩ := mayG_parts hm
  have hs := mayG_sorted hm
  have e1 : (sweepG g).1 = g.1 := by rw [sweepG_yes hm]
  have e3 : (sweepG g).2.2 = g.2.2 := by rw [sweepG_yes hm]
  have hsub : ((sweepG g).2.1).Sublist g.2.1 := by rw [sweepG_yes hm]; exact List.filter_sublist
  have hsn := hs.sublist hsub
  refine mayG_mk (by rw [e1]; exact m1) (Nat.le_trans hsub.length_le m2) (by rw [e3]; exact m4) (fun r hr => ?_) (fun o ho => ?_) hsn
  · rw [e3] at hr
    have := m5 r hr
    rw [rootG, Bool.or_eq_true, decide_eq_true_eq, decide_eq_true_eq] at this ⊢
    by_cases h1 : r = -1
    · exact .inl h1
    · obtain ⟨o, ho, e⟩ := findG_mem.1 (this.resolve_left h1)
      exact .inr (findG_mem.2 ⟨o, (sweep_mem hm).2 ⟨ho, ⟨r, hr, h1, by rw [e]; exact .here⟩⟩, e⟩)
  · obtain ⟨ho1, ho2⟩ := (sweep_mem hm).1 ho
    have m := mayG_obj hm ho1
    refine ⟨m.id0, m.id1, m.t0, by rw [e1]; exact m.t1, by rw [e1]; exact m.len, fun k f v hf hv => ?_⟩
    rw [e1] at hf
    refine haveG_mono (g := g) e1 (m.have' k f v hf hv) fun h5 hr hfi => ?_
    obtain ⟨hc, p, hp, e⟩ := come_ref hm ho1 ho2 hf hv h5 hr
    refine find_of hs hsn (fun q hq hqr => ⟨q, (sweep_mem hm).2 ⟨hq, by rw [hqr]; exact hc⟩, rfl, rfl⟩) hfi
theorem sweep_come {g : Gr} (hm : mayG g = true) (x : Int) : ComeG (sweepG g) x ↔ ComeG g x := by
  have e1 : (sweepG g).1 = g.1 := by rw [sweepG_yes hm]
  have e3 : (sweepG g).2.2 = g.2.2 := by rw [sweepG_yes hm]
  constructor
  · rintro ⟨id, h1, h2, h3⟩
    rw [e3] at h1
    refine ⟨id, h1, h2, ?_⟩
    induction h3 with
    | here => exact .here
    | step _ ho hr ih => rw [e1] at hr; exact .step ih ((sweep_mem hm).1 ho).1 hr
  · rintro ⟨id, h1, h2, h3⟩
    refine ⟨id, by rw [e3]; exact h1, h2, ?_⟩
    induction h3 with
    | here => exact .here
    | step hf ho hr ih => exact .step ih ((sweep_mem hm).2 ⟨ho, id, h1, h2, hf⟩) (by rw [e1]; exact hr)
theorem sweep_twice {g : Gr} (hm : mayG g = true) : sweepG (sweepG g) = sweepG g := by
  rw [sweepG_yes (sweepG_may hm)]
  have e : (sweepG g).2.1.filter (fun o => @decide (ComeG (sweepG g) o.1) (Classical.propDecidable _)) = (sweepG g).2.1 := List.filter_eq_self.2 fun o ho => by
    simp only [decide_eq_true_eq]
    exact (sweep_come hm _).2 ((sweep_mem hm).1 ho).2
  rw [e]
theorem reach_twice {g : Gr} (hm : mayG g = true) : reachG (sweepG g) = reachG g := by rw [reachG, sweep_twice hm, reachG]
end Go.Proofs.Ytembafogbfcajaa

/- The contract of the document's own Fits (written by a program: kind by kind, and by which of the questions says no first). No condition. -/
namespace Go.Proofs.Ytembafogbfcajaa
open Go.RowKit

set_option maxRecDepth 100000 in
set_option maxHeartbeats 2000000 in
theorem rvlfits_any (a b s : ByteArray) (k n r : Int) (w : World) :
    Calls Try.prog 69 #[.agg #[.string a, .int .i64 k, .string b], .agg #[.int .i64 n, .string s, .int .i64 r]] w fun e w' => e = .returned (.bool (fitsV k (n, byt s, r))) ∧ Below w.heap.size w w' := by
  have hB : ∀ u v, Below w.heap.size w ((w.alloc (.cells u 51)).alloc (.cells v 30)) := fun u v => ((Below.refl _ w).alloc (Nat.le_refl _) _).alloc (by simp) _
  have HB := Lib.hid hB
  clear hB
  have hse : s.toList.isEmpty = decide (byt s = []) := by
    rw [str_empty]; cases byt s <;> rfl
  have hsz : (byt s).length = s.size := byt_length s
  rcases vl_kinds k with rfl | rfl | rfl | rfl | rfl | rfl | hk
  · by_cases hp : byt s = []
    · by_cases hq : r = 0
      · by_cases ha0 : -128 ≤ n
        · by_cases hb0 : n ≤ 127
          · have dp : s.toList.isEmpty = true := by rw [hse]; exact decide_eq_true hp
            have dq : (r == 0) = true := by rw [hq]; rfl
            have da0 : decide (-128 ≤ n) = true := decide_eq_true ha0
            have db0 : decide (n ≤ 127) = true := decide_eq_true hb0
            have Hf : Hid (fitsV 0 (n, byt s, r) = true) := Lib.hid (by rw [vl_fits_0]; exact decide_eq_true ⟨ha0, hb0, hp, hq⟩)
            clear hse hsz hp hq ha0 hb0
            go_enter Try.func69, Try.ntmps69
            go_wp2
            go_ret
            exact ⟨by rw [Hf.out]; rfl, HB.out _ _⟩
          · have dp : s.toList.isEmpty = true := by rw [hse]; exact decide_eq_true hp
            have dq : (r == 0) = true := by rw [hq]; rfl
            have da0 : decide (-128 ≤ n) = true := decide_eq_true ha0
            have db0 : decide (n ≤ 127) = false := decide_eq_false hb0
            have Hf : Hid (fitsV 0 (n, byt s, r) = false) := Lib.hid (by rw [vl_fits_0]; exact decide_eq_false fun h => hb0 h.2.1)
            clear hse hsz hp hq ha0 hb0
            go_enter Try.func69, Try.ntmps69
            go_wp2
            go_ret
            exact ⟨by rw [Hf.out]; rfl, HB.out _ _⟩
        · have dp : s.toList.isEmpty = true := by rw [hse]; exact decide_eq_true hp
          have dq : (r == 0) = true := by rw [hq]; rfl
          have da0 : decide (-128 ≤ n) = false := decide_eq_false ha0
          have Hf : Hid (fitsV 0 (n, byt s, r) = false) := Lib.hid (by rw [vl_fits_0]; exact decide_eq_false fun h => ha0 h.1)
          clear hse hsz hp hq ha0
          go_enter Try.func69, Try.ntmps69
          go_wp2
          go_ret
          exact ⟨by rw [Hf.out]; rfl, HB.out _ _⟩
      · have dp : s.toList.isEmpty = true := by rw [hse]; exact decide_eq_true hp
        have dq : (r == 0) = false := beq_false_of_ne hq
        have Hf : Hid (fitsV 0 (n, byt s, r) = false) := Lib.hid (by rw [vl_fits_0]; exact decide_eq_false fun h => hq h.2.2.2)
        clear hse hsz hp hq
        go_enter Try.func69, Try.ntmps69
        go_wp2
        go_ret
        exact ⟨by rw [Hf.out]; rfl, HB.out _ _⟩
    · have dp : s.toList.isEmpty = false := by rw [hse]; exact decide_eq_false hp
      have Hf : Hid (fitsV 0 (n, byt s, r) = false) := Lib.hid (by rw [vl_fits_0]; exact decide_eq_false fun h => hp h.2.2.1)
      clear hse hsz hp
      go_enter Try.func69, Try.ntmps69
      go_wp2
      go_ret
      exact ⟨by rw [Hf.out]; rfl, HB.out _ _⟩
  · by_cases hp : byt s = []
    · by_cases hq : r = 0
      · by_cases ha1 : -32768 ≤ n
        · by_cases hb1 : n ≤ 32767
          · have dp : s.toList.isEmpty = true := by rw [hse]; exact decide_eq_true hp
            have dq : (r == 0) = true := by rw [hq]; rfl
            have da1 : decide (-32768 ≤ n) = true := decide_eq_true ha1
            have db1 : decide (n ≤ 32767) = true := decide_eq_true hb1
            have Hf : Hid (fitsV 1 (n, byt s, r) = true) := Lib.hid (by rw [vl_fits_1]; exact decide_eq_true ⟨ha1, hb1, hp, hq⟩)
            clear hse hsz hp hq ha1 hb1
            go_enter Try.func69, Try.ntmps69
            go_wp2
            go_ret
            exact ⟨by rw [Hf.out]; rfl, HB.out _ _⟩
          · have dp : s.toList.isEmpty = true := by rw [hse]; exact decide_eq_true hp
            have dq : (r == 0) = true := by rw [hq]; rfl
            have da1 : decide (-32768 ≤ n) = true := decide_eq_true ha1
            have db1 : decide (n ≤ 32767) = false := decide_eq_false hb1
            have Hf : Hid (fitsV 1 (n, byt s, r) = false) := Lib.hid (by rw [vl_fits_1]; exact decide_eq_false fun h => hb1 h.2.1)
            clear hse hsz hp hq ha1 hb1
            go_enter Try.func69, Try.ntmps69
            go_wp2
            go_ret
            exact ⟨by rw [Hf.out]; rfl, HB.out _ _⟩
        · have dp : s.toList.isEmpty = true := by rw [hse]; exact decide_eq_true hp
          have dq : (r == 0) = true := by rw [hq]; rfl
          have da1 : decide (-32768 ≤ n) = false := decide_eq_false ha1
          have Hf : Hid (fitsV 1 (n, byt s, r) = false) := Lib.hid (by rw [vl_fits_1]; exact decide_eq_false fun h => ha1 h.1)
          clear hse hsz hp hq ha1
          go_enter Try.func69, Try.ntmps69
          go_wp2
          go_ret
          exact ⟨by rw [Hf.out]; rfl, HB.out _ _⟩
      · have dp : s.toList.isEmpty = true := by rw [hse]; exact decide_eq_true hp
        have dq : (r == 0) = false := beq_false_of_ne hq
        have Hf : Hid (fitsV 1 (n, byt s, r) = false) := Lib.hid (by rw [vl_fits_1]; exact decide_eq_false fun h => hq h.2.2.2)
        clear hse hsz hp hq
        go_enter Try.func69, Try.ntmps69
        go_wp2
        go_ret
        exact ⟨by rw [Hf.out]; rfl, HB.out _ _⟩
    · have dp : s.toList.isEmpty = false := by rw [hse]; exact decide_eq_false hp
      have Hf : Hid (fitsV 1 (n, byt s, r) = false) := Lib.hid (by rw [vl_fits_1]; exact decide_eq_false fun h => hp h.2.2.1)
      clear hse hsz hp
      go_enter Try.func69, Try.ntmps69
      go_wp2
      go_ret
      exact ⟨by rw [Hf.out]; rfl, HB.out _ _⟩
  · by_cases hp : byt s = []
    · by_cases hq : r = 0
      · by_cases ha2 : -2147483648 ≤ n
        · by_cases hb2 : n ≤ 2147483647
          · have dp : s.toList.isEmpty = true := by rw [hse]; exact decide_eq_true hp
            have dq : (r == 0) = true := by rw [hq]; rfl
            have da2 : decide (-2147483648 ≤ n) = true := decide_eq_true ha2
            have db2 : decide (n ≤ 2147483647) = true := decide_eq_true hb2
            have Hf : Hid (fitsV 2 (n, byt s, r) = true) := Lib.hid (by rw [vl_fits_2]; exact decide_eq_true ⟨ha2, hb2, hp, hq⟩)
            clear hse hsz hp hq ha2 hb2
            go_enter Try.func69, Try.ntmps69
            go_wp2
            go_ret
            exact ⟨by rw [Hf.out]; rfl, HB.out _ _⟩
          · have dp : s.toList.isEmpty = true := by rw [hse]; exact decide_eq_true hp
            have dq : (r == 0) = true := by rw [hq]; rfl
            have da2 : decide (-2147483648 ≤ n) = true := decide_eq_true ha2
            have db2 : decide (n ≤ 2147483647) = false := decide_eq_false hb2
            have Hf : Hid (fitsV 2 (n, byt s, r) = false) := Lib.hid (by rw [vl_fits_2]; exact decide_eq_false fun h => hb2 h.2.1)
            clear hse hsz hp hq ha2 hb2
            go_enter Try.func69, Try.ntmps69
            go_wp2
            go_ret
            exact ⟨by rw [Hf.out]; rfl, HB.out _ _⟩
        · have dp : s.toList.isEmpty = true := by rw [hse]; exact decide_eq_true hp
          have dq : (r == 0) = true := by rw [hq]; rfl
          have da2 : decide (-2147483648 ≤ n) = false := decide_eq_false ha2
          have Hf : Hid (fitsV 2 (n, byt s, r) = false) := Lib.hid (by rw [vl_fits_2]; exact decide_eq_false fun h => ha2 h.1)
          clear hse hsz hp hq ha2
          go_enter Try.func69, Try.ntmps69
          go_wp2
          go_ret
          exact ⟨by rw [Hf.out]; rfl, HB.out _ _⟩
      · have dp : s.toList.isEmpty = true := by rw [hse]; exact decide_eq_true hp
        have dq : (r == 0) = false := beq_false_of_ne hq
        have Hf : Hid (fitsV 2 (n, byt s, r) = false) := Lib.hid (by rw [vl_fits_2]; exact decide_eq_false fun h => hq h.2.2.2)
        clear hse hsz hp hq
        go_enter Try.func69, Try.ntmps69
        go_wp2
        go_ret
        exact ⟨by rw [Hf.out]; rfl, HB.out _ _⟩
    · have dp : s.toList.isEmpty = false := by rw [hse]; exact decide_eq_false hp
      have Hf : Hid (fitsV 2 (n, byt s, r) = false) := Lib.hid (by rw [vl_fits_2]; exact decide_eq_false fun h => hp h.2.2.1)
      clear hse hsz hp
      go_enter Try.func69, Try.ntmps69
      go_wp2
      go_ret
      exact ⟨by rw [Hf.out]; rfl, HB.out _ _⟩
  · by_cases hp : byt s = []
    · by_cases hq : r = 0
      · have dp : s.toList.isEmpty = true := by rw [hse]; exact decide_eq_true hp
        have dq : (r == 0) = true := by rw [hq]; rfl
        have Hf : Hid (fitsV 3 (n, byt s, r) = true) := Lib.hid (by rw [vl_fits_3]; exact decide_eq_true ⟨hp, hq⟩)
        clear hse hsz hp hq
        go_enter Try.func69, Try.ntmps69
        go_wp2
        go_ret
        exact ⟨by rw [Hf.out]; rfl, HB.out _ _⟩
      · have dp : s.toList.isEmpty = true := by rw [hse]; exact decide_eq_true hp
        have dq : (r == 0) = false := beq_false_of_ne hq
        have Hf : Hid (fitsV 3 (n, byt s, r) = false) := Lib.hid (by rw [vl_fits_3]; exact decide_eq_false fun h => hq h.2)
        clear hse hsz hp hq
        go_enter Try.func69, Try.ntmps69
        go_wp2
        go_ret
        exact ⟨by rw [Hf.out]; rfl, HB.out _ _⟩
    · have dp : s.toList.isEmpty = false := by rw [hse]; exact decide_eq_false hp
      have Hf : Hid (fitsV 3 (n, byt s, r) = false) := Lib.hid (by rw [vl_fits_3]; exact decide_eq_false fun h => hp h.1)
      clear hse hsz hp
      go_enter Try.func69, Try.ntmps69
      go_wp2
      go_ret
      exact ⟨by rw [Hf.out]; rfl, HB.out _ _⟩
  · by_cases hp : byt s = []
    · by_cases hq : r = 0
      · by_cases hl : s.size ≤ 12
        · by_cases hn0 : n = 0
          · have dp : s.toList.isEmpty = true := by rw [hse]; exact decide_eq_true hp
            have dq : (r == 0) = true := by rw [hq]; rfl
            have dl : decide ((s.size : Int) ≤ 12) = true := decide_eq_true (by omega)
            have dn0 : (n == 0) = true := by rw [hn0]; rfl
            have Hf : Hid (fitsV 4 (n, byt s, r) = true) := Lib.hid (by rw [vl_fits_4]; exact decide_eq_true ⟨by simp only; omega, hn0, hq⟩)
            clear hse hsz hp hq hl hn0
            go_enter Try.func69, Try.ntmps69
            go_wp2
            go_ret
            exact ⟨by rw [Hf.out]; rfl, HB.out _ _⟩
          · have dp : s.toList.isEmpty = true := by rw [hse]; exact decide_eq_true hp
            have dq : (r == 0) = true := by rw [hq]; rfl
            have dl : decide ((s.size : Int) ≤ 12) = true := decide_eq_true (by omega)
            have dn0 : (n == 0) = false := beq_false_of_ne hn0
            have Hf : Hid (fitsV 4 (n, byt s, r) = false) := Lib.hid (by rw [vl_fits_4]; exact decide_eq_false fun h => hn0 h.2.1)
            clear hse hsz hp hq hl hn0
            go_enter Try.func69, Try.ntmps69
            go_wp2
            go_ret
            exact ⟨by rw [Hf.out]; rfl, HB.out _ _⟩
        · have dp : s.toList.isEmpty = true := by rw [hse]; exact decide_eq_true hp
          have dq : (r == 0) = true := by rw [hq]; rfl
          have dl : decide ((s.size : Int) ≤ 12) = false := decide_eq_false (by omega)
          have Hf : Hid (fitsV 4 (n, byt s, r) = false) := Lib.hid (by rw [vl_fits_4]; exact decide_eq_false fun h => hl (by have := h.1; simp only at this; omega))
          clear hse hsz hp hq hl
          go_enter Try.func69, Try.ntmps69
          go_wp2
          go_ret
          exact ⟨by rw [Hf.out]; rfl, HB.out _ _⟩
      · by_cases hl : s.size ≤ 12
        · by_cases hn0 : n = 0
          · have dp : s.toList.isEmpty = true := by rw [hse]; exact decide_eq_true hp
            have dq : (r == 0) = false := beq_false_of_ne hq
            have dl : decide ((s.size : Int) ≤ 12) = true := decide_eq_true (by omega)
            have dn0 : (n == 0) = true := by rw [hn0]; rfl
            have Hf : Hid (fitsV 4 (n, byt s, r) = false) := Lib.hid (by rw [vl_fits_4]; exact decide_eq_false fun h => hq h.2.2)
            clear hse hsz hp hq hl hn0
            go_enter Try.func69, Try.ntmps69
            go_wp2
            go_ret
            exact ⟨by rw [Hf.out]; rfl, HB.out _ _⟩
          · have dp : s.toList.isEmpty = true := by rw [hse]; exact decide_eq_true hp
            have dq : (r == 0) = false := beq_false_of_ne hq
            have dl : decide ((s.size : Int) ≤ 12) = true := decide_eq_true (by omega)
            have dn0 : (n == 0) = false := beq_false_of_ne hn0
            have Hf : Hid (fitsV 4 (n, byt s, r) = false) := Lib.hid (by rw [vl_fits_4]; exact decide_eq_false fun h => hn0 h.2.1)
            clear hse hsz hp hq hl hn0
            go_enter Try.func69, Try.ntmps69
            go_wp2
            go_ret
            exact ⟨by rw [Hf.out]; rfl, HB.out _ _⟩
        · have dp : s.toList.isEmpty = true := by rw [hse]; exact decide_eq_true hp
          have dq : (r == 0) = false := beq_false_of_ne hq
          have dl : decide ((s.size : Int) ≤ 12) = false := decide_eq_false (by omega)
          have Hf : Hid (fitsV 4 (n, byt s, r) = false) := Lib.hid (by rw [vl_fits_4]; exact decide_eq_false fun h => hl (by have := h.1; simp only at this; omega))
          clear hse hsz hp hq hl
          go_enter Try.func69, Try.ntmps69
          go_wp2
          go_ret
          exact ⟨by rw [Hf.out]; rfl, HB.out _ _⟩
    · by_cases hl : s.size ≤ 12
      · by_cases hn0 : n = 0
        · by_cases hq : r = 0
          · have dp : s.toList.isEmpty = false := by rw [hse]; exact decide_eq_false hp
            have dl : decide ((s.size : Int) ≤ 12) = true := decide_eq_true (by omega)
            have dn0 : (n == 0) = true := by rw [hn0]; rfl
            have dq : (r == 0) = true := by rw [hq]; rfl
            have Hf : Hid (fitsV 4 (n, byt s, r) = true) := Lib.hid (by rw [vl_fits_4]; exact decide_eq_true ⟨by simp only; omega, hn0, hq⟩)
            clear hse hsz hp hl hn0 hq
            go_enter Try.func69, Try.ntmps69
            go_wp2
            go_ret
            exact ⟨by rw [Hf.out]; rfl, HB.out _ _⟩
          · have dp : s.toList.isEmpty = false := by rw [hse]; exact decide_eq_false hp
            have dl : decide ((s.size : Int) ≤ 12) = true := decide_eq_true (by omega)
            have dn0 : (n == 0) = true := by rw [hn0]; rfl
            have dq : (r == 0) = false := beq_false_of_ne hq
            have Hf : Hid (fitsV 4 (n, byt s, r) = false) := Lib.hid (by rw [vl_fits_4]; exact decide_eq_false fun h => hq h.2.2)
            clear hse hsz hp hl hn0 hq
            go_enter Try.func69, Try.ntmps69
            go_wp2
            go_ret
            exact ⟨by rw [Hf.out]; rfl, HB.out _ _⟩
        · have dp : s.toList.isEmpty = false := by rw [hse]; exact decide_eq_false hp
          have dl : decide ((s.size : Int) ≤ 12) = true := decide_eq_true (by omega)
          have dn0 : (n == 0) = false := beq_false_of_ne hn0
          have Hf : Hid (fitsV 4 (n, byt s, r) = false) := Lib.hid (by rw [vl_fits_4]; exact decide_eq_false fun h => hn0 h.2.1)
          clear hse hsz hp hl hn0
          go_enter Try.func69, Try.ntmps69
          go_wp2
          go_ret
          exact ⟨by rw [Hf.out]; rfl, HB.out _ _⟩
      · have dp : s.toList.isEmpty = false := by rw [hse]; exact decide_eq_false hp
        have dl : decide ((s.size : Int) ≤ 12) = false := decide_eq_false (by omega)
        have Hf : Hid (fitsV 4 (n, byt s, r) = false) := Lib.hid (by rw [vl_fits_4]; exact decide_eq_false fun h => hl (by have := h.1; simp only at this; omega))
        clear hse hsz hp hl
        go_enter Try.func69, Try.ntmps69
        go_wp2
        go_ret
        exact ⟨by rw [Hf.out]; rfl, HB.out _ _⟩
  · by_cases hp : byt s = []
    · by_cases hq : r = 0
      · by_cases hr0 : -1 ≤ r
        · by_cases hr1 : r ≤ 1073741824
          · by_cases hn0 : n = 0
            · have dp : s.toList.isEmpty = true := by rw [hse]; exact decide_eq_true hp
              have dq : (r == 0) = true := by rw [hq]; rfl
              have dr0 : decide (-1 ≤ r) = true := decide_eq_true hr0
              have dr1 : decide (r ≤ 1073741824) = true := decide_eq_true hr1
              have dn0 : (n == 0) = true := by rw [hn0]; rfl
              have Hf : Hid (fitsV 5 (n, byt s, r) = true) := Lib.hid (by rw [vl_fits_5]; exact decide_eq_true ⟨hr0, hr1, hn0, hp⟩)
              clear hse hsz hp hq hr0 hr1 hn0
              go_enter Try.func69, Try.ntmps69
              go_wp2
              go_ret
              exact ⟨by rw [Hf.out]; rfl, HB.out _ _⟩
            · have dp : s.toList.isEmpty = true := by rw [hse]; exact decide_eq_true hp
              have dq : (r == 0) = true := by rw [hq]; rfl
              have dr0 : decide (-1 ≤ r) = true := decide_eq_true hr0
              have dr1 : decide (r ≤ 1073741824) = true := decide_eq_true hr1
              have dn0 : (n == 0) = false := beq_false_of_ne hn0
              have Hf : Hid (fitsV 5 (n, byt s, r) = false) := Lib.hid (by rw [vl_fits_5]; exact decide_eq_false fun h => hn0 h.2.2.1)
              clear hse hsz hp hq hr0 hr1 hn0
              go_enter Try.func69, Try.ntmps69
              go_wp2
              go_ret
              exact ⟨by rw [Hf.out]; rfl, HB.out _ _⟩
          · have dp : s.toList.isEmpty = true := by rw [hse]; exact decide_eq_true hp
            have dq : (r == 0) = true := by rw [hq]; rfl
            have dr0 : decide (-1 ≤ r) = true := decide_eq_true hr0
            have dr1 : decide (r ≤ 1073741824) = false := decide_eq_false hr1
            have Hf : Hid (fitsV 5 (n, byt s, r) = false) := Lib.hid (by rw [vl_fits_5]; exact decide_eq_false fun h => hr1 h.2.1)
            clear hse hsz hp hq hr0 hr1
            go_enter Try.func69, Try.ntmps69
            go_wp2
            go_ret
            exact ⟨by rw [Hf.out]; rfl, HB.out _ _⟩
        · have dp : s.toList.isEmpty = true := by rw [hse]; exact decide_eq_true hp
          have dq : (r == 0) = true := by rw [hq]; rfl
          have dr0 : decide (-1 ≤ r) = false := decide_eq_false hr0
          have Hf : Hid (fitsV 5 (n, byt s, r) = false) := Lib.hid (by rw [vl_fits_5]; exact decide_eq_false fun h => hr0 h.1)
          clear hse hsz hp hq hr0
          go_enter Try.func69, Try.ntmps69
          go_wp2
          go_ret
          exact ⟨by rw [Hf.out]; rfl, HB.out _ _⟩
      · by_cases hr0 : -1 ≤ r
        · by_cases hr1 : r ≤ 1073741824
          · by_cases hn0 : n = 0
            · have dp : s.toList.isEmpty = true := by rw [hse]; exact decide_eq_true hp
              have dq : (r == 0) = false := beq_false_of_ne hq
              have dr0 : decide (-1 ≤ r) = true := decide_eq_true hr0
              have dr1 : decide (r ≤ 1073741824) = true := decide_eq_true hr1
              have dn0 : (n == 0) = true := by rw [hn0]; rfl
              have Hf : Hid (fitsV 5 (n, byt s, r) = true) := Lib.hid (by rw [vl_fits_5]; exact decide_eq_true ⟨hr0, hr1, hn0, hp⟩)
              clear hse hsz hp hq hr0 hr1 hn0
              go_enter Try.func69, Try.ntmps69
              go_wp2
              go_ret
              exact ⟨by rw [Hf.out]; rfl, HB.out _ _⟩
            · have dp : s.toList.isEmpty = true := by rw [hse]; exact decide_eq_true hp
              have dq : (r == 0) = false := beq_false_of_ne hq
              have dr0 : decide (-1 ≤ r) = true := decide_eq_true hr0
              have dr1 : decide (r ≤ 1073741824) = true := decide_eq_true hr1
              have dn0 : (n == 0) = false := beq_false_of_ne hn0
              have Hf : Hid (fitsV 5 (n, byt s, r) = false) := Lib.hid (by rw [vl_fits_5]; exact decide_eq_false fun h => hn0 h.2.2.1)
              clear hse hsz hp hq hr0 hr1 hn0
              go_enter Try.func69, Try.ntmps69
              go_wp2
              go_ret
              exact ⟨by rw [Hf.out]; rfl, HB.out _ _⟩
          · have dp : s.toList.isEmpty = true := by rw [hse]; exact decide_eq_true hp
            have dq : (r == 0) = false := beq_false_of_ne hq
            have dr0 : decide (-1 ≤ r) = true := decide_eq_true hr0
            have dr1 : decide (r ≤ 1073741824) = false := decide_eq_false hr1
            have Hf : Hid (fitsV 5 (n, byt s, r) = false) := Lib.hid (by rw [vl_fits_5]; exact decide_eq_false fun h => hr1 h.2.1)
            clear hse hsz hp hq hr0 hr1
            go_enter Try.func69, Try.ntmps69
            go_wp2
            go_ret
            exact ⟨by rw [Hf.out]; rfl, HB.out _ _⟩
        · have dp : s.toList.isEmpty = true := by rw [hse]; exact decide_eq_true hp
          have dq : (r == 0) = false := beq_false_of_ne hq
          have dr0 : decide (-1 ≤ r) = false := decide_eq_false hr0
          have Hf : Hid (fitsV 5 (n, byt s, r) = false) := Lib.hid (by rw [vl_fits_5]; exact decide_eq_false fun h => hr0 h.1)
          clear hse hsz hp hq hr0
          go_enter Try.func69, Try.ntmps69
          go_wp2
          go_ret
          exact ⟨by rw [Hf.out]; rfl, HB.out _ _⟩
    · by_cases hr0 : -1 ≤ r
      · by_cases hr1 : r ≤ 1073741824
        · by_cases hn0 : n = 0
          · have dp : s.toList.isEmpty = false := by rw [hse]; exact decide_eq_false hp
            have dr0 : decide (-1 ≤ r) = true := decide_eq_true hr0
            have dr1 : decide (r ≤ 1073741824) = true := decide_eq_true hr1
            have dn0 : (n == 0) = true := by rw [hn0]; rfl
            have Hf : Hid (fitsV 5 (n, byt s, r) = false) := Lib.hid (by rw [vl_fits_5]; exact decide_eq_false fun h => hp h.2.2.2)
            clear hse hsz hp hr0 hr1 hn0
            go_enter Try.func69, Try.ntmps69
            go_wp2
            go_ret
            exact ⟨by rw [Hf.out]; rfl, HB.out _ _⟩
          · have dp : s.toList.isEmpty = false := by rw [hse]; exact decide_eq_false hp
            have dr0 : decide (-1 ≤ r) = true := decide_eq_true hr0
            have dr1 : decide (r ≤ 1073741824) = true := decide_eq_true hr1
            have dn0 : (n == 0) = false := beq_false_of_ne hn0
            have Hf : Hid (fitsV 5 (n, byt s, r) = false) := Lib.hid (by rw [vl_fits_5]; exact decide_eq_false fun h => hn0 h.2.2.1)
            clear hse hsz hp hr0 hr1 hn0
            go_enter Try.func69, Try.ntmps69
            go_wp2
            go_ret
            exact ⟨by rw [Hf.out]; rfl, HB.out _ _⟩
        · have dp : s.toList.isEmpty = false := by rw [hse]; exact decide_eq_false hp
          have dr0 : decide (-1 ≤ r) = true := decide_eq_true hr0
          have dr1 : decide (r ≤ 1073741824) = false := decide_eq_false hr1
          have Hf : Hid (fitsV 5 (n, byt s, r) = false) := Lib.hid (by rw [vl_fits_5]; exact decide_eq_false fun h => hr1 h.2.1)
          clear hse hsz hp hr0 hr1
          go_enter Try.func69, Try.ntmps69
          go_wp2
          go_ret
          exact ⟨by rw [Hf.out]; rfl, HB.out _ _⟩
      · have dp : s.toList.isEmpty = false := by rw [hse]; exact decide_eq_false hp
        have dr0 : decide (-1 ≤ r) = false := decide_eq_false hr0
        have Hf : Hid (fitsV 5 (n, byt s, r) = false) := Lib.hid (by rw [vl_fits_5]; exact decide_eq_false fun h => hr0 h.1)
        clear hse hsz hp hr0
        go_enter Try.func69, Try.ntmps69
        go_wp2
        go_ret
        exact ⟨by rw [Hf.out]; rfl, HB.out _ _⟩
  · have e0 : (k == 0) = false := beq_false_of_ne (by omega)
    have e1 : (k == 1) = false := beq_false_of_ne (by omega)
    have e2 : (k == 2) = false := beq_false_of_ne (by omega)
    have e3 : (k == 3) = false := beq_false_of_ne (by omega)
    have e4 : (k == 4) = false := beq_false_of_ne (by omega)
    have e5 : (k == 5) = false := beq_false_of_ne (by omega)
    by_cases hp : byt s = []
    · by_cases hq : r = 0
      · have dp : s.toList.isEmpty = true := by rw [hse]; exact decide_eq_true hp
        have dq : (r == 0) = true := by rw [hq]; rfl
        have Hf : Hid (fitsV k (n, byt s, r) = false) := Lib.hid (vl_fits_x hk)
        clear hse hsz hp hq hk
        go_enter Try.func69, Try.ntmps69
        go_wp2
        go_ret
        exact ⟨by rw [Hf.out]; rfl, HB.out _ _⟩
      · have dp : s.toList.isEmpty = true := by rw [hse]; exact decide_eq_true hp
        have dq : (r == 0) = false := beq_false_of_ne hq
        have Hf : Hid (fitsV k (n, byt s, r) = false) := Lib.hid (vl_fits_x hk)
        clear hse hsz hp hq hk
        go_enter Try.func69, Try.ntmps69
        go_wp2
        go_ret
        exact ⟨by rw [Hf.out]; rfl, HB.out _ _⟩
    · have dp : s.toList.isEmpty = false := by rw [hse]; exact decide_eq_false hp
      have Hf : Hid (fitsV k (n, byt s, r) = false) := Lib.hid (vl_fits_x hk)
      clear hse hsz hp hk
      go_enter Try.func69, Try.ntmps69
      go_wp2
      go_ret
      exact ⟨by rw [Hf.out]; rfl, HB.out _ _⟩
end Go.Proofs.Ytembafogbfcajaa
