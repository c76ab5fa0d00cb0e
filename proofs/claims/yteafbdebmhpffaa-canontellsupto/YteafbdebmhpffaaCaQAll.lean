/- The texts CaPlain, CaRen, CaMore, CaSet, CaQ in one; what each proves, and its conditions, stands before it. -/
import Derived.Test.YteafbdebmhpffaaGrLeapPlainAll
/- The order in which objects are met, and the one graph of all that are alike, on plain data. No condition. -/
namespace Go.Proofs.Yteafbdebmhpffaa

/-- A list with an id behind, if it is one that is not there yet. -/
def metL (l : List Int) (id : Int) : List Int := if id < 0 ∨ id ∈ l then l else l ++ [id]
/-- What an object's Refs lead to, in order (none: below 0). -/
def refsL (s : Sch) (o : Ob) : List Int := ((fldsG s o.2.1).zip o.2.2).filterMap fun p => if p.1.2.1 = 5 then some p.2.2.2 else none
/-- From the place i on, so many objects. -/
def ordN (g : Gr) : Nat → List Int → Nat → List Int
  | 0, l, _ => l
  | n + 1, l, i => match l[i]? with
    | none => l
    | some id => ordN g n ((refsL g.1 (objG g.2.1 id)).foldl metL l) (i + 1)
def ordG (g : Gr) : List Int := if mayG g = true then ordN g 8 (g.2.2.foldl metL []) 0 else []
/-- Where a number is. -/
def atL (l : List Int) (n : Int) : Int := idxP (fun x => decide (x = n)) l
/-- Values with Refs led elsewhere. -/
def leadV (f : Int → Int) : List Fld → List Vl → List Vl
  | a :: fs, v :: vs => (if a.2.1 = 5 then (v.1, v.2.1, f v.2.2) else v) :: leadV f fs vs
  | [], vs => vs
  | _ :: _, [] => []
/-- The object at a place of a Canon. -/
def canO (g : Gr) (l : List Int) (i : Nat) (id : Int) : Ob := ((i : Int), (objG g.2.1 id).2.1, leadV (atL l) (fldsG g.1 (objG g.2.1 id).2.1) (objG g.2.1 id).2.2)
def canonG (g : Gr) : Gr := if mayG g = true then (g.1, (ordG g).mapIdx (canO g (ordG g)), g.2.2.map (atL (ordG g))) else ([], [], [])
/-- Are two alike? -/
def isoG (a b : Gr) : Bool := mayG a && mayG b && decide (canonG a = canonG b)

theorem metL_sub (l : List Int) (id : Int) : ∀ x ∈ l, x ∈ metL l id := by
  intro x hx
  rw [metL]
  split
  · exact hx
  · exact List.mem_append_left _ hx
theorem metL_mem {l : List Int} {id x : Int} : x ∈ metL l id ↔ x ∈ l ∨ (x = id ∧ 0 ≤ id) := by
  rw [metL]
  split
  · rename_i h
    constructor
    · exact .inl
    · rintro (h1 | ⟨rfl, h2⟩)
      · exact h1
      · rcases h with h | h
        · omega
        · exact h
  · rename_i h
    simp only [List.mem_append, List.mem_singleton]
    constructor
    · rintro (h1 | rfl)
      · exact .inl h1
      · exact .inr ⟨rfl, by omega⟩
    · rintro (h1 | ⟨rfl, h2⟩)
      · exact .inl h1
      · exact .inr rfl
theorem metL_nodup {l : List Int} {id : Int} (h : l.Nodup) : (metL l id).Nodup := by
  rw [metL]
  split
  · exact h
  · rename_i hn
    rw [List.nodup_append]
    refine ⟨h, by simp, fun a ha b hb => ?_⟩
    simp at hb
    subst hb
    intro e
    subst e
    exact hn (.inr ha)
theorem mets_mem : ∀ {rs l : List Int} {x : Int}, x ∈ rs.foldl metL l ↔ x ∈ l ∨ (x ∈ rs ∧ 0 ≤ x)
  | [], l, x => by simp
  | r :: rs, l, x => by
    rw [List.foldl_cons, mets_mem, metL_mem]
    simp only [List.mem_cons]
    constructor
    · rintro ((h | ⟨rfl, h⟩) | h)
      · exact .inl h
      · exact .inr ⟨.inl rfl, h⟩
      · exact .inr ⟨.inr h.1, h.2⟩
    · rintro (h | ⟨rfl | h, h2⟩)
      · exact .inl (.inl h)
      · exact .inl (.inr ⟨rfl, h2⟩)
      · exact .inr ⟨h, h2⟩
theorem mets_nodup : ∀ {rs l : List Int}, l.Nodup → (rs.foldl metL l).Nodup
  | [], _, h => h
  | _ :: rs, _, h => mets_nodup (rs := rs) (metL_nodup h)
/-- As many at most. -/
theorem nodup_le : ∀ {l m : List Int}, l.Nodup → (∀ x ∈ l, x ∈ m) → l.length ≤ m.length
  | [], _, _, _ => Nat.zero_le _
  | a :: l, m, hn, hs => by
    obtain ⟨h1, h2⟩ := List.nodup_cons.1 hn
    have ha := hs a (List.mem_cons_self ..)
    have ih := nodup_le (l := l) (m := m.erase a) h2 fun x hx => (List.mem_erase_of_ne (fun (e : x = a) => h1 (by rw [← e]; exact hx))).2 (hs x (List.mem_cons_of_mem _ hx))
    rw [List.length_erase_of_mem ha] at ih
    have := List.length_pos_of_mem ha
    simp only [List.length_cons]
    omega
theorem metL_pre (l : List Int) (id : Int) : ∃ m, metL l id = l ++ m := by
  rw [metL]
  split
  · exact ⟨[], by simp⟩
  · exact ⟨[id], rfl⟩
/-- What was met stays where it was. -/
theorem mets_pre : ∀ (rs l : List Int), ∃ m, rs.foldl metL l = l ++ m
  | [], l => ⟨[], by simp⟩
  | r :: rs, l => by
    obtain ⟨m, hm⟩ := metL_pre l r
    obtain ⟨m2, hm2⟩ := mets_pre rs (metL l r)
    exact ⟨m ++ m2, by rw [List.foldl_cons, hm2, hm, List.append_assoc]⟩
theorem ordN_pre (g : Gr) : ∀ (n : Nat) (l : List Int) (i : Nat), ∃ m, ordN g n l i = l ++ m
  | 0, l, i => ⟨[], by simp [ordN]⟩
  | n + 1, l, i => by
    rw [ordN]
    split
    · exact ⟨[], by simp⟩
    · rename_i id _
      obtain ⟨m, hm⟩ := mets_pre (refsL g.1 (objG g.2.1 id)) l
      obtain ⟨m2, hm2⟩ := ordN_pre g n ((refsL g.1 (objG g.2.1 id)).foldl metL l) (i + 1)
      exact ⟨m ++ m2, by rw [hm2, hm, List.append_assoc]⟩
theorem ordN_nodup (g : Gr) : ∀ {n : Nat} {l : List Int} {i : Nat}, l.Nodup → (ordN g n l i).Nodup
  | 0, l, i, h => h
  | n + 1, l, i, h => by
    rw [ordN]
    split
    · exact h
    · exact ordN_nodup g (mets_nodup h)
theorem refsL_mem {s : Sch} {o : Ob} {r : Int} : r ∈ refsL s o ↔ ∃ (k : Nat) (f : Fld) (v : Vl), (fldsG s o.2.1)[k]? = some f ∧ o.2.2[k]? = some v ∧ f.2.1 = 5 ∧ v.2.2 = r := by
  rw [refsL, List.mem_filterMap]
  constructor
  · rintro ⟨⟨f, v⟩, hp, hr⟩
    obtain ⟨k, hk⟩ := List.getElem?_of_mem hp
    rw [List.getElem?_zip_eq_some] at hk
    simp only at hr
    split at hr
    · rename_i hc
      injection hr with hr
      exact ⟨k, f, v, hk.1, hk.2, hc, hr⟩
    · cases hr
  · rintro ⟨k, f, v, h1, h2, h3, h5⟩
    refine ⟨(f, v), List.mem_of_getElem? (List.getElem?_zip_eq_some.2 ⟨h1, h2⟩), ?_⟩
    simp only [h3, h5, if_true]
/-- All that is met has a property that roots have, and that goes along Refs. -/
theorem ordN_all {g : Gr} {P : Int → Prop} (hstep : ∀ id, P id → ∀ r ∈ refsL g.1 (objG g.2.1 id), 0 ≤ r → P r) : ∀ {n : Nat} {l : List Int} {i : Nat}, (∀ x ∈ l, P x) → ∀ x ∈ ordN g n l i, P x
  | 0, l, i, h => h
  | n + 1, l, i, h => by
    rw [ordN]
    split
    · exact h
    · rename_i id hid
      refine ordN_all hstep fun x hx => ?_
      rcases mets_mem.1 hx with h1 | ⟨h1, h2⟩
      · exact h x h1
      · exact hstep id (h id (List.mem_of_getElem? hid)) x h1 h2
/-- Behind enough objects nothing leads out. -/
theorem ordN_shut {g : Gr} {P : Int → Prop} {B : Nat} (hstep : ∀ id, P id → ∀ r ∈ refsL g.1 (objG g.2.1 id), 0 ≤ r → P r) (hB : ∀ l : List Int, l.Nodup → (∀ x ∈ l, P x) → l.length ≤ B) :
    ∀ {n : Nat} {l : List Int} {i : Nat}, l.Nodup → (∀ x ∈ l, P x) → B ≤ i + n → (∀ (j : Nat) id, j < i → l[j]? = some id → ∀ r ∈ refsL g.1 (objG g.2.1 id), 0 ≤ r → r ∈ l) → ∀ id ∈ ordN g n l i, ∀ r ∈ refsL g.1 (objG g.2.1 id), 0 ≤ r → r ∈ ordN g n l i
  | 0, l, i, hn, hP, hi, hc => by
    intro id hid r hr h0
    obtain ⟨j, hj⟩ := List.getElem?_of_mem hid
    have := (List.getElem?_eq_some_iff.1 hj).1
    have := hB l hn hP
    exact hc j id (by simp only [ordN] at *; omega) hj r hr h0
  | n + 1, l, i, hn, hP, hi, hc => by
    rw [ordN]
    split
    · rename_i h1
      intro id hid r hr h0
      obtain ⟨j, hj⟩ := List.getElem?_of_mem hid
      have h2 := (List.getElem?_eq_some_iff.1 hj).1
      have h3 := List.getElem?_eq_none_iff.1 h1
      exact hc j id (by omega) hj r hr h0
    · rename_i id hid
      have hP' : ∀ x ∈ (refsL g.1 (objG g.2.1 id)).foldl metL l, P x := fun x hx => by
        rcases mets_mem.1 hx with h1 | ⟨h1, h2⟩
        · exact hP x h1
        · exact hstep id (hP id (List.mem_of_getElem? hid)) x h1 h2
      refine ordN_shut hstep hB (mets_nodup hn) hP' (by omega) fun j x hj hx r hr h0 => ?_
      obtain ⟨m, hm⟩ := mets_pre (refsL g.1 (objG g.2.1 id)) l
      have hil := (List.getElem?_eq_some_iff.1 hid).1
      rw [hm, List.getElem?_append_left (by omega)] at hx
      by_cases hji : j < i
      · exact mets_mem.2 (.inl (hc j x hji hx r hr h0))
      · obtain rfl : j = i := by omega
        rw [hid] at hx
        injection hx with hx
        subst hx
        exact mets_mem.2 (.inr ⟨hr, h0⟩)
/-- A graph's ids. -/
def IdG (g : Gr) (x : Int) : Prop := ∃ o ∈ g.2.1, o.1 = x
theorem obj_of {g : Gr} (hm : mayG g = true) {o : Ob} (ho : o ∈ g.2.1) : objG g.2.1 o.1 = o := by
  obtain ⟨i, p, h1, h2, h3, -⟩ := findG_at (findG_mem.2 ⟨o, ho, rfl⟩)
  rw [objG_at h1 h2]
  exact mayG_apart hm (List.mem_of_getElem? h2) ho h3
theorem refs_step {g : Gr} (hm : mayG g = true) (id : Int) (h : IdG g id) : ∀ r ∈ refsL g.1 (objG g.2.1 id), 0 ≤ r → IdG g r := by
  obtain ⟨o, ho, rfl⟩ := h
  rw [obj_of hm ho]
  intro r hr h0
  obtain ⟨k, f, v, h1, h2, h3, rfl⟩ := refsL_mem.1 hr
  exact findG_mem.1 (haveG_ref ((mayG_obj hm ho).have' k f v h1 h2) h3 (by omega)).1
theorem root_id {g : Gr} (hm : mayG g = true) {r : Int} (hr : r ∈ g.2.2) (h0 : 0 ≤ r) : IdG g r := by
  have := (mayG_parts hm).2.2.2.2 r hr
  rw [rootG, Bool.or_eq_true, decide_eq_true_eq, decide_eq_true_eq] at this
  exact findG_mem.1 (this.resolve_left (by omega))
theorem ids_few {g : Gr} (hm : mayG g = true) (l : List Int) (hn : l.Nodup) (h : ∀ x ∈ l, IdG g x) : l.length ≤ 8 := by
  have h1 : l.length ≤ (g.2.1.map (·.1)).length := by
    refine nodup_le hn fun x hx => ?_
    obtain ⟨o, ho, e⟩ := h x hx
    exact List.mem_map.2 ⟨o, ho, e⟩
  rw [List.length_map] at h1
  have := (mayG_parts hm).2.1
  omega
theorem ordG_yes {g : Gr} (hm : mayG g = true) : ordG g = ordN g 8 (g.2.2.foldl metL []) 0 := if_pos hm
theorem roots_ids {g : Gr} (hm : mayG g = true) : ∀ x ∈ g.2.2.foldl metL [], IdG g x := fun x hx => by
  rcases mets_mem.1 hx with h | ⟨h1, h2⟩
  · simp at h
  · exact root_id hm h1 h2
theorem ordG_nodup {g : Gr} (hm : mayG g = true) : (ordG g).Nodup := by rw [ordG_yes hm]; exact ordN_nodup g (mets_nodup (by simp))
theorem ordG_ids {g : Gr} (hm : mayG g = true) : ∀ x ∈ ordG g, IdG g x := by rw [ordG_yes hm]; exact ordN_all (refs_step hm) (roots_ids hm)
theorem ordG_few {g : Gr} (hm : mayG g = true) : (ordG g).length ≤ 8 := ids_few hm _ (ordG_nodup hm) (ordG_ids hm)
theorem ordG_root {g : Gr} (hm : mayG g = true) {r : Int} (hr : r ∈ g.2.2) (h0 : 0 ≤ r) : r ∈ ordG g := by
  rw [ordG_yes hm]
  obtain ⟨m, e⟩ := ordN_pre g 8 (g.2.2.foldl metL []) 0
  rw [e]
  exact List.mem_append_left _ (mets_mem.2 (.inr ⟨hr, h0⟩))
theorem ordG_shut {g : Gr} (hm : mayG g = true) : ∀ id ∈ ordG g, ∀ r ∈ refsL g.1 (objG g.2.1 id), 0 ≤ r → r ∈ ordG g := by
  rw [ordG_yes hm]
  exact ordN_shut (refs_step hm) (ids_few hm) (mets_nodup (by simp)) (roots_ids hm) (by omega) fun j id hj => by omega
theorem ordG_pos {g : Gr} (hm : mayG g = true) {x : Int} (hx : x ∈ ordG g) : 0 ≤ x := by
  obtain ⟨o, ho, rfl⟩ := ordG_ids hm x hx
  exact (mayG_obj hm ho).id0
theorem come_pos {g : Gr} (hm : mayG g = true) {x : Int} (h : ComeG g x) : 0 ≤ x := by
  obtain ⟨o, ho, rfl⟩ := come_is hm h
  exact (mayG_obj hm ho).id0
/-- What is met is what is come to. -/
theorem ordG_mem {g : Gr} (hm : mayG g = true) {x : Int} : x ∈ ordG g ↔ ComeG g x := by
  constructor
  · rw [ordG_yes hm]
    refine ordN_all (P := ComeG g) (fun id hc r hr h0 => ?_) (fun x hx => ?_) x
    · obtain ⟨o, ho, rfl⟩ := come_is hm hc
      rw [obj_of hm ho] at hr
      obtain ⟨k, f, v, h1, h2, h3, rfl⟩ := refsL_mem.1 hr
      exact (come_ref hm ho hc h1 h2 h3 (by omega)).1
    · rcases mets_mem.1 hx with h | ⟨h1, h2⟩
      · simp at h
      · exact ⟨x, h1, by omega, .here⟩
  · rintro ⟨id, h1, h2, h3⟩
    induction h3 with
    | here =>
      have := come_pos hm ⟨id, h1, h2, .here⟩
      exact ordG_root hm h1 this
    | step hf ho hr ih =>
      rename_i o r
      obtain ⟨k, f, v, a1, a2, a3, a4, rfl⟩ := refsG_mem.1 hr
      have hp := come_pos hm (x := v.2.2) ⟨id, h1, h2, .step hf ho hr⟩
      refine ordG_shut hm _ ih _ ?_ hp
      rw [obj_of hm ho]
      exact refsL_mem.2 ⟨k, f, v, a1, a2, a3, rfl⟩
theorem reach_nodup {g : Gr} (hm : mayG g = true) : (reachG g).Nodup := by
  rw [reachG]
  have h1 := (mayG_sorted (sweepG_may hm))
  exact (List.pairwise_map.2 (h1.imp fun h => by omega))
theorem ordG_len {g : Gr} (hm : mayG g = true) : (ordG g).length = (reachG g).length := by
  refine Nat.le_antisymm ?_ ?_
  · exact nodup_le (ordG_nodup hm) fun x hx => (reach_mem hm).2 ⟨(ordG_mem hm).1 hx, come_is hm ((ordG_mem hm).1 hx)⟩
  · exact nodup_le (reach_nodup hm) fun x hx => (ordG_mem hm).2 ((reach_mem hm).1 hx).1
end Go.Proofs.Yteafbdebmhpffaa

/- With other ids, and the objects in another order, the Canon is the same; the Canon of a Canon is it. On plain data. No condition. -/
namespace Go.Proofs.Yteafbdebmhpffaa

/-- Another id; below 0 none. -/
def ren (ρ : Int → Int) (r : Int) : Int := if r < 0 then r else ρ r
theorem ren_neg {ρ : Int → Int} {r : Int} (h : r < 0) : ren ρ r = r := if_pos h
theorem ren_pos {ρ : Int → Int} {r : Int} (h : 0 ≤ r) : ren ρ r = ρ r := if_neg (by omega)
/-- h is g by other ids, as far as S goes. -/
structure Ren (ρ : Int → Int) (S : Int → Prop) (g h : Gr) : Prop where
  sch : h.1 = g.1
  roots : h.2.2 = g.2.2.map (ren ρ)
  root : ∀ r ∈ g.2.2, 0 ≤ r → S r
  step : ∀ x, S x → ∀ r ∈ refsL g.1 (objG g.2.1 x), 0 ≤ r → S r
  inj : ∀ x y, S x → S y → ρ x = ρ y → x = y
  pos : ∀ x, S x → 0 ≤ ρ x
  obj : ∀ x, S x → (objG h.2.1 (ρ x)).2 = ((objG g.2.1 x).2.1, leadV (ren ρ) (fldsG g.1 (objG g.2.1 x).2.1) (objG g.2.1 x).2.2)

theorem refs_lead (f : Int → Int) : ∀ (fs : List Fld) (vs : List Vl), (fs.zip (leadV f fs vs)).filterMap (fun p => if p.1.2.1 = 5 then some p.2.2.2 else none) = ((fs.zip vs).filterMap (fun p => if p.1.2.1 = 5 then some p.2.2.2 else none)).map f
  | [], vs => by simp [leadV]
  | a :: fs, [] => by simp [leadV]
  | a :: fs, v :: vs => by
    rw [leadV, List.zip_cons_cons, List.zip_cons_cons, List.filterMap_cons, List.filterMap_cons, refs_lead f fs vs]
    by_cases h : a.2.1 = 5
    · simp [h]
    · simp [h]
theorem leadV_len (f : Int → Int) : ∀ (fs : List Fld) (vs : List Vl), fs.length = vs.length → (leadV f fs vs).length = vs.length
  | [], vs, _ => rfl
  | a :: fs, [], h => by simp at h
  | a :: fs, v :: vs, h => by rw [leadV, List.length_cons, leadV_len f fs vs (by simpa using h), List.length_cons]
theorem leadV_at (f : Int → Int) : ∀ {fs : List Fld} {vs : List Vl} {k : Nat} {a : Fld} {v : Vl}, fs[k]? = some a → vs[k]? = some v → (leadV f fs vs)[k]? = some (if a.2.1 = 5 then (v.1, v.2.1, f v.2.2) else v)
  | [], _, _, _, _, h, _ => by simp at h
  | _ :: _, [], _, _, _, _, h => by simp at h
  | a :: fs, v :: vs, 0, _, _, h1, h2 => by
    simp at h1 h2
    subst h1 h2
    rw [leadV]
    rfl
  | a :: fs, v :: vs, k + 1, _, _, h1, h2 => by
    rw [leadV, List.getElem?_cons_succ]
    exact leadV_at f (by simpa using h1) (by simpa using h2)
theorem leadV_two (f h : Int → Int) : ∀ (fs : List Fld) (vs : List Vl), leadV f fs (leadV h fs vs) = leadV (fun r => f (h r)) fs vs
  | [], vs => rfl
  | a :: fs, [] => rfl
  | a :: fs, v :: vs => by
    rw [leadV, leadV, leadV, leadV_two f h fs vs]
    by_cases e : a.2.1 = 5 <;> simp [e]
theorem leadV_congr {f h : Int → Int} : ∀ {fs : List Fld} {vs : List Vl}, (∀ (k : Nat) a v, fs[k]? = some a → vs[k]? = some v → a.2.1 = 5 → f v.2.2 = h v.2.2) → leadV f fs vs = leadV h fs vs
  | [], vs, _ => rfl
  | a :: fs, [], _ => rfl
  | a :: fs, v :: vs, hh => by
    rw [leadV, leadV, leadV_congr (fs := fs) (vs := vs) fun k a v h1 h2 => hh (k + 1) a v (by simpa using h1) (by simpa using h2)]
    by_cases e : a.2.1 = 5
    · rw [if_pos e, if_pos e, hh 0 a v rfl rfl e]
    · rw [if_neg e, if_neg e]
theorem idxP_map {α β : Type} (p : β → Bool) (f : α → β) : ∀ l : List α, idxP p (l.map f) = idxP (fun a => p (f a)) l
  | [] => rfl
  | a :: l => by rw [List.map_cons, idxP, idxP, idxP_map p f l]
theorem idxP_congr {α : Type} {p q : α → Bool} : ∀ {l : List α}, (∀ a ∈ l, p a = q a) → idxP p l = idxP q l
  | [], _ => rfl
  | a :: l, h => by rw [idxP, idxP, idxP_congr (l := l) fun b hb => h b (List.mem_cons_of_mem _ hb), h a (List.mem_cons_self ..)]
theorem atL_none {l : List Int} {r : Int} : atL l r = -1 ↔ r ∉ l := by
  rw [atL, idxP_none]
  constructor
  · intro h hr
    have := h r hr
    simp at this
  · intro h a ha
    exact decide_eq_false fun e => h (by rw [← e]; exact ha)
theorem atL_at {l : List Int} (hn : l.Nodup) {i : Nat} {x : Int} (h : l[i]? = some x) : atL l x = (i : Int) := by
  refine (idxP_iff _ l i).2 ⟨⟨x, h, decide_eq_true rfl⟩, fun j y hj hy => decide_eq_false fun e => ?_⟩
  subst e
  have h1 := (List.getElem?_eq_some_iff.1 h).1
  have := (List.getElem?_inj (by omega : j < l.length) hn).1 (hy.trans h.symm)
  omega
theorem atL_mem {l : List Int} {r : Int} (h : r ∈ l) : ∃ i : Nat, atL l r = (i : Int) ∧ l[i]? = some r := by
  have h0 := idxP_low (fun x => decide (x = r)) l
  have h1 : atL l r ≠ -1 := fun e => atL_none.1 e h
  obtain ⟨i, hi⟩ : ∃ i : Nat, atL l r = (i : Int) := ⟨(atL l r).toNat, by unfold atL at *; omega⟩
  obtain ⟨⟨x, hx, hp⟩, -⟩ := (idxP_iff _ l i).1 hi
  exact ⟨i, hi, by rw [hx, of_decide_eq_true hp]⟩

section
variable {ρ : Int → Int} {S : Int → Prop} {g h : Gr}
theorem Ren.met (R : Ren ρ S g h) {l : List Int} {r : Int} (hl : ∀ x ∈ l, S x) (hr : 0 ≤ r → S r) : metL (l.map ρ) (ren ρ r) = (metL l r).map ρ := by
  by_cases h0 : r < 0
  · rw [ren_neg h0, metL, metL, if_pos (.inl h0), if_pos (.inl h0)]
  · rw [ren_pos (by omega)]
    have hp := R.pos r (hr (by omega))
    by_cases hm : r ∈ l
    · rw [metL, metL, if_pos (.inr (List.mem_map_of_mem hm)), if_pos (.inr hm)]
    · rw [metL, metL, if_neg, if_neg (fun e => e.elim h0 hm), List.map_append]
      · rfl
      · rintro (e | e)
        · omega
        · obtain ⟨x, hx, e2⟩ := List.mem_map.1 e
          have := R.inj x r (hl x hx) (hr (by omega)) e2
          subst this
          exact hm hx
theorem Ren.mets (R : Ren ρ S g h) : ∀ {rs l : List Int}, (∀ x ∈ l, S x) → (∀ r ∈ rs, 0 ≤ r → S r) → (rs.map (ren ρ)).foldl metL (l.map ρ) = (rs.foldl metL l).map ρ
  | [], _, _, _ => rfl
  | r :: rs, l, hl, hr => by
    rw [List.map_cons, List.foldl_cons, List.foldl_cons, R.met hl (hr r (List.mem_cons_self ..))]
    refine R.mets (fun x hx => ?_) fun x hx => hr x (List.mem_cons_of_mem _ hx)
    rcases metL_mem.1 hx with h1 | ⟨rfl, h2⟩
    · exact hl x h1
    · exact hr x (List.mem_cons_self ..) h2
theorem Ren.refs (R : Ren ρ S g h) {x : Int} (hx : S x) : refsL h.1 (objG h.2.1 (ρ x)) = (refsL g.1 (objG g.2.1 x)).map (ren ρ) := by
  rw [refsL, refsL, R.obj x hx, R.sch]
  exact refs_lead _ _ _
theorem Ren.ordNs (R : Ren ρ S g h) : ∀ {n : Nat} {l : List Int} {i : Nat}, (∀ x ∈ l, S x) → ordN h n (l.map ρ) i = (ordN g n l i).map ρ
  | 0, _, _, _ => rfl
  | n + 1, l, i, hl => by
    rw [ordN, ordN, List.getElem?_map]
    cases hi : l[i]? with
    | none => rfl
    | some x =>
      have hx := hl x (List.mem_of_getElem? hi)
      show ordN h n _ _ = (ordN g n _ _).map ρ
      rw [R.refs hx, R.mets hl (fun r hr h0 => R.step x hx r hr h0)]
      refine R.ordNs fun y hy => ?_
      rcases mets_mem.1 hy with h1 | ⟨h1, h2⟩
      · exact hl y h1
      · exact R.step x hx y h1 h2
theorem Ren.order (R : Ren ρ S g h) (hg : mayG g = true) (hh : mayG h = true) : ordG h = (ordG g).map ρ := by
  rw [ordG_yes hg, ordG_yes hh, R.roots]
  have h0 : (g.2.2.map (ren ρ)).foldl metL [] = (g.2.2.foldl metL []).map ρ := R.mets (l := []) (fun x hx => by simp at hx) R.root
  rw [h0]
  refine R.ordNs fun x hx => ?_
  rcases mets_mem.1 hx with h1 | ⟨h1, h2⟩
  · simp at h1
  · exact R.root x h1 h2
theorem Ren.at (R : Ren ρ S g h) {l : List Int} (hl : ∀ x ∈ l, S x) (hp : ∀ x ∈ l, 0 ≤ x) {r : Int} (hr : 0 ≤ r → S r) : atL (l.map ρ) (ren ρ r) = atL l r := by
  by_cases h0 : r < 0
  · have e1 : atL l r = -1 := atL_none.2 fun e => by have := hp r e; omega
    have e2 : atL (l.map ρ) r = -1 := atL_none.2 fun e => by
      obtain ⟨x, hx, rfl⟩ := List.mem_map.1 e
      have := R.pos x (hl x hx)
      omega
    rw [ren_neg h0, e1, e2]
  · rw [ren_pos (by omega), atL, atL, idxP_map]
    refine idxP_congr fun x hx => ?_
    by_cases e : x = r
    · rw [decide_eq_true e, decide_eq_true (by rw [e])]
    · rw [decide_eq_false e, decide_eq_false (fun e2 => e (R.inj x r (hl x hx) (hr (by omega)) e2))]
/-- THE CANON IS THE SAME. -/
theorem Ren.canon (R : Ren ρ S g h) (hg : mayG g = true) (hh : mayG h = true) (hS : ∀ x ∈ ordG g, S x) : canonG h = canonG g := by
  have ho := R.order hg hh
  have hp : ∀ x ∈ ordG g, 0 ≤ x := fun x hx => ordG_pos hg hx
  rw [canonG, canonG, if_pos hg, if_pos hh, R.sch, ho]
  refine Prod.ext rfl (Prod.ext ?_ ?_)
  · refine List.ext_getElem? fun i => ?_
    show ((List.map ρ (ordG g)).mapIdx _)[i]? = ((ordG g).mapIdx _)[i]?
    rw [List.getElem?_mapIdx, List.getElem?_mapIdx, List.getElem?_map]
    cases hi : (ordG g)[i]? with
    | none => rfl
    | some x =>
      have hm := List.mem_of_getElem? hi
      have hx := hS x hm
      show some (canO h _ i (ρ x)) = some (canO g _ i x)
      rw [canO, canO, R.obj x hx, R.sch, leadV_two]
      refine congrArg some (Prod.ext rfl (Prod.ext rfl ?_))
      refine leadV_congr fun k a v h1 h2 h5 => ?_
      exact R.at hS hp fun h0 => R.step x hx _ (refsL_mem.2 ⟨k, a, v, h1, h2, h5, rfl⟩) h0
  · show h.2.2.map _ = g.2.2.map _
    rw [R.roots, List.map_map]
    refine List.map_congr_left fun r hr => ?_
    exact R.at hS hp fun h0 => R.root r hr h0
end

/-- What a Canon's objects are. -/
theorem canon_at {g : Gr} (hm : mayG g = true) {i : Nat} {x : Int} (h : (ordG g)[i]? = some x) : (canonG g).2.1[i]? = some (canO g (ordG g) i x) := by
  rw [canonG, if_pos hm]
  show ((ordG g).mapIdx _)[i]? = _
  rw [List.getElem?_mapIdx, h]
  rfl
theorem canon_len {g : Gr} (hm : mayG g = true) : (canonG g).2.1.length = (ordG g).length := by
  rw [canonG, if_pos hm]
  simp
theorem canon_find {g : Gr} (hm : mayG g = true) {i : Nat} (h : i < (ordG g).length) : findG (canonG g).2.1 (i : Int) = (i : Int) := by
  refine (idxP_iff _ _ i).2 ⟨⟨_, canon_at hm (List.getElem?_eq_getElem h), decide_eq_true rfl⟩, fun j b hj hb => ?_⟩
  rw [canon_at hm (List.getElem?_eq_getElem (by omega : j < (ordG g).length))] at hb
  injection hb with hb
  subst hb
  exact decide_eq_false (by show ¬ ((j : Int) = (i : Int)); omega)
theorem canon_obj {g : Gr} (hm : mayG g = true) {x : Int} (hx : x ∈ ordG g) : objG (canonG g).2.1 (atL (ordG g) x) = canO g (ordG g) (atL (ordG g) x).toNat x := by
  obtain ⟨i, h1, h2⟩ := atL_mem hx
  rw [h1, Int.toNat_natCast]
  exact objG_at (canon_find hm (List.getElem?_eq_some_iff.1 h2).1) (canon_at hm h2)
theorem may_neg {g : Gr} (hm : mayG g = true) {r : Int} (hr : r ∈ g.2.2) (h0 : r < 0) : r = -1 := by
  have := (mayG_parts hm).2.2.2.2 r hr
  rw [rootG, Bool.or_eq_true, decide_eq_true_eq, decide_eq_true_eq] at this
  rcases this with h | h
  · exact h
  · obtain ⟨o, ho, rfl⟩ := findG_mem.1 h
    have := (mayG_obj hm ho).id0
    omega
theorem ref_neg {g : Gr} (hm : mayG g = true) {o : Ob} (ho : o ∈ g.2.1) {k : Nat} {f : Fld} {v : Vl} (hf : (fldsG g.1 o.2.1)[k]? = some f) (hv : o.2.2[k]? = some v) (h5 : f.2.1 = 5) (h0 : v.2.2 < 0) : v.2.2 = -1 := by
  rcases Classical.em (v.2.2 = -1) with h | h
  · exact h
  · obtain ⟨p, hp, e⟩ := findG_mem.1 (haveG_ref ((mayG_obj hm ho).have' k f v hf hv) h5 h).1
    have := (mayG_obj hm hp).id0
    omega
theorem ord_obj {g : Gr} (hm : mayG g = true) {x : Int} (hx : x ∈ ordG g) : ∃ o ∈ g.2.1, o.1 = x ∧ objG g.2.1 x = o := by
  obtain ⟨o, ho, rfl⟩ := ordG_ids hm x hx
  exact ⟨o, ho, rfl, obj_of hm ho⟩
/-- A Canon may be. -/
theorem canon_may {g : Gr} (hm : mayG g = true) : mayG (canonG g) = true := by
  obtain ⟨m1, m2, m3, m4, m5⟩ := mayG_parts hm
  have e1 : (canonG g).1 = g.1 := by rw [canonG, if_pos hm]
  have e3 : (canonG g).2.2 = g.2.2.map (atL (ordG g)) := by rw [canonG, if_pos hm]
  have hin : ∀ r, r ∈ ordG g → findG (canonG g).2.1 (atL (ordG g) r) ≠ -1 := fun r hr => by
    obtain ⟨i, h1, h2⟩ := atL_mem hr
    rw [h1, canon_find hm (List.getElem?_eq_some_iff.1 h2).1]
    omega
  have hneg : atL (ordG g) (-1) = -1 := atL_none.2 fun e => by have := ordG_pos hm e; omega
  refine mayG_mk (by rw [e1]; exact m1) (by rw [canon_len hm]; exact ordG_few hm) (by rw [e3, List.length_map]; exact m4) (fun r hr => ?_) (fun o ho => ?_) ?_
  · rw [e3] at hr
    obtain ⟨q, hq, rfl⟩ := List.mem_map.1 hr
    rw [rootG, Bool.or_eq_true, decide_eq_true_eq, decide_eq_true_eq]
    by_cases h0 : q < 0
    · rw [may_neg hm hq h0]
      exact .inl hneg
    · exact .inr (hin q (ordG_root hm hq (by omega)))
  · obtain ⟨i, hi⟩ := List.getElem?_of_mem ho
    have hl := (List.getElem?_eq_some_iff.1 hi).1
    rw [canon_len hm] at hl
    obtain ⟨x, hx⟩ : ∃ x, (ordG g)[i]? = some x := ⟨_, List.getElem?_eq_getElem hl⟩
    rw [canon_at hm hx] at hi
    injection hi with hi
    subst hi
    have hxm := List.mem_of_getElem? hx
    obtain ⟨p, hp, hpx, hpo⟩ := ord_obj hm hxm
    have mo := mayG_obj hm hp
    have h8 := ordG_few hm
    rw [canO, hpo]
    refine ⟨by show (0 : Int) ≤ (i : Int); omega, by show (i : Int) ≤ 1073741824; omega, mo.t0, by rw [e1]; exact mo.t1, ?_, fun k f v hf hv => ?_⟩
    · show (fldsG (canonG g).1 p.2.1).length = (leadV _ _ _).length
      rw [e1, leadV_len _ _ _ mo.len]
      exact mo.len
    · have hf' : (fldsG g.1 p.2.1)[k]? = some f := by rw [← e1]; exact hf
      have hv' : (leadV (atL (ordG g)) (fldsG g.1 p.2.1) p.2.2)[k]? = some v := hv
      have hkl := (List.getElem?_eq_some_iff.1 hf').1
      obtain ⟨u, hu⟩ : ∃ u, p.2.2[k]? = some u := ⟨_, List.getElem?_eq_getElem (by have := mo.len; omega)⟩
      rw [leadV_at _ hf' hu] at hv'
      injection hv' with hv'
      have hh := mo.have' k f u hf' hu
      by_cases h5 : f.2.1 = 5
      · rw [if_pos h5] at hv'
        subst hv'
        have hfit : fitsV f.2.1 u = true := by rw [haveG, Bool.and_eq_true] at hh; exact hh.1
        rw [h5, vl_fits_5, decide_eq_true_eq] at hfit
        by_cases h0 : u.2.2 < 0
        · have hm1 := ref_neg hm hp hf' hu h5 h0
          rw [haveG, h5, vl_fits_5, hm1, hneg]
          have a3 := hfit.2.2.1
          have a4 := hfit.2.2.2
          simp [a3, a4]
        · have hur : u.2.2 ∈ ordG g := by
            refine ordG_shut hm x hxm _ ?_ (by omega)
            rw [hpo]
            exact refsL_mem.2 ⟨k, f, u, hf', hu, h5, rfl⟩
          obtain ⟨j, hj1, hj2⟩ := atL_mem hur
          have hjl := (List.getElem?_eq_some_iff.1 hj2).1
          obtain ⟨r1, r2⟩ := haveG_ref hh h5 (by omega)
          have hty : typG (canonG g).2.1 (j : Int) = typG g.2.1 u.2.2 := by
            obtain ⟨q, hq, hqx, hqo⟩ := ord_obj hm hur
            have t1 : typG (canonG g).2.1 (j : Int) = (canO g (ordG g) j u.2.2).2.1 := by
              have ho2 := objG_at (canon_find hm hjl) (canon_at hm hj2)
              show (objG (canonG g).2.1 (j : Int)).2.1 = _
              rw [ho2]
            rw [t1, canO]
            rfl
          rw [haveG, h5, vl_fits_5, hj1, canon_find hm hjl, hty, r2, e1]
          have a3 := hfit.2.2.1
          have a4 := hfit.2.2.2
          have b1 : (-1 : Int) ≤ (j : Int) := by omega
          have b2 : (j : Int) ≤ 1073741824 := by omega
          have b3 : ¬ ((j : Int) = -1) := by omega
          simp [a3, a4, b1, b2, b3]
      · rw [if_neg h5] at hv'
        subst hv'
        exact haveG_mono (g := g) e1 hh fun e => absurd e h5
  · rw [List.pairwise_iff_getElem]
    intro i j hi hj hij
    rw [canon_len hm] at hi hj
    have h1 := canon_at hm (List.getElem?_eq_getElem hi)
    have h2 := canon_at hm (List.getElem?_eq_getElem hj)
    rw [(List.getElem?_eq_some_iff.1 h1).2, (List.getElem?_eq_some_iff.1 h2).2]
    show (i : Int) < (j : Int)
    omega
/-- A graph is its Canon, by other ids. -/
theorem canon_ren {g : Gr} (hm : mayG g = true) : Ren (atL (ordG g)) (· ∈ ordG g) g (canonG g) := by
  have hneg : atL (ordG g) (-1) = -1 := atL_none.2 fun e => by have := ordG_pos hm e; omega
  have hren : ∀ r : Int, (r < 0 → r = -1) → atL (ordG g) r = ren (atL (ordG g)) r := fun r hr => by
    by_cases h0 : r < 0
    · rw [ren_neg h0, hr h0, hneg]
    · rw [ren_pos (by omega)]
  refine ⟨by rw [canonG, if_pos hm], ?_, fun r hr h0 => ordG_root hm hr h0, fun x hx r hr h0 => ordG_shut hm x hx r hr h0, fun x y hx hy e => ?_, fun x hx => ?_, fun x hx => ?_⟩
  · rw [canonG, if_pos hm]
    exact List.map_congr_left fun r hr => hren r fun h0 => may_neg hm hr h0
  · obtain ⟨i, h1, h2⟩ := atL_mem hx
    obtain ⟨j, h3, h4⟩ := atL_mem hy
    rw [h1, h3] at e
    obtain rfl : i = j := by omega
    rw [h2] at h4
    injection h4
  · obtain ⟨i, h1, -⟩ := atL_mem hx
    rw [h1]
    omega
  · obtain ⟨o, ho, hox, hoo⟩ := ord_obj hm hx
    rw [canon_obj hm hx, canO]
    refine Prod.ext rfl ?_
    rw [hoo]
    exact leadV_congr fun k a v h1 h2 h5 => hren _ fun h0 => ref_neg hm ho h1 h2 h5 h0
/-- THE CANON OF A CANON IS IT. -/
theorem canon_twice {g : Gr} (hm : mayG g = true) : canonG (canonG g) = canonG g := (canon_ren hm).canon hm (canon_may hm) fun _ h => h
theorem ren_id (r : Int) : ren (fun x => x) r = r := by unfold ren; split <;> rfl
theorem lead_id : ∀ (fs : List Fld) (vs : List Vl), leadV (ren fun x => x) fs vs = vs
  | [], _ => rfl
  | _ :: _, [] => rfl
  | a :: fs, v :: vs => by
    rw [leadV, lead_id fs vs, ren_id]
    by_cases e : a.2.1 = 5 <;> simp [e]
/-- Swept it is the same. -/
theorem canon_sweep {g : Gr} (hm : mayG g = true) : canonG (sweepG g) = canonG g := by
  have e1 : (sweepG g).1 = g.1 := by rw [sweepG_yes hm]
  have e3 : (sweepG g).2.2 = g.2.2 := by rw [sweepG_yes hm]
  have R : Ren (fun x => x) (· ∈ ordG g) g (sweepG g) := by
    refine ⟨e1, ?_, fun r hr h0 => ordG_root hm hr h0, fun x hx r hr h0 => ordG_shut hm x hx r hr h0, fun x y _ _ e => e, fun x hx => ordG_pos hm hx, fun x hx => ?_⟩
    · rw [e3]
      conv => lhs; rw [← List.map_id g.2.2]
      exact List.map_congr_left fun r _ => (ren_id r).symm
    · obtain ⟨o, ho, rfl, hoo⟩ := ord_obj hm hx
      have hs : o ∈ (sweepG g).2.1 := (sweep_mem hm).2 ⟨ho, (ordG_mem hm).1 hx⟩
      rw [obj_of (sweepG_may hm) hs, hoo, lead_id]
  exact R.canon hm (sweepG_may hm) fun _ h => h
theorem iso_canon {g : Gr} (hm : mayG g = true) : isoG g (canonG g) = true := by
  rw [isoG, hm, canon_may hm, canon_twice hm]
  simp
end Go.Proofs.Yteafbdebmhpffaa

/- Graphs by other ids may be, and have the same Canon; a value set anew; roots in a Canon. On plain data. No condition. -/
namespace Go.Proofs.Yteafbdebmhpffaa

/-- h is g by other ids, all of it. -/
structure Relab (ρ : Int → Int) (g h : Gr) : Prop where
  sch : h.1 = g.1
  roots : h.2.2 = g.2.2.map (ren ρ)
  mem : ∀ p, p ∈ h.2.1 ↔ ∃ o ∈ g.2.1, p = (ρ o.1, o.2.1, leadV (ren ρ) (fldsG g.1 o.2.1) o.2.2)
  sorted : h.2.1.Pairwise fun o p => o.1 < p.1
  len : h.2.1.length ≤ 8
  low : ∀ o ∈ g.2.1, 0 ≤ ρ o.1
  top : ∀ o ∈ g.2.1, ρ o.1 ≤ 1073741824
  inj : ∀ o ∈ g.2.1, ∀ p ∈ g.2.1, ρ o.1 = ρ p.1 → o.1 = p.1
theorem Relab.may {ρ : Int → Int} {g h : Gr} (R : Relab ρ g h) (hm : mayG g = true) : mayG h = true := by
  obtain ⟨m1, m2, m3, m4, m5⟩ := mayG_parts hm
  have hin : ∀ o ∈ g.2.1, (ρ o.1, o.2.1, leadV (ren ρ) (fldsG g.1 o.2.1) o.2.2) ∈ h.2.1 := fun o ho => (R.mem _).2 ⟨o, ho, rfl⟩
  refine mayG_mk (by rw [R.sch]; exact m1) R.len (by rw [R.roots, List.length_map]; exact m4) (fun r hr => ?_) (fun p hp => ?_) R.sorted
  · rw [R.roots] at hr
    obtain ⟨q, hq, rfl⟩ := List.mem_map.1 hr
    rw [rootG, Bool.or_eq_true, decide_eq_true_eq, decide_eq_true_eq]
    by_cases h0 : q < 0
    · rw [ren_neg h0]
      exact .inl (may_neg hm hq h0)
    · obtain ⟨o, ho, rfl⟩ := root_id hm hq (by omega)
      rw [ren_pos (by omega)]
      exact .inr (findG_mem.2 ⟨_, hin o ho, rfl⟩)
  · obtain ⟨o, ho, rfl⟩ := (R.mem p).1 hp
    have mo := mayG_obj hm ho
    refine ⟨R.low o ho, R.top o ho, mo.t0, by rw [R.sch]; exact mo.t1, ?_, fun k f v hf hv => ?_⟩
    · show (fldsG h.1 o.2.1).length = (leadV _ _ _).length
      rw [R.sch, leadV_len _ _ _ mo.len]
      exact mo.len
    · have hf' : (fldsG g.1 o.2.1)[k]? = some f := by rw [← R.sch]; exact hf
      have hv' : (leadV (ren ρ) (fldsG g.1 o.2.1) o.2.2)[k]? = some v := hv
      have hkl := (List.getElem?_eq_some_iff.1 hf').1
      obtain ⟨u, hu⟩ : ∃ u, o.2.2[k]? = some u := ⟨_, List.getElem?_eq_getElem (by have := mo.len; omega)⟩
      rw [leadV_at _ hf' hu] at hv'
      injection hv' with hv'
      have hh := mo.have' k f u hf' hu
      by_cases h5 : f.2.1 = 5
      · rw [if_pos h5] at hv'
        subst hv'
        have hfit : fitsV f.2.1 u = true := by rw [haveG, Bool.and_eq_true] at hh; exact hh.1
        rw [h5, vl_fits_5, decide_eq_true_eq] at hfit
        have a3 := hfit.2.2.1
        have a4 := hfit.2.2.2
        by_cases h0 : u.2.2 < 0
        · have hm1 := ref_neg hm ho hf' hu h5 h0
          rw [haveG, h5, vl_fits_5, ren_neg h0, hm1]
          simp [a3, a4]
        · obtain ⟨r1, r2⟩ := haveG_ref hh h5 (by omega)
          obtain ⟨q, hq, hqe⟩ := findG_mem.1 r1
          obtain ⟨t1, t2⟩ := typG_of R.sorted (hin q hq)
          obtain ⟨-, t4⟩ := typG_of (mayG_sorted hm) hq
          rw [hqe] at t1 t2 t4
          have b1 := R.low q hq
          have b2 := R.top q hq
          rw [hqe] at b1 b2
          rw [haveG, h5, vl_fits_5, ren_pos (by omega), t2, ← t4, r2, R.sch]
          have b3 : ¬ (ρ u.2.2 = -1) := by omega
          have b4 : (-1 : Int) ≤ ρ u.2.2 := by omega
          simp [a3, a4, b2, b3, b4, t1]
      · rw [if_neg h5] at hv'
        subst hv'
        exact haveG_mono (g := g) R.sch hh fun e => absurd e h5
theorem Relab.ren {ρ : Int → Int} {g h : Gr} (R : Relab ρ g h) (hm : mayG g = true) : Ren ρ (IdG g) g h := by
  refine ⟨R.sch, R.roots, fun r hr h0 => root_id hm hr h0, fun x hx => refs_step hm x hx, ?_, ?_, ?_⟩
  · rintro x y ⟨o, ho, rfl⟩ ⟨p, hp, rfl⟩ e
    exact R.inj o ho p hp e
  · rintro x ⟨o, ho, rfl⟩
    exact R.low o ho
  · rintro x ⟨o, ho, rfl⟩
    have hp := (R.mem _).2 ⟨o, ho, rfl⟩
    have := obj_of (R.may hm) hp
    rw [show objG h.2.1 (ρ o.1) = _ from this, obj_of hm ho]
theorem Relab.canon {ρ : Int → Int} {g h : Gr} (R : Relab ρ g h) (hm : mayG g = true) : canonG h = canonG g := (R.ren hm).canon hm (R.may hm) (ordG_ids hm)
theorem Relab.iso {ρ : Int → Int} {g h : Gr} (R : Relab ρ g h) (hm : mayG g = true) : isoG g h = true := by
  rw [isoG, hm, R.may hm, R.canon hm]
  simp

/-- By how much each id is more than the one ahead. -/
def moreR (b : List Int) (i : Nat) : Int := match b[i]? with | some x => if 1 < x ∧ x < 1000 then x else 1 | none => 1
def idsR (b : List Int) : Nat → Int
  | 0 => 0
  | i + 1 => idsR b i + moreR b i
theorem moreR_low (b : List Int) (i : Nat) : 1 ≤ moreR b i ∧ moreR b i < 1000 := by
  unfold moreR
  split
  · split <;> omega
  · omega
theorem idsR_low (b : List Int) : ∀ i : Nat, 0 ≤ idsR b i ∧ idsR b i ≤ 1000 * (i : Int)
  | 0 => by simp [idsR]
  | i + 1 => by
    have h1 := idsR_low b i
    have h2 := moreR_low b i
    rw [idsR]
    omega
theorem idsR_lt (b : List Int) {i j : Nat} (h : i < j) : idsR b i < idsR b j := by
  induction j with
  | zero => omega
  | succ j ih =>
    have h2 := moreR_low b j
    rw [idsR]
    rcases Nat.lt_or_ge i j with h1 | h1
    · have := ih h1; omega
    · obtain rfl : i = j := by omega
      omega
/-- A graph with other ids, as the objects stand. -/
def renamedG (g : Gr) (b : List Int) : Gr :=
  (g.1, g.2.1.mapIdx (fun i o => (idsR b i, o.2.1, leadV (ren fun x => idsR b (findG g.2.1 x).toNat) (fldsG g.1 o.2.1) o.2.2)), g.2.2.map (ren fun x => idsR b (findG g.2.1 x).toNat))
/-- Where an object stands, it is found. -/
theorem find_here {g : Gr} (hm : mayG g = true) {i : Nat} {o : Ob} (h : g.2.1[i]? = some o) : findG g.2.1 o.1 = (i : Int) := by
  refine (idxP_iff _ _ i).2 ⟨⟨o, h, decide_eq_true rfl⟩, fun j p hj hp => decide_eq_false fun e => ?_⟩
  have hs := mayG_sorted hm
  rw [List.pairwise_iff_getElem] at hs
  have l1 := (List.getElem?_eq_some_iff.1 h).1
  have := hs j i (by omega) l1 hj
  rw [(List.getElem?_eq_some_iff.1 h).2, (List.getElem?_eq_some_iff.1 hp).2] at this
  omega
theorem renamed_relab {g : Gr} (hm : mayG g = true) (b : List Int) : Relab (fun x => idsR b (findG g.2.1 x).toNat) g (renamedG g b) := by
  have hf : ∀ (i : Nat) o, g.2.1[i]? = some o → idsR b (findG g.2.1 o.1).toNat = idsR b i := fun i o h => by rw [find_here hm h, Int.toNat_natCast]
  have h8 := (mayG_parts hm).2.1
  refine ⟨rfl, rfl, fun p => ?_, ?_, by show (List.mapIdx _ _).length ≤ 8; simpa using h8, fun o ho => ?_, fun o ho => ?_, fun o ho p hp e => ?_⟩
  · constructor
    · intro hp
      obtain ⟨i, hi⟩ := List.getElem?_of_mem hp
      have hi' : (g.2.1.mapIdx _)[i]? = some p := hi
      rw [List.getElem?_mapIdx] at hi'
      cases ho : g.2.1[i]? with
      | none => rw [ho] at hi'; cases hi'
      | some o =>
        rw [ho] at hi'
        injection hi' with hi'
        exact ⟨o, List.mem_of_getElem? ho, by rw [← hi', hf i o ho]⟩
    · rintro ⟨o, ho, rfl⟩
      obtain ⟨i, hi⟩ := List.getElem?_of_mem ho
      refine List.mem_of_getElem? (i := i) ?_
      show (g.2.1.mapIdx _)[i]? = _
      rw [List.getElem?_mapIdx, hi, hf i o hi]
      rfl
  · show (g.2.1.mapIdx _).Pairwise _
    rw [List.pairwise_iff_getElem]
    intro i j hi hj hij
    simp only [List.getElem_mapIdx]
    exact idsR_lt b hij
  · exact (idsR_low b _).1
  · obtain ⟨i, hi⟩ := List.getElem?_of_mem ho
    have h1 := hf i o hi
    have h2 := (idsR_low b i).2
    have h3 := (List.getElem?_eq_some_iff.1 hi).1
    show idsR b (findG g.2.1 o.1).toNat ≤ _
    omega
  · obtain ⟨i, hi⟩ := List.getElem?_of_mem ho
    obtain ⟨j, hj⟩ := List.getElem?_of_mem hp
    have e' : idsR b (findG g.2.1 o.1).toNat = idsR b (findG g.2.1 p.1).toNat := e
    rw [hf i o hi, hf j p hj] at e'
    have hij : i = j := by
      rcases Nat.lt_trichotomy i j with h | h | h
      · have := idsR_lt b h; omega
      · exact h
      · have := idsR_lt b h; omega
    subst hij
    rw [hi] at hj
    injection hj with hj
    rw [hj]
/-- A graph whose objects stand the other way round. -/
def turnedG (g : Gr) : Gr :=
  (g.1, g.2.1.reverse.mapIdx (fun i o => ((i : Int), o.2.1, leadV (ren fun x => (g.2.1.length : Int) - 1 - findG g.2.1 x) (fldsG g.1 o.2.1) o.2.2)), g.2.2.map (ren fun x => (g.2.1.length : Int) - 1 - findG g.2.1 x))
theorem turned_relab {g : Gr} (hm : mayG g = true) : Relab (fun x => (g.2.1.length : Int) - 1 - findG g.2.1 x) g (turnedG g) := by
  have h8 := (mayG_parts hm).2.1
  have hrev : ∀ (i : Nat) o, g.2.1[i]? = some o → g.2.1.reverse[g.2.1.length - 1 - i]? = some o := fun i o h => by
    have hl := (List.getElem?_eq_some_iff.1 h).1
    rw [List.getElem?_reverse (by omega), show g.2.1.length - 1 - (g.2.1.length - 1 - i) = i by omega]
    exact h
  refine ⟨rfl, rfl, fun p => ?_, ?_, by show (List.mapIdx _ _).length ≤ 8; simpa using h8, fun o ho => ?_, fun o ho => ?_, fun o ho p hp e => ?_⟩
  · constructor
    · intro hp
      obtain ⟨i, hi⟩ := List.getElem?_of_mem hp
      have hi' : (g.2.1.reverse.mapIdx _)[i]? = some p := hi
      rw [List.getElem?_mapIdx] at hi'
      cases ho : g.2.1.reverse[i]? with
      | none => rw [ho] at hi'; cases hi'
      | some o =>
        have hl := (List.getElem?_eq_some_iff.1 ho).1
        rw [List.length_reverse] at hl
        rw [ho] at hi'
        injection hi' with hi'
        rw [List.getElem?_reverse hl] at ho
        refine ⟨o, List.mem_of_getElem? ho, ?_⟩
        rw [← hi']
        show _ = ((g.2.1.length : Int) - 1 - findG g.2.1 o.1, _, _)
        rw [find_here hm ho, show (g.2.1.length : Int) - 1 - ((g.2.1.length - 1 - i : Nat) : Int) = (i : Int) by omega]
    · rintro ⟨o, ho, rfl⟩
      obtain ⟨i, hi⟩ := List.getElem?_of_mem ho
      have hl := (List.getElem?_eq_some_iff.1 hi).1
      refine List.mem_of_getElem? (i := g.2.1.length - 1 - i) ?_
      show (g.2.1.reverse.mapIdx _)[_]? = _
      rw [List.getElem?_mapIdx, hrev i o hi]
      show some (((g.2.1.length - 1 - i : Nat) : Int), _, _) = some ((g.2.1.length : Int) - 1 - findG g.2.1 o.1, _, _)
      rw [find_here hm hi, show ((g.2.1.length - 1 - i : Nat) : Int) = (g.2.1.length : Int) - 1 - (i : Int) by omega]
  · show (g.2.1.reverse.mapIdx _).Pairwise _
    rw [List.pairwise_iff_getElem]
    intro i j hi hj hij
    simp only [List.getElem_mapIdx]
    omega
  · obtain ⟨i, hi⟩ := List.getElem?_of_mem ho
    have h3 := (List.getElem?_eq_some_iff.1 hi).1
    show 0 ≤ (g.2.1.length : Int) - 1 - findG g.2.1 o.1
    rw [find_here hm hi]
    omega
  · obtain ⟨i, hi⟩ := List.getElem?_of_mem ho
    show (g.2.1.length : Int) - 1 - findG g.2.1 o.1 ≤ _
    rw [find_here hm hi]
    omega
  · obtain ⟨i, hi⟩ := List.getElem?_of_mem ho
    obtain ⟨j, hj⟩ := List.getElem?_of_mem hp
    have e' : (g.2.1.length : Int) - 1 - findG g.2.1 o.1 = (g.2.1.length : Int) - 1 - findG g.2.1 p.1 := e
    rw [find_here hm hi, find_here hm hj] at e'
    obtain rfl : i = j := by omega
    rw [hi] at hj
    injection hj with hj
    rw [hj]
end Go.Proofs.Yteafbdebmhpffaa

/- A value that is set in what is come to makes another Canon, unless it is the same; roots and fields of a Canon. On plain data. No condition. -/
namespace Go.Proofs.Yteafbdebmhpffaa

theorem ordN_congr {g h : Gr} {P : Int → Prop} (hr : ∀ x, P x → refsL h.1 (objG h.2.1 x) = refsL g.1 (objG g.2.1 x)) (hs : ∀ x, P x → ∀ r ∈ refsL g.1 (objG g.2.1 x), 0 ≤ r → P r) : ∀ (n : Nat) (l : List Int) (i : Nat), (∀ x ∈ l, P x) → ordN h n l i = ordN g n l i
  | 0, _, _, _ => rfl
  | n + 1, l, i, hl => by
    rw [ordN, ordN]
    cases hi : l[i]? with
    | none => rfl
    | some x =>
      have hx := hl x (List.mem_of_getElem? hi)
      show ordN h n _ _ = ordN g n _ _
      rw [hr x hx]
      refine ordN_congr hr hs n _ _ fun y hy => ?_
      rcases mets_mem.1 hy with h1 | ⟨h1, h2⟩
      · exact hl y h1
      · exact hs x hx y h1 h2
theorem refs_set : ∀ {fs : List Fld} {vs : List Vl} {k : Nat} {f : Fld} {v : Vl}, fs[k]? = some f → f.2.1 ≠ 5 → (fs.zip (vs.set k v)).filterMap (fun p => if p.1.2.1 = 5 then some p.2.2.2 else none) = (fs.zip vs).filterMap (fun p => if p.1.2.1 = 5 then some p.2.2.2 else none)
  | [], _, _, _, _, h, _ => by simp at h
  | _ :: _, [], _, _, _, _, _ => by simp
  | a :: fs, u :: vs, 0, f, v, h, h5 => by
    simp at h
    subst h
    simp [h5]
  | a :: fs, u :: vs, k + 1, f, v, h, h5 => by
    rw [List.set_cons_succ, List.zip_cons_cons, List.zip_cons_cons, List.filterMap_cons, List.filterMap_cons, refs_set (fs := fs) (vs := vs) (by simpa using h) h5]
/-- Another value, that is no Ref, of what is come to. -/
theorem canon_set {g : Gr} {id : Int} {k : Nat} {v v0 : Vl} {I : Nat} {o : Ob} {f : Fld} (he : setE g id (k : Int) v = 0) (hI : findG g.2.1 id = (I : Int)) (ho : g.2.1[I]? = some o) (hv0 : o.2.2[k]? = some v0) (hf : (fldsG g.1 o.2.1)[k]? = some f) (h5 : f.2.1 ≠ 5) (hid : id ∈ ordG g) :
    (canonG (setN g id (k : Int) v) = canonG g) ↔ v0 = v := by
  obtain ⟨hm, -⟩ := setE_0 he
  have hoe := objG_at hI ho
  have e : setN g id (k : Int) v = (g.1, g.2.1.set I (o.1, o.2.1, o.2.2.set k v), g.2.2) := by rw [setN, if_pos he, hI, hoe, Int.toNat_natCast, Int.toNat_natCast]
  have hm2 := setN_may he
  constructor
  · intro hc
    have hl := (List.getElem?_eq_some_iff.1 ho).1
    have hoid : o.1 = id := by
      obtain ⟨⟨q, hq, hd⟩, -⟩ := (idxP_iff _ g.2.1 I).1 hI
      rw [ho] at hq
      injection hq with hq
      subst hq
      exact of_decide_eq_true hd
    have hfi := find_set (p := (o.1, o.2.1, o.2.2.set k v)) hI ho rfl
    have hat : (g.2.1.set I (o.1, o.2.1, o.2.2.set k v))[I]? = some (o.1, o.2.1, o.2.2.set k v) := List.getElem?_set_self hl
    have hobj : objG (setN g id (k : Int) v).2.1 id = (o.1, o.2.1, o.2.2.set k v) := by rw [e]; exact objG_at hfi hat
    have hrefs : ∀ x, IdG g x → refsL (setN g id (k : Int) v).1 (objG (setN g id (k : Int) v).2.1 x) = refsL g.1 (objG g.2.1 x) := fun x hix => by
      by_cases hx : x = id
      · subst hx
        rw [hobj, hoe, e]
        exact refs_set hf h5
      · have hox : objG (setN g id (k : Int) v).2.1 x = objG g.2.1 x := by
          rw [e]
          show objG (g.2.1.set I (o.1, o.2.1, o.2.2.set k v)) x = objG g.2.1 x
          obtain ⟨J, p, h1, h2, h3, -⟩ := findG_at (findG_mem.2 hix)
          have hJI : J ≠ I := fun e2 => by
            subst e2
            rw [ho] at h2
            injection h2 with h2
            subst h2
            exact hx (h3.symm.trans hoid)
          have h4 : (g.2.1.set I (o.1, o.2.1, o.2.2.set k v))[J]? = some p := by rw [List.getElem?_set_ne (fun e2 => hJI e2.symm)]; exact h2
          have h5' : findG (g.2.1.set I (o.1, o.2.1, o.2.2.set k v)) x = (J : Int) := by
            obtain ⟨-, hlt⟩ := (idxP_iff _ g.2.1 J).1 h1
            refine (idxP_iff _ _ J).2 ⟨⟨p, h4, decide_eq_true h3⟩, fun j q hj hq => ?_⟩
            by_cases hjI : j = I
            · subst hjI
              rw [hat] at hq
              injection hq with hq
              subst hq
              exact decide_eq_false fun e2 => hx (e2.symm.trans hoid)
            · rw [List.getElem?_set_ne (fun e2 => hjI e2.symm)] at hq
              exact hlt j q hj hq
          rw [objG_at h5' h4, objG_at h1 h2]
        rw [hox, e]
    have hord : ordG (setN g id (k : Int) v) = ordG g := by
      rw [ordG_yes hm, ordG_yes hm2, show (setN g id (k : Int) v).2.2 = g.2.2 by rw [e]]
      exact ordN_congr hrefs (refs_step hm) _ _ _ (roots_ids hm)
    obtain ⟨i, h1, h2⟩ := atL_mem hid
    have c1 := canon_at hm h2
    have c2 := canon_at hm2 (i := i) (x := id) (by rw [hord]; exact h2)
    rw [hc, c1] at c2
    injection c2 with c2
    rw [canO, canO, hobj, hoe, hord] at c2
    have c3 : leadV (atL (ordG g)) (fldsG g.1 o.2.1) o.2.2 = leadV (atL (ordG g)) (fldsG (setN g id (k : Int) v).1 o.2.1) (o.2.2.set k v) := congrArg (fun p : Ob => p.2.2) c2
    rw [show (setN g id (k : Int) v).1 = g.1 by rw [e]] at c3
    have a1 := leadV_at (atL (ordG g)) hf hv0
    have a2 := leadV_at (atL (ordG g)) hf (List.getElem?_set_self (l := o.2.2) (a := v) (List.getElem?_eq_some_iff.1 hv0).1)
    rw [c3, a2, if_neg h5, if_neg h5] at a1
    injection a1 with a1
    exact a1.symm
  · intro hv
    subst hv
    rw [e, set_same hv0, set_same ho]
/-- The roots that were met, up to a place. -/
def preR (g : Gr) (i : Nat) : List Int := (g.2.2.take i).foldl metL []
theorem preR_next {g : Gr} {i : Nat} {r : Int} (h : g.2.2[i]? = some r) : preR g (i + 1) = metL (preR g i) r := by
  have hl := (List.getElem?_eq_some_iff.1 h).1
  rw [preR, preR, List.take_add_one, h, List.foldl_append]
  rfl
theorem preR_nodup (g : Gr) (i : Nat) : (preR g i).Nodup := mets_nodup (by simp)
/-- Objects are met from the roots on. -/
theorem ordG_pre {g : Gr} (hm : mayG g = true) (i : Nat) : ∃ m, ordG g = preR g i ++ m := by
  rw [ordG_yes hm]
  obtain ⟨m1, h1⟩ := ordN_pre g 8 (g.2.2.foldl metL []) 0
  have h2 : g.2.2.foldl metL [] = (g.2.2.drop i).foldl metL (preR g i) := by
    conv => lhs; rw [← List.take_append_drop i g.2.2]
    rw [List.foldl_append]
    rfl
  obtain ⟨m2, h3⟩ := mets_pre (g.2.2.drop i) (preR g i)
  exact ⟨m2 ++ m1, by rw [h1, h2, h3, List.append_assoc]⟩
theorem root_neg {g : Gr} (hm : mayG g = true) {r : Int} (h0 : r < 0) : atL (ordG g) r = -1 := atL_none.2 fun e => by have := ordG_pos hm e; omega
/-- A root that was met stands among those that were. -/
theorem root_old {g : Gr} (hm : mayG g = true) {i : Nat} {r : Int} (hr : r ∈ preR g i) : ∃ j : Nat, atL (ordG g) r = (j : Int) ∧ j < (preR g i).length ∧ (ordG g)[j]? = some r := by
  obtain ⟨m, e⟩ := ordG_pre hm i
  obtain ⟨j, hj⟩ := List.getElem?_of_mem hr
  have hl := (List.getElem?_eq_some_iff.1 hj).1
  have h2 : (ordG g)[j]? = some r := by rw [e, List.getElem?_append_left hl]; exact hj
  exact ⟨j, atL_at (ordG_nodup hm) h2, hl, h2⟩
/-- One that was not is the next one. -/
theorem root_next {g : Gr} (hm : mayG g = true) {i : Nat} {r : Int} (hi : g.2.2[i]? = some r) (h0 : 0 ≤ r) (hr : r ∉ preR g i) : atL (ordG g) r = ((preR g i).length : Int) ∧ (ordG g)[(preR g i).length]? = some r ∧ (preR g (i + 1)).length = (preR g i).length + 1 := by
  have hn : preR g (i + 1) = preR g i ++ [r] := by rw [preR_next hi, metL, if_neg (fun e => e.elim (by omega) hr)]
  obtain ⟨m, e⟩ := ordG_pre hm (i + 1)
  have h2 : (ordG g)[(preR g i).length]? = some r := by
    rw [e, hn, List.append_assoc, List.getElem?_append_right (Nat.le_refl _), Nat.sub_self]
    rfl
  exact ⟨atL_at (ordG_nodup hm) h2, h2, by rw [hn]; simp⟩
theorem preR_same {g : Gr} {i : Nat} {r : Int} (hi : g.2.2[i]? = some r) (h : r < 0 ∨ r ∈ preR g i) : preR g (i + 1) = preR g i := by
  rw [preR_next hi, metL, if_pos h]
/-- A field of a Canon's object. -/
theorem canon_field {g : Gr} (hm : mayG g = true) {i : Nat} {x : Int} {o : Ob} {k : Nat} {f : Fld} {v : Vl} (hx : (ordG g)[i]? = some x) (ho : o ∈ g.2.1) (hox : o.1 = x) (hf : (fldsG g.1 o.2.1)[k]? = some f) (hv : o.2.2[k]? = some v) :
    ∃ p, (canonG g).2.1[i]? = some p ∧ p.1 = (i : Int) ∧ p.2.1 = o.2.1 ∧ p.2.2.length = o.2.2.length ∧ p.2.2[k]? = some (if f.2.1 = 5 then (v.1, v.2.1, atL (ordG g) v.2.2) else v) ∧
      (f.2.1 = 5 → 0 ≤ v.2.2 → ∃ j : Nat, atL (ordG g) v.2.2 = (j : Int) ∧ (ordG g)[j]? = some v.2.2) ∧ (f.2.1 = 5 → v.2.2 < 0 → atL (ordG g) v.2.2 = v.2.2) := by
  subst hox
  have hoo := obj_of hm ho
  refine ⟨_, canon_at hm hx, rfl, ?_, ?_, ?_, fun h5 h0 => ?_, fun h5 h0 => ?_⟩
  · rw [canO, hoo]
  · rw [canO, hoo]
    exact leadV_len _ _ _ (mayG_obj hm ho).len
  · rw [canO, hoo]
    exact leadV_at _ hf hv
  · refine atL_mem (ordG_shut hm o.1 (List.mem_of_getElem? hx) _ ?_ h0)
    rw [hoo]
    exact refsL_mem.2 ⟨k, f, v, hf, hv, h5, rfl⟩
  · rw [ref_neg hm ho hf hv h5 h0]
    exact root_neg hm (by omega)
end Go.Proofs.Yteafbdebmhpffaa

/- Objects that are met one by one, behind all that wait, are met in the document's order, on plain data; where they are. No condition. -/
namespace Go.Proofs.Yteafbdebmhpffaa

theorem q_drop {x : Int} {q l : List Int} (h : x < 0 ∨ x ∈ l) : (x :: q).foldl metL l = q.foldl metL l := by
  rw [List.foldl_cons, metL, if_pos h]
theorem q_end (g : Gr) (n : Nat) (l : List Int) : ordN g n l l.length = l := by
  cases n with
  | zero => rfl
  | succ n => rw [ordN, List.getElem?_eq_none (Nat.le_refl _)]
theorem q_take {g : Gr} {x : Int} {q l : List Int} (n : Nat) (h : ¬ (x < 0 ∨ x ∈ l)) :
    ordN g (n + 1) ((x :: q).foldl metL l) l.length = ordN g n ((q ++ refsL g.1 (objG g.2.1 x)).foldl metL (l ++ [x])) (l ++ [x]).length := by
  have e1 : (x :: q).foldl metL l = q.foldl metL (l ++ [x]) := by rw [List.foldl_cons, metL, if_neg h]
  rw [e1, List.foldl_append]
  obtain ⟨m, hm⟩ := mets_pre q (l ++ [x])
  have e2 : (q.foldl metL (l ++ [x]))[l.length]? = some x := by
    rw [hm, List.append_assoc, List.getElem?_append_right (Nat.le_refl _), Nat.sub_self]
    rfl
  rw [ordN, e2, List.length_append, List.length_singleton]
/-- What stands while objects are met: those that were (l), and the ids that wait (q). -/
structure Meets (g : Gr) (l q : List Int) : Prop where
  nd : l.Nodup
  ids : ∀ x ∈ l, IdG g x
  led : ∀ x ∈ q, x = -1 ∨ IdG g x
  ord : ∃ n, l.length + n = 8 ∧ ordG g = ordN g n (q.foldl metL l) l.length
theorem id_pos {g : Gr} (hm : mayG g = true) {x : Int} (h : IdG g x) : 0 ≤ x := by
  obtain ⟨o, ho, rfl⟩ := h
  exact (mayG_obj hm ho).id0
theorem refs_led {g : Gr} (hm : mayG g = true) {o : Ob} (ho : o ∈ g.2.1) : ∀ r ∈ refsL g.1 o, r = -1 ∨ IdG g r := by
  intro r hr
  by_cases h0 : 0 ≤ r
  · right
    have := refs_step hm o.1 ⟨o, ho, rfl⟩ r
    rw [obj_of hm ho] at this
    exact this hr h0
  · left
    obtain ⟨k, f, v, h1, h2, h3, rfl⟩ := refsL_mem.1 hr
    exact ref_neg hm ho h1 h2 h3 (by omega)
theorem roots_led {g : Gr} (hm : mayG g = true) : ∀ r ∈ g.2.2, r = -1 ∨ IdG g r := by
  intro r hr
  by_cases h0 : 0 ≤ r
  · exact .inr (root_id hm hr h0)
  · exact .inl (may_neg hm hr (by omega))
theorem Meets.start {g : Gr} (hm : mayG g = true) : Meets g [] g.2.2 := ⟨by simp, by simp, roots_led hm, 8, rfl, ordG_yes hm⟩
theorem Meets.few {g : Gr} {l q : List Int} (hm : mayG g = true) (h : Meets g l q) : l.length ≤ 8 := ids_few hm l h.nd h.ids
theorem Meets.skip {g : Gr} {l q : List Int} {x : Int} (h : Meets g l (x :: q)) (hx : x = -1 ∨ x ∈ l) : Meets g l q := by
  obtain ⟨n, h1, h2⟩ := h.ord
  rw [q_drop (by rcases hx with rfl | hx; exact .inl (by omega); exact .inr hx)] at h2
  exact ⟨h.nd, h.ids, fun y hy => h.led y (List.mem_cons_of_mem _ hy), n, h1, h2⟩
theorem Meets.met {g : Gr} {l q : List Int} {x : Int} (hm : mayG g = true) (h : Meets g l (x :: q)) (hx : ¬ (x = -1 ∨ x ∈ l)) : IdG g x ∧ l.length < 8 ∧ Meets g (l ++ [x]) (q ++ refsL g.1 (objG g.2.1 x)) := by
  obtain ⟨n, h1, h2⟩ := h.ord
  have hid : IdG g x := (h.led x (by simp)).resolve_left fun e => hx (.inl e)
  have h0 := id_pos hm hid
  have hn : ¬ (x < 0 ∨ x ∈ l) := by rintro (e | e); omega; exact hx (.inr e)
  have nd : (l ++ [x]).Nodup := by
    rw [List.nodup_append]
    refine ⟨h.nd, by simp, fun a ha b hb e => ?_⟩
    simp at hb
    subst hb
    subst e
    exact hx (.inr ha)
  have ids : ∀ y ∈ l ++ [x], IdG g y := fun y hy => by
    rcases List.mem_append.1 hy with e | e
    · exact h.ids y e
    · simp at e; subst e; exact hid
  have h8 := ids_few hm _ nd ids
  rw [List.length_append, List.length_singleton] at h8
  obtain ⟨o, ho, rfl⟩ := hid
  obtain ⟨k, rfl⟩ : ∃ k, n = k + 1 := ⟨n - 1, by omega⟩
  rw [q_take k hn] at h2
  refine ⟨⟨o, ho, rfl⟩, by omega, nd, ids, fun y hy => ?_, k, by simp; omega, h2⟩
  rcases List.mem_append.1 hy with e | e
  · exact h.led y (List.mem_cons_of_mem _ e)
  · rw [obj_of hm ho] at e
    exact refs_led hm ho y e
theorem Meets.done {g : Gr} {l : List Int} (h : Meets g l []) : ordG g = l := by
  obtain ⟨n, _, h2⟩ := h.ord
  rw [h2]
  exact q_end g n l
/-- Where ids are, with one more behind. -/
theorem atL_more {l : List Int} {x y : Int} (h : y ∈ l ∨ y ≠ x) : atL (l ++ [x]) y = atL l y := by
  by_cases hy : y ∈ l
  · obtain ⟨i, h1, h2⟩ := atL_mem hy
    obtain ⟨_, h4⟩ := (idxP_iff _ l i).1 h1
    rw [h1]
    refine (idxP_iff _ _ i).2 ⟨⟨y, ?_, by simp⟩, fun j b hj hb => h4 j b hj ?_⟩
    · rw [List.getElem?_append_left (List.getElem?_eq_some_iff.1 h2).1]; exact h2
    · have := (List.getElem?_eq_some_iff.1 h2).1
      rw [List.getElem?_append_left (by omega)] at hb
      exact hb
  · have hne := h.resolve_left hy
    rw [atL_none.2 hy, atL_none.2 (by simp [hy, hne])]
theorem atL_last {l : List Int} {x : Int} (h : x ∉ l) : atL (l ++ [x]) x = (l.length : Int) := by
  refine (idxP_iff _ _ _).2 ⟨⟨x, by simp, by simp⟩, fun j b hj hb => ?_⟩
  rw [List.getElem?_append_left hj] at hb
  refine decide_eq_false fun e => h ?_
  rw [← e]
  exact List.mem_of_getElem? hb
end Go.Proofs.Yteafbdebmhpffaa
