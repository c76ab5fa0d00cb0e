/- What the document's own Read has of a text at each step, as plain facts: each schema that may be, and has the text, is what was read so far, and the rest. Over no program. No condition. -/
import Derived.Test.YtomndfeifjiljaaDoorScParse
import Derived.Test.YtomndfeifjiljaaDoorScRef3
namespace Go.Proofs.YtomndfeifjiljaaDoor

def Whole (l : List Nat) (x : Sch) : Prop := mayS x = true ∧ sText x = l
def OI (l : List Nat) (pre : Sch) (rest : List Nat) : Prop := ∀ x, Whole l x → ∃ suf, x = pre ++ suf ∧ sText suf = rest
def RestIs (gs : List Fld) (suf : Sch) (rest : List Nat) : Prop :=
  (gs = [] ∧ rest = 125 :: sText suf) ∨ rest = 123 :: (fsText gs ++ 125 :: sText suf) ∨ (gs ≠ [] ∧ rest = 44 :: (fsText gs ++ 125 :: sText suf))
def II (l : List Nat) (pre : Sch) (nm : List Nat) (fs : List Fld) (rest : List Nat) : Prop :=
  ∀ x, Whole l x → ∃ t suf gs, x = pre ++ t :: suf ∧ t.1 = nm ∧ t.2 = fs ++ gs ∧ RestIs gs suf rest

theorem oi_start (l : List Nat) : OI l [] l := fun x h => ⟨x, rfl, h.2⟩
theorem whole_good {l : List Nat} {x pre suf : Sch} {t : Typ} (h : Whole l x) (e : x = pre ++ t :: suf) : goodT t ∧ t.2.length ≤ 5 := by
  have hm : t ∈ x := by rw [e]; simp
  refine ⟨mayS_good h.1 t hm, ?_⟩
  obtain ⟨i, hi⟩ := List.getElem?_of_mem hm
  exact ((mayT_iff x i t).1 (((mayS_iff x).1 h.1).2 i t hi)).2.2.1
theorem ii_start {l : List Nat} {pre : Sch} {rest : List Nat} (h : OI l pre rest) (hr : rest ≠ []) : II l pre (uptoL [123] rest).1 [] (uptoL [123] rest).2 := fun x hx => by
  obtain ⟨suf, e, hs⟩ := h x hx
  cases suf with
  | nil => exact absurd hs.symm hr
  | cons t suf =>
    obtain ⟨hg, _⟩ := whole_good hx e
    have h1 : rest = t.1 ++ 123 :: (fsText t.2 ++ 125 :: sText suf) := by rw [← hs, sText, tText, List.append_assoc, List.cons_append, List.append_assoc, List.singleton_append]
    have h2 : uptoL [123] rest = (t.1, 123 :: (fsText t.2 ++ 125 :: sText suf)) := by
      rw [h1]
      exact uptoL_yes (by simp) _ fun y hy => by simpa using (hg.1.2 y hy).2.2.1
    rw [h2]
    exact ⟨t, suf, t.2, e, rfl, rfl, .inr (.inl rfl)⟩
theorem fsText_head {gs : List Fld} (hg : ∀ f ∈ gs, goodF f) (h : gs ≠ []) : ∃ c r, fsText gs = c :: r ∧ c ≠ 125 := by
  match gs, h with
  | f :: r, _ =>
    have h1 := hg f (by simp)
    obtain ⟨c, q, hq⟩ := List.exists_cons_of_ne_nil h1.1.1
    have hc := (h1.1.2 c (by rw [hq]; simp)).2.2.2
    cases r with
    | nil => exact ⟨c, q ++ 58 :: (kindT f.2.1 ++ f.2.2), by rw [fsText_one, fText, hq]; rfl, hc⟩
    | cons g r => exact ⟨c, q ++ 58 :: (kindT f.2.1 ++ f.2.2) ++ 44 :: fsText (g :: r), by rw [fsText_two, fText, hq]; rfl, hc⟩
theorem ii_none {l : List Nat} {pre : Sch} {nm : List Nat} {fs : List Fld} {r : List Nat} (h : II l pre nm fs (123 :: 125 :: r)) : II l pre nm fs (125 :: r) := fun x hx => by
  obtain ⟨t, suf, gs, e, h1, h2, h3⟩ := h x hx
  obtain ⟨hg, _⟩ := whole_good hx e
  refine ⟨t, suf, gs, e, h1, h2, ?_⟩
  rcases h3 with ⟨_, h3⟩ | h3 | ⟨_, h3⟩
  · simp at h3
  · simp only [List.cons.injEq, true_and] at h3
    by_cases hgs : gs = []
    · subst hgs
      simp [fsText] at h3
      exact .inl ⟨rfl, by rw [h3]⟩
    · obtain ⟨c, q, hq, hc⟩ := fsText_head (fun f hf => hg.2 f (by rw [h2]; simp [hf])) hgs
      rw [hq] at h3
      simp at h3
      exact absurd h3.1.symm hc
  · simp at h3
/-- The field that the document's own Read sees. -/
def seenF (r : List Nat) : Fld := ((uptoL [58] r).1, fieldK ((uptoL [44, 125] (uptoL [58] r).2).1.drop 1))
def seenR (r : List Nat) : List Nat := (uptoL [44, 125] (uptoL [58] r).2).2
theorem seen_good {g : Fld} (hg : goodF g) {c : Nat} {q : List Nat} (hc : c = 44 ∨ c = 125) : seenF (fText g ++ c :: q) = g ∧ seenR (fText g ++ c :: q) = c :: q := by
  have h1 : uptoL [58] (fText g ++ c :: q) = (g.1, 58 :: (kindT g.2.1 ++ g.2.2) ++ c :: q) := by
    rw [fText, List.append_assoc]
    exact uptoL_yes (by simp) _ fun y hy => by simpa using (hg.1.2 y hy).2.1
  have h2 : uptoL [44, 125] (58 :: (kindT g.2.1 ++ g.2.2) ++ c :: q) = (58 :: (kindT g.2.1 ++ g.2.2), c :: q) := by
    refine uptoL_yes (by simpa using hc) _ fun y hy => ?_
    have : y ≠ 44 ∧ y ≠ 125 := by
      rw [List.mem_cons, List.mem_append] at hy
      rcases hy with rfl | hy | hy
      · omega
      · have := kindT_no _ y hy; omega
      · have := goodF_to hg y hy; omega
    simpa using this
  rw [seenF, seenR, h1]
  simp only [h2, List.drop_succ_cons, List.drop_zero]
  rw [fieldK_full hg.2.1 hg.2.2.2]
  exact ⟨rfl, trivial⟩
theorem ii_field {l : List Nat} {pre : Sch} {nm : List Nat} {fs : List Fld} {c : Nat} {r : List Nat} (h : II l pre nm fs (c :: r)) (hc : c ≠ 125) (hr : ¬ (c = 123 ∧ r.getD 0 0 = 125)) : II l pre nm (fs ++ [seenF r]) (seenR r) := fun x hx => by
  obtain ⟨t, suf, gs, e, h1, h2, h3⟩ := h x hx
  obtain ⟨hg, _⟩ := whole_good hx e
  have h4 : gs ≠ [] ∧ r = fsText gs ++ 125 :: sText suf := by
    rcases h3 with ⟨_, h3⟩ | h3 | ⟨h4, h3⟩
    · simp at h3; exact absurd h3.1 hc
    · simp only [List.cons.injEq] at h3
      refine ⟨fun e => hr ⟨h3.1, ?_⟩, h3.2⟩
      rw [h3.2, e]; rfl
    · simp only [List.cons.injEq] at h3
      exact ⟨h4, h3.2⟩
  obtain ⟨g, gs', rfl⟩ := List.exists_cons_of_ne_nil h4.1
  have hgg := hg.2 g (by rw [h2]; simp)
  cases gs' with
  | nil =>
    rw [fsText_one] at h4
    obtain ⟨s1, s2⟩ := seen_good hgg (c := 125) (q := sText suf) (.inr rfl)
    rw [← h4.2] at s1 s2
    exact ⟨t, suf, [], e, h1, by rw [h2, s1]; simp, .inl ⟨rfl, s2⟩⟩
  | cons g' gs' =>
    rw [fsText_two, List.append_assoc, List.cons_append] at h4
    obtain ⟨s1, s2⟩ := seen_good hgg (c := 44) (q := fsText (g' :: gs') ++ 125 :: sText suf) (.inl rfl)
    rw [← h4.2] at s1 s2
    exact ⟨t, suf, g' :: gs', e, h1, by rw [h2, s1]; simp, .inr (.inr ⟨by simp, s2⟩)⟩
theorem ii_end {l : List Nat} {pre : Sch} {nm : List Nat} {fs : List Fld} {rest : List Nat} (h : II l pre nm fs rest) (hend : rest.length ≤ 1 ∨ rest.getD 0 0 = 125 ∨ 5 < fs.length) : OI l (pre ++ [(nm, fs)]) (rest.drop 1) := fun x hx => by
  obtain ⟨t, suf, gs, e, h1, h2, h3⟩ := h x hx
  obtain ⟨_, hl⟩ := whole_good hx e
  have h4 : gs = [] ∧ rest = 125 :: sText suf := by
    have hlen : ∀ c : Nat, c ≠ 125 → rest = c :: (fsText gs ++ 125 :: sText suf) → False := fun c hc he => by
      rcases hend with h5 | h5 | h5
      · rw [he] at h5; simp at h5
      · rw [he] at h5; exact hc h5
      · rw [h2, List.length_append] at hl; omega
    rcases h3 with h3 | h3 | ⟨_, h3⟩
    · exact h3
    · exact absurd h3 (hlen 123 (by omega))
    · exact absurd h3 (hlen 44 (by omega))
  obtain ⟨rfl, rfl⟩ := h4
  refine ⟨suf, ?_, rfl⟩
  have ht : t = (nm, fs) := Prod.ext h1 (by rw [h2]; simp)
  rw [e, ht, List.append_assoc]
  rfl
theorem oi_end {l : List Nat} {pre : Sch} {rest : List Nat} (h : OI l pre rest) (hend : rest = [] ∨ 4 < pre.length) (x : Sch) (hx : Whole l x) : x = pre := by
  obtain ⟨suf, e, hs⟩ := h x hx
  rcases hend with rfl | h5
  · cases suf with
    | nil => rw [e, List.append_nil]
    | cons t suf => exact absurd hs (sText_ne (by simp))
  · have := ((mayS_iff x).1 hx.1).1.2
    rw [e, List.length_append] at this
    omega
theorem read_guess {l : List Nat} {pre : Sch} (h : ∀ x, Whole l x → x = pre) : readS l = if mayS pre = true ∧ textS pre = l then some pre else none := by
  by_cases hp : mayS pre = true ∧ textS pre = l
  · rw [if_pos hp]
    exact (readS_iff _ _).2 ⟨hp.1, by rw [← textS_may hp.1]; exact hp.2⟩
  · rw [if_neg hp]
    cases hr : readS l with
    | none => rfl
    | some x =>
      obtain ⟨h1, h2⟩ := (readS_iff _ _).1 hr
      obtain rfl := h x ⟨h1, h2⟩
      exact absurd ⟨h1, by rw [textS_may h1]; exact h2⟩ hp
theorem seen_len (r : List Nat) : (seenF r).1.length ≤ r.length ∧ (seenF r).2.2.length ≤ r.length ∧ (seenR r).length ≤ r.length := by
  have a := uptoL_len [58] r
  have b := uptoL_len [44, 125] (uptoL [58] r).2
  have c := (fieldK_small ((uptoL [44, 125] (uptoL [58] r).2).1.drop 1)).2.2
  rw [List.length_drop] at c
  refine ⟨a.1, ?_, ?_⟩
  · show (fieldK _).2.length ≤ _; omega
  · show (uptoL _ _).2.length ≤ _; omega
end Go.Proofs.YtomndfeifjiljaaDoor
