/- Reading a schema's text, as plain functions that go as the program does: cut at the first sign; what is read has the text, and each schema that may be is read of its text. Over no program. No condition. -/
import Derived.Test.YtomndfeifjiljaaDoorScPlain
namespace Go.Proofs.YtomndfeifjiljaaDoor

/-- What stands ahead of the first m, what behind it, and whether there is one. -/
def cutL (m : Nat) : List Nat → List Nat × List Nat × Bool
  | [] => ([], [], false)
  | c :: l => if c = m then ([], l, true) else (c :: (cutL m l).1, (cutL m l).2.1, (cutL m l).2.2)
theorem cutL_yes {m : Nat} : ∀ {a : List Nat} (b : List Nat), m ∉ a → cutL m (a ++ m :: b) = (a, b, true)
  | [], b, _ => by simp [cutL]
  | c :: a, b, h => by
    have hc : c ≠ m := fun e => h (by simp [e])
    rw [List.cons_append, cutL, if_neg hc, cutL_yes b (fun hm => h (by simp [hm]))]
theorem cutL_no {m : Nat} : ∀ {a : List Nat}, m ∉ a → cutL m a = (a, [], false)
  | [], _ => rfl
  | c :: a, h => by
    have hc : c ≠ m := fun e => h (by simp [e])
    rw [cutL, if_neg hc, cutL_no (fun hm => h (by simp [hm]))]
theorem cutL_back {m : Nat} : ∀ {l : List Nat}, (cutL m l).2.2 = true → l = (cutL m l).1 ++ m :: (cutL m l).2.1
  | [], h => by simp [cutL] at h
  | c :: l, h => by
    rw [cutL] at h ⊢
    by_cases hc : c = m
    · rw [if_pos hc]; simp [hc]
    · rw [if_neg hc] at h ⊢
      have := cutL_back (l := l) h
      simp only [List.cons_append, List.cons.injEq, true_and]
      exact this
theorem cutL_none {m : Nat} : ∀ {l : List Nat}, (cutL m l).2.2 = false → (cutL m l).1 = l ∧ (cutL m l).2.1 = []
  | [], _ => ⟨rfl, rfl⟩
  | c :: l, h => by
    rw [cutL] at h ⊢
    by_cases hc : c = m
    · rw [if_pos hc] at h; cases h
    · rw [if_neg hc] at h ⊢
      have := cutL_none (l := l) h
      exact ⟨by simp [this.1], this.2⟩
theorem cutL_len (m : Nat) (l : List Nat) : (cutL m l).1.length ≤ l.length ∧ (cutL m l).2.1.length ≤ l.length ∧ ((cutL m l).2.2 = true → (cutL m l).2.1.length < l.length) := by
  cases h : (cutL m l).2.2
  · obtain ⟨h1, h2⟩ := cutL_none h
    rw [h1, h2]; simp
  · have h1 := congrArg List.length (cutL_back h)
    rw [List.length_append, List.length_cons] at h1
    refine ⟨by omega, by omega, fun _ => by omega⟩

/-- The kinds from some on, of which a text begins by one's text. -/
def pKs : List Int → List Nat → Option (Int × List Nat)
  | [], _ => none
  | k :: ks, b => if (kindT k).isPrefixOf b = true then some (k, b.drop (kindT k).length) else pKs ks b
abbrev allK : List Int := [0, 1, 2, 3, 4, 5]
def pF (l : List Nat) : Option Fld := if (cutL 58 l).2.2 = true then (pKs allK (cutL 58 l).2.1).map (fun x => ((cutL 58 l).1, x.1, x.2)) else none
def pFs : Nat → List Nat → Option (List Fld)
  | 0, _ => none
  | n + 1, l => match pF (cutL 44 l).1 with
    | none => none
    | some f => if (cutL 44 l).2.2 = true then (pFs n (cutL 44 l).2.1).map (f :: ·) else some [f]
def readF (l : List Nat) : Option (List Fld) := if l = [] then some [] else pFs 5 l
def pT (l : List Nat) : Option (Typ × List Nat) :=
  if (cutL 123 l).2.2 = true ∧ (cutL 125 (cutL 123 l).2.1).2.2 = true then (readF (cutL 125 (cutL 123 l).2.1).1).map (fun fs => (((cutL 123 l).1, fs), (cutL 125 (cutL 123 l).2.1).2.1)) else none
def pTs : Nat → List Nat → Option Sch
  | 0, l => if l = [] then some [] else none
  | n + 1, l => if l = [] then some [] else match pT l with
    | none => none
    | some x => (pTs n x.2).map (x.1 :: ·)
def readS (l : List Nat) : Option Sch := match pTs 4 l with
  | none => none
  | some s => if mayS s = true then some s else none

theorem pKs_sound : ∀ {ks : List Int} {b : List Nat} {x : Int × List Nat}, pKs ks b = some x → x.1 ∈ ks ∧ kindT x.1 ++ x.2 = b
  | [], b, x, h => by cases h
  | k :: ks, b, x, h => by
    rw [pKs] at h
    by_cases hp : (kindT k).isPrefixOf b = true
    · rw [if_pos hp] at h
      injection h with h
      subst h
      obtain ⟨r, rfl⟩ := List.isPrefixOf_iff_prefix.1 hp
      exact ⟨by simp, by simp⟩
    · rw [if_neg hp] at h
      obtain ⟨h1, h2⟩ := pKs_sound h
      exact ⟨by simp [h1], h2⟩
theorem pKs_full {k : Int} (hk : 0 ≤ k ∧ k < 6) (a : List Nat) : pKs allK (kindT k ++ a) = some (k, a) := by
  have h6 : k = 0 ∨ k = 1 ∨ k = 2 ∨ k = 3 ∨ k = 4 ∨ k = 5 := by omega
  rcases h6 with rfl | rfl | rfl | rfl | rfl | rfl <;> simp [pKs, kindT]
theorem pF_sound {l : List Nat} {f : Fld} (h : pF l = some f) : fText f = l ∧ 0 ≤ f.2.1 ∧ f.2.1 < 6 := by
  rw [pF] at h
  by_cases hc : (cutL 58 l).2.2 = true
  · rw [if_pos hc, Option.map_eq_some_iff] at h
    obtain ⟨x, hx, rfl⟩ := h
    obtain ⟨h1, h2⟩ := pKs_sound hx
    refine ⟨?_, by simp at h1; show 0 ≤ x.1 ∧ x.1 < 6; omega⟩
    rw [fText]
    show (cutL 58 l).1 ++ 58 :: (kindT x.1 ++ x.2) = l
    rw [h2]
    exact (cutL_back hc).symm
  · rw [if_neg hc] at h; cases h
theorem pF_full {f : Fld} (h : goodF f) : pF (fText f) = some f := by
  have hc : cutL 58 (fText f) = (f.1, kindT f.2.1 ++ f.2.2, true) := cutL_yes _ (fun hm => (h.1.2 _ hm).2.1 rfl)
  rw [pF, hc, if_pos rfl, pKs_full h.2.1]
  rfl
theorem pFs_sound : ∀ {n : Nat} {l : List Nat} {fs : List Fld}, pFs n l = some fs → fs ≠ [] ∧ fs.length ≤ n ∧ fsText fs = l ∧ ∀ f ∈ fs, 0 ≤ f.2.1 ∧ f.2.1 < 6
  | 0, l, fs, h => by cases h
  | n + 1, l, fs, h => by
    rw [pFs] at h
    cases hf : pF (cutL 44 l).1 with
    | none => rw [hf] at h; cases h
    | some f =>
      rw [hf] at h
      obtain ⟨h1, h2⟩ := pF_sound hf
      by_cases hc : (cutL 44 l).2.2 = true
      · simp only [hc, if_true, Option.map_eq_some_iff] at h
        obtain ⟨r, hr, rfl⟩ := h
        obtain ⟨h3, h4, h5, h6⟩ := pFs_sound hr
        refine ⟨by simp, by simp; omega, ?_, fun g hg => ?_⟩
        · obtain ⟨g, r', rfl⟩ := List.exists_cons_of_ne_nil h3
          rw [fsText_two, h1, h5]
          exact (cutL_back hc).symm
        · rcases List.mem_cons.1 hg with rfl | hg
          · exact h2
          · exact h6 g hg
      · have hc' : (cutL 44 l).2.2 = false := by simpa using hc
        simp only [hc', Bool.false_eq_true, if_false] at h
        injection h with h
        subst h
        exact ⟨by simp, by simp, by rw [fsText_one, h1]; exact (cutL_none hc').1, fun g hg => by simp at hg; subst hg; exact h2⟩
theorem pFs_full : ∀ {n : Nat} {fs : List Fld}, fs ≠ [] → fs.length ≤ n → (∀ f ∈ fs, goodF f) → pFs n (fsText fs) = some fs
  | 0, fs, h, hl, _ => absurd (List.eq_nil_of_length_eq_zero (by omega)) h
  | n + 1, [], h, _, _ => absurd rfl h
  | n + 1, [f], _, _, hg => by
    have h1 := hg f (by simp)
    have hc : cutL 44 (fsText [f]) = (fText f, [], false) := cutL_no (fun hm => (fText_no h1 _ hm).1 rfl)
    rw [pFs, hc]
    simp only [pF_full h1]
    rfl
  | n + 1, f :: g :: r, _, hl, hg => by
    have h1 := hg f (by simp)
    have hc : cutL 44 (fsText (f :: g :: r)) = (fText f, fsText (g :: r), true) := by rw [fsText_two]; exact cutL_yes _ (fun hm => (fText_no h1 _ hm).1 rfl)
    have ih := pFs_full (n := n) (fs := g :: r) (by simp) (by simp at hl ⊢; omega) (fun x hx => hg x (List.mem_cons_of_mem _ hx))
    rw [pFs, hc]
    simp only [pF_full h1, ih]
    rfl
theorem readF_sound {l : List Nat} {fs : List Fld} (h : readF l = some fs) : fs.length ≤ 5 ∧ fsText fs = l ∧ ∀ f ∈ fs, 0 ≤ f.2.1 ∧ f.2.1 < 6 := by
  rw [readF] at h
  by_cases hl : l = []
  · rw [if_pos hl] at h
    injection h with h
    subst h hl
    exact ⟨by simp, rfl, by simp⟩
  · rw [if_neg hl] at h
    exact (pFs_sound h).2
theorem fsText_nil {fs : List Fld} (h : fs ≠ []) : fsText fs ≠ [] := by
  match fs, h with
  | [f], _ => exact fText_ne f
  | f :: g :: r, _ => rw [fsText_two]; simp
theorem readF_full {fs : List Fld} (hl : fs.length ≤ 5) (hg : ∀ f ∈ fs, goodF f) : readF (fsText fs) = some fs := by
  rw [readF]
  by_cases h : fs = []
  · subst h; rfl
  · rw [if_neg (fsText_nil h), pFs_full h hl hg]
theorem pT_sound {l : List Nat} {x : Typ × List Nat} (h : pT l = some x) : tText x.1 ++ x.2 = l := by
  rw [pT] at h
  by_cases hc : (cutL 123 l).2.2 = true ∧ (cutL 125 (cutL 123 l).2.1).2.2 = true
  · rw [if_pos hc, Option.map_eq_some_iff] at h
    obtain ⟨fs, hfs, rfl⟩ := h
    obtain ⟨_, h2, _⟩ := readF_sound hfs
    rw [tText]
    show ((cutL 123 l).1 ++ 123 :: (fsText fs ++ [125])) ++ (cutL 125 (cutL 123 l).2.1).2.1 = l
    rw [h2, List.append_assoc, List.cons_append, List.append_assoc, List.singleton_append, ← cutL_back hc.2, ← cutL_back hc.1]
  · rw [if_neg hc] at h; cases h
theorem pT_full {t : Typ} (h : goodT t) (hl : t.2.length ≤ 5) (r : List Nat) : pT (tText t ++ r) = some (t, r) := by
  have e : tText t ++ r = t.1 ++ 123 :: (fsText t.2 ++ 125 :: r) := by rw [tText, List.append_assoc, List.cons_append, List.append_assoc, List.singleton_append]
  have h1 : cutL 123 (tText t ++ r) = (t.1, fsText t.2 ++ 125 :: r, true) := by rw [e]; exact cutL_yes _ (fun hm => (h.1.2 _ hm).2.2.1 rfl)
  have h2 : cutL 125 (fsText t.2 ++ 125 :: r) = (fsText t.2, r, true) := cutL_yes _ (fun hm => (fsText_no h.2 _ hm).2 rfl)
  rw [pT, h1]
  simp only [h2, and_self, if_true, readF_full hl h.2]
  rfl
theorem pT_less {l : List Nat} {x : Typ × List Nat} (h : pT l = some x) : x.2.length < l.length := by
  rw [← pT_sound h, List.length_append, tText, List.length_append, List.length_cons]
  omega
theorem pTs_sound : ∀ {n : Nat} {l : List Nat} {s : Sch}, pTs n l = some s → sText s = l ∧ s.length ≤ n
  | 0, l, s, h => by
    rw [pTs] at h
    by_cases hl : l = []
    · rw [if_pos hl] at h
      injection h with h
      subst h hl
      exact ⟨rfl, Nat.le_refl _⟩
    · rw [if_neg hl] at h; cases h
  | n + 1, l, s, h => by
    rw [pTs] at h
    by_cases hl : l = []
    · rw [if_pos hl] at h
      injection h with h
      subst h hl
      exact ⟨rfl, Nat.zero_le _⟩
    · rw [if_neg hl] at h
      cases ht : pT l with
      | none => rw [ht] at h; cases h
      | some x =>
        rw [ht] at h
        simp only [Option.map_eq_some_iff] at h
        obtain ⟨r, hr, rfl⟩ := h
        obtain ⟨h1, h2⟩ := pTs_sound hr
        exact ⟨by rw [sText, h1, pT_sound ht], by simp; omega⟩
theorem pTs_full : ∀ {n : Nat} {s : Sch}, goodS s → s.length ≤ n → (∀ t ∈ s, t.2.length ≤ 5) → pTs n (sText s) = some s
  | 0, [], _, _, _ => rfl
  | 0, t :: s, _, h, _ => by simp at h
  | n + 1, [], _, _, _ => rfl
  | n + 1, t :: s, hg, hl, hf => by
    have ih := pTs_full (n := n) (s := s) (fun x hx => hg x (by simp [hx])) (by simp at hl; omega) (fun x hx => hf x (by simp [hx]))
    rw [pTs, if_neg (sText_ne (by simp)), sText, pT_full (hg t (by simp)) (hf t (by simp))]
    simp only [ih]
    rfl
theorem readS_iff (l : List Nat) (s : Sch) : readS l = some s ↔ mayS s = true ∧ sText s = l := by
  constructor
  · intro h
    rw [readS] at h
    cases hp : pTs 4 l with
    | none => rw [hp] at h; cases h
    | some r =>
      rw [hp] at h
      by_cases hm : mayS r = true
      · simp only [hm, if_true] at h
        injection h with h
        subst h
        exact ⟨hm, (pTs_sound hp).1⟩
      · simp only [hm] at h; cases h
  · rintro ⟨hm, rfl⟩
    obtain ⟨hl, h2⟩ := (mayS_iff s).1 hm
    have := pTs_full (n := 4) (mayS_good hm) hl.2 fun t ht => by
      obtain ⟨i, hi⟩ := List.getElem?_of_mem ht
      exact ((mayT_iff s i t).1 (h2 i t hi)).2.2.1
    rw [readS, this]
    simp only [hm, if_true]
theorem readS_none {l : List Nat} (h : readS l = none) (s : Sch) (hs : mayS s = true) : sText s ≠ l := fun e => by
  rw [(readS_iff l s).2 ⟨hs, e⟩] at h; cases h
theorem readS_text (s : Sch) : readS (textS s) = if mayS s = true then some s else none := by
  by_cases h : mayS s = true
  · rw [if_pos h, textS_may h]
    exact (readS_iff _ _).2 ⟨h, rfl⟩
  · have h' : mayS s = false := by simpa using h
    rw [if_neg h, textS_not h']
    rfl
end Go.Proofs.YtomndfeifjiljaaDoor
