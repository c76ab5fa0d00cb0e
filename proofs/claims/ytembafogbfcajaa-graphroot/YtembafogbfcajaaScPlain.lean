/- Schemas as plain data: names are bytes. Whether one may be, its text, and that texts tell schemas apart. Over no program. No condition. -/
import Derived.Test.YtembafogbfcajaaNaNames
namespace Go.Proofs.Ytembafogbfcajaa

/-- A field: its name, its kind, where it leads. -/
abbrev Fld := List Nat × Int × List Nat
abbrev Typ := List Nat × List Fld
abbrev Sch := List Typ

/-- The first place where p holds; -1, if there is none. -/
def idxP {α : Type} (p : α → Bool) : List α → Int
  | [] => -1
  | a :: l => if p a = true then 0 else if idxP p l < 0 then -1 else idxP p l + 1
theorem idxP_low {α : Type} (p : α → Bool) : ∀ l : List α, -1 ≤ idxP p l
  | [] => by simp [idxP]
  | a :: l => by
    have := idxP_low p l
    rw [idxP]
    split
    · omega
    · split <;> omega
theorem idxP_iff {α : Type} (p : α → Bool) : ∀ (l : List α) (i : Nat), idxP p l = (i : Int) ↔ (∃ a, l[i]? = some a ∧ p a = true) ∧ ∀ j b, j < i → l[j]? = some b → p b = false
  | [], i => by simp [idxP]
  | a :: l, i => by
    rw [idxP]
    have hlow := idxP_low p l
    by_cases h : p a = true
    · rw [if_pos h]
      constructor
      · intro e
        obtain rfl : i = 0 := by omega
        exact ⟨⟨a, rfl, h⟩, fun j b hj => by omega⟩
      · rintro ⟨_, h2⟩
        by_cases hi : i = 0
        · subst hi; rfl
        · have := h2 0 a (by omega) rfl
          rw [this] at h; cases h
    · rw [if_neg h]
      have hf : p a = false := by simpa using h
      have ih := idxP_iff p l
      by_cases hn : idxP p l < 0
      · rw [if_pos hn]
        constructor
        · intro e; omega
        · rintro ⟨⟨b, hb, hpb⟩, h2⟩
          cases i with
          | zero => simp at hb; subst hb; rw [hpb] at hf; cases hf
          | succ i =>
            have := (ih i).2 ⟨⟨b, by simpa using hb, hpb⟩, fun j c hj hc => h2 (j + 1) c (by omega) (by simpa using hc)⟩
            omega
      · rw [if_neg hn]
        cases i with
        | zero =>
          constructor
          · intro e; omega
          · rintro ⟨⟨b, hb, hpb⟩, _⟩
            simp at hb; subst hb; rw [hpb] at hf; cases hf
        | succ i =>
          have := ih i
          constructor
          · intro e
            obtain ⟨⟨b, hb, hpb⟩, h2⟩ := this.1 (by omega)
            refine ⟨⟨b, by simpa using hb, hpb⟩, fun j c hj hc => ?_⟩
            cases j with
            | zero => simp at hc; subst hc; exact hf
            | succ j => exact h2 j c (by omega) (by simpa using hc)
          · rintro ⟨⟨b, hb, hpb⟩, h2⟩
            have := this.2 ⟨⟨b, by simpa using hb, hpb⟩, fun j c hj hc => h2 (j + 1) c (by omega) (by simpa using hc)⟩
            omega
theorem idxP_none {α : Type} (p : α → Bool) : ∀ (l : List α), idxP p l = -1 ↔ ∀ a ∈ l, p a = false
  | [] => by simp [idxP]
  | a :: l => by
    have hlow := idxP_low p l
    have ih := idxP_none p l
    rw [idxP]
    by_cases h : p a = true
    · rw [if_pos h]
      constructor
      · intro e; omega
      · intro h2; have := h2 a (by simp); rw [this] at h; cases h
    · rw [if_neg h]
      by_cases hn : idxP p l < 0
      · rw [if_pos hn]
        have := ih.1 (by omega)
        simp only [true_iff, List.mem_cons]
        rintro b (rfl | hb)
        · simpa using h
        · exact this b hb
      · rw [if_neg hn]
        constructor
        · intro e; omega
        · intro h2
          have := ih.2 fun b hb => h2 b (by simp [hb])
          omega
theorem idxP_ge {α : Type} (p : α → Bool) (l : List α) : 0 ≤ idxP p l ↔ ∃ a ∈ l, p a = true := by
  have h := idxP_none p l
  have hl := idxP_low p l
  constructor
  · intro h0
    apply Classical.byContradiction
    intro hn
    have := h.2 fun a ha => by
      cases hp : p a
      · rfl
      · exact absurd ⟨a, ha, hp⟩ hn
    omega
  · rintro ⟨a, ha, hp⟩
    apply Classical.byContradiction
    intro hn
    have := h.1 (by omega) a ha
    rw [this] at hp; cases hp
theorem idxP_lt {α : Type} (p : α → Bool) (l : List α) : idxP p l < (l.length : Int) := by
  by_cases h : 0 ≤ idxP p l
  · obtain ⟨i, hi⟩ := Int.eq_ofNat_of_zero_le h
    obtain ⟨⟨a, ha, _⟩, _⟩ := (idxP_iff p l i).1 hi
    have := (List.getElem?_eq_some_iff.1 ha).1
    omega
  · omega

def findS (s : Sch) (n : List Nat) : Int := idxP (fun t => decide (t.1 = n)) s
def fieldS (f : List Fld) (n : List Nat) : Int := idxP (fun x => decide (x.1 = n)) f
def leadS (s : Sch) (f : Fld) : Bool := if f.2.1 = 5 then decide (0 ≤ findS s f.2.2) else decide (0 ≤ f.2.1) && decide (f.2.1 < 6) && decide (f.2.2 = [])
/-- May the field at place i be? -/
def mayF (s : Sch) (fs : List Fld) (i : Nat) (f : Fld) : Bool := mayN f.1 && decide (fieldS fs f.1 = (i : Int)) && leadS s f
/-- All of a list, by place. -/
def allI {α : Type} (p : Nat → α → Bool) : Nat → List α → Bool
  | _, [] => true
  | i, a :: l => p i a && allI p (i + 1) l
theorem allI_iff {α : Type} (p : Nat → α → Bool) : ∀ (l : List α) (i : Nat), allI p i l = true ↔ ∀ j a, l[j]? = some a → p (i + j) a = true
  | [], i => by simp [allI]
  | a :: l, i => by
    rw [allI, Bool.and_eq_true, allI_iff p l]
    constructor
    · rintro ⟨h1, h2⟩ j b hb
      cases j with
      | zero => simp at hb; subst hb; exact h1
      | succ j => have := h2 j b (by simpa using hb); rwa [show i + (j + 1) = i + 1 + j by omega]
    · intro h
      refine ⟨h 0 a rfl, fun j b hb => ?_⟩
      have := h (j + 1) b (by simpa using hb)
      rwa [show i + 1 + j = i + (j + 1) by omega]
def mayFs (s : Sch) (fs : List Fld) : Bool := decide (fs.length ≤ 5) && allI (mayF s fs) 0 fs
def mayT (s : Sch) (i : Nat) (t : Typ) : Bool := mayN t.1 && decide (findS s t.1 = (i : Int)) && mayFs s t.2
def mayS (s : Sch) : Bool := decide (1 ≤ s.length) && decide (s.length ≤ 4) && allI (mayT s) 0 s

def kindT (k : Int) : List Nat := if k = 0 then [105, 56] else if k = 1 then [105, 49, 54] else if k = 2 then [105, 51, 50] else if k = 3 then [105, 54, 52] else if k = 4 then [116] else [42]
def fText (f : Fld) : List Nat := f.1 ++ 58 :: (kindT f.2.1 ++ f.2.2)
def fsText : List Fld → List Nat
  | [] => []
  | f :: r => match r with
    | [] => fText f
    | _ :: _ => fText f ++ 44 :: fsText r
def tText (t : Typ) : List Nat := t.1 ++ 123 :: (fsText t.2 ++ [125])
def sText : Sch → List Nat
  | [] => []
  | t :: s => tText t ++ sText s
def textS (s : Sch) : List Nat := if mayS s = true then sText s else []
theorem sText_append (a b : Sch) : sText (a ++ b) = sText a ++ sText b := by
  induction a with
  | nil => rfl
  | cons t a ih => rw [List.cons_append, sText, ih, sText, List.append_assoc]
theorem fsText_one (f : Fld) : fsText [f] = fText f := rfl
theorem fsText_two (f g : Fld) (r : List Fld) : fsText (f :: g :: r) = fText f ++ 44 :: fsText (g :: r) := rfl
theorem fsText_snoc : ∀ (l : List Fld) (f : Fld), l ≠ [] → fsText (l ++ [f]) = fsText l ++ 44 :: fText f
  | [], _, h => absurd rfl h
  | [g], f, _ => rfl
  | g :: g' :: r, f, _ => by
    have ih := fsText_snoc (g' :: r) f (by simp)
    rw [List.cons_append] at ih
    rw [List.cons_append, List.cons_append, fsText_two, ih, fsText_two, List.append_assoc]
    rfl

/-- What can be read at all: signs of the text stand in no name, kinds are there, names are not empty. -/
def okB (n : List Nat) : Prop := n ≠ [] ∧ ∀ c ∈ n, c ≠ 44 ∧ c ≠ 58 ∧ c ≠ 123 ∧ c ≠ 125
def goodF (f : Fld) : Prop := okB f.1 ∧ (0 ≤ f.2.1 ∧ f.2.1 < 6) ∧ (f.2.1 = 5 → okB f.2.2) ∧ (f.2.1 ≠ 5 → f.2.2 = [])
def goodT (t : Typ) : Prop := okB t.1 ∧ ∀ f ∈ t.2, goodF f
def goodS (s : Sch) : Prop := ∀ t ∈ s, goodT t
theorem may_okB {n : List Nat} (h : mayN n = true) : okB n := by
  refine ⟨may_ne h, fun c hc => ?_⟩
  by_cases hl : c < 128
  · have := may_low h hc hl
    simp only [okS, letS, digS, Bool.or_eq_true, Bool.and_eq_true, decide_eq_true_eq] at this
    omega
  · omega
theorem mayS_iff (s : Sch) : mayS s = true ↔ (1 ≤ s.length ∧ s.length ≤ 4) ∧ ∀ i t, s[i]? = some t → mayT s i t = true := by
  rw [mayS, Bool.and_eq_true, Bool.and_eq_true, decide_eq_true_iff, decide_eq_true_iff, allI_iff]
  simp only [Nat.zero_add]
theorem mayT_iff (s : Sch) (i : Nat) (t : Typ) : mayT s i t = true ↔ mayN t.1 = true ∧ findS s t.1 = (i : Int) ∧ t.2.length ≤ 5 ∧ ∀ j f, t.2[j]? = some f → mayF s t.2 j f = true := by
  rw [mayT, Bool.and_eq_true, Bool.and_eq_true, decide_eq_true_iff, mayFs, Bool.and_eq_true, decide_eq_true_iff, allI_iff]
  simp only [Nat.zero_add, and_assoc]
theorem mayF_iff (s : Sch) (fs : List Fld) (i : Nat) (f : Fld) : mayF s fs i f = true ↔ mayN f.1 = true ∧ fieldS fs f.1 = (i : Int) ∧ leadS s f = true := by
  rw [mayF, Bool.and_eq_true, Bool.and_eq_true, decide_eq_true_iff, and_assoc]
theorem findS_some {s : Sch} {n : List Nat} (h : 0 ≤ findS s n) : ∃ t ∈ s, t.1 = n := by
  obtain ⟨t, ht, hp⟩ := (idxP_ge _ s).1 h
  exact ⟨t, ht, by simpa using hp⟩
theorem findS_ge {s : Sch} {n : List Nat} {t : Typ} (ht : t ∈ s) (hn : t.1 = n) : 0 ≤ findS s n := (idxP_ge _ s).2 ⟨t, ht, by simpa using hn⟩
theorem mayS_good {s : Sch} (h : mayS s = true) : goodS s := by
  obtain ⟨_, h2⟩ := (mayS_iff s).1 h
  have hn : ∀ t ∈ s, mayN t.1 = true := fun t ht => by
    obtain ⟨i, hi⟩ := List.getElem?_of_mem ht
    exact ((mayT_iff s i t).1 (h2 i t hi)).1
  intro t ht
  obtain ⟨i, hi⟩ := List.getElem?_of_mem ht
  obtain ⟨h3, _, _, h4⟩ := (mayT_iff s i t).1 (h2 i t hi)
  refine ⟨may_okB h3, fun f hf => ?_⟩
  obtain ⟨j, hj⟩ := List.getElem?_of_mem hf
  obtain ⟨h5, _, h6⟩ := (mayF_iff s t.2 j f).1 (h4 j f hj)
  rw [leadS] at h6
  by_cases hk : f.2.1 = 5
  · rw [if_pos hk, decide_eq_true_iff] at h6
    obtain ⟨t', ht', hn'⟩ := findS_some h6
    exact ⟨may_okB h5, by omega, fun _ => by rw [← hn']; exact may_okB (hn t' ht'), fun h => absurd hk h⟩
  · rw [if_neg hk, Bool.and_eq_true, Bool.and_eq_true, decide_eq_true_iff, decide_eq_true_iff, decide_eq_true_iff] at h6
    exact ⟨may_okB h5, h6.1, fun h => absurd h hk, fun _ => h6.2⟩
theorem mayS_ne {s : Sch} (h : mayS s = true) : s ≠ [] := by
  rintro rfl
  cases h

/-- What stands ahead of the first m, and behind it, tell each other. -/
theorem cut_eq {m : Nat} : ∀ {a a' b b' : List Nat}, m ∉ a → m ∉ a' → a ++ m :: b = a' ++ m :: b' → a = a' ∧ b = b'
  | [], [], _, _, _, _, h => by simp at h; exact ⟨rfl, h⟩
  | [], c :: a', _, _, _, h', h => by simp at h; exact absurd h.1 (fun e => h' (by simp [e]))
  | c :: a, [], _, _, h', _, h => by simp at h; exact absurd h.1.symm (fun e => h' (by simp [e]))
  | c :: a, c' :: a', b, b', h1, h2, h => by
    simp at h
    obtain ⟨rfl, h⟩ := h
    obtain ⟨rfl, rfl⟩ := cut_eq (fun hm => h1 (by simp [hm])) (fun hm => h2 (by simp [hm])) h
    exact ⟨rfl, rfl⟩
theorem kindT_inj {k k' : Int} {a a' : List Nat} (hk : 0 ≤ k ∧ k < 6) (hk' : 0 ≤ k' ∧ k' < 6) (h : kindT k ++ a = kindT k' ++ a') : k = k' ∧ a = a' := by
  have h6 : ∀ k : Int, 0 ≤ k ∧ k < 6 → k = 0 ∨ k = 1 ∨ k = 2 ∨ k = 3 ∨ k = 4 ∨ k = 5 := fun k hk => by omega
  rcases h6 k hk with rfl | rfl | rfl | rfl | rfl | rfl <;> rcases h6 k' hk' with rfl | rfl | rfl | rfl | rfl | rfl <;> simp [kindT] at h ⊢ <;> exact h
theorem kindT_no (k : Int) : ∀ c ∈ kindT k, c ≠ 44 ∧ c ≠ 58 ∧ c ≠ 123 ∧ c ≠ 125 := by
  intro c hc
  unfold kindT at hc
  (repeat' split at hc) <;> simp at hc <;> omega
theorem goodF_to {f : Fld} (h : goodF f) : ∀ c ∈ f.2.2, c ≠ 44 ∧ c ≠ 58 ∧ c ≠ 123 ∧ c ≠ 125 := by
  by_cases hk : f.2.1 = 5
  · exact (h.2.2.1 hk).2
  · rw [h.2.2.2 hk]; simp
theorem fText_no {f : Fld} (h : goodF f) : ∀ c ∈ fText f, c ≠ 44 ∧ c ≠ 123 ∧ c ≠ 125 := by
  intro c hc
  rw [fText, List.mem_append, List.mem_cons, List.mem_append] at hc
  rcases hc with hc | hc | hc | hc
  · have := h.1.2 c hc; omega
  · omega
  · have := kindT_no _ c hc; omega
  · have := goodF_to h c hc; omega
theorem fText_ne (f : Fld) : fText f ≠ [] := by rw [fText]; simp
theorem fText_inj {f g : Fld} (hf : goodF f) (hg : goodF g) (h : fText f = fText g) : f = g := by
  obtain ⟨h1, h2⟩ := cut_eq (fun hm => (hf.1.2 _ hm).2.1 rfl) (fun hm => (hg.1.2 _ hm).2.1 rfl) h
  obtain ⟨h3, h4⟩ := kindT_inj hf.2.1 hg.2.1 h2
  exact Prod.ext h1 (Prod.ext h3 h4)
theorem fsText_no : ∀ {l : List Fld}, (∀ f ∈ l, goodF f) → ∀ c ∈ fsText l, c ≠ 123 ∧ c ≠ 125
  | [], _, c, hc => by simp [fsText] at hc
  | [f], h, c, hc => (fText_no (h f (by simp)) c hc).2
  | f :: g :: r, h, c, hc => by
    rw [fsText_two, List.mem_append, List.mem_cons] at hc
    rcases hc with hc | hc | hc
    · exact (fText_no (h f (by simp)) c hc).2
    · omega
    · exact fsText_no (fun x hx => h x (by simp at hx ⊢; right; exact hx)) c hc
theorem fsText_inj : ∀ {l m : List Fld}, (∀ f ∈ l, goodF f) → (∀ f ∈ m, goodF f) → fsText l = fsText m → l = m
  | [], [], _, _, _ => rfl
  | [], [g], _, _, h => absurd h.symm (fText_ne g)
  | [], g :: g' :: r, _, _, h => by simp [fsText] at h
  | [f], [], _, _, h => absurd h (fText_ne f)
  | f :: f' :: r, [], _, _, h => by simp [fsText] at h
  | [f], [g], h1, h2, h => by rw [fText_inj (h1 f (by simp)) (h2 g (by simp)) h]
  | [f], g :: g' :: r, h1, h2, h => by
    rw [fsText_one, fsText_two] at h
    exact absurd rfl (fText_no (h1 f (by simp)) 44 (by rw [h]; simp)).1
  | f :: f' :: r, [g], h1, h2, h => by
    rw [fsText_one, fsText_two] at h
    exact absurd rfl (fText_no (h2 g (by simp)) 44 (by rw [← h]; simp)).1
  | f :: f' :: r, g :: g' :: q, h1, h2, h => by
    rw [fsText_two, fsText_two] at h
    obtain ⟨e1, e2⟩ := cut_eq (fun hm => (fText_no (h1 f (by simp)) 44 hm).1 rfl) (fun hm => (fText_no (h2 g (by simp)) 44 hm).1 rfl) h
    rw [fText_inj (h1 f (by simp)) (h2 g (by simp)) e1, fsText_inj (fun x hx => h1 x (List.mem_cons_of_mem _ hx)) (fun x hx => h2 x (List.mem_cons_of_mem _ hx)) e2]
theorem tText_ne (t : Typ) (r : List Nat) : tText t ++ r ≠ [] := by rw [tText]; simp
/-- A type's text, whatever stands behind it, tells the type, and that. -/
theorem tText_inj {t u : Typ} {a b : List Nat} (ht : goodT t) (hu : goodT u) (h : tText t ++ a = tText u ++ b) : t = u ∧ a = b := by
  rw [tText, tText, List.append_assoc, List.append_assoc, List.cons_append, List.cons_append, List.append_assoc, List.append_assoc] at h
  obtain ⟨e1, h⟩ := cut_eq (fun hm => (ht.1.2 _ hm).2.2.1 rfl) (fun hm => (hu.1.2 _ hm).2.2.1 rfl) h
  rw [List.singleton_append, List.singleton_append] at h
  obtain ⟨e2, h⟩ := cut_eq (fun hm => (fsText_no ht.2 _ hm).2 rfl) (fun hm => (fsText_no hu.2 _ hm).2 rfl) h
  exact ⟨Prod.ext e1 (fsText_inj ht.2 hu.2 e2), h⟩
theorem sText_inj : ∀ {s r : Sch}, goodS s → goodS r → sText s = sText r → s = r
  | [], [], _, _, _ => rfl
  | [], u :: r, _, _, h => absurd h.symm (tText_ne u _)
  | t :: s, [], _, _, h => absurd h (tText_ne t _)
  | t :: s, u :: r, h1, h2, h => by
    obtain ⟨rfl, h3⟩ := tText_inj (h1 t (by simp)) (h2 u (by simp)) h
    rw [sText_inj (s := s) (r := r) (fun x hx => h1 x (by simp [hx])) (fun x hx => h2 x (by simp [hx])) h3]
theorem sText_ne {s : Sch} (h : s ≠ []) : sText s ≠ [] := by
  cases s with
  | nil => exact absurd rfl h
  | cons t s => exact tText_ne t _
theorem textS_may {s : Sch} (h : mayS s = true) : textS s = sText s := by rw [textS, if_pos h]
theorem textS_not {s : Sch} (h : mayS s = false) : textS s = [] := by rw [textS, if_neg (by simp [h])]
theorem textS_inj {s r : Sch} (hs : mayS s = true) (hr : mayS r = true) (h : textS s = textS r) : s = r := by
  rw [textS_may hs, textS_may hr] at h
  exact sText_inj (mayS_good hs) (mayS_good hr) h

/-- As many openings as closings, and a closing at the end. -/
theorem tText_count {t : Typ} (h : goodT t) : (tText t).count 123 = 1 ∧ (tText t).count 125 = 1 := by
  have a1 : t.1.count 123 = 0 := List.count_eq_zero.2 fun hm => (h.1.2 _ hm).2.2.1 rfl
  have a2 : t.1.count 125 = 0 := List.count_eq_zero.2 fun hm => (h.1.2 _ hm).2.2.2 rfl
  have a3 : (fsText t.2).count 123 = 0 := List.count_eq_zero.2 fun hm => (fsText_no h.2 _ hm).1 rfl
  have a4 : (fsText t.2).count 125 = 0 := List.count_eq_zero.2 fun hm => (fsText_no h.2 _ hm).2 rfl
  constructor <;> simp [tText, List.count_append, a1, a2, a3, a4]
theorem sText_count : ∀ {s : Sch}, goodS s → (sText s).count 123 = s.length ∧ (sText s).count 125 = s.length
  | [], _ => ⟨rfl, rfl⟩
  | t :: s, h => by
    obtain ⟨h1, h2⟩ := tText_count (h t (by simp))
    obtain ⟨h3, h4⟩ := sText_count (s := s) fun x hx => h x (by simp [hx])
    rw [sText, List.count_append, List.count_append, h1, h2, h3, h4, List.length_cons]
    omega
theorem sText_last : ∀ {s : Sch}, s ≠ [] → ∃ a, sText s = a ++ [125]
  | [], h => absurd rfl h
  | [t], _ => ⟨t.1 ++ 123 :: fsText t.2, by simp [sText, tText]⟩
  | t :: u :: s, _ => by
    obtain ⟨a, ha⟩ := sText_last (s := u :: s) (by simp)
    exact ⟨tText t ++ a, by rw [sText, ha, List.append_assoc]⟩
end Go.Proofs.Ytembafogbfcajaa
