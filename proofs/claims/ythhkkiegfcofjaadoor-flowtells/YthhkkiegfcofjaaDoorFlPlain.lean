/- Flows, plainly: their frames and bytes, what frames, read one after the other, are, and what bytes are. No program. No condition. -/
import Derived.Test.YthhkkiegfcofjaaDoorFrCatPlain
import Derived.Test.YthhkkiegfcofjaaDoorVaPlain
namespace Go.Proofs.YthhkkiegfcofjaaDoor

/-- A flow: its base, its parts. -/
abbrev Flo := Int × List (List Nat)
def mayB (f : Flo) : Bool := decide (f.2.length ≤ 40) && f.2.all fun p => decide (p.length ≤ 200)
def headL (base n : Nat) : List Nat := vputL 1 ++ vputL base ++ vputL n
def partsF : Nat → List (List Nat) → List Fra
  | _, [] => []
  | k, p :: r => (2, vputL k ++ p) :: partsF (k + 1) r
def framesF (f : Flo) : List Fra := (1, headL f.1.toNat f.2.length) :: (partsF 0 f.2 ++ [(3, vputL f.2.length)])
def flowB (f : Flo) : List Nat := catL (framesF f)
/-- A flow that may be, of bytes. -/
structure OkF (f : Flo) : Prop where
  low : 0 ≤ f.1
  high : f.1 ≤ 4294967295
  may : mayB f = true
  byte : ∀ p ∈ f.2, ∀ x ∈ p, x < 256
theorem OkF.few {f : Flo} (h : OkF f) : f.2.length ≤ 40 := by have := h.may; simp [mayB] at this; exact this.1
theorem OkF.short {f : Flo} (h : OkF f) : ∀ p ∈ f.2, p.length ≤ 200 := by have := h.may; simp [mayB] at this; exact this.2
theorem OkF.base {f : Flo} (h : OkF f) : f.1.toNat < 4294967296 ∧ ((f.1.toNat : Nat) : Int) = f.1 := by have := h.low; have := h.high; omega

/-! ### numbers, one behind the other -/
theorem vall_put (n : Nat) (r : List Nat) (h : n < 18446744073709551616) : vallL (vputL n ++ r) = (vallL r).map (n :: ·) := by
  have hg := getL_put n r h
  have hp := putL_pos n
  rw [allL_some _ (by rw [hg]; show (vputL n).length ≠ 0; omega), hg]
  simp
def catV : List Nat → List Nat
  | [] => []
  | n :: l => vputL n ++ catV l
theorem vall_cat : ∀ (l : List Nat), (∀ n ∈ l, n < 18446744073709551616) → vallL (catV l) = some l
  | [], _ => vallL_nil
  | n :: l, h => by
    rw [catV, vall_put n _ (h n (by simp)), vall_cat l fun m hm => h m (by simp [hm])]
    rfl
theorem vall_back : ∀ (k : Nat) (b : List Nat), b.length ≤ k → (∀ x ∈ b, x < 256) → ∀ l, vallL b = some l → b = catV l ∧ ∀ n ∈ l, n < 18446744073709551616
  | k, [], _, _, l, h => by
    rw [vallL_nil] at h
    injection h with h
    subst h
    exact ⟨rfl, by simp⟩
  | 0, x :: b, hk, _, _, _ => by simp at hk
  | k + 1, x :: b, hk, hb, l, h => by
    by_cases h2 : (getL (x :: b)).2 = 0
    · rw [allL_none _ (by simp) h2] at h; cases h
    · obtain ⟨h3, h4, h5, h6⟩ := getL_back _ hb h2
      rw [allL_some _ h2] at h
      cases hr : vallL ((x :: b).drop (getL (x :: b)).2) with
      | none => rw [hr] at h; cases h
      | some r =>
        rw [hr] at h
        injection h with h
        subst h
        obtain ⟨e, hn⟩ := vall_back k ((x :: b).drop (getL (x :: b)).2) (by rw [List.length_drop]; simp only [List.length_cons] at hk ⊢; omega) (fun y hy => hb y (List.mem_of_mem_drop hy)) r hr
        refine ⟨?_, fun n hn' => ?_⟩
        · rw [catV, ← e, h5, List.take_append_drop]
        · rcases List.mem_cons.1 hn' with rfl | h7
          · exact h6
          · exact hn n h7
theorem vputL_len5 {n : Nat} (h : n < 4294967296) : (vputL n).length ≤ 5 := putL_len 4 n (by omega)
theorem headL_cat (base n : Nat) : headL base n = catV [1, base, n] := by simp [headL, catV]
theorem headL_vall {base n : Nat} (hb : base < 18446744073709551616) (hn : n < 18446744073709551616) : vallL (headL base n) = some [1, base, n] := by
  rw [headL_cat]
  exact vall_cat _ (by intro m hm; simp at hm; omega)
theorem vputL_vall {n : Nat} (hn : n < 18446744073709551616) : vallL (vputL n) = some [n] := by
  have := vall_cat [n] (by simpa using hn)
  simpa [catV] using this
theorem headL_byte (base n : Nat) : ∀ x ∈ headL base n, x < 256 := by
  intro x hx
  rcases List.mem_append.1 hx with h | h
  · rcases List.mem_append.1 h with h | h
    · exact vputL_byte _ x h
    · exact vputL_byte _ x h
  · exact vputL_byte _ x h
theorem headL_len {base n : Nat} (hb : base < 4294967296) (hn : n ≤ 40) : (headL base n).length ≤ 7 := by
  have h1 := vputL_len5 hb
  rw [headL, List.length_append, List.length_append, putL_small (show 1 < 128 by omega), putL_small (show n < 128 by omega)]
  simp
  omega

/-! ### a flow's frames -/
theorem partsF_length : ∀ (k : Nat) (ps : List (List Nat)), (partsF k ps).length = ps.length
  | _, [] => rfl
  | k, p :: r => by simp [partsF, partsF_length (k + 1) r]
theorem partsF_append : ∀ (k : Nat) (ps qs : List (List Nat)), partsF k (ps ++ qs) = partsF k ps ++ partsF (k + ps.length) qs
  | k, [], qs => by simp [partsF]
  | k, p :: r, qs => by
    simp only [List.cons_append, partsF, List.length_cons]
    rw [partsF_append (k + 1) r qs, show k + 1 + r.length = k + (r.length + 1) by omega]
theorem partsF_get : ∀ (k : Nat) (ps : List (List Nat)) (j : Nat), (partsF k ps)[j]? = ps[j]?.map fun p => ((2 : Int), vputL (k + j) ++ p)
  | _, [], j => by simp [partsF]
  | k, p :: r, 0 => by simp [partsF]
  | k, p :: r, j + 1 => by
    simp only [partsF, List.getElem?_cons_succ]
    rw [partsF_get (k + 1) r j, show k + 1 + j = k + (j + 1) by omega]
theorem framesF_length (f : Flo) : (framesF f).length = f.2.length + 2 := by simp [framesF, partsF_length]
theorem framesF_fit {f : Flo} (h : OkF f) : ∀ x ∈ framesF f, Fit x := by
  have hfew := h.few
  intro x hx
  rcases List.mem_cons.1 hx with rfl | hx
  · refine ⟨by simp, by simp, ?_, headL_byte _ _⟩
    have := headL_len (base := f.1.toNat) (n := f.2.length) h.base.1 hfew
    simp only; omega
  · rcases List.mem_append.1 hx with hx | hx
    · obtain ⟨j, hj⟩ := List.getElem?_of_mem hx
      rw [partsF_get] at hj
      cases hp : f.2[j]? with
      | none => rw [hp] at hj; cases hj
      | some p =>
        rw [hp] at hj
        simp at hj
        subst hj
        obtain ⟨hlt, hpe⟩ := List.getElem?_eq_some_iff.1 hp
        have hm : p ∈ f.2 := by rw [← hpe]; exact List.getElem_mem hlt
        have h1 := h.short p hm
        have h2 := vputL_len5 (n := j) (by omega)
        refine ⟨by simp, by simp, by simp only [List.length_append]; omega, fun y hy => ?_⟩
        rcases List.mem_append.1 hy with hy | hy
        · exact vputL_byte _ y hy
        · exact h.byte p hm y hy
    · simp at hx
      subst hx
      have h2 := vputL_len5 (n := f.2.length) (by omega)
      exact ⟨by simp, by simp, by simp only; omega, vputL_byte _⟩
theorem framesF_get (f : Flo) (j : Nat) : (framesF f)[j]? = if j = 0 then some (1, headL f.1.toNat f.2.length) else if j ≤ f.2.length then f.2[j - 1]?.map (fun p => ((2 : Int), vputL (j - 1) ++ p)) else if j = f.2.length + 1 then some (3, vputL f.2.length) else none := by
  cases j with
  | zero => rfl
  | succ j =>
    rw [if_neg (by omega)]
    simp only [framesF, List.getElem?_cons_succ, Nat.add_sub_cancel]
    by_cases h : j < f.2.length
    · rw [if_pos (by omega), List.getElem?_append_left (by rw [partsF_length]; exact h), partsF_get, Nat.zero_add]
    · rw [if_neg (by omega), List.getElem?_append_right (by rw [partsF_length]; omega), partsF_length]
      by_cases h2 : j = f.2.length
      · subst h2; simp
      · rw [if_neg (by omega)]
        exact List.getElem?_eq_none (by simp; omega)

/-! ### frames, read one after the other -/
structure RSt where
  base : Nat
  parts : List (List Nat)
  count : Nat
  due : Int
def dueOf (had count : Nat) : Int := if had < count then 2 else 3
def headS (s : RSt) (body : List Nat) : Option RSt :=
  match vallL body with
  | some [v, b, c] => if v = 1 ∧ b ≤ 4294967295 ∧ c ≤ 40 then some ⟨b, s.parts, c, dueOf s.parts.length c⟩ else none
  | _ => none
def partS (s : RSt) (body : List Nat) : Option RSt :=
  if (getL body).2 ≠ 0 ∧ (getL body).1 = s.parts.length ∧ body.length - (getL body).2 ≤ 200 then some ⟨s.base, s.parts ++ [body.drop (getL body).2], s.count, dueOf (s.parts.length + 1) s.count⟩ else none
def tailS (s : RSt) (body : List Nat) : Option RSt :=
  match vallL body with
  | some [c] => if c = s.count then some ⟨s.base, s.parts, s.count, -1⟩ else none
  | _ => none
def stepS (s : RSt) (x : Fra) : Option RSt := if x.1 ≠ s.due then none else if x.1 = 1 then headS s x.2 else if x.1 = 2 then partS s x.2 else tailS s x.2
def runS : RSt → List Fra → Option RSt
  | s, [] => if s.due = -1 then some s else none
  | s, x :: l => (stepS s x).bind fun t => runS t l
def startS : RSt := ⟨0, [], 0, 1⟩
def flowOf (l : List Fra) : Option Flo := (runS startS l).map fun s => ((s.base : Int), s.parts)

theorem runS_parts : ∀ (ps : List (List Nat)) (s : RSt), s.due = dueOf s.parts.length s.count → s.parts.length + ps.length = s.count → s.count ≤ 40 → (∀ p ∈ ps, p.length ≤ 200) →
    runS s (partsF s.parts.length ps ++ [(3, vputL s.count)]) = some ⟨s.base, s.parts ++ ps, s.count, -1⟩
  | [], s, hd, hc, h40, _ => by
    have h3 : s.due = 3 := by rw [hd, dueOf, if_neg (by simp at hc; omega)]
    simp only [partsF, List.nil_append, runS, stepS, h3, tailS]
    rw [vputL_vall (by omega)]
    simp
  | p :: r, s, hd, hc, h40, hp => by
    have hlt : s.parts.length < s.count := by simp at hc; omega
    have h2 : s.due = 2 := by rw [hd, dueOf, if_pos hlt]
    have hg := getL_put s.parts.length p (by omega)
    have hpos := putL_pos s.parts.length
    have hpl := hp p (by simp)
    have hstep : stepS s (2, vputL s.parts.length ++ p) = some ⟨s.base, s.parts ++ [p], s.count, dueOf (s.parts.length + 1) s.count⟩ := by
      rw [stepS, if_neg (by rw [h2]; simp), if_neg (by simp), if_pos rfl, partS, hg]
      simp only [List.drop_left]
      rw [if_pos ⟨by omega, trivial, by rw [List.length_append]; omega⟩]
    have ih := runS_parts r ⟨s.base, s.parts ++ [p], s.count, dueOf (s.parts.length + 1) s.count⟩ (by simp) (by simp at hc ⊢; omega) h40 (fun q hq => hp q (by simp [hq]))
    simp only [List.length_append, List.length_cons, List.length_nil, Nat.zero_add, List.append_assoc, List.cons_append, List.nil_append] at ih
    simp only [partsF, List.cons_append, runS, hstep, Option.bind_some]
    exact ih
theorem runS_back : ∀ (l : List Fra) (s t : RSt), (∀ x ∈ l, Fit x) → s.due = dueOf s.parts.length s.count → s.parts.length ≤ s.count → runS s l = some t →
    ∃ ps, s.parts.length + ps.length = s.count ∧ (∀ p ∈ ps, p.length ≤ 200) ∧ (∀ p ∈ ps, ∀ x ∈ p, x < 256) ∧ l = partsF s.parts.length ps ++ [(3, vputL s.count)] ∧ t = ⟨s.base, s.parts ++ ps, s.count, -1⟩
  | [], s, t, _, hd, _, h => by
    rw [runS, if_neg (by rw [hd, dueOf]; split <;> omega)] at h
    cases h
  | x :: l, s, t, hf, hd, hle, h => by
    rw [runS] at h
    cases hs : stepS s x with
    | none => rw [hs] at h; cases h
    | some u =>
      rw [hs, Option.bind_some] at h
      have hx := hf x (by simp)
      by_cases hlt : s.parts.length < s.count
      · have h2 : s.due = 2 := by rw [hd, dueOf, if_pos hlt]
        rw [stepS] at hs
        by_cases hk : x.1 = 2
        · rw [if_neg (by rw [h2]; simpa using hk), if_neg (by omega), if_pos hk, partS] at hs
          split at hs
          · rename_i hc
            obtain ⟨hc1, hc2, hc3⟩ := hc
            obtain ⟨hb1, hb2, hb3, hb4⟩ := getL_back x.2 hx.2.2.2 hc1
            injection hs with hs
            subst hs
            obtain ⟨ps, e1, e2, e5, e3, e4⟩ := runS_back l _ t (fun y hy => hf y (by simp [hy])) (by simp) (by simp; omega) h
            simp only [List.length_append, List.length_cons, List.length_nil, Nat.zero_add] at e1 e3 e4
            refine ⟨x.2.drop (getL x.2).2 :: ps, by simp only [List.length_cons]; omega, ?_, ?_, ?_, ?_⟩
            · intro p hp
              rcases List.mem_cons.1 hp with rfl | hp
              · rw [List.length_drop]; omega
              · exact e2 p hp
            · intro p hp
              rcases List.mem_cons.1 hp with rfl | hp
              · intro y hy; exact hx.2.2.2 y (List.mem_of_mem_drop hy)
              · exact e5 p hp
            · have hx2 : x = (2, vputL s.parts.length ++ x.2.drop (getL x.2).2) := by
                refine Prod.ext hk ?_
                simp only
                rw [← hc2, hb3, List.take_append_drop]
              rw [e3]
              simp only [partsF, List.cons_append]
              rw [← hx2]
            · rw [e4]; simp
          · cases hs
        · rw [if_pos (by rw [h2]; exact hk)] at hs; cases hs
      · have h3 : s.due = 3 := by rw [hd, dueOf, if_neg hlt]
        rw [stepS] at hs
        by_cases hk : x.1 = 3
        · rw [if_neg (by rw [h3]; simpa using hk), if_neg (by omega), if_neg (by omega), tailS] at hs
          split at hs
          · rename_i c hv
            split at hs
            · rename_i hc
              injection hs with hs
              subst hs
              obtain ⟨e, _⟩ := vall_back x.2.length x.2 (Nat.le_refl _) hx.2.2.2 [c] hv
              cases l with
              | nil =>
                simp [runS] at h
                refine ⟨[], by simp; omega, by simp, by simp, ?_, by rw [← h]; simp⟩
                simp only [partsF, List.nil_append]
                rw [← hc]
                congr 1
                exact Prod.ext hk (by rw [e]; simp [catV])
              | cons y l =>
                have hy := hf y (by simp)
                rw [runS, stepS, if_pos (by have := hy.1; simp only; omega)] at h
                cases h
            · cases hs
          · cases hs
        · rw [if_pos (by rw [h3]; exact hk)] at hs; cases hs
theorem flowOf_frames {f : Flo} (h : OkF f) : flowOf (framesF f) = some f := by
  have hfew := h.few
  have hbase := h.base
  have hp := runS_parts f.2 ⟨f.1.toNat, [], f.2.length, dueOf 0 f.2.length⟩ rfl (by simp) hfew h.short
  simp only [List.length_nil, List.nil_append] at hp
  have hstep : stepS startS (1, headL f.1.toNat f.2.length) = some ⟨f.1.toNat, [], f.2.length, dueOf 0 f.2.length⟩ := by
    rw [stepS, if_neg (by simp [startS]), if_pos rfl, headS, headL_vall (by omega) (by omega)]
    simp only
    rw [if_pos ⟨trivial, by omega, hfew⟩]
    rfl
  rw [flowOf, framesF, runS, hstep, Option.bind_some, hp]
  exact congrArg some (Prod.ext hbase.2 rfl)
theorem flowOf_back {l : List Fra} {f : Flo} (hl : ∀ x ∈ l, Fit x) (h : flowOf l = some f) : OkF f ∧ l = framesF f := by
  rw [flowOf] at h
  cases l with
  | nil => simp [runS, startS] at h
  | cons x l =>
    rw [runS] at h
    cases hs : stepS startS x with
    | none => rw [hs] at h; cases h
    | some u =>
      rw [hs, Option.bind_some] at h
      have hx := hl x (by simp)
      rw [stepS] at hs
      by_cases hk : x.1 = 1
      · rw [if_neg (by simpa [startS] using hk), if_pos hk, headS] at hs
        split at hs
        · rename_i v b c hv
          split at hs
          · rename_i hc
            obtain ⟨rfl, hb, hc40⟩ := hc
            injection hs with hs
            subst hs
            obtain ⟨e, _⟩ := vall_back x.2.length x.2 (Nat.le_refl _) hx.2.2.2 _ hv
            cases hr : runS ⟨b, startS.parts, c, dueOf startS.parts.length c⟩ l with
            | none => rw [hr] at h; cases h
            | some t =>
              obtain ⟨ps, e1, e2, e5, e3, e4⟩ := runS_back l _ t (fun y hy => hl y (by simp [hy])) rfl (by simp [startS]) hr
              simp only [startS, List.length_nil, Nat.zero_add, List.nil_append] at e1 e3 e4
              rw [hr] at h
              injection h with h
              subst h
              subst e4
              refine ⟨⟨by simp, by simp only; omega, ?_, e5⟩, ?_⟩
              · simp [mayB]; exact ⟨by omega, e2⟩
              · rw [framesF]
                simp only
                rw [e1, ← e3, show ((b : Int)).toNat = b from rfl, headL_cat, ← e]
                congr 1
                exact Prod.ext hk rfl
          · cases hs
        · cases hs
      · rw [if_pos (by simpa [startS] using hk)] at hs; cases hs

/-! ### bytes -/
/-- A flow of bytes, and why not. -/
def getFl (bs : List Nat) : Flo × Nat := if (allL bs).1 ≠ 0 then ((0, []), (allL bs).1) else match flowOf (allL bs).2 with | some f => (f, 0) | none => ((0, []), 4)
theorem allL_back : ∀ (k : Nat) (bs : List Nat), bs.length ≤ k → (∀ x ∈ bs, x < 256) → (allL bs).1 = 0 → catL (allL bs).2 = bs ∧ ∀ f ∈ (allL bs).2, Fit f
  | k, [], _, _, _ => by rw [allL_nil]; exact ⟨rfl, by simp⟩
  | 0, x :: b, hk, _, _ => by simp at hk
  | k + 1, x :: b, hk, hb, h => by
    by_cases he : getE (x :: b) = 0
    · obtain ⟨k0, h1, h2, h3, h4, h5, h6⟩ := get_back hb he
      have hok := allL_ok (by simp) he
      have hN := getN_pos he
      rw [hok] at h ⊢
      by_cases hr : (allL ((x :: b).drop (getN (x :: b)))).1 = 0
      · rw [if_neg (by simpa using hr)]
        obtain ⟨e1, e2⟩ := allL_back k ((x :: b).drop (getN (x :: b))) (by rw [List.length_drop]; simp only [List.length_cons] at hk ⊢; omega) (fun y hy => hb y (List.mem_of_mem_drop hy)) hr
        refine ⟨?_, ?_⟩
        · simp only [catL]
          rw [e1, h2, show ((k0 : Int)).toNat = k0 from rfl, h5, List.take_append_drop]
        · intro f hf
          rcases List.mem_cons.1 hf with rfl | hf
          · exact ⟨by omega, by omega, by omega, getF_byte hb⟩
          · exact e2 f hf
      · rw [if_pos hr] at h; exact absurd h hr
    · rw [allL_bad (by simp) he] at h; exact absurd h he
theorem getFl_put {f : Flo} (h : OkF f) : getFl (flowB f) = (f, 0) := by
  have := allL_cat (framesF f) (framesF_fit h)
  rw [getFl, flowB, this, if_neg (by simp), flowOf_frames h]
theorem getFl_back {bs : List Nat} (hb : ∀ x ∈ bs, x < 256) (h : (getFl bs).2 = 0) : OkF (getFl bs).1 ∧ flowB (getFl bs).1 = bs ∧ (allL bs).1 = 0 ∧ (allL bs).2 = framesF (getFl bs).1 := by
  rw [getFl] at h ⊢
  by_cases he : (allL bs).1 = 0
  · rw [if_neg (by simpa using he)] at h ⊢
    obtain ⟨e1, e2⟩ := allL_back bs.length bs (Nat.le_refl _) hb he
    cases hf : flowOf (allL bs).2 with
    | none => rw [hf] at h; cases h
    | some f =>
      obtain ⟨h1, h2⟩ := flowOf_back e2 hf
      refine ⟨h1, ?_, he, h2⟩
      rw [flowB]
      simp only
      rw [← h2, e1]
  · rw [if_pos he] at h; exact absurd h he
theorem getFl_bad {bs : List Nat} (h : (getFl bs).2 ≠ 0) : (getFl bs).1 = (0, []) := by
  rw [getFl] at h ⊢
  by_cases he : (allL bs).1 = 0
  · rw [if_neg (by simpa using he)] at h ⊢
    cases hf : flowOf (allL bs).2 with
    | none => rfl
    | some f => rw [hf] at h; exact absurd rfl h
  · rw [if_pos he]
theorem flowB_byte {f : Flo} (h : OkF f) : ∀ x ∈ flowB f, x < 256 := catL_byte _ (framesF_fit h)
theorem flowB_len {f : Flo} (h : OkF f) : (flowB f).length ≤ 11130 := by
  have h1 := catL_len _ (framesF_fit h)
  have h2 := h.few
  rw [framesF_length] at h1
  rw [flowB]
  omega
theorem flowB_inj {f g : Flo} (hf : OkF f) (hg : OkF g) (h : flowB f = flowB g) : f = g := by
  have h1 := getFl_put hf
  rw [h, getFl_put hg] at h1
  exact (congrArg Prod.fst h1).symm
end Go.Proofs.YthhkkiegfcofjaaDoor
