/- Of a flow's frames nothing is a flow's of which one lacks, is there twice, or stands in another one's place. No program. No condition. -/
import Derived.Test.YthhkkiegfcofjaaDoorFlBurstPlain
namespace Go.Proofs.YthhkkiegfcofjaaDoor

/-- A flow's frames: what tells another one's apart. -/
structure FrameOf (g : Flo) (l : List Fra) : Prop where
  size : l.length = g.2.length + 2
  head : l[0]? = some ((1 : Int), headL g.1.toNat g.2.length)
  mid : ∀ j, 1 ≤ j → j ≤ g.2.length → ∃ p, l[j]? = some ((2 : Int), vputL (j - 1) ++ p)
  last : l[g.2.length + 1]? = some ((3 : Int), vputL g.2.length)
theorem frameOf (g : Flo) : FrameOf g (framesF g) := by
  refine ⟨framesF_length g, rfl, fun j h1 h2 => ?_, ?_⟩
  · rw [framesF_get, if_neg (by omega), if_pos h2, List.getElem?_eq_getElem (show j - 1 < g.2.length by omega)]
    exact ⟨_, rfl⟩
  · rw [framesF_get, if_neg (by omega), if_neg (by omega), if_pos rfl]
theorem same_count {f g : Flo} (hf : OkF f) (hg : OkF g) {l : List Fra} (h : FrameOf g l) (h0 : l[0]? = some ((1 : Int), headL f.1.toNat f.2.length)) : g.2.length = f.2.length := by
  have e := h.head.symm.trans h0
  injection e with e
  injection e with _ e
  have h1 := headL_vall (base := g.1.toNat) (n := g.2.length) (by have := hg.base.1; omega) (by have := hg.few; omega)
  have h2 := headL_vall (base := f.1.toNat) (n := f.2.length) (by have := hf.base.1; omega) (by have := hf.few; omega)
  rw [e, h2] at h1
  simp at h1
  exact h1.2.symm
theorem kind_pos {f : Flo} {j : Nat} {F : Fra} (hj : 1 ≤ j) (h : (framesF f)[j]? = some F) : F.1 = 2 ∨ F.1 = 3 := by
  rw [framesF_get, if_neg (by omega)] at h
  split at h
  · cases hp : f.2[j - 1]? with
    | none => rw [hp] at h; cases h
    | some p => rw [hp] at h; simp at h; subst h; exact .inl rfl
  · split at h
    · simp at h; subst h; exact .inr rfl
    · cases h
/-- Bytes of frames that are not a flow's. -/
theorem getFl_not {l : List Fra} (hl : ∀ x ∈ l, Fit x) (h : ∀ g, OkF g → l ≠ framesF g) : (getFl (catL l)).2 ≠ 0 := by
  intro e
  obtain ⟨h1, _, _, h4⟩ := getFl_back (catL_byte l hl) e
  rw [allL_cat l hl] at h4
  exact h _ h1 h4
section
variable {f : Flo} (hf : OkF f) {i k : Nat}
include hf
theorem frames_lack (hi : i < f.2.length + 1) : (getFl (catL ((framesF f).take i ++ (framesF f).drop (i + 1)))).2 ≠ 0 := by
  have hfit := framesF_fit hf
  refine getFl_not (fun x hx => ?_) fun g hg e => ?_
  · rcases List.mem_append.1 hx with h | h
    · exact hfit x (List.mem_of_mem_take h)
    · exact hfit x (List.mem_of_mem_drop h)
  · have hF := frameOf g
    rw [← e] at hF
    have hlen := framesF_length f
    have hs := hF.size
    rw [List.length_append, List.length_take, List.length_drop, hlen] at hs
    by_cases h0 : i = 0
    · subst h0
      have := hF.head
      rw [List.take_zero, List.nil_append, List.getElem?_drop] at this
      rcases kind_pos (by omega) this with h | h <;> simp at h
    · have hh : ((framesF f).take i ++ (framesF f).drop (i + 1))[0]? = some ((1 : Int), headL f.1.toNat f.2.length) := by
        rw [List.getElem?_append_left (by rw [List.length_take]; omega), List.getElem?_take, if_pos (by omega)]
        rfl
      have := same_count hf hg hF hh
      omega
theorem frames_twice (hi : i < f.2.length + 1) : (getFl (catL ((framesF f).take (i + 1) ++ (framesF f).drop i))).2 ≠ 0 := by
  have hfit := framesF_fit hf
  refine getFl_not (fun x hx => ?_) fun g hg e => ?_
  · rcases List.mem_append.1 hx with h | h
    · exact hfit x (List.mem_of_mem_take h)
    · exact hfit x (List.mem_of_mem_drop h)
  · have hF := frameOf g
    rw [← e] at hF
    have hlen := framesF_length f
    have hs := hF.size
    rw [List.length_append, List.length_take, List.length_drop, hlen] at hs
    have hh : ((framesF f).take (i + 1) ++ (framesF f).drop i)[0]? = some ((1 : Int), headL f.1.toNat f.2.length) := by
      rw [List.getElem?_append_left (by rw [List.length_take]; omega), List.getElem?_take, if_pos (by omega)]
      rfl
    have := same_count hf hg hF hh
    omega
theorem frames_swap {F G : Fra} (hi : (framesF f)[i]? = some F) (hk : (framesF f)[k]? = some G) (hik : i < k) :
    (getFl (catL ((framesF f).take i ++ G :: (((framesF f).drop (i + 1)).take (k - (i + 1)) ++ F :: (framesF f).drop (k + 1))))).2 ≠ 0 := by
  have hfit := framesF_fit hf
  have hlen := framesF_length f
  have hil := (List.getElem?_eq_some_iff.1 hi).1
  have hkl := (List.getElem?_eq_some_iff.1 hk).1
  rw [hlen] at hil hkl
  refine getFl_not (fun x hx => ?_) fun g hg e => ?_
  · simp only [List.mem_append, List.mem_cons] at hx
    rcases hx with h | rfl | h | rfl | h
    · exact hfit x (List.mem_of_mem_take h)
    · exact hfit x (List.mem_of_getElem? hk)
    · exact hfit x (List.mem_of_mem_drop (List.mem_of_mem_take h))
    · exact hfit x (List.mem_of_getElem? hi)
    · exact hfit x (List.mem_of_mem_drop h)
  · have hF := frameOf g
    rw [← e] at hF
    have hti : ((framesF f).take i).length = i := by rw [List.length_take]; omega
    have hat : ((framesF f).take i ++ G :: (((framesF f).drop (i + 1)).take (k - (i + 1)) ++ F :: (framesF f).drop (k + 1)))[i]? = some G := by
      rw [List.getElem?_append_right (by omega), hti, Nat.sub_self]
      rfl
    by_cases h0 : i = 0
    · subst h0
      have := hF.head.symm.trans hat
      injection this with this
      subst this
      rcases kind_pos (by omega) hk with h | h <;> simp at h
    · have hh : ((framesF f).take i ++ G :: (((framesF f).drop (i + 1)).take (k - (i + 1)) ++ F :: (framesF f).drop (k + 1)))[0]? = some ((1 : Int), headL f.1.toNat f.2.length) := by
        rw [List.getElem?_append_left (by rw [List.length_take]; omega), List.getElem?_take, if_pos (by omega)]
        rfl
      have hc := same_count hf hg hF hh
      obtain ⟨p, hp⟩ := hF.mid i (by omega) (by omega)
      have hG := hat.symm.trans hp
      injection hG with hG
      subst hG
      rw [framesF_get, if_neg (by omega)] at hk
      split at hk
      · cases hq : f.2[k - 1]? with
        | none => rw [hq] at hk; cases hk
        | some q =>
          rw [hq] at hk
          simp at hk
          have h1 := getL_put (k - 1) q (by have := hf.few; omega)
          have h2 := getL_put (i - 1) p (by have := hf.few; omega)
          rw [hk, h2] at h1
          injection h1 with h1 _
          omega
      · split at hk
        · simp at hk
        · cases hk
end
end Go.Proofs.YthhkkiegfcofjaaDoor
