/- Of a flow's bytes no beginning but all of them, and nothing longer, is a flow's. No program. No condition. -/
import Derived.Test.YthhkkiegfcofjaaDoorFlPlain
namespace Go.Proofs.YthhkkiegfcofjaaDoor

theorem parts_free : ∀ (ps qs : List (List Nat)) (k : Nat) (a b : List Nat) (l : List Fra), partsF k ps ++ ((3 : Int), a) :: l = partsF k qs ++ [((3 : Int), b)] → l = []
  | [], [], _, _, _, _, h => by
    simp only [partsF, List.nil_append] at h
    injection h
  | [], _ :: _, _, _, _, _, h => by
    simp only [partsF, List.nil_append, List.cons_append] at h
    injection h with h1 _
    injection h1 with h1 _
    exact absurd h1 (by decide)
  | _ :: _, [], _, _, _, _, h => by
    simp only [partsF, List.nil_append, List.cons_append] at h
    injection h with h1 _
    injection h1 with h1 _
    exact absurd h1 (by decide)
  | _ :: ps, _ :: qs, k, a, b, l, h => by
    simp only [partsF, List.cons_append] at h
    injection h with _ h2
    exact parts_free ps qs (k + 1) a b l h2
theorem frames_free {f g : Flo} {l : List Fra} (h : framesF f ++ l = framesF g) : l = [] := by
  simp only [framesF, List.cons_append, List.append_assoc, List.nil_append] at h
  injection h with _ h2
  exact parts_free _ _ _ _ _ _ h2
theorem allL_app : ∀ (l : List Fra) (r : List Nat), (∀ f ∈ l, Fit f) → allL (catL l ++ r) = if (allL r).1 ≠ 0 then ((allL r).1, []) else (0, l ++ (allL r).2)
  | [], r, _ => by
    simp only [catL, List.nil_append]
    have := joinL_nil r
    rw [joinL] at this
    rw [← this]
    split <;> simp_all
  | f :: l, r, h => by
    have h1 := h f (by simp)
    simp only [catL, List.append_assoc]
    rw [allL_put, allL_app l r fun g hg => h g (by simp [hg])]
    have : ((f.1.toNat : Nat) : Int) = f.1 := Int.toNat_of_nonneg h1.1
    rw [this]
    by_cases hr : (allL r).1 = 0
    · simp [hr]
    · simp [hr]
/-- Nothing longer is a flow's. -/
theorem flow_free {f g : Flo} {r : List Nat} (hf : OkF f) (hg : OkF g) (h : flowB f ++ r = flowB g) : r = [] := by
  have h1 := allL_cat (framesF g) (framesF_fit hg)
  have h2 := allL_app (framesF f) r (framesF_fit hf)
  rw [show catL (framesF f) = flowB f from rfl, h, show flowB g = catL (framesF g) from rfl, h1] at h2
  by_cases hr : (allL r).1 = 0
  · rw [if_neg (by simpa using hr)] at h2
    have h3 := frames_free (congrArg Prod.snd h2).symm
    have hb : ∀ x ∈ r, x < 256 := fun x hx => flowB_byte hg x (by rw [← h]; exact List.mem_append_right _ hx)
    have h4 := (allL_back r.length r (Nat.le_refl _) hb hr).1
    rw [h3] at h4
    exact h4.symm
  · rw [if_pos hr] at h2
    exact absurd (congrArg Prod.fst h2).symm hr
theorem getFl_cut {f : Flo} (hf : OkF f) {k : Nat} (hk : k < (flowB f).length) : (getFl ((flowB f).take k)).2 ≠ 0 := by
  intro h
  have hb := flowB_byte hf
  obtain ⟨h1, h2, _⟩ := getFl_back (bs := (flowB f).take k) (fun x hx => hb x (List.mem_of_mem_take hx)) h
  have h3 := flow_free (r := (flowB f).drop k) h1 hf (by rw [h2, List.take_append_drop])
  have := congrArg List.length h3
  rw [List.length_drop] at this
  simp at this
  omega
theorem getFl_more {f : Flo} (hf : OkF f) {r : List Nat} (hr : ∀ x ∈ r, x < 256) : ((getFl (flowB f ++ r)).2 = 0) ↔ r = [] := by
  constructor
  · intro h
    have hb := flowB_byte hf
    obtain ⟨h1, h2, _⟩ := getFl_back (bs := flowB f ++ r) (fun x hx => by
      rcases List.mem_append.1 hx with h | h
      · exact hb x h
      · exact hr x h) h
    exact flow_free hf h1 h2.symm
  · rintro rfl
    rw [List.append_nil, getFl_put hf]
end Go.Proofs.YthhkkiegfcofjaaDoor
