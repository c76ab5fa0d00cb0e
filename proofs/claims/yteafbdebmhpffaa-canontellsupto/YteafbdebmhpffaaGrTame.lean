/- A graph that may be is small. No condition. -/
import Derived.Test.YteafbdebmhpffaaGrActsAll
import Derived.Test.YteafbdebmhpffaaGrCopy
namespace Go.Proofs.Yteafbdebmhpffaa
open Go.RowKit

theorem may_len {n : List Nat} {s : ByteArray} (hs : byt s = n) (h : mayN n = true) : n.length ≤ 16 := by
  subst hs
  rw [byt_length]
  exact may_size h
theorem tame_may {S : Nat → Prop} {w : World} {A B C : Option Addr} {N c M d K e : Nat} {g : Gr} (h : rGr S w [.slice A N c, .slice B M d, .slice C K e] g) (hm : mayG g = true) : tameG g := by
  obtain ⟨hs, ho, hr⟩ := rGr_open h
  obtain ⟨m1, m2, m3, m4, m5⟩ := mayG_parts hm
  obtain ⟨⟨s1, s2⟩, s3⟩ := (mayS_iff g.1).1 m1
  have hT : ∀ t ∈ g.1, t.1.length ≤ 16 ∧ t.2.length ≤ 5 ∧ ∀ f ∈ t.2, f.1.length ≤ 16 ∧ (f.2.2 = [] ∨ ∃ u ∈ g.1, u.1 = f.2.2) := by
    intro t ht
    obtain ⟨i, hi⟩ := List.getElem?_of_mem ht
    obtain ⟨t1, t2, t3, t4⟩ := (mayT_iff g.1 i t).1 (s3 i t hi)
    obtain ⟨_, _, sx, A2, c2, -, -, -, -, hx, -, hfl⟩ := typ_at hs hi
    refine ⟨may_len hx t1, t3, fun f hf => ?_⟩
    obtain ⟨j, hj⟩ := List.getElem?_of_mem hf
    obtain ⟨f1, f2, f3⟩ := (mayF_iff g.1 t.2 j f).1 (t4 j f hj)
    obtain ⟨_, _, sy, _, -, -, -, -, -, hy, -⟩ := fld_at hfl hj
    refine ⟨may_len hy f1, ?_⟩
    rw [leadS] at f3
    split at f3
    · exact .inr (findS_some (of_decide_eq_true f3))
    · rw [Bool.and_eq_true] at f3
      exact .inl (of_decide_eq_true f3.2)
  refine ⟨⟨by omega, fun t ht => ?_⟩, ⟨by omega, fun o ho' => ?_⟩, by omega⟩
  · obtain ⟨a1, a2, a3⟩ := hT t ht
    refine ⟨by omega, by omega, fun f hf => ?_⟩
    obtain ⟨b1, b2⟩ := a3 f hf
    refine ⟨by omega, ?_⟩
    rcases b2 with b2 | ⟨u, hu, hv⟩
    · rw [b2]; simp
    · rw [← hv]; have := (hT u hu).1; omega
  · have mo := mayG_obj hm ho'
    have hl : o.2.2.length ≤ 5 := by
      rw [← mo.len]
      have := mo.t0; have := mo.t1
      have hlt : o.2.1.toNat < g.1.length := by omega
      rw [fldsG_at (i := o.2.1.toNat) (x := g.1[o.2.1.toNat]) (by omega) (List.getElem?_eq_getElem hlt)]
      exact (hT _ (List.getElem_mem hlt)).2.1
    refine ⟨by omega, fun v hv => ?_⟩
    obtain ⟨k, hk⟩ := List.getElem?_of_mem hv
    have hkl := (List.getElem?_eq_some_iff.1 hk).1
    obtain ⟨f, hfk⟩ : ∃ f, (fldsG g.1 o.2.1)[k]? = some f := ⟨_, List.getElem?_eq_getElem (by have := mo.len; omega)⟩
    have hh := mo.have' k f v hfk hk
    rw [haveG, Bool.and_eq_true] at hh
    have hf := hh.1
    generalize f.2.1 = kd at hf
    rcases vl_kinds kd with rfl | rfl | rfl | rfl | rfl | rfl | hk'
    · rw [vl_fits_0] at hf; rw [(of_decide_eq_true hf).2.2.1]; simp
    · rw [vl_fits_1] at hf; rw [(of_decide_eq_true hf).2.2.1]; simp
    · rw [vl_fits_2] at hf; rw [(of_decide_eq_true hf).2.2.1]; simp
    · rw [vl_fits_3] at hf; rw [(of_decide_eq_true hf).1]; simp
    · rw [vl_fits_4] at hf; have := (of_decide_eq_true hf).1; omega
    · rw [vl_fits_5] at hf; rw [(of_decide_eq_true hf).2.2.2]; simp
    · rw [vl_fits_x hk'] at hf; cases hf
end Go.Proofs.Yteafbdebmhpffaa
