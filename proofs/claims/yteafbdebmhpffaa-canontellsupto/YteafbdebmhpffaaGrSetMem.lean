/- A value that is set, in memory of the call's own. No condition. -/
import Derived.Test.YteafbdebmhpffaaGrActsAll
import Derived.Test.YteafbdebmhpffaaGrOwn
import Derived.Test.YteafbdebmhpffaaGrTame
namespace Go.Proofs.Yteafbdebmhpffaa
open Go.RowKit

theorem chunks_set3 {α : Type} {R : List Value → α → Prop} {xs : List Value} {l : List α} {a b c : Value} {v : α} {k : Nat} (h : Chunks 3 R xs l) (hk : k < l.length) (hR : R [a, b, c] v) : Chunks 3 R (((xs.set (k * 3) a).set (k * 3 + 1) b).set (k * 3 + 2) c) (l.set k v) := by
  have hl := h.1
  refine ⟨by simp [hl], fun i x hx => ?_⟩
  by_cases hik : i = k
  · subst hik
    have hx' : v = x := by simpa [hk] using hx
    subst hx'
    have : (((((xs.set (i * 3) a).set (i * 3 + 1) b).set (i * 3 + 2) c).drop (i * 3)).take 3) = [a, b, c] := by
      refine List.ext_getElem? fun j => ?_
      rw [List.getElem?_take]
      rcases Nat.lt_or_ge j 3 with hj | hj
      · rw [if_pos hj, List.getElem?_drop]
        have : j = 0 ∨ j = 1 ∨ j = 2 := by omega
        rcases this with rfl | rfl | rfl
        · rw [List.getElem?_set_ne (by omega), List.getElem?_set_ne (by omega), Nat.add_zero, List.getElem?_set_self (by omega)]; rfl
        · rw [List.getElem?_set_ne (by omega), List.getElem?_set_self (by simp; omega)]; rfl
        · rw [List.getElem?_set_self (by simp; omega)]; rfl
      · rw [if_neg (by omega), List.getElem?_eq_none (by simpa using hj)]
    rw [this]
    exact hR
  · have hx' : l[i]? = some x := by rwa [List.getElem?_set_ne (fun e => hik e.symm)] at hx
    have : (((((xs.set (k * 3) a).set (k * 3 + 1) b).set (k * 3 + 2) c).drop (i * 3)).take 3) = (xs.drop (i * 3)).take 3 := by
      refine List.ext_getElem? fun j => ?_
      rw [List.getElem?_take, List.getElem?_take]
      rcases Nat.lt_or_ge j 3 with hj | hj
      · rw [if_pos hj, if_pos hj, List.getElem?_drop, List.getElem?_drop, List.getElem?_set_ne (by omega), List.getElem?_set_ne (by omega), List.getElem?_set_ne (by omega)]
      · rw [if_neg (by omega), if_neg (by omega)]
    rw [this]
    exact h.2 i x hx'
theorem obCells_at : ∀ {os : List Ob} {bs : List Nat} {i : Nat} {o : Ob} {b : Nat}, os[i]? = some o → bs[i]? = some b → (obCells os bs)[i * 3 + 2]? = some (.slice (some ⟨b, 0, none⟩) o.2.2.length o.2.2.length)
  | [], _, _, _, _, h, _ => by simp at h
  | _ :: _, [], _, _, _, _, h => by simp at h
  | p :: os, c :: bs, 0, o, b, h, h' => by simp at h h'; subst h h'; rfl
  | p :: os, c :: bs, i + 1, o, b, h, h' => by
    rw [obCells, show (i + 1) * 3 + 2 = i * 3 + 2 + 1 + 1 + 1 by omega]
    simp only [List.getElem?_cons_succ]
    exact obCells_at (by simpa using h) (by simpa using h')
theorem obCells_set : ∀ {os : List Ob} {bs : List Nat} {i : Nat} {o p : Ob}, os[i]? = some o → p.1 = o.1 → p.2.1 = o.2.1 → p.2.2.length = o.2.2.length → obCells (os.set i p) bs = obCells os bs
  | [], _, _, _, _, h, _, _, _ => by simp at h
  | q :: os, [], i, o, p, _, _, _, _ => by cases i <;> rfl
  | q :: os, c :: bs, 0, o, p, h, h1, h2, h3 => by simp at h; subst h; rw [List.set_cons_zero, obCells, obCells, h1, h2, h3]
  | q :: os, c :: bs, i + 1, o, p, h, h1, h2, h3 => by rw [List.set_cons_succ, obCells, obCells, obCells_set (by simpa using h) h1 h2 h3]
/-- One of the objects' own values is set. -/
theorem ObIn.set {lo hi : Nat} {w W : World} {bs : List Nat} {os : List Ob} {I k b : Nat} {o : Ob} {v : Vl} {vs : List Value} {x y z : Value} (h2 : os.length = bs.length) (h3 : bs.Pairwise (· < ·)) (h4 : ∀ (i : Nat) o b, os[i]? = some o → bs[i]? = some b → lo < b ∧ b < hi ∧ OwnF w b o)
    (ho : os[I]? = some o) (hb : bs[I]? = some b) (hk : k < o.2.2.length) (hvs : Blk w b 42 vs) (hch : Chunks 3 (rVal (fun _ => True) w) vs o.2.2) (hv : ∀ S W', rVal S W' [x, y, z] v) (hW : Blk W b 42 (((vs.set (k * 3) x).set (k * 3 + 1) y).set (k * 3 + 2) z)) (hkeep : ∀ c, lo < c → c < hi → c ≠ b → W.heap[c]? = w.heap[c]?) :
    ObIn lo hi W (obCells os bs) (os.set I (o.1, o.2.1, o.2.2.set k v)) := by
  have _ := hvs
  refine ⟨bs, (obCells_set (p := (o.1, o.2.1, o.2.2.set k v)) ho rfl rfl (by simp)).symm, by rw [List.length_set, h2], h3, fun i p c hp hc => ?_⟩
  have hIl := (List.getElem?_eq_some_iff.1 ho).1
  by_cases hi : i = I
  · subst hi
    have e : (o.1, o.2.1, o.2.2.set k v) = p := by simpa [hIl] using hp
    subst e
    rw [hb] at hc
    injection hc with hc
    subst hc
    obtain ⟨h5, h6, h7, h8, h9, -⟩ := h4 i o b ho hb
    exact ⟨h5, h6, h7, h8, by simpa using h9, _, hW, chunks_set3 (R := rVal (fun _ => True) W) hch hk (hv _ _)⟩
  · rw [List.getElem?_set_ne (fun e => hi e.symm)] at hp
    obtain ⟨h5, h6, h7⟩ := h4 i p c hp hc
    refine ⟨h5, h6, h7.keep (hkeep c h5 h6 fun e => ?_)⟩
    subst e
    have hil := (List.getElem?_eq_some_iff.1 hc).1
    have hIb := (List.getElem?_eq_some_iff.1 hb).1
    rw [List.pairwise_iff_getElem] at h3
    rcases Nat.lt_or_gt_of_ne hi with hlt | hlt
    · have := h3 i I hil hIb hlt
      rw [(List.getElem?_eq_some_iff.1 hc).2, (List.getElem?_eq_some_iff.1 hb).2] at this
      omega
    · have := h3 I i hIb hil hlt
      rw [(List.getElem?_eq_some_iff.1 hc).2, (List.getElem?_eq_some_iff.1 hb).2] at this
      omega
end Go.Proofs.Yteafbdebmhpffaa
