/- Words for memory that the contracts of this seat share: a slice that reads as a list. No condition. -/
import Derived.Test.YtembafogbfcajaaRows
import Derived.WalkKit
import Derived.WalkSpells
import Derived.WalkLawsBesides
import Derived.IntWalk
import Derived.Below
import Derived.Lib.Hide
import Derived.Laws.OwnMore
import Derived.Deep.AppendLies
import Derived.Deep.Draws
namespace Go.Proofs.Ytembafogbfcajaa
open Go.RowKit

/-- A slice's address A, in the world w: it holds the values xs one behind the other (nothing is said of A where there are none). -/
def Rd (w : World) (A : Option Addr) (xs : List Value) : Prop :=
  xs = [] ∨ ∃ b off, A = some ⟨b, off, none⟩ ∧ b < w.heap.size ∧ ∀ j u, xs[j]? = some u → w.cell? ⟨b, off + j, none⟩ = some u

theorem Rd.nil (w : World) (A : Option Addr) : Rd w A [] := .inl rfl
theorem Rd.at {w : World} {A : Option Addr} {xs : List Value} {k : Nat} (h : Rd w A xs) (hk : k < xs.length) :
    ∃ b off, A = some ⟨b, off, none⟩ ∧ b < w.heap.size ∧ ∀ j u, xs[j]? = some u → w.cell? ⟨b, off + j, none⟩ = some u := by
  rcases h with rfl | h
  · simp at hk
  · exact h
theorem Rd.below {w w' : World} {A : Option Addr} {xs : List Value} (h : Rd w A xs) (hb : Below w.heap.size w w') : Rd w' A xs := by
  rcases h with rfl | ⟨b, off, rfl, hlt, hc⟩
  · exact .inl rfl
  · exact .inr ⟨b, off, rfl, Nat.lt_of_lt_of_le hlt hb.size, fun j u hu => (hb.cell (p := ⟨b, off + j, none⟩) hlt).trans (hc j u hu)⟩
theorem Rd.take {w : World} {A : Option Addr} {xs : List Value} (h : Rd w A xs) (k : Nat) : Rd w A (xs.take k) := by
  rcases h with rfl | ⟨b, off, rfl, hlt, hc⟩
  · simp [Rd]
  · refine .inr ⟨b, off, rfl, hlt, fun j u hu => hc j u ?_⟩
    rw [List.getElem?_take] at hu
    split at hu
    · exact hu
    · cases hu
theorem Rd.drop {w : World} {b off : Nat} {xs : List Value} (h : Rd w (some ⟨b, off, none⟩) xs) (k : Nat) : Rd w (some ⟨b, off + k, none⟩) (xs.drop k) := by
  rcases h with rfl | ⟨b', off', e, hlt, hc⟩
  · simp [Rd]
  · injection e with e
    injection e with e1 e2
    subst e1 e2
    refine .inr ⟨b, off + k, rfl, hlt, fun j u hu => ?_⟩
    rw [List.getElem?_drop] at hu
    rw [Nat.add_assoc]
    exact hc _ u hu
theorem addr_add (b o j : Nat) : (⟨b, o, none⟩ : Addr).add j = ⟨b, o + j, none⟩ := by
  unfold Addr.add
  split <;> simp_all
/-- A row of the call's own reads as what it owns. -/
theorem Rd.own {w : World} {base e n : Nat} {A : Option Addr} {c : Nat} {xs : List Value} (h : w.ownsRow base e 1 (.slice A n c) n xs) : Rd w A xs := by
  rcases Nat.eq_zero_or_pos n with h0 | h0
  · subst h0
    exact .inl (List.eq_nil_of_length_eq_zero (by simpa using h.1))
  · obtain ⟨g, cap, hv, _, hlt⟩ := h.form h0
    have hA : A = some ⟨g, 0, none⟩ := by injection hv
    subst hA
    exact .inr ⟨g, 0, rfl, hlt, fun j u hu => by
      have := h.cells (g := g) rfl j u hu
      rw [addr_add] at this
      exact this⟩

def u8s (bs : List Nat) : List Value := bs.map fun x : Nat => Value.int .u8 (x : Int)
def u64s (ns : List Nat) : List Value := ns.map fun x : Nat => Value.int .u64 (x : Int)
@[simp] theorem u8s_length (bs : List Nat) : (u8s bs).length = bs.length := by simp [u8s]
@[simp] theorem u64s_length (bs : List Nat) : (u64s bs).length = bs.length := by simp [u64s]
theorem u8s_get {bs : List Nat} {k : Nat} (h : k < bs.length) : (u8s bs)[k]? = some (.int .u8 (bs[k] : Int)) := by simp [u8s, h]
theorem u64s_get {bs : List Nat} {k : Nat} (h : k < bs.length) : (u64s bs)[k]? = some (.int .u64 (bs[k] : Int)) := by simp [u64s, h]
theorem u8s_take (bs : List Nat) (k : Nat) : (u8s bs).take k = u8s (bs.take k) := by simp [u8s, List.map_take]
theorem u8s_drop (bs : List Nat) (k : Nat) : (u8s bs).drop k = u8s (bs.drop k) := by simp [u8s, List.map_drop]
theorem u8s_append (a b : List Nat) : u8s (a ++ b) = u8s a ++ u8s b := by simp [u8s]
theorem u64s_append (a b : List Nat) : u64s (a ++ b) = u64s a ++ u64s b := by simp [u64s]
theorem getD_out {l : List Nat} {j : Nat} (h : l.length ≤ j) : l.getD j 0 = 0 := by simp [List.getD, List.getElem?_eq_none h]
theorem rd_u8 {w : World} {g : Nat} {bs : List Nat} {k : Nat} (h : Rd w (some ⟨g, 0, none⟩) (u8s bs)) (hk : k < bs.length) : w.cell? ⟨g, k, none⟩ = some (.int .u8 ((bs.getD k 0 : Nat) : Int)) := by
  obtain ⟨b, off, e, _, hc⟩ := h.at (k := k) (by simpa using hk)
  injection e with e
  injection e with e1 e2
  subst e1 e2
  have := hc k _ (u8s_get hk)
  rw [Nat.zero_add] at this
  rw [this]
  simp [hk]
theorem rd_u64 {w : World} {g : Nat} {bs : List Nat} {k : Nat} (h : Rd w (some ⟨g, 0, none⟩) (u64s bs)) (hk : k < bs.length) : w.cell? ⟨g, k, none⟩ = some (.int .u64 ((bs.getD k 0 : Nat) : Int)) := by
  obtain ⟨b, off, e, _, hc⟩ := h.at (k := k) (by simpa using hk)
  injection e with e
  injection e with e1 e2
  subst e1 e2
  have := hc k _ (u64s_get hk)
  rw [Nat.zero_add] at this
  rw [this]
  simp [hk]
theorem info_u8 : (Try.prog.info? 5).map (fun i => (i.zero, i.size, i.bytes)) = some (some (.int .u8 0), 1, 1) := by kernel_rfl
theorem ret_int {k : IntKind} {a b : Int} (h : a = b) : Ending.returned (.int k a) = .returned (.int k b) := by rw [h]
theorem u8s_at {w : World} {A : Option Addr} {bs : List Nat} {k : Nat} (h : Rd w A (u8s bs)) (hk : k < bs.length) :
    ∃ b off, A = some ⟨b, off, none⟩ ∧ b < w.heap.size ∧ w.cell? ⟨b, off + k, none⟩ = some (.int .u8 ((bs[k] : Nat) : Int)) := by
  obtain ⟨b, off, rfl, hlt, hc⟩ := h.at (k := k) (by simpa using hk)
  exact ⟨b, off, rfl, hlt, hc k _ (u8s_get hk)⟩
/-- A row of the call's own with something in it: its address, its cells. -/
theorem own_open {w : World} {base e n : Nat} {v : Value} {xs : List Value} (h : w.ownsRow base e 1 v n xs) (hn : 0 < n) :
    ∃ g cap, v = .slice (some ⟨g, 0, none⟩) n cap ∧ base ≤ g ∧ g < w.heap.size ∧ n ≤ cap ∧ ∀ j u, xs[j]? = some u → w.cell? ⟨g, j, none⟩ = some u := by
  obtain ⟨g, cap, rfl, hg, hlt⟩ := h.form hn
  refine ⟨g, cap, rfl, hg, hlt, ?_, fun j u hu => ?_⟩
  · rcases h.2 with ⟨e1, _⟩ | ⟨g', cap', cur, e1, _, _, hnc, _⟩
    · cases e1
    · injection e1 with _ _ e3
      subst e3
      exact hnc
  · have := h.cells (g := g) rfl j u hu
    rw [addr_add, Nat.zero_add] at this
    exact this
theorem lit_rd (w : World) (bs : List Nat) : Rd (w.alloc (.cells (u8s bs).toArray 5)) (some ⟨w.heap.size, 0, none⟩) (u8s bs) :=
  .inr ⟨w.heap.size, 0, rfl, by simp, fun j u hu => by
    rw [World.cell?_alloc_at _ _ _ _ rfl, Nat.zero_add]
    simpa using hu⟩
theorem own_slice {w : World} {base e n : Nat} {v : Value} {xs : List Value} (h : w.ownsRow base e 1 v n xs) : ∃ A c, v = .slice A n c ∧ n ≤ c ∧ Rd w A xs ∧ (0 < n → ∃ g, A = some ⟨g, 0, none⟩) := by
  rcases h.2 with ⟨rfl, h0⟩ | ⟨g, cap, cur, rfl, _, _, hnc, _⟩
  · subst h0
    exact ⟨none, 0, rfl, Nat.le_refl _, .inl (List.eq_nil_of_length_eq_zero (by simpa using h.1)), fun h => by omega⟩
  · exact ⟨_, cap, rfl, hnc, Rd.own h, fun _ => ⟨g, rfl⟩⟩
theorem own_mono {w : World} {b b' e s n : Nat} {v : Value} {xs : List Value} (h : w.ownsRow b e s v n xs) (hb : b' ≤ b) : w.ownsRow b' e s v n xs :=
  ⟨h.1, h.2.imp id fun ⟨g, cap, cur, e1, hg, r⟩ => ⟨g, cap, cur, e1, Nat.le_trans hb hg, r⟩⟩
theorem own_below {w w' : World} {base e size n : Nat} {v : Value} {xs : List Value} (h : w.ownsRow base e size v n xs) (hB : Below w.heap.size w w') : w'.ownsRow base e size v n xs := by
  refine ⟨h.1, ?_⟩
  rcases h.2 with h | ⟨g, cap, cur, h1, h2, h3, h4⟩
  · exact .inl h
  · exact .inr ⟨g, cap, cur, h1, h2, (hB.block g (Array.getElem?_eq_some_iff.1 h3).1).trans h3, h4⟩
end Go.Proofs.Ytembafogbfcajaa
