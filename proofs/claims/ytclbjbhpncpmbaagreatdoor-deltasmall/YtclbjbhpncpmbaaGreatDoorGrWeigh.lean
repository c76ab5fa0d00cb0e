/- From the row's reading of an argument, each of whose slices and texts is within the form's own reach, to a datum whose lists are as short; a graph of these is one that memory can hold. No condition. -/
import Derived.Test.YtclbjbhpncpmbaaGreatDoorGGraph
import Derived.SizedLaws
namespace Go.Proofs.YtclbjbhpncpmbaaGreatDoor
open Go.RowKit Go.ChangeShapes

theorem weights_all {H : Type} {P : Program} {e : TypeId} : ∀ {l : List (DataW H)} {d : DataW H}, d ∈ l → ∀ n ∈ d.weights P e, n ∈ DataW.weightsAll P e l
  | [], d, h, _, _ => by simp at h
  | a :: l, d, h, n, hn => by
    rw [DataW.weightsAll, List.mem_append]
    rcases List.mem_cons.1 h with e | h
    · subst e; exact .inl hn
    · exact .inr (weights_all h n hn)
/-- Of the type t whatever the row reads, each of whose weights is within the reach, can be read so, and is bounded. -/
structure OpensW {α : Type} (P : Program) (t : TypeId) (size : Nat) (R : Reader α) (B : α → Prop) : Prop where
  cells : P.cellsOf t = size
  opens : ∀ {H : Type} {enc : TypeId × Value → H} {w : World} {base : Nat} {spare : Nat → Bool} {held : Bool} {fuel : Nat} {cs : List Value} {x : DataW H × List MemPlace},
    DataW.trod enc P w base spare held fuel t cs = some x → (∀ n ∈ x.1.weights P t, n ≤ reachBytes) → ∃ a, R (All w) w cs a ∧ B a
section
variable {P : Program} {t : TypeId}
theorem opensW_int {k : IntKind} (ht : P.underlying t = some (.int k)) (hc : P.cellsOf t = 1) : OpensW P t 1 (rInt k) (fun _ => True) :=
  ⟨hc, fun h _ => by obtain ⟨n, h1, _, h2⟩ := DataW.trod_int ht h; exact ⟨n, ⟨h1, h2⟩, trivial⟩⟩
theorem opensW_nm (ht : P.underlying t = some .string) (hc : P.cellsOf t = 1) : OpensW P t 1 rNm (fun n => n.length ≤ reachBytes) :=
  ⟨hc, fun h hM => by
    obtain ⟨s, h1, h3, h2⟩ := DataW.trod_string ht h
    refine ⟨byt s, ⟨s, h1, rfl, h2⟩, ?_⟩
    rw [h3] at hM
    show (s.data.toList.map UInt8.toNat).length ≤ reachBytes
    rw [List.length_map]
    exact hM _ (by simp [DataW.weights])⟩
theorem opensW_slice {α : Type} {e : TypeId} {size bytes : Nat} {R : Reader α} {B : α → Prop} (ht : P.underlying t = some (.slice e)) (hc : P.cellsOf t = 1) (h0 : 0 < size) (hb8 : P.bytesOf e = bytes) (hR : OpensW P e size R B) : OpensW P t 1 (rSlice size R) (fun l => l.length * bytes ≤ reachBytes ∧ ∀ a ∈ l, B a) := by
  refine ⟨hc, fun {H enc w base spare held fuel cs x} h hM => ?_⟩
  rcases DataW.trod_slice ht h with ⟨rfl, _⟩ | ⟨ad, len, cap, elems, rest, n, _, rfl, hxe, _, hl, hm, hel, he, _⟩
  · exact ⟨[], ⟨none, 0, [], rfl, Nat.le_refl _, Nat.zero_le _, .inl rfl, Chunks.nil⟩, by simp, by simp⟩
  · rw [hR.cells] at he
    rw [hxe] at hM
    simp only [DataW.weights, ht, List.mem_cons, List.mem_append] at hM
    have hlen : len * bytes ≤ reachBytes := by
      have := hM _ (.inl rfl)
      rw [List.length_map, List.length_map, hel, hb8, Nat.add_mul] at this
      omega
    have each : ∀ i, i < len → ∃ (a : α) (ds : List Value), w.cells? base (ad.add (i * size)) size = some ds ∧ R (All w) w ds a ∧ B a := fun i hi => by
      have h1 := he i hi
      rw [List.getElem?_eq_getElem (by omega), Option.bind_eq_some_iff] at h1
      obtain ⟨ds, h2, h3⟩ := h1
      obtain ⟨a, ha⟩ := hR.opens h3 fun n hn => hM n (.inr (.inl (weights_all (List.mem_map.2 ⟨_, List.getElem_mem _, rfl⟩) n hn)))
      exact ⟨a, ds, h2, ha⟩
    by_cases hz : len = 0
    · subst hz
      exact ⟨[], ⟨some ad, cap, [], rfl, hl, hm, .inl rfl, Chunks.nil⟩, by simp, by simp⟩
    · obtain ⟨b, off, sp⟩ := ad
      have hsp : sp = none ∧ b < w.heap.size := by
        obtain ⟨_, ds, h2, _⟩ := each 0 (by omega)
        rw [Nat.zero_mul] at h2
        have h3 := World.cells?_block h2 h0
        obtain ⟨_, h4, h5⟩ := World.cells?_some h2
        have h6 := h5 0 h0
        rw [List.getElem?_eq_getElem (by omega)] at h6
        have h7 := World.cell?_spot h6
        exact ⟨by simpa [Addr.add] using h7, by simpa [Addr.add] using h3⟩
      obtain ⟨rfl, hb⟩ := hsp
      obtain ⟨xs, l, hll, hx, hch⟩ := flat_of (R := fun cs a => R (All w) w cs a ∧ B a) (w := w) (b := b) (off := off) len fun i hi => by
        obtain ⟨a, ds, h2, h3⟩ := each i hi
        obtain ⟨_, h4, h5⟩ := World.cells?_some h2
        refine ⟨a, ds, h4, fun j u hu => ?_, h3⟩
        have := h5 j (by have := (List.getElem?_eq_some_iff.1 hu).1; omega)
        rw [addr_add, addr_add, hu] at this
        exact this
      refine ⟨l, ⟨some ⟨b, off, none⟩, cap, xs, by rw [hll], by omega, hm, .inr ⟨b, off, rfl, hb, hx⟩, hch.imp fun _ _ h => h.1⟩, by rw [hll]; exact hlen, fun a ha => ?_⟩
      obtain ⟨i, hi⟩ := List.getElem?_of_mem ha
      exact (hch.2 i a hi).2
theorem opensW_struct1 {α : Type} {f : Field} {s1 : Nat} {R : Reader α} {B : α → Prop} (ht : P.underlying t = some (.struct #[f])) (hc : P.cellsOf t = s1) (hf : f.offset = 0) (hR : OpensW P f.type s1 R B) : OpensW P t s1 R B := by
  refine ⟨hc, fun h hM => ?_⟩
  obtain ⟨xs, n, _, hxe, hl, hx, he⟩ := DataW.trod_struct ht h
  have h1 := he 0 f rfl
  simp only [List.size_toArray, List.length_cons, List.length_nil] at hx
  rw [List.getElem?_eq_getElem (by omega), hf, hR.cells, List.drop_zero, take_all (by omega)] at h1
  rw [hxe] at hM
  simp only [DataW.weights, ht] at hM
  exact hR.opens h1 fun n hn => hM n (DataW.weights_mem_each (j := 0) (t := f.type) rfl (by rw [List.getElem?_map, List.getElem?_eq_getElem (by omega)]; rfl) n hn)
theorem opensW_struct2 {α β : Type} {f g : Field} {s1 s2 : Nat} {R : Reader α} {S : Reader β} {B : α → Prop} {C : β → Prop} (ht : P.underlying t = some (.struct #[f, g])) (hc : P.cellsOf t = s1 + s2) (hf : f.offset = 0) (hg : g.offset = s1) (hR : OpensW P f.type s1 R B) (hS : OpensW P g.type s2 S C) :
    OpensW P t (s1 + s2) (rBoth s1 R S) (fun x => B x.1 ∧ C x.2) := by
  refine ⟨hc, fun h hM => ?_⟩
  obtain ⟨xs, n, _, hxe, hl, hx, he⟩ := DataW.trod_struct ht h
  have h1 := he 0 f rfl
  have h2 := he 1 g rfl
  simp only [List.size_toArray, List.length_cons, List.length_nil] at hx
  rw [List.getElem?_eq_getElem (by omega), hf, hR.cells, List.drop_zero] at h1
  rw [List.getElem?_eq_getElem (by omega), hg, hS.cells, take_all (by rw [List.length_drop]; omega)] at h2
  rw [hxe] at hM
  simp only [DataW.weights, ht] at hM
  obtain ⟨a, ha, hba⟩ := hR.opens h1 fun n hn => hM n (DataW.weights_mem_each (j := 0) (t := f.type) rfl (by rw [List.getElem?_map, List.getElem?_eq_getElem (by omega)]; rfl) n hn)
  obtain ⟨b, hb, hbb⟩ := hS.opens h2 fun n hn => hM n (DataW.weights_mem_each (j := 1) (t := g.type) rfl (by rw [List.getElem?_map, List.getElem?_eq_getElem (by omega)]; rfl) n hn)
  exact ⟨(a, b), ⟨by rw [List.length_take]; omega, ha, hb⟩, hba, hbb⟩
theorem opensW_struct3 {α β γ : Type} {f g i : Field} {s1 s2 s3 : Nat} {R : Reader α} {S : Reader β} {T : Reader γ} {B : α → Prop} {C : β → Prop} {D : γ → Prop} (ht : P.underlying t = some (.struct #[f, g, i])) (hc : P.cellsOf t = s1 + (s2 + s3)) (hf : f.offset = 0) (hg : g.offset = s1) (hi : i.offset = s1 + s2)
    (hR : OpensW P f.type s1 R B) (hS : OpensW P g.type s2 S C) (hT : OpensW P i.type s3 T D) : OpensW P t (s1 + (s2 + s3)) (rBoth s1 R (rBoth s2 S T)) (fun x => B x.1 ∧ C x.2.1 ∧ D x.2.2) := by
  refine ⟨hc, fun h hM => ?_⟩
  obtain ⟨xs, n, _, hxe, hl, hx, he⟩ := DataW.trod_struct ht h
  have h1 := he 0 f rfl
  have h2 := he 1 g rfl
  have h3 := he 2 i rfl
  simp only [List.size_toArray, List.length_cons, List.length_nil] at hx
  rw [List.getElem?_eq_getElem (by omega), hf, hR.cells, List.drop_zero] at h1
  rw [List.getElem?_eq_getElem (by omega), hg, hS.cells] at h2
  rw [List.getElem?_eq_getElem (by omega), hi, hT.cells, take_all (by rw [List.length_drop]; omega), ← List.drop_drop] at h3
  rw [hxe] at hM
  simp only [DataW.weights, ht] at hM
  obtain ⟨a, ha, hba⟩ := hR.opens h1 fun n hn => hM n (DataW.weights_mem_each (j := 0) (t := f.type) rfl (by rw [List.getElem?_map, List.getElem?_eq_getElem (by omega)]; rfl) n hn)
  obtain ⟨b, hb, hbb⟩ := hS.opens h2 fun n hn => hM n (DataW.weights_mem_each (j := 1) (t := g.type) rfl (by rw [List.getElem?_map, List.getElem?_eq_getElem (by omega)]; rfl) n hn)
  obtain ⟨d, hd, hbd⟩ := hT.opens h3 fun n hn => hM n (DataW.weights_mem_each (j := 2) (t := i.type) rfl (by rw [List.getElem?_map, List.getElem?_eq_getElem (by omega)]; rfl) n hn)
  exact ⟨(a, b, d), ⟨by rw [List.length_take]; omega, ha, by rw [List.length_take, List.length_drop]; omega, hb, hd⟩, hba, hbb, hbd⟩
end
/-- What the reach says of a graph. -/
def reachB (g : Gr) : Prop := (g.1.length * 40 ≤ reachBytes ∧ ∀ t ∈ g.1, t.1.length ≤ reachBytes ∧ t.2.length * 40 ≤ reachBytes ∧ ∀ f ∈ t.2, f.1.length ≤ reachBytes ∧ True ∧ f.2.2.length ≤ reachBytes) ∧
  (g.2.1.length * 40 ≤ reachBytes ∧ ∀ o ∈ g.2.1, True ∧ True ∧ o.2.2.length * 32 ≤ reachBytes ∧ ∀ v ∈ o.2.2, True ∧ v.2.1.length ≤ reachBytes ∧ True) ∧ g.2.2.length * 8 ≤ reachBytes ∧ ∀ n ∈ g.2.2, True
theorem tame_reach {g : Gr} (h : reachB g) : tameG g := by
  obtain ⟨⟨h1, h2⟩, ⟨h3, h4⟩, h5, -⟩ := h
  have hr : reachBytes = 140737488351232 := rfl
  refine ⟨⟨by omega, fun t ht => ?_⟩, ⟨by omega, fun o ho => ?_⟩, by omega⟩
  · obtain ⟨a, b, c⟩ := h2 t ht
    refine ⟨by omega, by omega, fun f hf => ?_⟩
    obtain ⟨d, -, e⟩ := c f hf
    exact ⟨by omega, by omega⟩
  · obtain ⟨-, -, a, b⟩ := h4 o ho
    exact ⟨by omega, fun v hv => by have := (b v hv).2.1; omega⟩
end Go.Proofs.YtclbjbhpncpmbaaGreatDoor
