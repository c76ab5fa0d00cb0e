/- Readers: what cells hold, as plain data, by a type's shape: numbers, bools, texts, bytes, slices of whatever can be read, and what stands side by side (structs). A reader names the blocks that it may look into: so a reading stays where these are kept. From the row's reading of an argument to these words. Over any program. No condition. -/
import Derived.Test.YtembafogbfcajaaOpen
import Derived.ChangeArms
import Derived.ChangeOld
namespace Go.Proofs.Ytembafogbfcajaa
open Go.RowKit Go.ChangeShapes

/-- A slice's address A, in the world w: it holds the values xs, in a block that is one of S. -/
def RdIn (S : Nat → Prop) (w : World) (A : Option Addr) (xs : List Value) : Prop :=
  xs = [] ∨ ∃ b off, A = some ⟨b, off, none⟩ ∧ S b ∧ ∀ j u, xs[j]? = some u → w.cell? ⟨b, off + j, none⟩ = some u
/-- What cells hold in a world, as a datum; S: the blocks that are looked into. -/
abbrev Reader (α : Type) := (Nat → Prop) → World → List Value → α → Prop
/-- All of a world's blocks. -/
abbrev All (w : World) : Nat → Prop := fun b => b < w.heap.size
/-- The blocks of S lie in w' as in w, and are of S'. -/
def Keeps (S S' : Nat → Prop) (w w' : World) : Prop := ∀ b, S b → S' b ∧ w'.heap[b]? = w.heap[b]?
/-- A reading stays where its blocks are kept. -/
structure Stays {α : Type} (R : Reader α) : Prop where
  to : ∀ {S S' : Nat → Prop} {w w' : World} {cs : List Value} {a : α}, Keeps S S' w w' → R S w cs a → R S' w' cs a
theorem Keeps.below {w w' : World} (h : Below w.heap.size w w') : Keeps (All w) (All w') w w' := fun b hb => ⟨Nat.lt_of_lt_of_le hb h.size, h.block b hb⟩
theorem Keeps.mono {S S' : Nat → Prop} {w : World} (h : ∀ b, S b → S' b) : Keeps S S' w w := fun b hb => ⟨h b hb, rfl⟩
theorem RdIn.keeps {S S' : Nat → Prop} {w w' : World} {A : Option Addr} {xs : List Value} (hk : Keeps S S' w w') (h : RdIn S w A xs) : RdIn S' w' A xs := by
  rcases h with rfl | ⟨b, off, rfl, hb, hc⟩
  · exact .inl rfl
  · exact .inr ⟨b, off, rfl, (hk b hb).1, fun j u hu => (World.cell?_of_block (w := w) (a := ⟨b, off + j, none⟩) (hk b hb).2).trans (hc j u hu)⟩
theorem RdIn.rd {w : World} {A : Option Addr} {xs : List Value} (h : RdIn (All w) w A xs) : Rd w A xs := h
theorem Rd.rdIn {w : World} {A : Option Addr} {xs : List Value} (h : Rd w A xs) : RdIn (All w) w A xs := h

def rInt (k : IntKind) : Reader Int := fun _ _ cs n => cs = [.int k n] ∧ (Lit.int k n).wf = true
def rBool : Reader Bool := fun _ _ cs b => cs = [.bool b]
def rStr : Reader ByteArray := fun _ _ cs s => cs = [.string s] ∧ s.size ≤ maxLen
def rBytes : Reader (List Nat) := fun S w cs b => ∃ A c, cs = [.slice A b.length c] ∧ b.length ≤ c ∧ c ≤ maxLen ∧ (∀ x ∈ b, x < 256) ∧ RdIn S w A (u8s b)
/-- Cells, so many of them an element, are the elements of l. -/
def Chunks {α : Type} (size : Nat) (R : List Value → α → Prop) (xs : List Value) (l : List α) : Prop :=
  xs.length = l.length * size ∧ ∀ i a, l[i]? = some a → R ((xs.drop (i * size)).take size) a
def rSlice {α : Type} (size : Nat) (R : Reader α) : Reader (List α) := fun S w cs l =>
  ∃ A c xs, cs = [.slice A l.length c] ∧ l.length ≤ c ∧ c ≤ maxLen ∧ RdIn S w A xs ∧ Chunks size (R S w) xs l
/-- Side by side: the first one's cells, and the rest. -/
def rBoth {α β : Type} (size : Nat) (R : Reader α) (T : Reader β) : Reader (α × β) := fun S w cs x => (cs.take size).length = size ∧ R S w (cs.take size) x.1 ∧ T S w (cs.drop size) x.2

theorem rInt_stays (k : IntKind) : Stays (rInt k) := ⟨fun _ h => h⟩
theorem rBool_stays : Stays rBool := ⟨fun _ h => h⟩
theorem rStr_stays : Stays rStr := ⟨fun _ h => h⟩
theorem rBytes_stays : Stays rBytes := ⟨fun hk ⟨A, c, h1, h2, h3, h4, h5⟩ => ⟨A, c, h1, h2, h3, h4, h5.keeps hk⟩⟩
section
variable {α : Type} {size : Nat} {R R' : List Value → α → Prop} {xs ys : List Value} {l m : List α}
theorem Chunks.imp (h : Chunks size R xs l) (hR : ∀ cs a, R cs a → R' cs a) : Chunks size R' xs l := ⟨h.1, fun i a ha => hR _ _ (h.2 i a ha)⟩
theorem Chunks.nil : Chunks size R [] ([] : List α) := ⟨by simp, fun i a h => by simp at h⟩
theorem Chunks.append (h : Chunks size R xs l) (h' : Chunks size R ys m) : Chunks size R (xs ++ ys) (l ++ m) := by
  refine ⟨by rw [List.length_append, List.length_append, h.1, h'.1, Nat.add_mul], fun i a ha => ?_⟩
  by_cases hi : i < l.length
  · rw [List.getElem?_append_left hi] at ha
    have h1 := h.2 i a ha
    have hle : i * size + size ≤ xs.length := by rw [h.1, ← Nat.succ_mul]; exact Nat.mul_le_mul_right _ hi
    rw [List.drop_append_of_le_length (by omega), List.take_append_of_le_length (by rw [List.length_drop]; omega)]
    exact h1
  · rw [List.getElem?_append_right (by omega)] at ha
    have h1 := h'.2 _ a ha
    have e : i * size = xs.length + (i - l.length) * size := by rw [h.1, ← Nat.add_mul]; congr 1; omega
    rw [e, ← List.drop_drop, List.drop_append_of_le_length (by omega), List.drop_of_length_le (Nat.le_refl _), List.nil_append]
    exact h1
theorem Chunks.one {cs : List Value} {a : α} (hl : cs.length = size) (h : R cs a) : Chunks size R cs [a] := by
  refine ⟨by simp [hl], fun i b hb => ?_⟩
  cases i with
  | zero => simp at hb; subst hb; simpa [← hl] using h
  | succ i => simp at hb
/-- The elements from k on, and up to k. -/
theorem Chunks.drop (h : Chunks size R xs l) (k : Nat) : Chunks size R (xs.drop (k * size)) (l.drop k) := by
  refine ⟨by rw [List.length_drop, List.length_drop, h.1, Nat.sub_mul], fun i a ha => ?_⟩
  rw [List.getElem?_drop] at ha
  have := h.2 _ a ha
  rwa [Nat.add_mul, ← List.drop_drop] at this
end
theorem rSlice_stays {α : Type} {size : Nat} {R : Reader α} (hR : Stays R) : Stays (rSlice size R) :=
  ⟨fun hk ⟨A, c, xs, h1, h2, h3, h4, h5⟩ => ⟨A, c, xs, h1, h2, h3, h4.keeps hk, h5.imp fun _ _ h => hR.to hk h⟩⟩
theorem rBoth_stays {α β : Type} {size : Nat} {R : Reader α} {T : Reader β} (hR : Stays R) (hT : Stays T) : Stays (rBoth size R T) := ⟨fun hk h => ⟨h.1, hR.to hk h.2.1, hT.to hk h.2.2⟩⟩

/-- Of the type t, of so many cells, whatever the row reads can be read so. -/
structure Opens {α : Type} (P : Program) (t : TypeId) (size : Nat) (R : Reader α) : Prop where
  cells : P.cellsOf t = size
  opens : ∀ {H : Type} {enc : TypeId × Value → H} {w : World} {base : Nat} {spare : Nat → Bool} {held : Bool} {fuel : Nat} {cs : List Value} {x : DataW H × List MemPlace},
    DataW.trod enc P w base spare held fuel t cs = some x → ∃ a, R (All w) w cs a
section
variable {P : Program} {t : TypeId}
theorem Opens.imp {α β : Type} {size : Nat} {R : Reader α} {R' : Reader β} (h : Opens P t size R) (hi : ∀ S w cs a, R S w cs a → ∃ b, R' S w cs b) : Opens P t size R' :=
  ⟨h.cells, fun ht => by obtain ⟨a, ha⟩ := h.opens ht; exact hi _ _ _ a ha⟩
theorem opens_int {k : IntKind} (ht : P.underlying t = some (.int k)) (hc : P.cellsOf t = 1) : Opens P t 1 (rInt k) :=
  ⟨hc, fun h => by obtain ⟨n, h1, _, h2⟩ := DataW.trod_int ht h; exact ⟨n, h1, h2⟩⟩
theorem opens_bool (ht : P.underlying t = some .bool) (hc : P.cellsOf t = 1) : Opens P t 1 rBool :=
  ⟨hc, fun h => by obtain ⟨b, h1, _⟩ := DataW.trod_bool ht h; exact ⟨b, h1⟩⟩
theorem opens_str (ht : P.underlying t = some .string) (hc : P.cellsOf t = 1) : Opens P t 1 rStr :=
  ⟨hc, fun h => by obtain ⟨s, h1, _, h2⟩ := DataW.trod_string ht h; exact ⟨s, h1, h2⟩⟩

/-- A list out of what is known of each place. -/
theorem list_of {α : Type} {p : Nat → α → Prop} : ∀ (n : Nat), (∀ i, i < n → ∃ a, p i a) → ∃ l : List α, l.length = n ∧ ∀ i a, l[i]? = some a → p i a
  | 0, _ => ⟨[], rfl, fun i a h => by simp at h⟩
  | n + 1, h => by
    obtain ⟨l, hl, hp⟩ := list_of n fun i hi => h i (by omega)
    obtain ⟨a, ha⟩ := h n (by omega)
    refine ⟨l ++ [a], by simp [hl], fun i b hb => ?_⟩
    by_cases hi : i < l.length
    · rw [List.getElem?_append_left hi] at hb
      exact hp i b hb
    · have hlt := (List.getElem?_eq_some_iff.1 hb).1
      have hin : i = n := by simp at hlt; omega
      subst hin
      rw [List.getElem?_append_right (by omega), hl, Nat.sub_self] at hb
      simp at hb
      exact hb ▸ ha
/-- Cells in a row of so many each: all of them, one behind the other. -/
theorem flat_of {w : World} {b off size : Nat} {α : Type} {R : List Value → α → Prop} : ∀ (n : Nat), (∀ i, i < n → ∃ a ds, ds.length = size ∧ (∀ j u, ds[j]? = some u → w.cell? ⟨b, off + i * size + j, none⟩ = some u) ∧ R ds a) →
    ∃ xs l, l.length = n ∧ (∀ j u, xs[j]? = some u → w.cell? ⟨b, off + j, none⟩ = some u) ∧ Chunks size R xs l
  | 0, _ => ⟨[], [], rfl, fun j u h => by simp at h, Chunks.nil⟩
  | n + 1, h => by
    obtain ⟨xs, l, hl, hx, hc⟩ := flat_of n fun i hi => h i (by omega)
    obtain ⟨a, ds, hd, hdc, ha⟩ := h n (by omega)
    refine ⟨xs ++ ds, l ++ [a], by simp [hl], fun j u hu => ?_, hc.append (Chunks.one hd ha)⟩
    have hxl : xs.length = n * size := by rw [hc.1, hl]
    by_cases hj : j < xs.length
    · rw [List.getElem?_append_left hj] at hu
      exact hx j u hu
    · rw [List.getElem?_append_right (by omega)] at hu
      have := hdc _ u hu
      rw [show off + n * size + (j - xs.length) = off + j by omega] at this
      exact this
theorem opens_slice {α : Type} {e : TypeId} {size : Nat} {R : Reader α} (ht : P.underlying t = some (.slice e)) (hc : P.cellsOf t = 1) (h0 : 0 < size) (hR : Opens P e size R) : Opens P t 1 (rSlice size R) := by
  refine ⟨hc, fun {H enc w base spare held fuel cs x} h => ?_⟩
  rcases DataW.trod_slice ht h with ⟨rfl, _⟩ | ⟨ad, len, cap, elems, rest, n, _, rfl, _, _, hl, hm, hel, he, _⟩
  · exact ⟨[], none, 0, [], rfl, Nat.le_refl _, Nat.zero_le _, .inl rfl, Chunks.nil⟩
  · rw [hR.cells] at he
    have each : ∀ i, i < len → ∃ (a : α) (ds : List Value), w.cells? base (ad.add (i * size)) size = some ds ∧ R (All w) w ds a := fun i hi => by
      have h1 := he i hi
      rw [List.getElem?_eq_getElem (by omega), Option.bind_eq_some_iff] at h1
      obtain ⟨ds, h2, h3⟩ := h1
      obtain ⟨a, ha⟩ := hR.opens h3
      exact ⟨a, ds, h2, ha⟩
    by_cases hz : len = 0
    · subst hz
      exact ⟨[], some ad, cap, [], rfl, hl, hm, .inl rfl, Chunks.nil⟩
    · obtain ⟨b, off, sp⟩ := ad
      have hsp : sp = none ∧ b < w.heap.size := by
        obtain ⟨_, ds, h2, _⟩ := each 0 (by omega)
        rw [Nat.zero_mul] at h2
        have h3 := World.cells?_block h2 h0
        obtain ⟨_, h4, h5⟩ := World.cells?_some h2
        have h6 := h5 0 h0
        rw [List.getElem?_eq_getElem (by omega)] at h6
        have h7 := World.cell?_spot h6
        exact ⟨by simpa [Addr.add] using h7, by simpa [Addr.add] using h3⟩
      obtain ⟨rfl, hb⟩ := hsp
      obtain ⟨xs, l, hll, hx, hch⟩ := flat_of (R := R (All w) w) (w := w) (b := b) (off := off) len fun i hi => by
        obtain ⟨a, ds, h2, h3⟩ := each i hi
        obtain ⟨_, h4, h5⟩ := World.cells?_some h2
        refine ⟨a, ds, h4, fun j u hu => ?_, h3⟩
        have := h5 j (by have := (List.getElem?_eq_some_iff.1 hu).1; omega)
        rw [addr_add, addr_add, hu] at this
        exact this
      exact ⟨l, some ⟨b, off, none⟩, cap, xs, by rw [hll], by omega, hm, .inr ⟨b, off, rfl, hb, hx⟩, hch⟩
/-- A slice of one-cell integers that are bytes. -/
theorem chunks_u8 : ∀ (l : List Int) (xs : List Value), Chunks 1 (fun cs n => cs = [.int .u8 n] ∧ (Lit.int .u8 n).wf = true) xs l → ∃ b : List Nat, b.length = l.length ∧ (∀ x ∈ b, x < 256) ∧ xs = u8s b
  | [], xs, h => ⟨[], rfl, by simp, List.eq_nil_of_length_eq_zero (by simpa using h.1)⟩
  | n :: l, xs, h => by
    obtain ⟨b, hb, hx, he⟩ := chunks_u8 l (xs.drop 1) (by have := h.drop 1; simpa using this)
    obtain ⟨e, hw⟩ := h.2 0 n rfl
    obtain ⟨m, rfl⟩ := Int.eq_ofNat_of_zero_le (bounds_u8 hw).1
    have hm := (bounds_u8 hw).2
    have hl := h.1
    match xs, hl with
    | x :: r, _ =>
      simp at e he
      refine ⟨m :: b, by simp [hb], fun y hy => ?_, by simp [u8s, e, he]⟩
      rcases List.mem_cons.1 hy with rfl | hy
      · omega
      · exact hx y hy
    | [], hl => simp at hl
theorem opens_bytes {e : TypeId} (ht : P.underlying t = some (.slice e)) (hc : P.cellsOf t = 1) (he : P.underlying e = some (.int .u8)) (hce : P.cellsOf e = 1) : Opens P t 1 rBytes :=
  (opens_slice ht hc (by omega) (opens_int he hce)).imp fun S w cs l ⟨A, c, xs, h1, h2, h3, h4, h5⟩ => by
    obtain ⟨b, hb, hx, rfl⟩ := chunks_u8 l xs h5
    exact ⟨b, A, c, by rw [hb]; exact h1, by omega, h3, hx, h4⟩
theorem take_all {l : List Value} {n : Nat} (h : l.length = n) : l.take n = l := List.take_of_length_le (by omega)
theorem opens_struct1 {α : Type} {f : Field} {s1 : Nat} {R : Reader α} (ht : P.underlying t = some (.struct #[f])) (hc : P.cellsOf t = s1) (hf : f.offset = 0) (hR : Opens P f.type s1 R) : Opens P t s1 R := by
  refine ⟨hc, fun h => ?_⟩
  obtain ⟨xs, n, _, _, hl, hx, he⟩ := DataW.trod_struct ht h
  have h1 := he 0 f rfl
  simp only [List.size_toArray, List.length_cons, List.length_nil] at hx
  rw [List.getElem?_eq_getElem (by omega), hf, hR.cells, List.drop_zero, take_all (by omega)] at h1
  exact hR.opens h1
theorem opens_struct2 {α β : Type} {f g : Field} {s1 s2 : Nat} {R : Reader α} {S : Reader β} (ht : P.underlying t = some (.struct #[f, g])) (hc : P.cellsOf t = s1 + s2) (hf : f.offset = 0) (hg : g.offset = s1) (hR : Opens P f.type s1 R) (hS : Opens P g.type s2 S) :
    Opens P t (s1 + s2) (rBoth s1 R S) := by
  refine ⟨hc, fun h => ?_⟩
  obtain ⟨xs, n, _, _, hl, hx, he⟩ := DataW.trod_struct ht h
  have h1 := he 0 f rfl
  have h2 := he 1 g rfl
  simp only [List.size_toArray, List.length_cons, List.length_nil] at hx
  rw [List.getElem?_eq_getElem (by omega), hf, hR.cells, List.drop_zero] at h1
  rw [List.getElem?_eq_getElem (by omega), hg, hS.cells, take_all (by rw [List.length_drop]; omega)] at h2
  obtain ⟨a, ha⟩ := hR.opens h1
  obtain ⟨b, hb⟩ := hS.opens h2
  exact ⟨(a, b), by rw [List.length_take]; omega, ha, hb⟩
theorem opens_struct3 {α β γ : Type} {f g i : Field} {s1 s2 s3 : Nat} {R : Reader α} {S : Reader β} {T : Reader γ} (ht : P.underlying t = some (.struct #[f, g, i])) (hc : P.cellsOf t = s1 + (s2 + s3)) (hf : f.offset = 0) (hg : g.offset = s1) (hi : i.offset = s1 + s2)
    (hR : Opens P f.type s1 R) (hS : Opens P g.type s2 S) (hT : Opens P i.type s3 T) : Opens P t (s1 + (s2 + s3)) (rBoth s1 R (rBoth s2 S T)) := by
  refine ⟨hc, fun h => ?_⟩
  obtain ⟨xs, n, _, _, hl, hx, he⟩ := DataW.trod_struct ht h
  have h1 := he 0 f rfl
  have h2 := he 1 g rfl
  have h3 := he 2 i rfl
  simp only [List.size_toArray, List.length_cons, List.length_nil] at hx
  rw [List.getElem?_eq_getElem (by omega), hf, hR.cells, List.drop_zero] at h1
  rw [List.getElem?_eq_getElem (by omega), hg, hS.cells] at h2
  rw [List.getElem?_eq_getElem (by omega), hi, hT.cells, take_all (by rw [List.length_drop]; omega), ← List.drop_drop] at h3
  obtain ⟨a, ha⟩ := hR.opens h1
  obtain ⟨b, hb⟩ := hS.opens h2
  obtain ⟨d, hd⟩ := hT.opens h3
  exact ⟨(a, b, d), by rw [List.length_take]; omega, ha, by rw [List.length_take, List.length_drop]; omega, hb, hd⟩
end
/-- A slice of so many cells each, of the call's own: its cells, and that nothing else lies in its block. -/
theorem own_rd {w : World} {base e size n : Nat} {A : Option Addr} {c : Nat} {xs : List Value} (h : w.ownsRow base e size (.slice A n c) n xs) : Rd w A xs := by
  rcases Nat.eq_zero_or_pos n with h0 | h0
  · subst h0
    exact .inl (List.eq_nil_of_length_eq_zero (by simpa using h.1))
  · obtain ⟨g, cap, hv, _, hlt⟩ := h.form h0
    have hA : A = some ⟨g, 0, none⟩ := by injection hv
    subst hA
    exact .inr ⟨g, 0, rfl, hlt, fun j u hu => by
      have := h.cells (g := g) rfl j u hu
      rw [addr_add] at this
      exact this⟩
theorem own_in {w : World} {base e size n : Nat} {v : Value} {xs : List Value} (h : w.ownsRow base e size v n xs) : ∃ A c, v = .slice A n c ∧ n ≤ c ∧ c ≤ maxLen ∧ RdIn (fun b => base ≤ b ∧ b < w.heap.size) w A xs := by
  rcases h.2 with ⟨rfl, h0⟩ | ⟨g, cap, cur, rfl, hgb, hgc, hnc, hm, _⟩
  · subst h0
    exact ⟨none, 0, rfl, Nat.le_refl _, Nat.zero_le _, .inl (List.eq_nil_of_length_eq_zero (by rw [h.1, Nat.zero_mul]))⟩
  · refine ⟨some ⟨g, 0, none⟩, cap, rfl, hnc, hm, ?_⟩
    rcases own_rd h with h | ⟨b, off, e, hb, hc⟩
    · exact .inl h
    · injection e with e
      injection e with e1 e2
      subst e1 e2
      exact .inr ⟨g, 0, rfl, ⟨hgb, hb⟩, hc⟩
/-- A row of the call's own, whose elements look into other blocks than its own, is a slice of what they read. -/
theorem own_rSlice {α : Type} {R : Reader α} (hR : Stays R) {w : World} {base e size n : Nat} {v : Value} {xs : List Value} {l : List α} (h : w.ownsRow base e size v n xs) (hn : l.length = n) (hc : Chunks size (R (fun b => b < w.heap.size ∧ some b ≠ v.ownBlock) w) xs l) :
    rSlice size R (All w) w [v] l := by
  have hch := hc.imp (R' := R (All w) w) fun cs a h => hR.to (Keeps.mono fun b hb => hb.1) h
  rcases h.2 with ⟨rfl, h0⟩ | ⟨g, cap, cur, rfl, _, hg, hnc, hm, _⟩
  · have : l = [] := List.eq_nil_of_length_eq_zero (by omega)
    subst this
    exact ⟨none, 0, xs, rfl, Nat.le_refl _, Nat.zero_le _, .inl (List.eq_nil_of_length_eq_zero (by rw [h.1, h0, Nat.zero_mul])), hch⟩
  · exact ⟨some ⟨g, 0, none⟩, cap, xs, by rw [hn], by omega, hm, own_rd h, hch⟩
end Go.Proofs.Ytembafogbfcajaa
