/- Graphs whose memory is the call's own: rows that share nothing. The contract of slices.Clone of numbers. Condition there: a size that memory can hold. -/
import Derived.Test.YteafbdebmhpffaaGrRow
import Derived.Test.YteafbdebmhpffaaIntsAll
import Derived.Lib.SliceRun
namespace Go.Proofs.Yteafbdebmhpffaa
open Go.RowKit

def ints (l : List Int) : List Value := l.map (Value.int .i64)
theorem lit_ints (w : World) (l : List Int) : Rd (w.alloc (.cells (ints l).toArray 3)) (some ⟨w.heap.size, 0, none⟩) (ints l) :=
  .inr ⟨w.heap.size, 0, rfl, by simp, fun j u hu => by
    rw [World.cell?_alloc_at _ _ _ _ rfl, Nat.zero_add]
    simpa using hu⟩
theorem ints_append (a b : List Int) : ints (a ++ b) = ints a ++ ints b := by simp [ints]
@[simp] theorem ints_length (l : List Int) : (ints l).length = l.length := by simp [ints]
theorem ints_one (l : List Int) : ∀ u ∈ ints l, u.oneCell' = true := by
  intro u hu
  obtain ⟨x, _, rfl⟩ := List.mem_map.1 hu
  rfl
theorem chunks_ints : ∀ {l : List Int} {xs : List Value}, Chunks 1 (fun cs n => cs = [.int .i64 n] ∧ (Lit.int .i64 n).wf = true) xs l ↔ xs = ints l ∧ ∀ n ∈ l, (Lit.int .i64 n).wf = true := by
  intro l xs
  constructor
  · intro ⟨h1, h2⟩
    have h1' : xs.length = l.length := by simpa using h1
    have hx : ∀ (i : Nat) (a : Int), l[i]? = some a → xs[i]? = some (.int .i64 a) ∧ (Lit.int .i64 a).wf = true := fun i a ha => by
      obtain ⟨e, hw⟩ := h2 i a ha
      rw [Nat.mul_one] at e
      have := congrArg (·[0]?) e
      simp only [List.getElem?_take, List.getElem?_drop, Nat.add_zero, Nat.zero_lt_one, if_true, List.getElem?_cons_zero] at this
      exact ⟨this, hw⟩
    refine ⟨List.ext_getElem? fun i => ?_, fun n hn => ?_⟩
    · by_cases hi : i < l.length
      · rw [(hx i l[i] (List.getElem?_eq_getElem hi)).1]; simp [ints, hi]
      · rw [List.getElem?_eq_none (by omega), List.getElem?_eq_none (by simp; omega)]
    · obtain ⟨i, hi⟩ := List.getElem?_of_mem hn
      exact (hx i n hi).2
  · rintro ⟨rfl, h⟩
    refine ⟨by simp, fun i a ha => ⟨?_, h a (List.mem_of_getElem? ha)⟩⟩
    have hlt := (List.getElem?_eq_some_iff.1 ha).1
    rw [Nat.mul_one, List.drop_eq_getElem_cons (by simpa using hlt)]
    simp [ints, (List.getElem?_eq_some_iff.1 ha).2]
theorem ids_rd {w : World} {A : Option Addr} {n c : Nat} {l : List Int} (h : rIds (All w) w [.slice A n c] l) : Rd w A (ints l) ∧ ∀ n ∈ l, (Lit.int .i64 n).wf = true := by
  obtain ⟨A1, c1, xs, hv, _, _, hr, hc⟩ := h
  obtain ⟨rfl, hw⟩ := chunks_ints.1 hc
  have hA : A = A1 := by simp at hv; exact hv.1
  subst hA
  exact ⟨hr, hw⟩
/-- A row of numbers of the call's own, read. -/
theorem ids_own {w : World} {base n : Nat} {A : Option Addr} {c : Nat} {l : List Int} (h : w.ownsRow base 3 1 (.slice A n c) n (ints l)) (hn : l.length = n) (hw : ∀ n ∈ l, (Lit.int .i64 n).wf = true) : rIds (fun b => base ≤ b ∧ b < w.heap.size) w [.slice A n c] l := by
  obtain ⟨A1, c1, hv, h1, h2, h3⟩ := own_in h
  injection hv with e1 e2 e3
  subst e1 e3 hn
  exact ⟨A, c, _, rfl, h1, h2, h3, chunks_ints.2 ⟨rfl, hw⟩⟩

set_option maxRecDepth 100000 in
set_option maxHeartbeats 1000000 in
theorem iclone_any (A : Option Addr) (N c : Nat) (l : List Int) (w : World) (h : rIds (All w) w [.slice A N c] l) (hN : N ≤ 17592186044416) :
    Calls Try.prog 74 #[.slice A N c] w fun e w' => ∃ A1 c1, e = .returned (.slice A1 N c1) ∧ w'.ownsRow w.heap.size 3 1 (.slice A1 N c1) N (ints l) ∧ Below w.heap.size w w' := by
  obtain ⟨hl, _, _⟩ := slice_len h
  obtain ⟨i0, hi, hz0, hz1, hz2⟩ := info_parts info_int
  have hr := (ids_rd h).1
  clear h
  cases A with
  | none =>
    have h0 : l = [] := by
      rcases hr with h | ⟨_, _, h, _⟩
      · exact List.eq_nil_of_length_eq_zero (by simpa using congrArg List.length h)
      · cases h
    subst h0
    obtain rfl : N = 0 := by simpa using hl.symm
    have hq := fun W : World => Lib.run_eql_slice_nil (P := Try.prog) W 26 3 none 0 c 0 0 rfl
    go_enter Try.func74, Try.ntmps74
    go_wp2
    go_ret
    exact ⟨none, 0, rfl, World.ownsRow_nil _ _ _ _, Below.refl _ _⟩
  | some a =>
    have hq := fun W : World => Lib.run_eql_slice_nil (P := Try.prog) W 26 3 (some a) N c 0 0 rfl
    have hB0 : Below w.heap.size w (w.alloc (.cells #[] 3)) := (Below.refl _ w).alloc (Nat.le_refl _) _
    have hown : (w.alloc (.cells #[] 3)).ownsRow w.heap.size 3 1 (.slice (some ⟨w.heap.size, 0, none⟩) 0 0) 0 [] :=
      ⟨rfl, .inr ⟨w.heap.size, 0, #[], rfl, Nat.le_refl _, heap_alloc_new w _, Nat.le_refl _, by simp [maxLen], rfl, rfl⟩⟩
    have hr0 := hr.below hB0
    have Hown := Lib.hid hown
    clear hown hr
    go_enter Try.func74, Try.ntmps74
    go_wp2_with (first | (at_builtin; refine wpList_app rfl _ _ 26 rfl w.heap.size 3 i0 (.int .i64 0) 8 rfl hi hz0 hz1 hz2 rfl _ 0 [] rfl Hown.out (some a) N c (ints l) rfl (by simpa using hl) hr0 (ints_one l) (by simp only [maxLen]; omega) (by omega) (by simp) ?_; intro v1 w1 hown1 hg1 hv1) | fail)
    obtain ⟨A1, c1, hv, _⟩ := own_slice hown1
    rw [Nat.zero_add] at hv hown1
    subst hv
    go_ret
    exact ⟨A1, c1, rfl, by simpa using hown1, hB0.grown hg1 (by simp) (fun k hk => by injection hk with hk; exact Nat.le_of_eq hk)⟩

/-- Objects in the block's cells ds, whose values lie in blocks between lo and hi, each in one of its own. -/
def ObIn (lo hi : Nat) (w : World) (ds : List Value) (os : List Ob) : Prop := ∃ bs : List Nat, ds = obCells os bs ∧ os.length = bs.length ∧ bs.Pairwise (· < ·) ∧ ∀ (i : Nat) o b, os[i]? = some o → bs[i]? = some b → lo < b ∧ b < hi ∧ OwnF w b o
theorem ObIn.keep {lo hi : Nat} {w w' : World} {ds : List Value} {os : List Ob} (h : ObIn lo hi w ds os) (hk : ∀ b, lo < b → b < hi → w'.heap[b]? = w.heap[b]?) : ObIn lo hi w' ds os := by
  obtain ⟨bs, h1, h2, h3, h4⟩ := h
  refine ⟨bs, h1, h2, h3, fun i o b ho hb => ?_⟩
  obtain ⟨h5, h6, h7⟩ := h4 i o b ho hb
  exact ⟨h5, h6, h7.keep (hk b h5 h6)⟩
theorem ObIn.chunks {lo hi : Nat} {w : World} {ds : List Value} {os : List Ob} (h : ObIn lo hi w ds os) : Chunks 3 (rOb (fun b => lo < b ∧ b < hi) w) ds os := by
  obtain ⟨bs, rfl, h2, -, h4⟩ := h
  induction os generalizing bs with
  | nil => cases bs with
    | nil => exact Chunks.nil
    | cons b bs => simp at h2
  | cons o os ih => cases bs with
    | nil => simp at h2
    | cons b bs =>
      obtain ⟨h5, h6, h7, h8, h9, vs, h10, h11⟩ := h4 0 o b rfl rfl
      have h12 := ih bs (by simpa using h2) (fun i p c hp hc => h4 (i + 1) p c (by simpa using hp) (by simpa using hc))
      exact Chunks.append (xs := [.int .i64 o.1, .int .i64 o.2.1, .slice (some ⟨b, 0, none⟩) o.2.2.length o.2.2.length]) (l := [o]) (Chunks.one rfl (rOb_mk h7 h8 (blk_slice h10 h11 ⟨h5, h6⟩ h9))) h12

/-- A graph in memory that is the call's own, from H on: its types from b1 on, its objects from b2 on, its roots (the slice v) from m on. -/
structure OwnG (H : Nat) (w : World) (g : Gr) (b1 b2 m : Nat) (v : Value) : Prop where
  low : H ≤ b1
  one : b1 < b2
  two : b2 < m
  top : m ≤ w.heap.size
  sch : rSch (fun b => b1 ≤ b ∧ b < b2) w [.slice (some ⟨b1, 0, none⟩) g.1.length g.1.length] g.1
  obs : ∃ ds, Blk w b2 38 ds ∧ ObIn b2 m w ds g.2.1
  len : g.2.1.length ≤ maxLen
  ids : w.ownsRow m 3 1 v g.2.2.length (ints g.2.2)
  wf : ∀ n ∈ g.2.2, (Lit.int .i64 n).wf = true
theorem own_keep {w w' : World} {base e size n : Nat} {v : Value} {xs : List Value} (h : w.ownsRow base e size v n xs) (hk : ∀ b, base ≤ b → b < w.heap.size → w'.heap[b]? = w.heap[b]?) : w'.ownsRow base e size v n xs := by
  refine ⟨h.1, ?_⟩
  rcases h.2 with h | ⟨g, cap, cur, h1, h2, h3, h4⟩
  · exact .inl h
  · exact .inr ⟨g, cap, cur, h1, h2, (hk g h2 (Array.getElem?_eq_some_iff.1 h3).1).trans h3, h4⟩
section
variable {H b1 b2 m : Nat} {w w' : World} {g : Gr} {v : Value}
theorem OwnG.keep (h : OwnG H w g b1 b2 m v) (hs : w.heap.size ≤ w'.heap.size) (hk : ∀ b, H ≤ b → b < w.heap.size → w'.heap[b]? = w.heap[b]?) : OwnG H w' g b1 b2 m v := by
  obtain ⟨ds, h1, h2⟩ := h.obs
  have := h.low; have := h.one; have := h.two; have := h.top
  exact ⟨h.low, h.one, h.two, by omega, rSch_stays.to (fun b hb => ⟨hb, hk b (by omega) (by omega)⟩) h.sch, ⟨ds, (hk b2 (by omega) (by omega)).trans h1, h2.keep fun b h3 h4 => hk b (by omega) (by omega)⟩, h.len,
    own_keep h.ids fun b h3 h4 => hk b (by omega) h4, h.wf⟩
theorem OwnG.below (h : OwnG H w g b1 b2 m v) (hB : Below w.heap.size w w') : OwnG H w' g b1 b2 m v := h.keep hB.size fun b _ hb => hB.block b hb
theorem OwnG.lower {H' : Nat} (h : OwnG H w g b1 b2 m v) (hH : H' ≤ H) : OwnG H' w g b1 b2 m v := ⟨Nat.le_trans hH h.low, h.one, h.two, h.top, h.sch, h.obs, h.len, h.ids, h.wf⟩
/-- Read. -/
theorem OwnG.read {A : Option Addr} {K c : Nat} (h : OwnG H w g b1 b2 m (.slice A K c)) (hK : g.2.2.length = K) : rGr (All w) w [.slice (some ⟨b1, 0, none⟩) g.1.length g.1.length, .slice (some ⟨b2, 0, none⟩) g.2.1.length g.2.1.length, .slice A K c] g := by
  obtain ⟨ds, h1, h2⟩ := h.obs
  have := h.low; have := h.one; have := h.two; have := h.top
  subst hK
  refine rGr_mk (rSch_stays.to (Keeps.mono fun b hb => by show b < _; omega) h.sch) ?_ (rIds_stays.to (Keeps.mono fun b hb => hb.2) (ids_own h.ids rfl h.wf))
  exact blk_slice h1 (h2.chunks.imp fun cs a hq => rOb_stays.to (Keeps.mono fun b hb => by show b < _; omega) hq) (by show b2 < _; omega) h.len
theorem OwnG.make {w1 w2 : World} {cs1 cs2 : List Value} (hH : H ≤ b1) (p1 : Blk w1 b1 51 cs1) (q1 : Chunks 2 (rTyp (fun b => b1 < b ∧ b < w1.heap.size) w1) cs1 g.1) (hB2 : Below w1.heap.size w1 w2) (p2 : Blk w2 w1.heap.size 38 cs2)
    (q2 : ObDone w1.heap.size w2 cs2 g.2.1) (hB3 : Below w2.heap.size w2 w) (q3 : w.ownsRow w2.heap.size 3 1 v g.2.2.length (ints g.2.2)) (hw : ∀ n ∈ g.2.2, (Lit.int .i64 n).wf = true) (h1 : g.1.length ≤ maxLen) (h2 : g.2.1.length ≤ maxLen) : OwnG H w g b1 w1.heap.size w2.heap.size v := by
  have a1 := p1.lt
  have a2 := p2.lt
  have a3 := hB3.size
  have hB : Below w1.heap.size w1 w := hB2.trans (hB3.mono hB2.size)
  exact ⟨hH, a1, a2, a3, rSch_stays.to (S := fun b => b1 ≤ b ∧ b < w1.heap.size) (w := w1) (fun b hb => ⟨hb, hB.block b hb.2⟩) (blk_slice p1 (q1.imp fun cs a hq => rTyp_stays.to (Keeps.mono fun b hb => ⟨by omega, hb.2⟩) hq) ⟨Nat.le_refl _, a1⟩ h1),
    ⟨cs2, (hB3.block _ a2).trans p2, ObIn.keep (w := w2) q2 fun b _ hb => hB3.block b hb⟩, h2, q3, hw⟩
end
end Go.Proofs.Yteafbdebmhpffaa
