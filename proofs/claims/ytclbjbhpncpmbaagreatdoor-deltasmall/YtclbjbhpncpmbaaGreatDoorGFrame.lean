/- The texts FrMem, FrPut, FrGet, Jump, FrAll, FrRows, FrCutPlain, FrBurstPlain, FrFlip in one (as far as the seat has what they speak of); what each proves, and its conditions, stands before it. -/
import Derived.Test.YtclbjbhpncpmbaaGreatDoorGCrc
import Derived.Test.YtclbjbhpncpmbaaGreatDoorGGen
import Derived.Test.YtclbjbhpncpmbaaGreatDoorGBytes
import Derived.Lib.LazyBuf
import Derived.WalkMore
import Derived.ScopeJumps
/- Frames in memory; the contract of slices.Clone of bytes. Condition: a slice's own bound. -/
namespace Go.Proofs.YtclbjbhpncpmbaaGreatDoor
open Go.RowKit

/-- A frame's two cells. -/
abbrev rFra : Reader Fra := rBoth 1 (rInt .i64) rBytes
theorem rFra_stays : Stays rFra := rBoth_stays (rInt_stays _) rBytes_stays
theorem rFra_open {S : Nat → Prop} {w : World} {cs : List Value} {f : Fra} (h : rFra S w cs f) : ∃ A c, cs = [.int .i64 f.1, .slice A f.2.length c] ∧ f.2.length ≤ c ∧ c ≤ maxLen ∧ (∀ x ∈ f.2, x < 256) ∧ (Lit.int .i64 f.1).wf = true ∧ RdIn S w A (u8s f.2) := by
  obtain ⟨_, ⟨h1, hw⟩, A, c, h2, h3, h4, h5, h6⟩ := h
  refine ⟨A, c, ?_, h3, h4, h5, hw, h6⟩
  rw [← List.take_append_drop 1 cs, h1, h2]
  rfl
theorem rFra_mk {S : Nat → Prop} {w : World} {f : Fra} {A : Option Addr} {c : Nat} (hc : f.2.length ≤ c) (hm : c ≤ maxLen) (hb : ∀ x ∈ f.2, x < 256) (hw : (Lit.int .i64 f.1).wf = true) (hr : RdIn S w A (u8s f.2)) : rFra S w [.int .i64 f.1, .slice A f.2.length c] f :=
  ⟨rfl, ⟨rfl, hw⟩, A, c, rfl, hc, hm, hb, hr⟩

/-- A frame that came in, written out. -/
theorem fra_arg {w : World} {cs : Array Value} {f : Fra} (h : rFra (All w) w cs.toList f) : ∃ A c, cs = #[.int .i64 f.1, .slice A f.2.length c] ∧ f.2.length ≤ c ∧ c ≤ maxLen ∧ (∀ x ∈ f.2, x < 256) ∧ (-9223372036854775808 ≤ f.1 ∧ f.1 ≤ 9223372036854775807) ∧ Rd w A (u8s f.2) := by
  obtain ⟨A, c, h1, h2, h3, h4, h5, h6⟩ := rFra_open h
  exact ⟨A, c, by cases cs; simpa using h1, h2, h3, h4, bounds_i64 h5, h6⟩

end Go.Proofs.YtclbjbhpncpmbaaGreatDoor

/- The contract of frame.Put: at every frame that may be its bytes ('putL'), of the call's own; else no bytes, and ErrArg; nothing that was there is changed. No condition. -/
namespace Go.Proofs.YtclbjbhpncpmbaaGreatDoor
open Go.RowKit


end Go.Proofs.YtclbjbhpncpmbaaGreatDoor

/- The contract of frame.Get: at every slice of bytes what 'getE', 'getF' and 'getN' tell; the frame's bytes are of the call's own; nothing that was there is changed. Condition: a slice's own bound (2^47 bytes). -/
namespace Go.Proofs.YtclbjbhpncpmbaaGreatDoor
open Go.RowKit

theorem info_fr : (Tryz.prog.info? 176).map (fun i => (i.zero, i.size)) = some (some (.agg #[.int .i64 0, .slice none 0 0]), 2) := by kernel_rfl
end Go.Proofs.YtclbjbhpncpmbaaGreatDoor

/- A scope whose label stands behind one piece, and to which the run jumps back: what holds at the label, each time, and a measure. Over any program. No condition. -/
namespace Go.Proofs.YtclbjbhpncpmbaaGreatDoor
theorem wp_scope_after {P : Program} {c X : Code} {a : Act} {w : World} {Q : Exit → Act → World → Prop} (l : Nat) (J : Act → World → Prop) (μ : Act → World → Nat) (hf : findLabel (c.seq ((Code.label l).seq X)) l = some (Code.skip.seq X))
    (first : c.wp P (Exit.then J (fun _ _ _ => False)) a w)
    (pass : ∀ a w, J a w → X.wp P (Exit.jump l (fun a' w' => J a' w' ∧ μ a' w' < μ a w) Q) a w) : (Code.scope (c.seq ((Code.label l).seq X))).wp P Q a w := by
  refine wp_scope_jumps l J μ hf ?_ fun a w hJ => wp_seq (wp_skip (pass a w hJ))
  have hX : ∀ a w, J a w → X.wp P (Exit.jump l J Q) a w := fun a w hJ => wp_mono (pass a w hJ) fun e a' w' h => by
    cases e with
    | goto l' => exact ⟨h.1, h.2.1⟩
    | _ => exact h
  refine wp_seq (wp_mono first fun e a' w' h => ?_)
  cases e with
  | normal => exact wp_seq (wp_label (hX a' w' h))
  | _ => exact h.elim
end Go.Proofs.YtclbjbhpncpmbaaGreatDoor

/- The contract of frame.All: at every slice of bytes what 'allL' tells: the frames, of the call's own, and the first error; nothing that was there is changed. Condition: at most 1,000,000,000 bytes. -/
namespace Go.Proofs.YtclbjbhpncpmbaaGreatDoor
open Go.RowKit

def lenOf : Value → Nat | .slice _ m _ => m | _ => 0
theorem info_fr4 : (Tryz.prog.info? 176).map (fun i => (i.zero, i.size, i.bytes)) = some (some (.agg #[.int .i64 0, .slice none 0 0]), 2, 32) := by kernel_rfl
/-- What a run of All has at the label: the rest of the bytes, the frames ahead of it. -/
structure AllAt (w : World) (bs : List Nat) (B : Option Addr) (m d : Nat) (v : Value) (w' : World) (bs' : List Nat) (pre : List Fra) (xs : List Value) : Prop where
  len : bs'.length = m
  cap : m ≤ d
  room : pre.length + m ≤ bs.length
  byte : ∀ x ∈ bs', x < 256
  rest : Rd w B (u8s bs')
  own : w'.ownsRow w.heap.size 176 2 v pre.length xs
  ahead : Chunks 2 (rFra (fun b => b < w'.heap.size ∧ some b ≠ v.ownBlock) w') xs pre
  all : joinL pre (allL bs') = allL bs
  bel : Below w.heap.size w w'
def AllJ (w : World) (bs : List Nat) (a' : Act) (w' : World) : Prop :=
  ∃ (B : Option Addr) (m d : Nat) (v : Value) (bs' : List Nat) (pre : List Fra) (xs : List Value) (u5 u6 u7 u8 u9 u10 u11 u12 u13 u14 u15 u16 u17 u18 u19 u20 u21 u22 u23 u24 u25 u26 u27 u28 u29 u30 u31 : Value), a' = { tmps := #[.slice B m d, undef, .slice none 0 0, .int .i64 0, v, u5, u6, u7, u8, u9, u10, u11, u12, u13, u14, u15, u16, u17, u18, u19, u20, u21, u22, u23, u24, u25, u26, u27, u28, u29, u30, u31], defers := [] } ∧ AllAt w bs B m d v w' bs' pre xs
theorem own_slice2 {w : World} {base e size n : Nat} {v : Value} {xs : List Value} (h : w.ownsRow base e size v n xs) : ∃ A c, v = .slice A n c := by
  rcases h.2 with ⟨rfl, rfl⟩ | ⟨g, cap, cur, rfl, _⟩
  · exact ⟨none, 0, rfl⟩
  · exact ⟨_, cap, rfl⟩

end Go.Proofs.YtclbjbhpncpmbaaGreatDoor

/- A slice of frames in memory: the frame at a place, how many there are. No condition. -/
namespace Go.Proofs.YtclbjbhpncpmbaaGreatDoor
open Go.RowKit

/-- The frame at i of a slice of frames: its two cells. -/
theorem fra_at {S : Nat → Prop} {w : World} {A0 : Option Addr} {n c : Nat} {l : List Fra} {i : Nat} {f : Fra} (h : rSlice 2 rFra S w [.slice A0 n c] l) (hi : l[i]? = some f) : ∃ b off A c', A0 = some ⟨b, off, none⟩ ∧ S b ∧ w.cell? ⟨b, off + i * 2, none⟩ = some (.int .i64 f.1) ∧ w.cell? ⟨b, off + i * 2 + 1, none⟩ = some (.slice A f.2.length c') ∧ (∀ x ∈ f.2, x < 256) ∧ (Lit.int .i64 f.1).wf = true ∧ RdIn S w A (u8s f.2) := by
  obtain ⟨A1, c1, xs, hv, hlc, hcm, hr, hl, hch⟩ := h
  obtain ⟨A, c', hcs, _, _, hby, hwf, hrd⟩ := rFra_open (hch i f hi)
  have hlt := (List.getElem?_eq_some_iff.1 hi).1
  have hA : A0 = A1 := by simp at hv; exact hv.1
  subst hA
  rcases hr with h | ⟨b, off, rfl, hb, hc⟩
  · rw [h] at hl; simp at hl; omega
  · have h0 : xs[i * 2]? = some (.int .i64 f.1) := by
      have := congrArg (fun l : List Value => l[0]?) hcs
      simpa [List.getElem?_take, List.getElem?_drop] using this
    have h1 : xs[i * 2 + 1]? = some (.slice A f.2.length c') := by
      have := congrArg (fun l : List Value => l[1]?) hcs
      simpa [List.getElem?_take, List.getElem?_drop] using this
    exact ⟨b, off, A, c', rfl, hb, hc _ _ h0, by rw [Nat.add_assoc]; exact hc _ _ h1, hby, hwf, hrd⟩
theorem rows_len {S : Nat → Prop} {w : World} {A0 : Option Addr} {n c : Nat} {l : List Fra} (h : rSlice 2 rFra S w [.slice A0 n c] l) : l.length = n ∧ n ≤ c ∧ c ≤ maxLen := by
  obtain ⟨A1, c1, xs, hv, hlc, hcm, _⟩ := h
  simp at hv
  omega
end Go.Proofs.YtclbjbhpncpmbaaGreatDoor

/- The frames of a beginning of two frames' bytes. And frame.Put at any frame: what comes back. No condition. -/
namespace Go.Proofs.YtclbjbhpncpmbaaGreatDoor
open Go.RowKit

theorem getE_prefix {k j : Nat} {b : List Nat} (hj : j < b.length + 10) : getE ((putL k b).take j) = 2 := by
  have hl : ((putL k b).take j).length = j := by rw [List.length_take, putL_length]; omega
  by_cases h6 : j < 6
  · exact getE_short (by omega)
  · have h0 := putL_take6 k b []
    rw [List.append_nil] at h0
    have h1 : ((putL k b).take j).take 6 = sealL [k, b.length] := by rw [List.take_take, Nat.min_eq_left (by omega)]; exact h0
    have h2 : ((putL k b).take j).getD 1 0 = b.length := by
      have : (putL k b).getD 1 0 = b.length := rfl
      rw [List.getD_eq_getElem?_getD, List.getElem?_take, if_pos (by omega), ← List.getD_eq_getElem?_getD, this]
    exact getE_cut (by omega) (by rw [h1]; exact good_seal _) (by rw [h2]; omega)
theorem allL_prefix {k j : Nat} {b : List Nat} (h0 : 0 < j) (hj : j < b.length + 10) : allL ((putL k b).take j) = (2, []) := by
  have hl : ((putL k b).take j).length = j := by rw [List.length_take, putL_length]; omega
  have h := getE_prefix (k := k) hj
  have := allL_bad (bs := (putL k b).take j) (fun e => by rw [e] at hl; simp at hl; omega) (by omega)
  rw [this, h]
theorem allL_cut (k l : Nat) (b c : List Nat) (j : Nat) (hj : j ≤ b.length + 10 + (c.length + 10)) : allL ((putL k b ++ putL l c).take j) =
    if j = 0 then (0, []) else if j = b.length + 10 then (0, [((k : Int), b)]) else if j = b.length + 10 + (c.length + 10) then (0, [((k : Int), b), ((l : Int), c)]) else (2, []) := by
  have hp := putL_length k b
  have hq := putL_length l c
  by_cases h0 : j = 0
  · subst h0; rfl
  · rw [if_neg h0]
    by_cases h1 : j < b.length + 10
    · rw [if_neg (by omega), if_neg (by omega), List.take_append_of_le_length (by omega), allL_prefix (by omega) h1]
    · obtain ⟨m, rfl⟩ : ∃ m, j = b.length + 10 + m := ⟨j - (b.length + 10), by omega⟩
      rw [← hp, List.take_length_add_append, allL_put, hp]
      by_cases h2 : m = 0
      · subst h2
        simp [allL_nil]
      · by_cases h3 : m = c.length + 10
        · have e : allL ((putL l c).take m) = (0, [((l : Int), c)]) := by rw [List.take_of_length_le (by omega), allL_put1]
          rw [e]
          simp [h3]
        · have e : allL ((putL l c).take m) = (2, []) := allL_prefix (by omega) (by omega)
          rw [e]
          simp [h2, h3]

/-- What Put says at any frame. -/
def PutSays (k : Int) (bs : List Nat) (w' : World) (B : Option Addr) (m cap E : Nat) : Prop :=
  (0 ≤ k ∧ k ≤ 255 ∧ bs.length ≤ 255 ∧ E = 0 ∧ m = bs.length + 10 ∧ m ≤ cap ∧ Rd w' B (u8s (putL k.toNat bs))) ∨ (¬ (0 ≤ k ∧ k ≤ 255 ∧ bs.length ≤ 255) ∧ E = 1 ∧ B = none ∧ m = 0 ∧ cap = 0)
theorem putSays_len {k : Int} {bs : List Nat} {w' : World} {B : Option Addr} {m cap E : Nat} (h : PutSays k bs w' B m cap E) : m ≤ 265 := by
  rcases h with ⟨_, _, h1, _, h2, _⟩ | ⟨_, _, _, h2, _⟩ <;> omega
end Go.Proofs.YtclbjbhpncpmbaaGreatDoor

/- Damage of some of 32 bits, one behind the other, within a frame's bytes: it is refused. No program. No condition. -/
namespace Go.Proofs.YtclbjbhpncpmbaaGreatDoor

theorem val_take : ∀ (k : Nat) (x : List Nat), (∀ y ∈ x, y < 256) → val (x.take k) = val x % 256 ^ k
  | 0, x, _ => by simp [val, Nat.mod_one]
  | k + 1, [], _ => by simp [val]
  | k + 1, d :: r, h => by
    have hd : d < 256 := h d (by simp)
    have ih := val_take k r fun y hy => h y (by simp [hy])
    simp only [List.take_succ_cons, val]
    rw [ih, Nat.pow_succ, Nat.mul_comm (256 ^ k) 256, Nat.mod_mul, Nat.add_mul_mod_self_left, Nat.mod_eq_of_lt hd, Nat.add_mul_div_left _ _ (by omega), Nat.div_eq_of_lt hd, Nat.zero_add]
theorem val_drop : ∀ (k : Nat) (x : List Nat), (∀ y ∈ x, y < 256) → val (x.drop k) = val x / 256 ^ k
  | 0, x, _ => by simp
  | k + 1, [], _ => by simp [val]
  | k + 1, d :: r, h => by
    have hd : d < 256 := h d (by simp)
    have ih := val_drop k r fun y hy => h y (by simp [hy])
    simp only [List.drop_succ_cons, val]
    rw [ih, Nat.pow_succ, Nat.mul_comm (256 ^ k) 256, ← Nat.div_div_eq_div_mul, Nat.add_mul_div_left _ _ (by omega), Nat.div_eq_of_lt hd, Nat.zero_add]
theorem val_inj : ∀ (x y : List Nat), x.length = y.length → (∀ z ∈ x, z < 256) → (∀ z ∈ y, z < 256) → val x = val y → x = y
  | [], [], _, _, _, _ => rfl
  | a :: x, b :: y, hl, hx, hy, h => by
    have ha : a < 256 := hx a (by simp)
    have hb : b < 256 := hy b (by simp)
    simp only [val] at h
    have h1 : a = b := by omega
    have h2 : val x = val y := by omega
    rw [h1, val_inj x y (by simpa using hl) (fun z hz => hx z (by simp [hz])) (fun z hz => hy z (by simp [hz])) h2]
  | [], _ :: _, hl, _, _, _ => by simp at hl
  | _ :: _, [], hl, _, _, _ => by simp at hl
theorem pow_split (a b : Nat) (h : a ≤ b) : 2 ^ b = 2 ^ (b - a) * 2 ^ a := by rw [← Nat.pow_add]; congr 1; omega
/-- The part of a window that lies within the first 48 bits. -/
theorem window_low {mask a : Nat} (hm : mask < 4294967296) (h : mask * 2 ^ a % 2 ^ 48 ≠ 0) : ∃ m a', m < 4294967296 ∧ m ≠ 0 ∧ a' + 32 ≤ 48 ∧ mask * 2 ^ a % 2 ^ 48 = m * 2 ^ a' := by
  by_cases h1 : a ≤ 16
  · refine ⟨mask, a, hm, fun e => h (by rw [e]; simp), by omega, Nat.mod_eq_of_lt ?_⟩
    have : 2 ^ a ≤ 2 ^ 16 := Nat.pow_le_pow_right (by omega) h1
    calc mask * 2 ^ a ≤ mask * 2 ^ 16 := Nat.mul_le_mul_left _ this
      _ < 2 ^ 48 := by omega
  · by_cases h2 : a < 48
    · have e : mask * 2 ^ a % 2 ^ 48 = mask % 2 ^ (48 - a) * 2 ^ a := by rw [pow_split a 48 (by omega), Nat.mul_mod_mul_right]
      have e2 : mask % 2 ^ (48 - a) * 2 ^ a = mask % 2 ^ (48 - a) * 2 ^ (a - 16) * 2 ^ 16 := by rw [pow_split 16 a (by omega), Nat.mul_assoc]
      refine ⟨mask % 2 ^ (48 - a) * 2 ^ (a - 16), 16, ?_, fun e3 => h (by rw [e, e2, e3]), by omega, e.trans e2⟩
      have h3 : mask % 2 ^ (48 - a) < 2 ^ (48 - a) := Nat.mod_lt _ (Nat.pow_pos (by omega))
      have h4 : 2 ^ (48 - a) * 2 ^ (a - 16) = 4294967296 := by rw [← Nat.pow_add, show 48 - a + (a - 16) = 32 by omega]
      rw [← h4]
      exact Nat.mul_lt_mul_of_pos_right h3 (Nat.pow_pos (by omega))
    · refine (h ?_).elim
      rw [pow_split 48 a (by omega), ← Nat.mul_assoc, Nat.mul_mod_left]
/-- The part of a window behind the first 48 bits, if nothing of it lies within them. -/
theorem window_high {mask a n : Nat} (hm : mask < 4294967296) (h0 : mask ≠ 0) (ha : a + 32 ≤ 48 + n) (hn : 32 ≤ n) (h : mask * 2 ^ a % 2 ^ 48 = 0) : ∃ m a', m < 4294967296 ∧ m ≠ 0 ∧ a' + 32 ≤ n ∧ mask * 2 ^ a / 2 ^ 48 = m * 2 ^ a' := by
  by_cases h1 : a < 48
  · refine ⟨mask * 2 ^ a / 2 ^ 48, 0, ?_, fun e => ?_, by omega, by simp⟩
    · rw [Nat.div_lt_iff_lt_mul (Nat.pow_pos (by omega))]
      have h2 : 2 ^ a ≤ 2 ^ 48 := Nat.pow_le_pow_right (by omega) (by omega)
      calc mask * 2 ^ a < 4294967296 * 2 ^ a := Nat.mul_lt_mul_of_pos_right hm (Nat.pow_pos (by omega))
        _ ≤ 4294967296 * 2 ^ 48 := Nat.mul_le_mul_left _ h2
    · have h2 := Nat.div_add_mod (mask * 2 ^ a) (2 ^ 48)
      rw [e, h] at h2
      rcases Nat.mul_eq_zero.1 (show mask * 2 ^ a = 0 by omega) with h3 | h3
      · exact h0 h3
      · exact absurd h3 (Nat.ne_of_gt (Nat.pow_pos (by omega)))
  · refine ⟨mask, a - 48, hm, h0, by omega, ?_⟩
    rw [pow_split 48 a (by omega), ← Nat.mul_assoc, Nat.mul_div_cancel _ (Nat.pow_pos (by omega))]
theorem frame_burst {q : Nat} {body x : List Nat} (hq : q < 256) (hl : body.length < 256) (hb : ∀ y ∈ body, y < 256) (hx : ∀ y ∈ x, y < 256) (hxl : x.length = body.length + 10) (mask a : Nat) (hm : mask < 4294967296) (h0 : mask ≠ 0) (ha : a + 32 ≤ 8 * (body.length + 10))
    (hv : val x = val (putL q body) ^^^ mask * 2 ^ a) (r : List Nat) : getE (x ++ r) ≠ 0 := by
  intro hE
  obtain ⟨_, hg, _, hgb⟩ := get_ok hE
  have hpb := putL_byte (k := q) hq hl hb
  have hpl := putL_length q body
  have e256 : (256 : Nat) ^ 6 = 2 ^ 48 := by decide
  have hx6 : (x ++ r).take 6 = x.take 6 := List.take_append_of_le_length (by omega)
  have hp6 := putL_take6 q body []
  have hp7 := putL_drop6 q body []
  rw [List.append_nil] at hp6 hp7
  rw [List.append_nil] at hp7
  have hv1 : val (x.take 6) = val (sealL [q, body.length]) ^^^ mask * 2 ^ a % 2 ^ 48 := by
    rw [val_take 6 x hx, hv, e256, Nat.xor_mod_two_pow, ← hp6, val_take 6 _ hpb, e256]
  have hsb : ∀ y ∈ sealL [q, body.length], y < 256 := sealL_byte (by intro y hy; simp at hy; omega)
  have hsl : (sealL [q, body.length]).length = 6 := head_length q body.length
  have ht6 : (x.take 6).length = 6 := by rw [List.length_take]; omega
  have htb : ∀ y ∈ x.take 6, y < 256 := fun y hy => hx y (List.mem_of_mem_take hy)
  by_cases hd : mask * 2 ^ a % 2 ^ 48 = 0
  · rw [hd, Nat.xor_zero] at hv1
    have heq := val_inj _ _ (by rw [ht6, hsl]) htb hsb hv1
    have h1 : (x ++ r).getD 1 0 = body.length := by
      have e1 : (x ++ r).getD 1 0 = ((x ++ r).take 6).getD 1 0 := by rw [List.getD_eq_getElem?_getD, List.getD_eq_getElem?_getD, List.getElem?_take, if_pos (by omega)]
      rw [e1, hx6, heq]
      rfl
    obtain ⟨m, a', hm', hm0, ha', he⟩ := window_high (n := 8 * (body.length + 4)) hm h0 (by omega) (by omega) hd
    have hxd : ((x ++ r).drop 6).take ((x ++ r).getD 1 0 + 4) = x.drop 6 := by
      rw [h1, List.drop_append_of_le_length (by omega), List.take_append_of_le_length (by rw [List.length_drop]; omega), List.take_of_length_le (by rw [List.length_drop]; omega)]
    have hv2 : val (x.drop 6) = val (sealL body) ^^^ m * 2 ^ a' := by
      rw [val_drop 6 x hx, hv, e256, Nat.xor_div_two_pow, he, ← hp7, val_drop 6 _ hpb, e256]
    have := burst (s := sealL body) (x := x.drop 6) (sealL_byte hb) (fun y hy => hx y (List.mem_of_mem_drop hy)) (by rw [List.length_drop, sealL_length]; omega) m a' hm' hm0 (by rw [sealL_length]; omega) hv2 (good_seal _)
    rw [hxd, this] at hgb
    cases hgb
  · obtain ⟨m, a', hm', hm0, ha', he⟩ := window_low hm hd
    rw [he] at hv1
    have := burst (s := sealL [q, body.length]) (x := x.take 6) hsb htb (by rw [ht6, hsl]) m a' hm' hm0 (by rw [hsl]; omega) hv1 (good_seal _)
    rw [hx6, this] at hg
    cases hg
end Go.Proofs.YtclbjbhpncpmbaaGreatDoor

/- The contract of the laws' own Flip: bytes, some of 32 bits of which are turned round, from one on: as a number, the bytes' number with these bits turned round. Condition: there are so many bits, and at most 1,000,000 bytes. -/
namespace Go.Proofs.YtclbjbhpncpmbaaGreatDoor
open Go.RowKit

end Go.Proofs.YtclbjbhpncpmbaaGreatDoor
