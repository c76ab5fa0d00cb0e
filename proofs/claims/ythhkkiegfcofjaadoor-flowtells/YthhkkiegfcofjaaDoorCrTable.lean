/- The contract of crc.table: the array of what eight halvings make of each byte; nothing that was there is changed. No condition. -/
import Derived.Test.YthhkkiegfcofjaaDoorCrTurn
import Derived.Test.YthhkkiegfcofjaaDoorBlk
import Derived.Test.YthhkkiegfcofjaaDoorSched
import Derived.Deep.WholeRow
namespace Go.Proofs.YthhkkiegfcofjaaDoor
open Go.RowKit

def u32s (ns : List Nat) : List Value := ns.map fun x : Nat => Value.int .u32 (x : Int)
theorem u32s_length (ns : List Nat) : (u32s ns).length = ns.length := by simp [u32s]
theorem u32s_one (bs : List Nat) : ∀ u ∈ u32s bs, u.oneCell' = true := by
  intro u hu
  obtain ⟨x, _, rfl⟩ := List.mem_map.1 hu
  rfl
/-- The table, as far as it is made: multiples of 2^k have what they are to have. -/
def tabF (k : Nat) : List Nat := (List.range 256).map fun i => if i % 2 ^ k = 0 then hvN 8 i else 0
def tabG (k low : Nat) : List Nat := (List.range 256).map fun i => if i % 2 ^ (k + 1) = 0 ∨ (i % 2 ^ k = 0 ∧ i < low) then hvN 8 i else 0
theorem tabG_length (k low : Nat) : (tabG k low).length = 256 := by simp [tabG]
theorem tabF_length (k : Nat) : (tabF k).length = 256 := by simp [tabF]
theorem tabG_zero (k : Nat) : tabG k 0 = tabF (k + 1) := by simp [tabG, tabF]
theorem pow8 {k : Nat} (hk : k < 8) : (k = 0 ∨ k = 1 ∨ k = 2 ∨ k = 3 ∨ k = 4 ∨ k = 5 ∨ k = 6 ∨ k = 7) := by omega
theorem tabG_all {k low : Nat} (hk : k < 8) (hl : 256 ≤ low) : tabG k low = tabF k := by
  unfold tabG tabF
  apply List.map_congr_left
  intro i hi
  have : i < 256 := by simpa using hi
  have e : (i % 2 ^ (k + 1) = 0 ∨ (i % 2 ^ k = 0 ∧ i < low)) ↔ i % 2 ^ k = 0 := by
    rcases pow8 hk with rfl | rfl | rfl | rfl | rfl | rfl | rfl | rfl <;> simp <;> omega
  simp only [e]
theorem tabG_get {k low j : Nat} (hj : j < 256) : (tabG k low)[j]? = some (if j % 2 ^ (k + 1) = 0 ∨ (j % 2 ^ k = 0 ∧ j < low) then hvN 8 j else 0) := by
  simp [tabG, hj]
theorem tabG_next {k low : Nat} (hk : k < 8) (hl : low < 256) (hm : low % 2 ^ (k + 1) = 0) : tabG k (low + 2 * 2 ^ k) = (tabG k low).set (low + 2 ^ k) (hvN 8 (low + 2 ^ k)) := by
  apply List.ext_getElem?
  intro j
  by_cases hj : j < 256
  · rw [tabG_get hj, List.getElem?_set]
    by_cases e : low + 2 ^ k = j
    · subst e
      rw [if_pos rfl, if_pos (show low + 2 ^ k < (tabG k low).length by rw [tabG_length]; exact hj), if_pos]
      rcases pow8 hk with rfl | rfl | rfl | rfl | rfl | rfl | rfl | rfl <;> simp at hm ⊢ <;> omega
    · rw [if_neg e, tabG_get hj]
      have e2 : (j % 2 ^ (k + 1) = 0 ∨ (j % 2 ^ k = 0 ∧ j < low + 2 * 2 ^ k)) ↔ (j % 2 ^ (k + 1) = 0 ∨ (j % 2 ^ k = 0 ∧ j < low)) := by
        rcases pow8 hk with rfl | rfl | rfl | rfl | rfl | rfl | rfl | rfl <;> simp at hm e ⊢ <;> omega
      simp only [e2]
  · rw [List.getElem?_eq_none (by rw [tabG_length]; omega), List.getElem?_eq_none (by rw [List.length_set, tabG_length]; omega)]
theorem u32s_set (ns : List Nat) (j x : Nat) : (u32s ns).set j (.int .u32 (x : Int)) = u32s (ns.set j x) := by simp [u32s, List.map_set]
theorem u32s_get {ns : List Nat} {j x : Nat} (h : ns[j]? = some x) : (u32s ns)[j]? = some (.int .u32 (x : Int)) := by simp [u32s, h]
theorem step_next (k : Nat) : hv (hvN 8 (2 ^ (k + 1))) = hvN 8 (2 ^ k) := by
  have h1 : hvN (8 + 1) (2 ^ (k + 1)) = hv (hvN 8 (2 ^ (k + 1))) := by rw [hvN_add]; rfl
  rw [← h1, hvN, Nat.pow_succ, Nat.mul_comm, hv_even]

set_option maxRecDepth 100000 in
set_option maxHeartbeats 1000000 in
theorem add_any (k : Nat) (hk : k < 8) (n0 p q : Nat) (w : World) (hpq : p ≠ q) (hp0 : n0 ≤ p) (hq0 : n0 ≤ q) (hp : Blk w p 22 [.int .u32 ((hvN 8 (2 ^ (k + 1)) : Nat) : Int)]) (hq : Blk w q 120 (u32s (tabF (k + 1)))) :
    Calls Tryd.prog 74 #[.int .i64 ((2 ^ k : Nat) : Int), .pointer (some ⟨p, 0, none⟩), .pointer (some ⟨q, 0, none⟩)] w fun e w' => (∃ v, e = .returned v) ∧ Below n0 w w' ∧ Blk w' p 22 [.int .u32 ((hvN 8 (2 ^ k) : Nat) : Int)] ∧ Blk w' q 120 (u32s (tabF k)) := by
  have hst := step_next k
  have hlt : hvN 8 (2 ^ (k + 1)) < 4294967296 := hvN_lt 8 (by rcases pow8 hk with rfl | rfl | rfl | rfl | rfl | rfl | rfl | rfl <;> decide)
  have hh := fun W => halve_any _ W hlt
  rw [hst] at hh
  have hslt : hvN 8 (2 ^ k) < 4294967296 := by rw [← hst]; exact hv_lt hlt
  generalize hS0 : hvN 8 (2 ^ (k + 1)) = s0 at *
  have htab : ∀ low, low % 2 ^ (k + 1) = 0 → hvN 8 (low + 2 ^ k) = hvN 8 low ^^^ hvN 8 (2 ^ k) := fun low h => tab_add k low h
  generalize hS1 : hvN 8 (2 ^ k) = s1 at *
  have hnext : ∀ low, low < 256 → low % 2 ^ (k + 1) = 0 → tabG k (low + 2 * 2 ^ k) = (tabG k low).set (low + 2 ^ k) (hvN 8 (low + 2 ^ k)) ∧ low + 2 ^ k < 256 ∧ (low + 2 * 2 ^ k) % 2 ^ (k + 1) = 0 ∧ low + 2 * 2 ^ k ≤ 256 ∧ 1 ≤ 2 ^ k ∧ 2 ^ k ≤ 128 := fun low h1 h2 => by
    refine ⟨tabG_next hk h1 h2, ?_⟩
    rcases pow8 hk with rfl | rfl | rfl | rfl | rfl | rfl | rfl | rfl <;> simp at h2 ⊢ <;> omega
  have hb : 1 ≤ 2 ^ k ∧ 2 ^ k ≤ 128 := (hnext 0 (by omega) (by simp)).2.2.2.2
  have hall : ∀ low, 256 ≤ low → tabG k low = tabF k := fun low h => tabG_all hk h
  have hz := tabG_zero k
  have hget : ∀ low, low < 256 → low % 2 ^ (k + 1) = 0 → (tabG k low)[low]? = some (hvN 8 low) := fun low h1 h2 => by rw [tabG_get h1, if_pos (.inl h2)]
  have hd0 : (0 : Nat) % 2 ^ (k + 1) = 0 := by simp
  generalize 2 ^ (k + 1) = m2 at *
  generalize 2 ^ k = m at *
  have Hh := Lib.hid hh
  have Hn := Lib.hid hnext
  have Ha := Lib.hid hall
  have Hg := Lib.hid hget
  have Ht := Lib.hid htab
  have Hz := Lib.hid hz
  have hpc := hp.cell (j := 0) rfl
  have hpf := hp.frozen 0
  clear hh hnext hall hget htab hz hst hS0 hS1
  go_enter Tryd.func74, Tryd.ntmps74
  go_wp2_with fail
  refine (Hh.out _).mono ?_
  rintro e w1 ⟨rfl, rfl⟩
  go_wp2
  have hp1 := hp.set 0 (.int .u32 (s1 : Int))
  have hq1 := hq.other ⟨p, 0, none⟩ (.int .u32 (s1 : Int)) (fun h => hpq h.symm)
  rw [← Hz.out] at hq1
  have hB1 : Below n0 w (w.setCell ⟨p, 0, none⟩ (.int .u32 (s1 : Int))) := (Below.refl _ w).setCell hp0 _
  generalize w.setCell ⟨p, 0, none⟩ (.int .u32 (s1 : Int)) = w1 at *
  clear hp hq hpc hpf
  go_loopw [4] (fun i wr => ∃ low : Nat, i = .int .i64 low ∧ low ≤ 256 ∧ low % m2 = 0 ∧ Blk wr p 22 [.int .u32 (s1 : Int)] ∧ Blk wr q 120 (u32s (tabG k low)) ∧ Below n0 w wr) (fun i _ => 256 - (intOf i).toNat)
  case atStart => exact ⟨0, rfl, by omega, hd0, hp1, hq1, hB1⟩
  case round =>
    obtain ⟨low, rfl, hl, hm, hp2, hq2, hB2⟩ := hrel
    by_cases hlow : low < 256
    · obtain ⟨hn1, hn2, hn3, hn4, _⟩ := Hn.out low hlow hm
      have hgl := Hg.out low hlow hm
      have hqc := hq2.cell (u32s_get hgl)
      have hpc := hp2.cell (j := 0) rfl
      have hx := u32_xor_nat (hvN 8 low) s1 (hvN_lt 8 (by omega)) hslt
      rw [← Ht.out low hm] at hx
      generalize hvN 8 (low + m) = t1 at *
      generalize hvN 8 low = t0 at *
      have hqf := hq2.frozen (low + m)
      obtain ⟨t2, hqm⟩ : ∃ v, wr.cell? ⟨q, low + m, none⟩ = some v := ⟨_, hq2.cell (u32s_get (tabG_get hn2))⟩
      have hl1 : (low : Int) < 256 := by omega
      have hl2 : IntKind.i64.wrap ((low : Int) + (m : Int)) = (low : Int) + (m : Int) := IntWalk.i64_in _ (by omega)
      have hl3 : (low : Int) + (m : Int) < 256 := by omega
      have hl4 : ((low : Int) + (m : Int)).toNat = low + m := by omega
      have hl5 : (0 : Int) ≤ (low : Int) + (m : Int) := by omega
      have Hn1 := Lib.hid hn1
      have Hgl := Lib.hid hgl
      clear hn1 hgl
      have hq3 := hq2.set (low + m) (.int .u32 (t1 : Int))
      rw [u32s_set, ← Hn1.out] at hq3
      have hp3 := hp2.other ⟨q, low + m, none⟩ (.int .u32 (t1 : Int)) hpq
      have hB3 := hB2.setCell (p := ⟨q, low + m, none⟩) hq0 (.int .u32 (t1 : Int))
      have hqc3 := hq3.cell (u32s_get (j := low) (x := t0) (by rw [Hn1.out, List.getElem?_set_ne (by omega)]; exact Hgl.out))
      have hpc3 := hp3.cell (j := 0) rfl
      go_wp2_with fail
      refine sch_start [(0, true), (1, true), (2, true), (3, true), (4, true), (5, true), (6, true), (7, true), (8, true), (9, false)]
        (fun W => W.cell? ⟨q, low, none⟩ = some (.int .u32 (t0 : Int)) ∧ W.cell? ⟨p, 0, none⟩ = some (.int .u32 (s1 : Int))) (by kernel_rfl) rfl (by kernel_rfl) (fun _ _ _ _ _ h => h) ⟨hqc, hpc⟩ (fun hH => ?_)
      repeat (first
        | (refine sch_yes (v := ?_) rfl rfl ?_ hH ?_; rotate_left; (focus ((rintro W ⟨hW1, hW2⟩; go_simp) <;> with_reducible rfl)); simp only [Act.put, List.setIfInBounds_toArray, List.set_cons_zero, List.set_cons_succ])
        | (refine sch_no rfl rfl hH ?_; simp only [Act.put, List.setIfInBounds_toArray, List.set_cons_zero, List.set_cons_succ]))
      refine sch_call rfl rfl (fun K hK => ?_)
      go_wp2
      refine hK.out _ _ ⟨hqc3, hpc3⟩ ?_
      clear hK
      refine sch_done ?_
      go_wp2
      go_roundw
      case rel => exact ⟨low + 2 * m, by go_num, hn4, hn3, hp3, hq3, hB3.drew⟩
      case measure => simp [intOf]; omega
    · obtain rfl : low = 256 := by omega
      rw [Ha.out 256 (by omega)] at hq2
      go_wp2
      go_end0
      exact ⟨⟨_, rfl⟩, hB2, hp2, hq2⟩

theorem results_cell {fn : Func} {p : Tmp} {ty : TypeId} (h : fn.results = #[.cell p ty]) (tmps : Array Value) (P : Program) (w : World) :
    (results fn tmps).run P w = ((asAddr (tmps.getD p undef)).run P w).andThen fun a w₁ => (loadVar ty a).run P w₁ := by
  simp only [results, h]
  simp [Sem.run_bind, Result.andThen]

theorem tabF_8 : tabF 8 = List.replicate 256 0 := by decide +kernel
theorem info_tab : (Tryd.prog.info? 120).map (fun i => (i.zero, i.size)) = some (some (.agg (Array.replicate 256 (.int .u32 0))), 256) := by kernel_rfl

set_option maxRecDepth 100000 in
set_option maxHeartbeats 1000000 in
theorem table_any (w : World) :
    Calls Tryd.prog 72 #[] w fun e w' => e = .returned (.agg (u32s (tabF 0)).toArray) ∧ Below w.heap.size w w' := by
  obtain ⟨hz, hsz⟩ := zero_of_info info_tab
  have hmf : ∀ (fn : Fn) (first cap : Array Value) (w : World), (Instr.makeFunc fn first cap).run Tryd.prog w = .ok (.func fn first cap) w := fun _ _ _ _ => rfl
  go_enter Tryd.func72, Tryd.ntmps72
  go_wp2
  have hrep : (Array.replicate 256 (Value.int .u32 0)) = (u32s (tabF 8)).toArray := by rw [tabF_8, u32s, List.map_replicate, List.toArray_replicate]; rfl
  have hb0 := Blk.new w 120 (u32s (tabF 8))
  have hb1 := Blk.new (w.alloc (.cells (u32s (tabF 8)).toArray 120)) 120 (u32s (tabF 8))
  have hb2 := Blk.new ((w.alloc (.cells (u32s (tabF 8)).toArray 120)).alloc (.cells (u32s (tabF 8)).toArray 120)) 22 [.int .u32 1]
  rw [← hrep] at hb0 hb1 hb2
  have hb0' := (hb0.alloc (.cells (Array.replicate 256 (Value.int .u32 0)) 120)).alloc (.cells #[Value.int .u32 1] 22)
  have hb1' := hb1.alloc (.cells #[Value.int .u32 1] 22)
  have hB0 : Below w.heap.size w (((w.alloc (.cells (Array.replicate 256 (Value.int .u32 0)) 120)).alloc (.cells (Array.replicate 256 (Value.int .u32 0)) 120)).alloc (.cells #[Value.int .u32 1] 22)) := (((Below.refl _ w).alloc (Nat.le_refl _) _).alloc (by simp) _).alloc (by simp; omega) _
  simp only [World.size_alloc] at hb1' hb2
  clear hb0 hb1
  have hmid : ∀ k, k < 8 → 2 ^ (k + 1) / 2 = 2 ^ k ∧ 0 < 2 ^ k ∧ 2 ^ k ≤ 128 := fun k hk => by rcases pow8 hk with rfl | rfl | rfl | rfl | rfl | rfl | rfl | rfl <;> decide
  have Hmid := Lib.hid hmid
  clear hmid hrep
  go_loopw [4] (fun i wr => ∃ k : Nat, k ≤ 8 ∧ i = .int .i64 ((2 ^ k / 2 : Nat) : Int) ∧ Blk wr w.heap.size 120 (u32s (tabF 8)) ∧ Blk wr (w.heap.size + 1) 120 (u32s (tabF k)) ∧ Blk wr (w.heap.size + 1 + 1) 22 [.int .u32 ((hvN 8 (2 ^ k) : Nat) : Int)] ∧ Below w.heap.size w wr) (fun i _ => (intOf i).toNat)
  case atStart => exact ⟨8, by omega, rfl, hb0', hb1', hb2, hB0⟩
  case round =>
    obtain ⟨k, hk, rfl, h0, h1, h2, hB⟩ := hrel
    cases k with
    | zero =>
      clear h2 hb0' hb1' hb2 hB0 Hmid
      have hT0 := tabF_length 0
      have hT8 := tabF_length 8
      generalize hTT : tabF 0 = T0 at *
      have HT := Lib.hid hTT
      clear hTT
      generalize tabF 8 = T8 at *
      go_wp2_with fail
      refine wp_loadRow (.tmp 1) 120 rfl _ Tryd.underlying120 rfl (by rw [u32s_length, hT0]; exact hsz) rfl h1 ?_
      have hul : (u32s T0).length = 256 := by rw [u32s_length, hT0]
      have hsc := h0.stores (P := Tryd.prog) (cs' := u32s T0) (by rw [u32s_length, u32s_length, hT0, hT8]) (u32s_one T0)
      have hr := h0.row (u32s T0)
      have hBr := below_setRow hB (Nat.le_refl _) (u32s T0).toArray
      have hld := run_loadVar_row (P := Tryd.prog) _ w.heap.size 120 120 (u32s T0).toArray (0, 0) _ hr Tryd.underlying120 rfl (by simp only [List.size_toArray, u32s_length, hT0]; exact hsz)
      go_wp2_with fail
      refine bodyPost_ret (v := .agg (u32s T0).toArray) ?_ rfl ⟨by rw [HT.out], hBr⟩
      rw [results_cell rfl]
      simp only [asAddr, Array.getD_eq_getD_getElem?, List.getElem?_toArray, List.getElem?_cons_zero, Option.getD_some, Sem.run_pure, Result.andThen, hld]
    | succ k =>
      obtain ⟨hm1, hm2, hm3⟩ := Hmid.out k (by omega)
      rw [hm1]
      have hadd := add_any k (by omega) (w.heap.size + 1) (w.heap.size + 1 + 1) (w.heap.size + 1) wr (by omega) (by omega) (by omega) h2 h1
      have hnx : (2 ^ k / 2 : Nat) < 2 ^ k := by omega
      have Hadd := Lib.hid hadd
      clear hadd
      generalize hmm : 2 ^ k = m at *
      go_wp2_with fail
      refine Hadd.out.mono ?_
      rintro e w2 ⟨⟨v, rfl⟩, hB2, h2', h1'⟩
      have h0' := h0.below (by omega) hB2
      have hB' := hB.trans (hB2.mono (by omega))
      go_wp2
      go_roundw
      case rel => exact ⟨k, by omega, by rw [hmm]; go_num, h0', h1', by rw [hmm]; exact h2', hB'⟩
      case measure => simp [intOf]; omega
end Go.Proofs.YthhkkiegfcofjaaDoor
