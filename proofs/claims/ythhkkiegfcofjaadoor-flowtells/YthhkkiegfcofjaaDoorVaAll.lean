/- The contract of vari.All: at every slice of bytes it tells what 'allL' tells, in memory of the call's own, and changes nothing that was there. -/
import Derived.Scope
import Derived.RangeFuncNested
import Derived.Test.YthhkkiegfcofjaaDoorVaNum
namespace Go.Proofs.YthhkkiegfcofjaaDoor
open Go.RowKit Go.Shelf
attribute [local go_sem] Oper.semAt_some

theorem info_u64 : (Tryd.prog.info? 62).map (fun i => (i.zero, i.size, i.bytes)) = some (some (.int .u64 0), 1, 8) := by kernel_rfl

theorem nums_stops (n : Nat) (hn : 1 ≤ n) (Bs : Nat) (A : Option Addr) (c : Nat) (bs : List Nat) (hc : bs.length ≤ c) (hb : ∀ x ∈ bs, x < 256) (hlen : bs.length ≤ 140737488355328) (w : World) (n₀ : Nat) (hBs : Bs < w.heap.size) (hn₀ : n₀ ≤ w.heap.size)
    (hBc : w.cell? ⟨Bs, 0, none⟩ = some (.slice A bs.length c)) (hr : ∀ W', Below n₀ w W' → Rd W' A (u8s bs)) :
    SeqStopsK Fence.wide n Tryd.prog 73 #[.pointer (some ⟨Bs, 0, none⟩)] encN (KpN n₀ Bs) (fun ys => ys = numL bs) (fun pre => pre <+: numL bs) (numL bs).length w := fun l J Jx W hW _ _ hY h0 =>
  nums1_in n hn l Bs n₀ A c bs hc hb hlen J Jx hY W ((hW.cell (p := ⟨Bs, 0, none⟩) hBs).trans hBc) (fun W' hb' => hr W' ((hW.mono hn₀).trans hb')) h0

/-- Between two rounds of All: the list that has been gathered, the answer so far, the slice that came in. -/
def IAll (w : World) (sl : Value) (pre : List (Nat × Nat)) (W : World) : Prop :=
  (∃ v, Boxed W w.heap.size 91 v ∧ W.ownsRow w.heap.size 62 1 v pre.length (u64s (pre.map Prod.fst)) ∧ ∀ p ∈ pre, p.2 ≠ 0) ∧
  (Boxed W (w.heap.size + 1) 4 (.bool true) ∧ (Boxed W (w.heap.size + 2) 26 sl ∧ Below w.heap.size w W))
/-- Behind a round that has left. -/
def IxAll (w : World) (c : Code) (pre : List (Nat × Nat)) (W : World) : Prop :=
  (c = .exit 0 ∧ ∃ p ∈ pre, p.2 = 0) ∧ (Boxed W w.heap.size 91 (.slice none 0 0) ∧ (Boxed W (w.heap.size + 1) 4 (.bool false) ∧ Below w.heap.size w W))

theorem IAll_own (w : World) (sl : Value) (B : Nat) (hB : w.heap.size ≤ B) : OwnFrom B (IAll w sl) :=
  OwnFrom.and (Own.from (holdsRow_own w.heap.size w.heap.size 91 62 1 (fun pre => List.length pre) (fun pre => u64s (pre.map Prod.fst)) (fun pre _ => ∀ p ∈ pre, p.2 ≠ 0)) _)
    (OwnFrom.and (Own.from (boxed_own _ _ (fun _ => Value.bool true)) _) (OwnFrom.and (Own.from (boxed_own _ _ (fun _ => sl)) _) (ownFrom_below (Nat.le_refl _) hB)))
theorem IxAll_own (w : World) (c : Code) (B : Nat) (hB : w.heap.size ≤ B) : OwnFrom B (IxAll w c) :=
  OwnFrom.and (ownFrom_pure _ _) (OwnFrom.and (Own.from (boxed_own _ _ (fun _ => Value.slice none 0 0)) _) (OwnFrom.and (Own.from (boxed_own _ _ (fun _ => Value.bool false)) _) (ownFrom_below (Nat.le_refl _) hB)))

/-- A round that gathers a number. -/
theorem IAll_step {w W w1 : World} {sl v v' : Value} {pre : List (Nat × Nat)} {x : Nat × Nat} {o : Obj} (hx : x.2 ≠ 0)
    (hv : Boxed W w.heap.size 91 v) (hrow : W.ownsRow w.heap.size 62 1 v pre.length (u64s (pre.map Prod.fst))) (hp : ∀ p ∈ pre, p.2 ≠ 0) (hT : Boxed W (w.heap.size + 1) 4 (.bool true)) (hS : Boxed W (w.heap.size + 2) 26 sl) (hB : Below w.heap.size w W)
    (hown' : w1.ownsRow w.heap.size 62 1 v' (pre.length + 1) (u64s (pre.map Prod.fst) ++ [.int .u64 (x.1 : Int)])) (hgrow : (W.alloc o).grownBy w1 v.ownBlock) :
    (Boxed w1 w.heap.size 91 v ∧ KeepsOthers W (w1.setCell ⟨w.heap.size, 0, none⟩ v') ∧ KpN w.heap.size (w.heap.size + 2) W (w1.setCell ⟨w.heap.size, 0, none⟩ v') ∧ IAll w sl (pre ++ [x]) (w1.setCell ⟨w.heap.size, 0, none⟩ v')) := by
  obtain ⟨hv1, hv2, hr2, hk2, hb2⟩ := hv.appended (by decide) hrow hB.size (Nat.le_refl _) hown' hgrow
  have hT2 : Boxed (w1.setCell ⟨w.heap.size, 0, none⟩ v') (w.heap.size + 1) 4 (.bool true) := ((hT.alloc o).kept hgrow (hT.not_row (by decide) hrow)).other (by omega) _
  have hS2 : Boxed (w1.setCell ⟨w.heap.size, 0, none⟩ v') (w.heap.size + 2) 26 sl := ((hS.alloc o).kept hgrow (hS.not_row (by decide) hrow)).other (by omega) _
  refine ⟨hv1, hk2, ⟨hb2, (show _ = _ from hS2).trans (show _ = _ from hS).symm⟩, ⟨_, hv2, ?_, ?_⟩, hT2, hS2, hB.trans hb2⟩
  · simpa [u64s] using hr2
  · intro p hp'
    rw [List.mem_append] at hp'
    rcases hp' with h | h
    · exact hp p h
    · simp at h; subst h; exact hx
/-- A round at which no number begins. -/
theorem IxAll_step {w W : World} {v : Value} {pre : List (Nat × Nat)} {x : Nat × Nat} (hx : x.2 = 0)
    (hv : Boxed W w.heap.size 91 v) (hT : Boxed W (w.heap.size + 1) 4 (.bool true)) (hB : Below w.heap.size w W) :
    KeepsOthers W ((W.setCell ⟨w.heap.size, 0, none⟩ (.slice none 0 0)).setCell ⟨w.heap.size + 1, 0, none⟩ (.bool false)) ∧ IxAll w (.exit 0) (pre ++ [x]) ((W.setCell ⟨w.heap.size, 0, none⟩ (.slice none 0 0)).setCell ⟨w.heap.size + 1, 0, none⟩ (.bool false)) := by
  refine ⟨(KeepsOthers.setCell _ _ _).trans (KeepsOthers.setCell _ _ _), ⟨rfl, x, by simp, hx⟩, ?_, ?_, ?_⟩
  · exact (hv.set _).other (by omega) _
  · exact (hT.other (by omega) _).set _
  · exact (hB.setCell (p := ⟨w.heap.size, 0, none⟩) (Nat.le_refl _) _).setCell (p := ⟨w.heap.size + 1, 0, none⟩) (Nat.le_succ _) _

set_option maxRecDepth 100000 in
set_option maxHeartbeats 2000000 in
theorem all_in (n : Nat) (hn : 3 ≤ n) (A : Option Addr) (c : Nat) (bs : List Nat) (w : World) (hc : bs.length ≤ c) (hb : ∀ x ∈ bs, x < 256) (hlen : bs.length ≤ 1048576) (hr : Rd w A (u8s bs)) :
    CallsIn Fence.wide n Tryd.prog 65 #[.slice A bs.length c] w fun e w' => ∃ v, e = .returned (.tuple #[v, .bool (vallL bs).isSome]) ∧ w'.ownsRow w.heap.size 62 1 v ((vallL bs).getD []).length (u64s ((vallL bs).getD [])) ∧ Below w.heap.size w w' := by
  have h1 : 1 ≤ n := by omega
  obtain ⟨i0, hi, hz0, hz1, hz2⟩ := info_parts info_u64
  refine callsIn_of_wp_marks Tryd.func65 rfl trivial ?_ rfl
  simp only [Tryd.ntmps65, List.size_toArray, List.length_cons, List.length_nil, Nat.reduceAdd, Nat.reduceSub, Array.replicate_succ, Array.replicate_zero, List.push_toArray, List.append_toArray, List.nil_append, List.cons_append]
  gi_wp2
  refine wpIn_wide.2 (wp_scope_straight ((wpIn_wide (n := n)).1 ?_))
  gi_wp2
  refine wpIn_label ?_
  gi_wp2_with (refine ⟨trivial, ?_⟩; gi_at_call 71; refine (numbers_in (n - 1) _ _ _ _).mono ?_; rintro e w' ⟨rfl, rfl⟩)
  have bL := Boxed.new w 91 (.slice none 0 0)
  have bT := Boxed.new (w.alloc (.cells #[.slice none 0 0] 91)) 4 (.bool true)
  have bS := Boxed.new ((w.alloc (.cells #[.slice none 0 0] 91)).alloc (.cells #[.bool true] 4)) 26 (.slice A bs.length c)
  rw [World.size_alloc] at bT
  rw [World.size_alloc, World.size_alloc] at bS
  have hB0 : Below w.heap.size w (((w.alloc (.cells #[.slice none 0 0] 91)).alloc (.cells #[.bool true] 4)).alloc (.cells #[.slice A bs.length c] 26)) := (((Below.refl _ w).alloc (Nat.le_refl _) _).alloc (by simp) _).alloc (by simp; omega) _
  have hnl := numL_len bs.length bs (Nat.le_refl _)
  have hna := numL_all bs.length bs (Nat.le_refl _)
  have Hna := Lib.hid hna
  clear hna
  refine wpIn_rangeFunc_ownG rfl h1 (gf := 73) (lb := #[.pointer (some ⟨w.heap.size + 1 + 1, 0, none⟩)]) rfl trivial (enters_of Tryd.func73 (by kernel_rfl) rfl)
    (nums_stops (n - 1) (by omega) (w.heap.size + 1 + 1) A c bs hc hb (by omega) _ w.heap.size (by simp) (by simp; omega) bS.cell (fun W' hb' => hr.below (hB0.trans hb'))) (fun h k => KpN.trans h k)
    (fun W l o o' hl h h' h'' => ⟨belowK_b (w := w) (Nat.le_refl _) W l o o' (by simp at hl; omega) h h' h'', (grownBy_putObj' W l o').block _ (by have := (Array.getElem?_eq_some_iff.1 h).1; simp at hl; omega) (by intro e; cases e; simp at hl; omega)⟩)
    (Below.refl _ _) (fun _ => rfl) (IAll w (.slice A bs.length c)) (IxAll w) (IAll_own _ _ _ (by simp; omega)) (fun c => IxAll_own _ _ _ (by simp; omega))
    ⟨⟨_, (bL.alloc _).alloc _, World.ownsRow_nil _ _ _ _, by simp⟩, bT.alloc _, bS, hB0⟩
    (fun x => { tmps := #[.slice A bs.length c, undef, .slice none 0 0, .bool false, .pointer (some ⟨w.heap.size, 0, none⟩), .pointer (some ⟨w.heap.size + 1, 0, none⟩), .int .u64 (x.1 : Int), .int .i64 (x.2 : Int), .slice A bs.length c,
      .func (.func 73) #[] #[.pointer (some ⟨w.heap.size + 1 + 1, 0, none⟩)], .int .u64 (x.1 : Int), .int .i64 (x.2 : Int), undef, undef, undef, undef, undef, undef, undef, undef, undef], defers := [] }) ?assign ?body ?done ?stop
  case assign =>
    intro l x W K hK
    gi_wp2
    exact hK
  case body =>
    rintro l pre x W ⟨⟨v, hv, hrow, hp⟩, hT, hS, hB⟩ hlt
    have hcL := hv.cell
    have hcT := hT.cell
    have hfL := hv.frozen
    have hfT := hT.frozen
    by_cases hx : x.2 = 0
    · have hz : ((x.2 : Int) == 0) = true := by rw [hx]; rfl
      have Hx := Lib.hid hx
      clear hx
      gi_wp2
      obtain ⟨q1, q2⟩ := IxAll_step (pre := pre) (x := x) Hx.out hv hT hB
      exact ⟨q1.from _, q2⟩
    · have hz : ((x.2 : Int) == 0) = false := by simp; omega
      gi_wp2_with (gi_at_builtin; refine wpListIn_append_own _ rfl _ _ 91 rfl w.heap.size 62 i0 (.int .u64 0) 1 8 Tryd.underlying91 hi hz0 hz1 hz2 rfl (by decide) _ _ _ rfl (hrow.alloc _) ⟨W.heap.size, 0, none⟩ 1 1 [.int .u64 (x.1 : Int)] rfl rfl (cell_one_new _ _ _) (by simp [Value.oneCell']) (by simp only [maxLen]; omega) (by omega) (by have := hB.size; simp; omega) ?_; intro v' w1 hown' hgrow _; obtain ⟨g', cap', rfl⟩ := ownsRow_succ hown'; obtain ⟨hv1, hk2, hkp, hI2⟩ := IAll_step hx hv hrow hp hT hS hB hown' hgrow; have hc1 := hv1.cell; have hf1 := hv1.frozen)
      exact ⟨hk2.from _, hkp, hI2⟩
  case done =>
    rintro D ys W hD rfl ⟨⟨v, hv, hrow, hp⟩, hT, hS, hB⟩ hK
    have hcL := hv.cell
    have hcT := hT.cell
    have hall := Hna.out.1 hp
    have Hall := Lib.hid hall
    clear hall
    gi_wp2
    refine wpIn_wide.2 ?_
    go_quiet (fail)
    gi_wp2
    refine ⟨by simp, .inl ⟨_, _, rfl, run_takeDeferred hK, ?_⟩⟩
    refine ⟨_, results_tmp2 rfl _ _ _, v, ?_, ?_, (below_drewN hB nq).trans (belowK_b (w := w) (Nat.le_refl _) (W.drewN nq) D _ _ (by simp at hD; omega) hK rfl rfl)⟩
    · rw [Hall.out]; rfl
    · rw [Hall.out]
      have := ownsRow_putObj (W := W.drewN nq) hrow (.deferred none) hK rfl
      simpa using this
  case stop =>
    rintro D c' pre W hD hpre ⟨⟨rfl, p, hp, hp0⟩, hv, hT, hB⟩ hK
    have hcL := hv.cell
    have hcT := hT.cell
    have hall := Hna.out.2 ⟨p, hpre.subset hp, hp0⟩
    have Hall := Lib.hid hall
    clear hall
    gi_wp2
    refine wpIn_wide.2 ?_
    go_quiet (fail)
    gi_wp2
    refine ⟨by simp, .inl ⟨_, _, rfl, run_takeDeferred hK, ?_⟩⟩
    refine ⟨_, results_tmp2 rfl _ _ _, .slice none 0 0, ?_, ?_, (below_drewN hB nq).trans (belowK_b (w := w) (Nat.le_refl _) (W.drewN nq) D _ _ (by simp at hD; omega) hK rfl rfl)⟩
    · rw [Hall.out]; rfl
    · rw [Hall.out]
      exact World.ownsRow_nil _ _ _ _

theorem vall_any (A : Option Addr) (c : Nat) (bs : List Nat) (w : World) (hc : bs.length ≤ c) (hb : ∀ x ∈ bs, x < 256) (hlen : bs.length ≤ 1048576) (hr : Rd w A (u8s bs)) :
    Calls Tryd.prog 65 #[.slice A bs.length c] w fun e w' => ∃ v, e = .returned (.tuple #[v, .bool (vallL bs).isSome]) ∧ w'.ownsRow w.heap.size 62 1 v ((vallL bs).getD []).length (u64s ((vallL bs).getD [])) ∧ Below w.heap.size w w' :=
  callsIn_wide.1 (all_in 3 (Nat.le_refl _) A c bs w hc hb hlen hr)
end Go.Proofs.YthhkkiegfcofjaaDoor
