/- The contract of the reader's part: what it makes of a frame's body. Condition: the reader lies in a block of its own, the body is at most 255 bytes that lie elsewhere. -/
import Derived.Test.YthhkkiegfcofjaaDoorFlTail
import Derived.Test.YthhkkiegfcofjaaDoorVaGet
import Derived.Test.YthhkkiegfcofjaaDoorSchedL
namespace Go.Proofs.YthhkkiegfcofjaaDoor
open Go.RowKit

theorem info_pt : (Tryd.prog.info? 26).map (fun i => (i.zero, i.size, i.bytes)) = some (some (.slice none 0 0), 1, 24) := by kernel_rfl

/-- One part more, laid for an append; and what the append and the stores behind it leave. -/
theorem ReadsAt.more {B g : Nat} {s : RSt} {w w1 : World} {A A' : Option Addr} {c c' : Nat} {xs : List Value} {q : List Nat} (h : ReadsAt B g s w A c xs) (hB1 : Below w.heap.size w w1) (hr1 : RdIn (fun b => w.heap.size ≤ b ∧ b < w1.heap.size) w1 A' (u8s q)) (hc' : q.length ≤ c') (hm' : c' ≤ maxLen) (hq : ∀ x ∈ q, x < 256) :
    (w1.alloc (.cells #[.slice A' q.length c'] 26)).ownsRow B 26 1 (.slice A s.parts.length c) s.parts.length xs ∧ Rd (w1.alloc (.cells #[.slice A' q.length c'] 26)) (some ⟨w1.heap.size, 0, none⟩) [.slice A' q.length c'] ∧ B ≤ (w1.alloc (.cells #[.slice A' q.length c'] 26)).heap.size ∧
    ∀ v3 w3, w3.ownsRow B 26 1 v3 (s.parts.length + 1) (xs ++ [.slice A' q.length c']) → (w1.alloc (.cells #[.slice A' q.length c'] 26)).grownBy w3 (Value.slice A s.parts.length c).ownBlock → (v3.ownBlock = (Value.slice A s.parts.length c).ownBlock ∨ v3.ownBlock = some (w1.alloc (.cells #[.slice A' q.length c'] 26)).heap.size) →
      Blk w3 g 76 [.int .u32 (s.base : Int), .slice A s.parts.length c, .int .u64 (s.count : Int), .int .i64 s.due] ∧ Below B w w3 ∧ KT w w3 ∧ ∃ A3 c3, v3 = .slice A3 (s.parts.length + 1) c3 ∧
      ∀ w5 d, Only g w3 w5 → InvS ⟨s.base, s.parts ++ [q], s.count, d⟩ → Blk w5 g 76 [.int .u32 (s.base : Int), .slice A3 (s.parts.length + 1) c3, .int .u64 (s.count : Int), .int .i64 d] → ReadsAt B g ⟨s.base, s.parts ++ [q], s.count, d⟩ w5 A3 c3 (xs ++ [.slice A' q.length c']) := by
  have hA : Below w1.heap.size w1 (w1.alloc (.cells #[.slice A' q.length c'] 26)) := (Below.refl _ w1).alloc (Nat.le_refl _) _
  have hB2 := hB1.trans (hA.mono hB1.size)
  have hrd := (Blk.new w1 26 [.slice A' q.length c']).rd
  have hs2 : (w1.alloc (.cells #[.slice A' q.length c'] 26)).heap.size = w1.heap.size + 1 := by simp
  have hk1 := hA.block
  have hs1 := hB1.size
  have hglt := h.blk.lt
  have hlow := h.low
  generalize w1.alloc (.cells #[.slice A' q.length c'] 26) = w2 at *
  have h2 := h.below hB2
  refine ⟨h2.row, hrd, by omega, fun v3 w3 hown hg hv => ?_⟩
  have hng : some g ≠ (Value.slice A s.parts.length c).ownBlock := fun e => h.other g e.symm rfl
  have hrl := h.row.lt
  refine ⟨(hg.block g (by omega) hng).trans h2.blk, (hB2.mono (by omega)).grown hg (by omega) (fun k hk => (hrl k hk).1), ?_, ?_⟩
  · intro k t cs hk h1 h3
    have hk2 := hk.below hk.lt hB2
    refine (hg.block k hk2.lt ?_).trans hk2
    intro e
    rcases h.row.2 with ⟨e1, _⟩ | ⟨g', cap, cur, e1, _, hg', _⟩
    · rw [e1] at e; simp [Value.ownBlock] at e
    · rw [e1] at e
      simp [Value.ownBlock] at e
      subst e
      have := hg'.symm.trans hk
      injection this with this
      injection this with _ e2
      exact h3 e2.symm
  · obtain ⟨A3, c3, rfl⟩ := own_slice2 hown
    refine ⟨A3, c3, rfl, fun w5 d hO hi hb => ?_⟩
    have hlen : (s.parts ++ [q]).length = s.parts.length + 1 := by simp
    have hng3 : ∀ k, (Value.slice A3 (s.parts.length + 1) c3).ownBlock = some k → k ≠ g := by
      rintro k hk rfl
      rcases hv with e | e
      · rw [e] at hk; exact hng hk.symm
      · rw [e] at hk; injection hk with hk; omega
    have hold : ∀ x, x < w.heap.size → some x ≠ (Value.slice A s.parts.length c).ownBlock → some x ≠ (Value.slice A3 (s.parts.length + 1) c3).ownBlock := fun x hx hne e => by
      rcases hv with e1 | e1
      · rw [e1] at e; exact hne e
      · rw [e1] at e; injection e with e; omega
    have hk3 : Keeps (fun b => b < w.heap.size ∧ b ≠ g ∧ some b ≠ (Value.slice A s.parts.length c).ownBlock ∧ B ≤ b) (fun b => b < w5.heap.size ∧ b ≠ g ∧ some b ≠ (Value.slice A3 (s.parts.length + 1) c3).ownBlock ∧ B ≤ b) w w5 := fun x hx => by
      refine ⟨⟨by rw [hO.size]; have := hg.size; omega, hx.2.1, hold x hx.1 hx.2.2.1, hx.2.2.2⟩, ?_⟩
      exact (hO.block x hx.2.1).trans ((hg.block x (by omega) hx.2.2.1).trans (hB2.block x hx.1))
    have hkn : Keeps (fun b => w.heap.size ≤ b ∧ b < w1.heap.size) (fun b => b < w5.heap.size ∧ b ≠ g ∧ some b ≠ (Value.slice A3 (s.parts.length + 1) c3).ownBlock ∧ B ≤ b) w1 w5 := fun x hx => by
      have hno : some x ≠ (Value.slice A s.parts.length c).ownBlock := fun e => by have := (hrl x e.symm).2; omega
      refine ⟨⟨by rw [hO.size]; have := hg.size; omega, by omega, fun e => ?_, by omega⟩, ?_⟩
      · rcases hv with e1 | e1
        · rw [e1] at e; exact hno e
        · rw [e1] at e; injection e with e; omega
      · exact (hO.block x (by omega)).trans ((hg.block x (by omega) hno).trans (hk1 x hx.2))
    have hch := (h.parts.imp (fun _ _ hr => rBytes_stays.to hk3 hr)).append (Chunks.one (size := 1) (R := rBytes (fun b => b < w5.heap.size ∧ b ≠ g ∧ some b ≠ (Value.slice A3 (s.parts.length + 1) c3).ownBlock ∧ B ≤ b) w5) (cs := [.slice A' q.length c']) rfl ⟨A', c', rfl, hc', hm', hq, hr1.keeps hkn⟩)
    have hrow : w5.ownsRow B 26 1 (.slice A3 (s.parts.length + 1) c3) (s.parts.length + 1) (xs ++ [.slice A' q.length c']) := by
      refine ⟨hown.1, ?_⟩
      rcases hown.2 with h1 | ⟨g', cap, cur, h1, h2, h3, h4⟩
      · exact .inl h1
      · exact .inr ⟨g', cap, cur, h1, h2, (hO.block g' (hng3 g' (by rw [h1]; rfl))).trans h3, h4⟩
    exact ⟨hlow, hi, by simp only [hlen]; exact hb, by simp only [hlen]; exact hrow, by simp only [hlen]; exact hch⟩

set_option maxRecDepth 100000 in
set_option maxHeartbeats 1000000 in
theorem part_says (B g : Nat) (s : RSt) (Ab : Option Addr) (n cb : Nat) (bs : List Nat) (w : World) (h : Reads B g s w) (hdue : s.due = 2) (hn : bs.length = n) (hn255 : n ≤ 255) (hc : n ≤ cb) (hcm : cb ≤ maxLen) (hb : ∀ x ∈ bs, x < 256) (hr : Rd w Ab (u8s bs)) :
    Calls Tryd.prog 57 #[.pointer (some ⟨g, 0, none⟩), .slice Ab n cb] w fun e w' => StepSays B g w (partS s bs) e w' := by
  obtain ⟨A, c, xs, h⟩ := h
  simp only [maxLen] at hcm
  have hlow := h.low
  have hglt := h.blk.lt
  have hcount := h.inv.two hdue
  have h40 := h.inv.most
  have hlt := h.blk.lt
  have V1 := Lib.hid (get_len Ab cb n bs w hn hb hr (by omega))
  have hts : partS s bs = if (getL bs).2 ≠ 0 ∧ (getL bs).1 = s.parts.length ∧ bs.length - (getL bs).2 ≤ 200 then some ⟨s.base, s.parts ++ [bs.drop (getL bs).2], s.count, dueOf (s.parts.length + 1) s.count⟩ else none := rfl
  have hle := getL_le bs hb
  rw [hn] at hts hle
  obtain ⟨hsz1, hsz2, hpl⟩ := hle
  have Hts := Lib.hid hts
  clear hts hdue
  have D1 := Lib.hid (had_any g _ _ _ A s.parts.length c w h.blk (by omega))
  generalize (getL bs).2 = size at *
  generalize (getL bs).1 = place at *
  by_cases hz : size = 0
  · subst hz
    rw [if_neg (by simp)] at Hts
    go_enter Tryd.func57, Tryd.ntmps57
    go_wp2_with (first
      | (go_at_call 67; refine V1.out.mono ?_; rintro e w1 ⟨rfl, rfl⟩)
      | fail)
    go_ret
    exact ⟨Below.refl _ _, KT.refl _, .inl ⟨Hts.out, rfl⟩⟩
  · have hz' : ((size : Int) == 0) = false := by rw [beq_eq_false_iff_ne]; omega
    by_cases hp : place = s.parts.length
    · subst hp
      obtain ⟨b0, off0, rfl, hb0, _⟩ := hr.at (k := 0) (by simp; omega)
      have hs1 : (size : Int) ≤ (n : Int) := by omega
      have hs2 : (n : Int) ≤ (cb : Int) := by omega
      have hs3 : (size : Int) ≤ (cb : Int) := by omega
      have hs0 : (0 : Int) ≤ (size : Int) := by omega
      have T1 := Lib.hid (fun A => tooLong_any A (n - size) (cb - size) w)
      by_cases hlong : n - size ≤ 200
      · rw [if_pos ⟨hz, rfl, hlong⟩] at Hts
        obtain ⟨A2, m2, c2, hcase, hd2, hr2⟩ : ∃ A2 m2 c2, ((cb - size = 0 ∧ n - size = 0 ∧ A2 = some (⟨b0, off0, none⟩ : Addr) ∧ m2 = 0 ∧ c2 = 0) ∨ (cb - size ≠ 0 ∧ A2 = some (⟨b0, off0 + size, none⟩ : Addr) ∧ m2 = n - size ∧ c2 = cb - size)) ∧ (bs.drop size).length = m2 ∧ Rd w A2 (u8s (bs.drop size)) := by
          by_cases hcs : cb - size = 0
          · refine ⟨_, _, _, .inl ⟨hcs, by omega, rfl, rfl, rfl⟩, by rw [List.length_drop]; omega, ?_⟩
            rw [List.drop_of_length_le (by omega)]
            exact .inl rfl
          · refine ⟨_, _, _, .inr ⟨hcs, rfl, rfl, rfl⟩, by rw [List.length_drop]; omega, ?_⟩
            rw [← u8s_drop]
            exact hr.drop size
        have hqb : ∀ x ∈ bs.drop size, x < 256 := fun x hx => hb x (List.mem_of_mem_drop hx)
        have hm200 : ¬ 200 < m2 := by rw [List.length_drop] at hd2; omega
        have T2 := tooLong_any A2 m2 c2 w
        rw [decide_eq_false hm200] at T2
        have HT2 := Lib.hid T2
        have C1 := Lib.hid (clone_any A2 c2 m2 (bs.drop size) w.drew hd2 hr2 (by omega))
        obtain ⟨i0, hi, hz0, hz1, hz2⟩ := info_parts info_pt
        have hx1 := h.blk.cell (j := 1) rfl
        have hother := h.other
        have hinv : ∀ d, d = dueOf (s.parts.length + 1) s.count → InvS ⟨s.base, s.parts ++ [bs.drop size], s.count, d⟩ := fun d hd => by
          refine ⟨h.inv.base, h40, by simp only [List.length_append, List.length_cons, List.length_nil]; omega, fun e => ?_, fun e => ?_, by have := dueOf_cases (s.parts.length + 1) s.count; simp only; omega⟩
          · simp only at e; rw [hd, dueOf] at e; split at e <;> omega
          · simp only [List.length_append, List.length_cons, List.length_nil] at e ⊢; rw [hd, dueOf] at e; split at e; omega; omega
        have Hinv := Lib.hid hinv
        generalize bs.drop size = q at *
        clear T1 T2 hinv hlong hr2
        have hd : ReadsAt B g s w.drew A c xs := h.below (Below.refl _ w).drew
        rcases hcase with ⟨hcs, hn0, rfl, rfl, rfl⟩ | ⟨hcs, rfl, rfl, rfl⟩
        all_goals
          go_enter Tryd.func57, Tryd.ntmps57
          go_wp2_with (first
            | (go_at_call 67; refine V1.out.mono ?_; rintro e w1 ⟨rfl, rfl⟩)
            | (go_at_call 68; refine D1.out.mono ?_; rintro e w1 ⟨rfl, rfl⟩)
            | (go_at_call 34; refine HT2.out.mono ?_; rintro e w1 ⟨rfl, rfl⟩)
            | fail)
          refine scl_start 15 [(0, true), (1, true), (2, true), (3, true), (4, true), (5, true), (6, true), (7, true), (8, true), (9, false), (10, false), (11, false), (12, true), (13, true), (14, true), (15, false)]
            (fun W => W.cell? ⟨g, 1, none⟩ = some (.slice A s.parts.length c)) (by kernel_rfl) rfl (by kernel_rfl) (fun _ _ _ _ _ h => h) hx1 (fun hH => ?_)
          repeat (first | (refine scl_yes (v := ?_) rfl rfl ?_ hH ?_; rotate_left; (focus ((intro W hW; go_simp) <;> with_reducible rfl)); simp only [Act.put, List.setIfInBounds_toArray, List.set_cons_zero, List.set_cons_succ]) | (refine scl_no rfl rfl hH ?_; simp only [Act.put, List.setIfInBounds_toArray, List.set_cons_zero, List.set_cons_succ]))
          refine scl_call rfl rfl (fun K hK => ?_)
          go_wp2_with (go_at_call 51; refine C1.out.mono ?_; rintro e w1 ⟨A', c', rfl, hc', hm', hr1, hB1⟩)
          rw [← hd2] at hc'
          obtain ⟨hown2, hrd2, hsz2, hnext⟩ := hd.more hB1 hr1 hc' hm' hqb
          rw [hd2] at hown2 hrd2 hsz2 hnext
          have Hnext := Lib.hid hnext
          clear hnext
          refine hK.out _ _ (fun _ => (hB1.cell (p := ⟨g, 1, none⟩) hglt).trans hx1) ?_
          clear hK hH
          refine scl_call rfl rfl (fun K hK => ?_)
          go_wp2
          refine hK.out _ _ (fun _ => ?_) ?_
          · exact (World.cell?_alloc_lt _ _ ⟨g, 1, none⟩ (Nat.lt_of_lt_of_le hglt hB1.size)).trans ((hB1.cell (p := ⟨g, 1, none⟩) hglt).trans hx1)
          clear hK
          refine scl_call rfl rfl (fun K hK => ?_)
          refine wp_app (.tmp 33) (.tmp 38) 23 rfl B 26 i0 (.slice none 0 0) 24 Tryd.underlying23 hi hz0 hz1 hz2 rfl _ s.parts.length xs rfl hown2 _ 1 1 _ rfl rfl hrd2 (by simp [Value.oneCell']) (by simp only [maxLen]; omega) (by omega) hsz2 ?_
          intro v3 w3 hown3 hg3 hv3
          obtain ⟨hblk3, hB3, hK3, A3, c3, rfl, hfin⟩ := Hnext.out v3 w3 hown3 hg3 hv3
          have Hfin := Lib.hid hfin
          clear hfin hown3 hown2 hrd2 hsz2 hv3 hg3 hr1
          have hx3 := hblk3.cell (j := 1) rfl
          have hf3 := hblk3.frozen 1
          have hH := hx3
          refine hK.out _ _ (fun _ => hx3) ?_
          clear hK
          repeat (first | (refine scl_yes (v := ?_) rfl rfl ?_ hH ?_; rotate_left; (focus ((intro W hW; go_simp) <;> with_reducible rfl)); simp only [Act.put, List.setIfInBounds_toArray, List.set_cons_zero, List.set_cons_succ]) | (refine scl_no rfl rfl hH ?_; simp only [Act.put, List.setIfInBounds_toArray, List.set_cons_zero, List.set_cons_succ]))
          refine scl_call rfl rfl (fun K hK => ?_)
          go_wp2
          refine hK.out _ _ (fun e => absurd rfl e) ?_
          clear hK
          refine scl_done ?_
          have hO4 := Only.set g w3 1 (.slice A3 (s.parts.length + 1) c3)
          have hb4 := hblk3.set 1 (.slice A3 (s.parts.length + 1) c3)
          simp only [List.set_cons_succ, List.set_cons_zero] at hb4
          have G1 := Lib.hid (goOn_any g _ _ A3 (s.parts.length + 1) c3 s.count _ hb4 (by omega))
          go_wp2_with fail
          refine G1.out.mono ?_
          rintro e w5 ⟨rfl, hO5, hb5⟩
          have hO6 := hO4.trans hO5
          go_wp2
          go_ret
          exact ⟨(Below.refl _ w).drew.trans (hB3.trans (hO6.bel.mono hlow)), (KT.below (Below.refl _ w).drew).trans (hK3.trans (KT.only hO6 hblk3)), .inr ⟨_, Hts.out, rfl, _, _, _, Hfin.out w5 _ hO6 (Hinv.out _ rfl) hb5⟩⟩
      · rw [if_neg (by omega)] at Hts
        rw [decide_eq_true (show 200 < n - size by omega)] at T1
        have hcs : cb - size ≠ 0 := by omega
        go_enter Tryd.func57, Tryd.ntmps57
        go_wp2_with (first
          | (go_at_call 67; refine V1.out.mono ?_; rintro e w1 ⟨rfl, rfl⟩)
          | (go_at_call 68; refine D1.out.mono ?_; rintro e w1 ⟨rfl, rfl⟩)
          | (go_at_call 34; refine (T1.out _).mono ?_; rintro e w1 ⟨rfl, rfl⟩)
          | fail)
        go_ret
        exact ⟨Below.refl _ _, KT.refl _, .inl ⟨Hts.out, rfl⟩⟩
    · rw [if_neg (by simp [hp])] at Hts
      have hp' : ((place : Int) != (s.parts.length : Int)) = true := by rw [bne_iff_ne]; omega
      go_enter Tryd.func57, Tryd.ntmps57
      go_wp2_with (first
        | (go_at_call 67; refine V1.out.mono ?_; rintro e w1 ⟨rfl, rfl⟩)
        | (go_at_call 68; refine D1.out.mono ?_; rintro e w1 ⟨rfl, rfl⟩)
        | fail)
      go_ret
      exact ⟨Below.refl _ _, KT.refl _, .inl ⟨Hts.out, rfl⟩⟩
end Go.Proofs.YthhkkiegfcofjaaDoor
