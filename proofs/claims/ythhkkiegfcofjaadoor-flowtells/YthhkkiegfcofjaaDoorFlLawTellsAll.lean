/- The texts FlRef3, FlRef4, FlLawTells in one; what each proves, and its conditions, stands before it. -/
import Derived.Test.YthhkkiegfcofjaaDoorFlRef2
import Derived.Test.YthhkkiegfcofjaaDoorFrRefAllAll
import Derived.Test.YthhkkiegfcofjaaDoorFlPart
import Derived.Test.YthhkkiegfcofjaaDoorFlGet
import Derived.Test.YthhkkiegfcofjaaDoorFlCuts
import Derived.Test.YthhkkiegfcofjaaDoorFlHeldAll
/- The contract of the document's own Get of a flow: as the program's. Condition: at most 100,000 bytes. -/
namespace Go.Proofs.YthhkkiegfcofjaaDoor
open Go.RowKit

/-- A flow that is made, part by part, in the block g; its parts lie in blocks of T, the row of them from the block B on. -/
structure GAt (T : Nat → Prop) (B g b : Nat) (ps : List (List Nat)) (w : World) (A : Option Addr) (c : Nat) (xs : List Value) : Prop where
  low : B ≤ g
  old : ∀ x, T x → x < B
  blk : Blk w g 25 [.int .u32 (b : Int), .slice A ps.length c]
  row : w.ownsRow B 26 1 (.slice A ps.length c) ps.length xs
  parts : Chunks 1 (rBytes T w) xs ps
section
variable {T : Nat → Prop} {B g b : Nat} {ps : List (List Nat)} {w w' : World} {A : Option Addr} {c : Nat} {xs : List Value}
theorem GAt.other (h : GAt T B g b ps w A c xs) : ∀ k, (Value.slice A ps.length c).ownBlock = some k → k ≠ g := by
  rintro k hk rfl
  rcases h.row.2 with ⟨e, _⟩ | ⟨g', cap, cur, e, _, hg, _⟩
  · rw [e] at hk; simp [Value.ownBlock] at hk
  · rw [e] at hk
    simp [Value.ownBlock] at hk
    subst hk
    have := hg.symm.trans h.blk
    injection this with this
    injection this with _ e2
    exact absurd e2 (by decide)
theorem GAt.keepT (h : GAt T B g b ps w A c xs) (hB : Below B w w') : Keeps T T w w' := fun x hx => ⟨hx, hB.block x (h.old x hx)⟩
theorem GAt.below (h : GAt T B g b ps w A c xs) (hB : Below w.heap.size w w') (hs : B ≤ w.heap.size) : GAt T B g b ps w' A c xs :=
  ⟨h.low, h.old, h.blk.below h.blk.lt hB, own_below h.row hB, h.parts.imp fun _ _ hr => rBytes_stays.to (h.keepT (hB.mono hs)) hr⟩
theorem GAt.only (h : GAt T B g b ps w A c xs) (hO : Only g w w') {b' : Nat} (hb : Blk w' g 25 [.int .u32 (b' : Int), .slice A ps.length c]) : GAt T B g b' ps w' A c xs := by
  refine ⟨h.low, h.old, hb, ⟨h.row.1, ?_⟩, h.parts.imp fun _ _ hr => rBytes_stays.to (h.keepT (hO.bel.mono h.low)) hr⟩
  rcases h.row.2 with h1 | ⟨g', cap, cur, h1, h2, h3, h4⟩
  · exact .inl h1
  · exact .inr ⟨g', cap, cur, h1, h2, (hO.block g' (h.other g' (by rw [h1]; rfl))).trans h3, h4⟩
theorem GAt.pts (h : GAt T B g b ps w A c xs) : rPts (fun x => T x ∨ (B ≤ x ∧ x < w.heap.size)) w [.slice A ps.length c] ps := by
  obtain ⟨A', c', hv, h1, h2, h3⟩ := own_in h.row
  injection hv with e1 _ e3
  subst e1 e3
  exact ⟨A, c, xs, rfl, h1, h2, h3.keeps (Keeps.mono fun x hx => .inr hx), h.parts.imp fun _ _ hr => rBytes_stays.to (Keeps.mono fun x hx => .inl hx) hr⟩
theorem GAt.more {A' : Option Addr} {c' : Nat} {q : List Nat} (h : GAt T B g b ps w A c xs) (hs : B ≤ w.heap.size) (hr1 : RdIn T w A' (u8s q)) (hc' : q.length ≤ c') (hm' : c' ≤ maxLen) (hq : ∀ x ∈ q, x < 256) :
    (w.alloc (.cells #[.slice A' q.length c'] 26)).ownsRow B 26 1 (.slice A ps.length c) ps.length xs ∧ Rd (w.alloc (.cells #[.slice A' q.length c'] 26)) (some ⟨w.heap.size, 0, none⟩) [.slice A' q.length c'] ∧ B ≤ (w.alloc (.cells #[.slice A' q.length c'] 26)).heap.size ∧
    ∀ v3 w3, w3.ownsRow B 26 1 v3 (ps.length + 1) (xs ++ [.slice A' q.length c']) → (w.alloc (.cells #[.slice A' q.length c'] 26)).grownBy w3 (Value.slice A ps.length c).ownBlock → (v3.ownBlock = (Value.slice A ps.length c).ownBlock ∨ v3.ownBlock = some (w.alloc (.cells #[.slice A' q.length c'] 26)).heap.size) →
      Blk w3 g 25 [.int .u32 (b : Int), .slice A ps.length c] ∧ Below B w w3 ∧ ∃ A3 c3, v3 = .slice A3 (ps.length + 1) c3 ∧
      ∀ w5, Only g w3 w5 → Blk w5 g 25 [.int .u32 (b : Int), .slice A3 (ps.length + 1) c3] → GAt T B g b (ps ++ [q]) w5 A3 c3 (xs ++ [.slice A' q.length c']) := by
  have hA : Below w.heap.size w (w.alloc (.cells #[.slice A' q.length c'] 26)) := (Below.refl _ w).alloc (Nat.le_refl _) _
  have hrd := (Blk.new w 26 [.slice A' q.length c']).rd
  have hs2 : (w.alloc (.cells #[.slice A' q.length c'] 26)).heap.size = w.heap.size + 1 := by simp
  have hglt := h.blk.lt
  have hlow := h.low
  generalize w.alloc (.cells #[.slice A' q.length c'] 26) = w2 at *
  have h2 := h.below hA hs
  refine ⟨h2.row, hrd, by omega, fun v3 w3 hown hg hv => ?_⟩
  have hng : some g ≠ (Value.slice A ps.length c).ownBlock := fun e => h.other g e.symm rfl
  have hrl := h.row.lt
  have hBw : Below B w w3 := (hA.mono (by omega)).grown hg (by omega) (fun k hk => (hrl k hk).1)
  refine ⟨(hg.block g (by omega) hng).trans h2.blk, hBw, ?_⟩
  obtain ⟨A3, c3, rfl⟩ := own_slice2 hown
  refine ⟨A3, c3, rfl, fun w5 hO hb => ?_⟩
  have hlen : (ps ++ [q]).length = ps.length + 1 := by simp
  have hng3 : ∀ k, (Value.slice A3 (ps.length + 1) c3).ownBlock = some k → k ≠ g := by
    rintro k hk rfl
    rcases hv with e | e
    · rw [e] at hk; exact hng hk.symm
    · rw [e] at hk; injection hk with hk; omega
  have hBw5 := hBw.trans (hO.bel.mono hlow)
  have hkT := h.keepT hBw5
  have hch := (h.parts.imp (fun _ _ hr => rBytes_stays.to hkT hr)).append (Chunks.one (size := 1) (R := rBytes T w5) (cs := [.slice A' q.length c']) rfl ⟨A', c', rfl, hc', hm', hq, hr1.keeps hkT⟩)
  have hrow : w5.ownsRow B 26 1 (.slice A3 (ps.length + 1) c3) (ps.length + 1) (xs ++ [.slice A' q.length c']) := by
    refine ⟨hown.1, ?_⟩
    rcases hown.2 with h1 | ⟨g', cap, cur, h1, h2, h3, h4⟩
    · exact .inl h1
    · exact .inr ⟨g', cap, cur, h1, h2, (hO.block g' (hng3 g' (by rw [h1]; rfl))).trans h3, h4⟩
  exact ⟨hlow, h.old, by simp only [hlen]; exact hb, by simp only [hlen]; exact hrow, hch⟩
end
/-- 'b[s:]' of bytes: the address, and what it reads. -/
def cutA (A : Option Addr) (c s : Nat) : Option Addr := if c = s then A else A.map (·.add (s * 1))
theorem run_from (A : Option Addr) (n c s : Nat) (hs : s ≤ n) (W : World) : (Instr.sliceAt 26 (.slice A n c) (some (.int .i64 (s : Int))) none none).run Tryd.prog W = .ok (.slice (cutA A c s) (n - s) (c - s)) W := by
  simp [Instr.sliceAt, Instr.slice, underlying, Tryd.underlying26, Instr.sliceBounds, Instr.sliceBound, asIntOf, hs, cutA, Result.andThen, Sem.run_bind]
theorem cutA_rd {S : Nat → Prop} {W : World} {A : Option Addr} {c s : Nat} {bs : List Nat} (hs : s ≤ bs.length) (hc : bs.length ≤ c) (h : RdIn S W A (u8s bs)) : RdIn S W (cutA A c s) (u8s (bs.drop s)) := by
  rw [cutA]
  by_cases hcs : c = s
  · rw [if_pos hcs, List.drop_of_length_le (by omega)]; exact .inl rfl
  · rw [if_neg hcs]
    rcases h with h | ⟨b, off, rfl, hb, hcx⟩
    · have : bs = [] := List.eq_nil_of_length_eq_zero (by simpa using congrArg List.length h)
      subst this
      exact .inl (by simp [u8s])
    · refine .inr ⟨b, off + s, ?_, hb, fun j u hu => ?_⟩
      · simp [addr_add]
      · rw [← u8s_drop, List.getElem?_drop] at hu
        rw [Nat.add_assoc]
        exact hcx _ u hu

theorem rall_form (A : Option Addr) (c n : Nat) (bs : List Nat) (w : World) (hn : bs.length = n) (hc : n ≤ c) (hb : ∀ x ∈ bs, x < 256) (hr : Rd w A (u8s bs)) (hlen : n ≤ 1000000000) :
    Calls Tryd.prog 31 #[.slice A n c] w fun e w' => ∃ B d, e = .returned (.tuple #[.slice B (allL bs).2.length d, .int .i64 ((allL bs).1 : Int)]) ∧ rSlice 2 rFra (All w') w' [.slice B (allL bs).2.length d] (allL bs).2 ∧ Below w.heap.size w w' :=
  (rall_any A c n bs w hn hc hb hr hlen).mono fun e w' ⟨v, he, hs, hB⟩ => by
    obtain ⟨B, d, xs, hv, h1⟩ := hs
    simp at hv
    subst hv
    exact ⟨B, d, he, ⟨B, d, xs, rfl, h1⟩, hB⟩
theorem vrget_len (A : Option Addr) (c n : Nat) (bs : List Nat) (w : World) (hn : bs.length = n) (hl : n ≤ c) (hb : ∀ x ∈ bs, x < 256) (hr : Rd w A (u8s bs)) (hlen : n ≤ 140737488355328) :
    Calls Tryd.prog 32 #[.slice A n c] w fun e w' => e = .returned (.tuple #[.int .u64 ((getL bs).1 : Int), .int .i64 ((getL bs).2 : Int)]) ∧ Below w.heap.size w w' := by
  subst hn
  exact vrget_any A c bs w hl hb hr hlen

set_option maxRecDepth 100000 in
set_option maxHeartbeats 2000000 in
theorem rfget_any (A : Option Addr) (c n : Nat) (bs : List Nat) (w : World) (hn : bs.length = n) (hc : n ≤ c) (hb : ∀ x ∈ bs, x < 256) (hr : Rd w A (u8s bs)) (hlen : n ≤ 100000) :
    Calls Tryd.prog 15 #[.slice A n c] w fun e w' => ∃ A' c', e = .returned (.tuple #[.agg #[.int .u32 (getFl bs).1.1, .slice A' (getFl bs).1.2.length c'], .int .i64 ((getFl bs).2 : Int)]) ∧ rPts (All w') w' [.slice A' (getFl bs).1.2.length c'] (getFl bs).1.2 ∧ Below w.heap.size w w' := by
  obtain ⟨hz, hsz⟩ := zero_of_info info_flo
  obtain ⟨j0, hj, hy0, hy1, hy2⟩ := info_parts info_pt
  have hB0 : Below w.heap.size w (w.alloc (.cells #[.int .u32 0, .slice none 0 0] 25)) := (Below.refl _ w).alloc (Nat.le_refl _) _
  have hz0 := Blk.new w 25 [.int .u32 0, .slice none 0 0]
  have G1 := Lib.hid (rall_form A c n bs _ hn hc hb (hr.below hB0) (by omega))
  have hback := allL_back bs.length bs (Nat.le_refl _) hb
  have hguess := fun h => getFl_guess hb h
  have hgf : (allL bs).1 ≠ 0 → getFl bs = ((0, []), (allL bs).1) := fun h => by rw [getFl, if_pos h]
  have hcnt : (allL bs).1 = 0 → (allL bs).2.length ≤ n := fun h => by
    have h1 := (hback h).1
    have h2 : ∀ l : List Fra, l.length ≤ (catL l).length := fun l => by
      induction l with
      | nil => simp
      | cons F l ih => simp only [catL, List.length_append, putL_length, List.length_cons]; omega
    have := h2 (allL bs).2
    rw [h1] at this
    omega
  have Hgf := Lib.hid hgf
  have Hguess := Lib.hid hguess
  have Hback := Lib.hid hback
  have Hcnt := Lib.hid hcnt
  have HO := Lib.hid hr
  clear hgf hguess hback hcnt hr
  generalize allL bs = al at *
  generalize getFl bs = gf at *
  go_enter Tryd.func15, Tryd.ntmps15
  go_wp2_with fail
  refine G1.out.mono ?_
  rintro e w1 ⟨B1, d1, rfl, hsl0, hB1⟩
  have hz1 := hz0.below hz0.lt hB1
  have hBw := hB0.trans (hB1.mono hB0.size)
  clear G1 hz0 hB0 hB1
  have hzl := hz1.lt
  by_cases he : al.1 = 0
  · obtain ⟨_, hfit⟩ := Hback.out he
    have hcnt := Hcnt.out he
    have he' : ((al.1 : Int) != 0) = false := by rw [bne_eq_false_iff_eq]; omega
    have hsl := (rSlice_stays rFra_stays).to (S' := fun b => b < w1.heap.size ∧ b ≠ w.heap.size) (Keeps.mono fun x hx => hx) (frames_avoid hsl0 (blk_none hz1).1 (blk_none hz1).2)
    have hgs := Hguess.out he
    have Hgs := Lib.hid hgs
    have Hfit := Lib.hid hfit
    clear hsl0 hgs hfit Hguess Hback Hgf Hcnt
    generalize al.2 = l at *
    have hbt := bAt_lt l
    have G0 : GAt (fun b => b < w1.heap.size ∧ b ≠ w.heap.size) w1.heap.size w1.heap.size (bAt l 0) (pAt l 0) (w1.alloc (.cells #[.int .u32 0, .slice none 0 0] 25)) none 0 [] := by
      have hp0 := pAt_zero l
      refine ⟨Nat.le_refl _, fun x hx => hx.1, ?_, ?_, ?_⟩
      · rw [hp0]; exact Blk.new w1 25 [.int .u32 0, .slice none 0 0]
      · rw [hp0]; exact World.ownsRow_nil _ _ _ _
      · rw [hp0]; exact Chunks.nil
    have hBa : Below w1.heap.size w1 (w1.alloc (.cells #[.int .u32 0, .slice none 0 0] 25)) := (Below.refl _ w1).alloc (Nat.le_refl _) _
    go_wp2_with fail
    go_loopw [7] (fun iv wr => ∃ (i : Nat) (A2 : Option Addr) (c2 : Nat) (xs : List Value), i ≤ l.length ∧ iv = .int .i64 (i : Int) ∧ Hid (GAt (fun b => b < w1.heap.size ∧ b ≠ w.heap.size) w1.heap.size w1.heap.size (bAt l i) (pAt l i) wr A2 c2 xs) ∧ Below w1.heap.size w1 wr ∧ w1.heap.size < wr.heap.size) (fun iv _ => l.length - (intOf iv).toNat)
    case atStart => exact ⟨0, none, 0, [], by omega, rfl, Lib.hid G0, hBa, by simp⟩
    case round =>
      obtain ⟨i, A2, c2, xs, hile, rfl, HG, hB, hsr⟩ := hrel
      clear G0 hBa
      by_cases hin : i < l.length
      · obtain ⟨F, hli⟩ : ∃ F, l[i]? = some F := ⟨l[i], List.getElem?_eq_getElem (by omega)⟩
        obtain ⟨b1, off1, A1, c1, rfl, hb1, hx1, hy1, hfc1, hfm1, hby1, hr1⟩ := fra_at2 hsl hli
        have hFt := Hfit.out F (List.mem_of_getElem? hli)
        have hf255 := hFt.2.2.1
        have hle := getL_le F.2 hby1
        have hil : (i : Int) < (l.length : Int) := by omega
        have hi0 : (0 : Int) ≤ (i : Int) := by omega
        simp only [maxLen] at hfm1
        have hcell : ∀ W, Below w1.heap.size w1 W → W.cell? ⟨b1, off1 + i * 2 + 1, none⟩ = some (.slice A1 F.2.length c1) := fun W hW => (hW.cell (p := ⟨b1, off1 + i * 2 + 1, none⟩) hb1.1).trans hy1
        have V1 := Lib.hid (fun W h => vrget_len A1 c1 F.2.length F.2 W rfl hfc1 hby1 h (by omega))
        have V2 := Lib.hid (fun W h => vrget_len (cutA A1 c1 (getL F.2).2) (c1 - (getL F.2).2) (F.2.length - (getL F.2).2) (bodyDrop F) W (by rw [bodyDrop, List.length_drop]) (by omega) (fun x hx => hby1 x (List.mem_of_mem_drop hx)) h (by omega))
        have hcut := cutA_rd (S := fun b => b < w1.heap.size ∧ b ≠ w.heap.size) hle.1 hfc1 hr1
        have hbd : F.2.drop (getL F.2).2 = bodyDrop F := rfl
        rw [hbd] at hcut
        have hbl : (bodyDrop F).length = F.2.length - (getL F.2).2 := by rw [bodyDrop, List.length_drop]
        have hbb : ∀ x ∈ bodyDrop F, x < 256 := fun x hx => hby1 x (List.mem_of_mem_drop hx)
        have hgb : i = 0 → guessBase l = (getL (bodyDrop F)).1 % 4294967296 := fun h0 => by
          subst h0
          cases l with
          | nil => simp at hin
          | cons a t => simp at hli; subst hli; rfl
        have hpm := fun h0 h1 => pAt_mid (i := i) h0 h1 hli
        have hsr1 := fun W => run_from A1 F.2.length c1 (getL F.2).2 hle.1 W
        have hle2 := getL_le (bodyDrop F) hbb
        have Hcell := Lib.hid hcell
        have Hgb := Lib.hid hgb
        have Hpm := Lib.hid hpm
        clear hcell hgb hpm hbd hli hx1 hy1 hFt
        generalize (getL F.2).2 = s1 at *
        generalize (getL F.2).1 = n1 at *
        generalize bodyDrop F = bd at *
        generalize (getL bd).1 = n2 at *
        generalize (getL bd).2 = s2 at *
        have g1 := Hcell.out wr hB
        have HV1 := Lib.hid (V1.out wr ((RdIn.rd (hr1.keeps (S' := All w1) (Keeps.mono fun x hx => hx.1))).below ((hB.mono (Nat.le_refl _)))))
        go_wp2_with fail
        refine HV1.out.mono ?_
        rintro e w3 ⟨rfl, hB3⟩
        have hB13 := hB.trans (hB3.mono hB.size)
        have hs3 := hB3.size
        have G3 := HG.out.below hB3 (by omega)
        have g3 := Hcell.out w3 hB13
        clear HV1 HG g1 hB3
        by_cases hi1 : i = 0
        · subst hi1
          have HV2 := Lib.hid (V2.out w3 ((RdIn.rd (hcut.keeps (S' := All w1) (Keeps.mono fun x hx => hx.1))).below hB13))
          have hgb := Hgb.out rfl
          have hp1 : pAt l (0 + 1) = pAt l 0 := by rw [pAt_zero, Nat.zero_add, pAt_one]
          have hb1' : bAt l (0 + 1) = n2 % 4294967296 := by rw [bAt, if_neg (by omega), hgb]
          have Hp1 := Lib.hid hp1
          have Hb1 := Lib.hid hb1'
          have hmod : (n2 : Int) % 4294967296 = ((n2 % 4294967296 : Nat) : Int) := by omega
          have Hmod := Lib.hid hmod
          clear hp1 hb1' hgb V1 V2 hmod
          simp only [Nat.zero_mul, Nat.add_zero] at g3
          go_wp2_with fail
          refine HV2.out.mono ?_
          rintro e w4 ⟨rfl, hB4⟩
          have G4 := G3.below hB4 (by omega)
          have hB14 := hB13.trans (hB4.mono hB13.size)
          have hs4 := hB4.size
          clear G3 HV2 hB4 g3
          have x0 := G4.blk.cell (j := 0) rfl
          have f0 := G4.blk.frozen 0
          have hO := Only.set w1.heap.size w4 0 (.int .u32 ((n2 : Int) % 4294967296))
          have hbs := G4.blk.set 0 (.int .u32 ((n2 : Int) % 4294967296))
          simp only [List.set_cons_zero] at hbs
          go_wp2
          refine ⟨⟨0 + 1, A2, c2, xs, by omega, by go_num, Lib.hid ?_, hB14.trans (hO.bel.mono (Nat.le_refl _)), by rw [hO.size]; omega⟩, ?_⟩
          · rw [Hp1.out, Hb1.out]
            exact G4.only (b' := n2 % 4294967296) hO (by rw [← Hmod.out]; exact hbs)
          · simp [intOf]; omega
        · have hi1' : ((i : Int) == 0) = false := by rw [beq_eq_false_iff_ne]; omega
          have hbi : bAt l (i + 1) = bAt l i := by rw [bAt, bAt, if_neg (by omega), if_neg hi1]
          have Hbi := Lib.hid hbi
          have hipos : 0 < i := by omega
          clear hbi V1 V2 hi1
          have hw1 : IntKind.i64.wrap ((l.length : Int) - 1) = (l.length : Int) - 1 := IntWalk.i64_in _ (by omega)
          by_cases hlast : i < l.length - 1
          · have hd : decide ((i : Int) < (l.length : Int) - 1) = true := by simp; omega
            have hpm := Hpm.out hipos hlast
            have hpl := pAt_len l i
            have Hpm' := Lib.hid hpm
            clear hpm Hpm
            have hBd := hB13.drew
            have Gd := G3.below (Below.refl _ w3).drew (by omega)
            have hsd : w1.heap.size < w3.drew.heap.size := by show w1.heap.size < w3.heap.size; omega
            have HF := Lib.hid (fun (W : World) (hW : Below w1.heap.size w1 W) => Hcell.out W hW)
            generalize pAt l i = pp at *
            generalize bAt l i = bb at *
            have hx1 := Gd.blk.cell (j := 1) rfl
            obtain ⟨hownM, hrdM, hszM, hnext⟩ := Gd.more (by omega) (hcut.keeps (fun x hx => ⟨hx, hBd.block x hx.1⟩)) (c' := c1 - s1) (by omega) (by simp only [maxLen]; omega) hbb
            rw [hbl] at hownM hrdM hszM hnext
            have Hnext := Lib.hid hnext
            clear hnext
            go_wp2_with fail
            refine scl_start 12 [(0, true), (1, true), (2, true), (3, true), (4, true), (5, true), (6, true), (7, true), (8, true), (9, false), (10, false), (11, true), (12, false)]
              (fun W => Below w1.heap.size w1 W ∧ W.cell? ⟨w1.heap.size, 1, none⟩ = some (.slice A2 pp.length c2)) (by kernel_rfl) rfl (by kernel_rfl) (fun _ _ _ _ _ h => h) ⟨hBd, hx1⟩ (fun hH => ?_)
            generalize w3.drew = wd at *
            repeat (first | (refine scl_yes (v := ?_) rfl rfl ?_ hH ?_; rotate_left; (focus ((rintro W ⟨hW, hW2⟩; have u1 := HF.out W hW; have u2 := hsr1 W; go_simp) <;> with_reducible rfl)); simp only [Act.put, List.setIfInBounds_toArray, List.set_cons_zero, List.set_cons_succ]) | (refine scl_no rfl rfl hH ?_; simp only [Act.put, List.setIfInBounds_toArray, List.set_cons_zero, List.set_cons_succ]))
            refine scl_call rfl rfl (fun K hK => ?_)
            go_wp2
            have hBm : Below w1.heap.size w1 (wd.alloc (.cells #[.slice (cutA A1 c1 s1) (F.2.length - s1) (c1 - s1)] 26)) := hBd.alloc (by omega) _
            have hxm := (Gd.blk.alloc (.cells #[.slice (cutA A1 c1 s1) (F.2.length - s1) (c1 - s1)] 26)).cell (j := 1) rfl
            refine hK.out _ _ (fun _ => ⟨hBm, hxm⟩) ?_
            clear hK hH
            refine scl_call rfl rfl (fun K hK => ?_)
            refine wp_app (.tmp 60) (.tmp 68) 23 rfl w1.heap.size 26 j0 (.slice none 0 0) 24 Tryd.underlying23 hj hy0 hy1 hy2 rfl _ pp.length xs rfl hownM _ 1 1 _ rfl rfl hrdM (by simp [Value.oneCell']) (by simp only [maxLen]; omega) (by omega) hszM ?_
            intro v5 w5 hown5 hg5 hv5
            obtain ⟨hblk5, hB5, A5, c5, rfl, hfin⟩ := Hnext.out v5 w5 hown5 hg5 hv5
            have Hfin := Lib.hid hfin
            have hs5 := hg5.size
            rw [World.size_alloc] at hs5
            clear hfin hown5 hownM hrdM hszM hv5 hg5
            have hB15 := hBd.trans (hB5.mono (Nat.le_refl _))
            have hx5 := hblk5.cell (j := 1) rfl
            have hf5 := hblk5.frozen 1
            have hH := And.intro hB15 hx5
            refine hK.out _ _ (fun _ => hH) ?_
            clear hK
            repeat (first | (refine scl_yes (v := ?_) rfl rfl ?_ hH ?_; rotate_left; (focus ((rintro W ⟨hW, hW2⟩; have u1 := HF.out W hW; have u2 := hsr1 W; go_simp) <;> with_reducible rfl)); simp only [Act.put, List.setIfInBounds_toArray, List.set_cons_zero, List.set_cons_succ]) | (refine scl_no rfl rfl hH ?_; simp only [Act.put, List.setIfInBounds_toArray, List.set_cons_zero, List.set_cons_succ]))
            refine scl_call rfl rfl (fun K hK => ?_)
            go_wp2
            refine hK.out _ _ (fun e => absurd rfl e) ?_
            clear hK
            refine scl_done ?_
            have hO6 := Only.set w1.heap.size w5 1 (.slice A5 (pp.length + 1) c5)
            have hb6 := hblk5.set 1 (.slice A5 (pp.length + 1) c5)
            simp only [List.set_cons_succ, List.set_cons_zero] at hb6
            have G6 := Hfin.out _ hO6 hb6
            go_wp2
            refine ⟨⟨i + 1, A5, c5, (xs ++ [.slice (cutA A1 c1 s1) (F.2.length - s1) (c1 - s1)]), by omega, by go_num, Lib.hid ?_, hB15.trans (hO6.bel.mono (Nat.le_refl _)), by rw [hO6.size]; omega⟩, ?_⟩
            · rw [Hpm'.out, Hbi.out]
              exact G6
            · simp [intOf]; omega
          · have hd : decide ((i : Int) < (l.length : Int) - 1) = false := by simp; omega
            have hpl := pAt_last (l := l) (i := i) (by omega)
            have Hpl := Lib.hid hpl
            clear hpl
            go_wp2
            refine ⟨⟨i + 1, A2, c2, xs, by omega, by go_num, Lib.hid ?_, hB13, by omega⟩, ?_⟩
            · rw [Hpl.out, Hbi.out]
              exact G3
            · simp [intOf]; omega
      · obtain rfl : i = l.length := by omega
        have hgF : guessF l = (((bAt l l.length : Nat) : Int), pAt l l.length) := rfl
        have hgby := guess_byte Hfit.out l.length
        have hbl := hbt l.length
        rw [hgF] at Hgs
        clear hgF
        have hzr := hz1.below hzl hB
        have hBwr := hBw.trans (hB.mono hBw.size)
        have G := HG.out
        generalize pAt l l.length = pp at *
        generalize bAt l l.length = bb at *
        have P1 := Lib.hid (rfput_any A2 pp.length c2 bb pp wr hbl (rPts_stays.to (Keeps.mono fun x hx => hx.elim (fun h => Nat.lt_trans h.1 hsr) (fun h => h.2)) G.pts) hgby)
        have x0 := G.blk.cell (j := 0) rfl
        have x1 := G.blk.cell (j := 1) rfl
        go_wp2_with fail
        refine P1.out.mono ?_
        rintro e w5 ⟨B5, m5, cap5, E5, rfl, hsays, hB5⟩
        have hz5 := hzr.below (by omega) hB5
        have hB15 := hB.trans (hB5.mono hB.size)
        have hBw5 := hBwr.trans (hB5.mono hBwr.size)
        have G5 := G.below hB5 (by omega)
        have hs5 := hB5.size
        clear P1 x0 x1 hzr HG G
        have z0 := hz5.cell (j := 0) rfl
        have z1 := hz5.cell (j := 1) rfl
        have zf0 := hz5.frozen 0
        have zf1 := hz5.frozen 1
        have y0 := G5.blk.cell (j := 0) rfl
        have y1 := G5.blk.cell (j := 1) rfl
        have Hrz := Lib.hid ((hz5.set 0 (.int .u32 0)).set 1 (.slice none 0 0))
        have HBz := Lib.hid ((hBw5.setCell (p := ⟨w.heap.size, 0, none⟩) (Nat.le_refl w.heap.size) (.int .u32 0)).setCell (p := ⟨w.heap.size, 1, none⟩) (Nat.le_refl w.heap.size) (.slice none 0 0))
        rcases hsays with ⟨hmay, rfl, rfl, hc5, hm5, hr5⟩ | ⟨hmay, rfl, rfl, rfl, rfl⟩
        · have t1 := conv_B B5 (flowB ((bb : Int), pp)) _ cap5 w5 rfl hr5
          have t2 := conv_B A bs n c w5 hn (HO.out.below hBw5)
          have hok : OkF ((bb : Int), pp) := ⟨by simp, by simp only; omega, hmay, hgby⟩
          have hstr := str_eq (flowB_byte hok) hb
          by_cases hq : flowB ((bb : Int), pp) = bs
          · have hg := Hgs.out.1 ⟨hmay, hq⟩
            have hd1 : ((strB (flowB ((bb : Int), pp))).toList == (strB bs).toList) = true := by rw [hstr, hq]; simp
            have hd2 : ((strB (flowB ((bb : Int), pp))).toList != (strB bs).toList) = false := by rw [bne, hd1]; rfl
            have Hg := Lib.hid hg
            have Hrw := Lib.hid ((hz5.set 0 (.int .u32 (bb : Int))).set 1 (.slice A2 pp.length c2))
            have HBr := Lib.hid ((hBw5.setCell (p := ⟨w.heap.size, 0, none⟩) (Nat.le_refl w.heap.size) (.int .u32 (bb : Int))).setCell (p := ⟨w.heap.size, 1, none⟩) (Nat.le_refl w.heap.size) (.slice A2 pp.length c2))
            have HO5 := Lib.hid ((Only.set w.heap.size w5 0 (.int .u32 (bb : Int))).trans (Only.set w.heap.size _ 1 (.slice A2 pp.length c2)))
            clear hg hstr hq hok
            generalize flowB ((bb : Int), pp) = fl at *
            go_wp2
            refine ret_cell1 rfl Hrw.out Tryd.underlying25 rfl hsz rfl rfl ?_
            rw [Hg.out]
            have hO := HO5.out
            exact ⟨A2, c2, rfl, rPts_stays.to (fun x hx => ⟨Nat.lt_of_lt_of_le (hx.elim (fun h => by omega) (fun h => h.2)) (Nat.le_of_eq hO.size.symm), hO.block x (hx.elim (fun h => h.2) (fun h => by omega))⟩) G5.pts, HBr.out⟩
          · have hg := Hgs.out.2 (fun h => hq h.2)
            have hd1 : ((strB (flowB ((bb : Int), pp))).toList == (strB bs).toList) = false := by rw [hstr]; simpa using hq
            have hd2 : ((strB (flowB ((bb : Int), pp))).toList != (strB bs).toList) = true := by rw [bne, hd1]; rfl
            have Hg := Lib.hid hg
            clear hg hstr hq hok
            generalize flowB ((bb : Int), pp) = fl at *
            go_wp2
            refine ret_cell1 rfl Hrz.out Tryd.underlying25 rfl hsz rfl rfl ?_
            rw [Hg.out]
            exact ⟨none, 0, rfl, ⟨none, 0, [], rfl, Nat.le_refl _, Nat.zero_le _, .inl rfl, Chunks.nil⟩, HBz.out⟩
        · have hg := Hgs.out.2 (fun h => by rw [hmay] at h; cases h.1)
          have Hg := Lib.hid hg
          clear hg
          go_wp2
          refine ret_cell1 rfl Hrz.out Tryd.underlying25 rfl hsz rfl rfl ?_
          rw [Hg.out]
          exact ⟨none, 0, rfl, ⟨none, 0, [], rfl, Nat.le_refl _, Nat.zero_le _, .inl rfl, Chunks.nil⟩, HBz.out⟩
  · have he' : ((al.1 : Int) != 0) = true := by rw [bne_iff_ne]; omega
    have hg := Hgf.out he
    have Hg := Lib.hid hg
    have hx0 := hz1.cell (j := 0) rfl
    have hx1 := hz1.cell (j := 1) rfl
    have hf0 := hz1.frozen 0
    have hf1 := hz1.frozen 1
    have Hrw := Lib.hid ((hz1.set 0 (.int .u32 0)).set 1 (.slice none 0 0))
    have HBr := Lib.hid ((hBw.setCell (p := ⟨w.heap.size, 0, none⟩) (Nat.le_refl w.heap.size) (.int .u32 0)).setCell (p := ⟨w.heap.size, 1, none⟩) (Nat.le_refl w.heap.size) (.slice none 0 0))
    clear hg
    go_wp2
    refine ret_cell1 rfl Hrw.out Tryd.underlying25 rfl hsz rfl rfl ?_
    rw [Hg.out]
    exact ⟨none, 0, rfl, ⟨none, 0, [], rfl, Nat.le_refl _, Nat.zero_le _, .inl rfl, Chunks.nil⟩, HBr.out⟩
end Go.Proofs.YthhkkiegfcofjaaDoor

/- The contract of foliateref04.Cuts. Condition: at most 100,000 bytes. -/
namespace Go.Proofs.YthhkkiegfcofjaaDoor
open Go.RowKit

set_option maxRecDepth 100000 in
set_option maxHeartbeats 1000000 in
theorem rfcuts_any (A : Option Addr) (c n : Nat) (bs : List Nat) (w : World) (hn : bs.length = n) (hc : n ≤ c) (hb : ∀ x ∈ bs, x < 256) (hr : Rd w A (u8s bs)) (hlen : n ≤ 100000) :
    Calls Tryd.prog 17 #[.slice A n c] w fun e w' => ∃ A' m c' ok, e = .returned (.tuple #[.slice A' m c', .bool ok]) ∧ CutSays bs w' A' m c' ok ∧ Below w.heap.size w w' := by
  obtain ⟨i0, hi, hz0, hz1, hz2⟩ := info_parts info_int
  have G1 := Lib.hid (rfget_any A c n bs w hn hc hb hr hlen)
  have G2 := Lib.hid (fun W h => rall_form A c n bs W hn hc hb h (by omega))
  have hback := fun h => getFl_back (bs := bs) hb h
  simp only [CutSays]
  generalize getFl bs = gf at *
  generalize allL bs = al at *
  obtain ⟨f, E⟩ := gf
  simp only at G1 hback ⊢
  have Hback := Lib.hid hback
  clear hback
  go_enter Tryd.func17, Tryd.ntmps17
  go_wp2_with fail
  refine G1.out.mono ?_
  rintro e w1 ⟨A1, c1, rfl, hpts, hB1⟩
  clear G1 hpts
  by_cases hE : E = 0
  · subst hE
    obtain ⟨hok, _, hal1, hal2⟩ := Hback.out rfl
    have hfew := hok.few
    have hfit := framesF_fit hok
    have hfl := framesF_length f
    have hcl := cutAt_le hfit
    have hcu : cutsL (framesF f) = (List.range (f.2.length + 3)).map (cutAt (framesF f)) := by rw [cutsL, hfl]
    rw [hal2] at G2
    have Hfit := Lib.hid hfit
    have Hcu := Lib.hid hcu
    have Hcl := Lib.hid hcl
    clear hok Hback hfit hcu hcl hal2
    generalize hfr0 : framesF f = fr at *
    generalize hnp0 : f.2.length = np at *
    have Hfr0 := Lib.hid hfr0
    have Hnp0 := Lib.hid hnp0
    clear hfr0 hnp0
    have hB1' : Below w.heap.size w (w1.alloc (.cells #[.int .u32 f.1, .slice A1 np c1] 25)) := hB1.alloc hB1.size _
    have hB2 : Below w.heap.size w ((w1.alloc (.cells #[.int .u32 f.1, .slice A1 np c1] 25)).alloc (.cells #[.int .i64 0] 3)) := hB1'.alloc hB1'.size _
    have hbk := Blk.new (w1.alloc (.cells #[.int .u32 f.1, .slice A1 np c1] 25)) 3 [.int .i64 0]
    have hown2 := World.ownsRow_lit (base := w1.heap.size + 1) (e := 3) (size := 1) (w1.alloc (.cells #[.int .u32 f.1, .slice A1 np c1] 25)) #[.int .i64 0] 1 (by simp) (by simp [maxLen]) rfl
    rw [World.size_alloc] at hown2 hbk
    have G3 := Lib.hid (G2.out _ (hr.below hB2))
    clear G2
    go_wp2_with fail
    refine G3.out.mono ?_
    rintro e w2 ⟨B2, d2, rfl, hsl, hB3⟩
    have hown3 := own_below hown2 hB3
    have hbk3 := hbk.below hbk.lt hB3
    have hs2 : w1.heap.size + 1 < w2.heap.size := hbk3.lt
    have hBw2 := hB2.trans (hB3.mono hB2.size)
    have hKeep0 : Keeps (fun b => b < w2.heap.size ∧ b ≠ w1.heap.size + 1) (fun b => b < w2.heap.size ∧ b ≠ w1.heap.size + 1) w2 w2 := Keeps.mono fun _ h => h
    have hB12 : Below (w1.heap.size + 1) (w1.alloc (.cells #[.int .u32 f.1, .slice A1 np c1] 25)) w2 := (((Below.refl _ (w1.alloc (.cells #[.int .u32 f.1, .slice A1 np c1] 25))).alloc (Nat.le_refl _) _).trans (hB3.mono (by simp))).mono (by simp)
    clear G3 hown2 hbk hB2 hB3
    rw [hfl]
    go_wp2_with fail
    go_loopw [6, 7, 10] (fun v av iv wr => ∃ i : Nat, i ≤ np + 2 ∧ iv = .int .i64 (i : Int) ∧ av = .int .i64 (cutAt fr i : Int) ∧ wr.ownsRow (w1.heap.size + 1) 3 1 v (i + 1) (i64s ((List.range (i + 1)).map (cutAt fr))) ∧ Below (w1.heap.size + 1) (w1.alloc (.cells #[.int .u32 f.1, .slice A1 np c1] 25)) wr ∧ w2.heap.size ≤ wr.heap.size ∧ (∀ k, v.ownBlock = some k → k = w1.heap.size + 1 ∨ w2.heap.size ≤ k) ∧ Keeps (fun b => b < w2.heap.size ∧ b ≠ w1.heap.size + 1) (fun b => b < w2.heap.size ∧ b ≠ w1.heap.size + 1) w2 wr) (fun _ _ iv _ => np + 2 - (intOf iv).toNat)
    case atStart => exact ⟨0, by omega, rfl, rfl, hown3, hB12, Nat.le_refl _, by intro k hk; simp [Value.ownBlock] at hk; omega, hKeep0⟩
    case round =>
      obtain ⟨i, hile, rfl, rfl, hown, hB, hsr, hob, hkp⟩ := hrel
      clear hown3 hKeep0
      by_cases hin : i < np + 2
      · obtain ⟨F, hli⟩ : ∃ F, fr[i]? = some F := ⟨fr[i], List.getElem?_eq_getElem (by omega)⟩
        obtain ⟨b1, off1, A1, c1, rfl, hb1, hx1, hy1, hby1, hwf1, hr1⟩ := fra_at2 hsl hli
        have hne : b1 ≠ w1.heap.size + 1 := by
          rintro rfl
          rw [cell_of_row w2 _ _ _ _ _ hbk3] at hy1
          simp at hy1
        have hy1' : wr.cell? ⟨b1, off1 + i * 2 + 1, none⟩ = _ := (World.cell?_of_block (w := w2) (a := ⟨b1, off1 + i * 2 + 1, none⟩) (hkp b1 ⟨hb1, hne⟩).2).trans hy1
        obtain ⟨_, _, hk2, _⟩ := Hfit.out F (List.mem_of_getElem? hli)
        have hcs := cutAt_succ hli
        have hct := Hcl.out (i + 1)
        have hrs : (List.range (i + 1 + 1)).map (cutAt fr) = (List.range (i + 1)).map (cutAt fr) ++ [cutAt fr (i + 1)] := by rw [List.range_succ, List.map_append]; rfl
        have Hrs := Lib.hid hrs
        have Hcs := Lib.hid hcs
        rw [hfl] at hct
        rw [hcs] at hct
        clear hrs hcs hli hx1 hy1 hr1 hby1 hwf1
        generalize (List.range (i + 1)).map (cutAt fr) = pre at *
        generalize cutAt fr i = at0 at *
        generalize F.2.length = fl at *
        have hil : (i : Int) < ((np + 2 : Nat) : Int) := by omega
        have hi0 : (0 : Int) ≤ (i : Int) := by omega
        have hs1 : IntKind.i64.wrap ((at0 : Int) + (fl : Int)) = (at0 : Int) + (fl : Int) := IntWalk.i64_in _ (by omega)
        have hBa : Below wr.heap.size wr (wr.alloc (.cells #[.int .i64 ((at0 : Int) + (fl : Int) + 10)] 3)) := (Below.refl _ wr).alloc (Nat.le_refl _) _
        have hrd := (Blk.new wr 3 [.int .i64 ((at0 : Int) + (fl : Int) + 10)]).rd
        have hown4 := own_below hown hBa
        have hwl : w1.heap.size + 1 ≤ wr.heap.size := by omega
        have hB3 := hB.trans (hBa.mono hwl)
        have hB3s : w1.heap.size + 1 ≤ (wr.alloc (.cells #[.int .i64 ((at0 : Int) + (fl : Int) + 10)] 3)).heap.size := by rw [World.size_alloc]; omega
        have Hob := Lib.hid hob
        have Hkp := Lib.hid hkp
        clear hob hkp
        go_wp2_with (first
          | (at_builtin; refine wpList_app rfl (.tmp 39) (.tmp 41) 34 rfl (w1.heap.size + 1) 3 i0 (.int .i64 0) 8 Tryd.underlying34 hi hz0 hz1 hz2 rfl _ (i + 1) (i64s pre) rfl hown4 (some ⟨wr.heap.size, 0, none⟩) 1 1 [.int .i64 ((at0 : Int) + (fl : Int) + 10)] rfl rfl hrd (by simp [Value.oneCell']) (by simp only [maxLen]; omega) (by omega) hB3s ?_; intro v5 w5 hown5 hg5 hv5)
          | fail)
        go_roundw
        case rel =>
          have hs5 := hg5.size
          rw [World.size_alloc] at hs5
          refine ⟨i + 1, by omega, by go_num, ?_, ?_, hB3.grown hg5 hB3s (fun k hk => (hown4.lt k hk).1), by omega, ?_, ?_⟩
          · rw [Hcs.out]; congr 1
          · rw [Hrs.out, i64s_append, Hcs.out]
            have e : i64s [at0 + (fl + 10)] = [.int .i64 ((at0 : Int) + (fl : Int) + 10)] := by
              simp only [i64s, List.map_cons, List.map_nil]; congr 2
            rw [e]
            exact hown5
          · intro k hk
            rcases hv5 with e | e
            · exact Hob.out k (e ▸ hk)
            · rw [e, World.size_alloc] at hk; injection hk with hk; omega
          · intro b hb
            refine ⟨hb, ?_⟩
            have h1 := (Hkp.out b hb).2
            have h2 := hBa.block b (by omega)
            have h3 := hg5.block b (by rw [World.size_alloc]; omega) (fun e => by rcases Hob.out b e.symm with h | h <;> omega)
            exact h3.trans (h2.trans h1)
        case measure => simp [intOf]; omega
      · obtain rfl : i = np + 2 := by omega
        rw [← Hcu.out] at hown
        go_wp2
        go_ret2
        obtain ⟨A5, c5, rfl, hc5, hm5, hr5⟩ := own_in hown
        have e1 := Hfr0.out
        have e2 := Hnp0.out
        subst e1 e2
        exact ⟨A5, _, c5, rfl, ⟨rfl, hc5, hm5, hr5.keeps (Keeps.mono fun x hx => hx.2)⟩, hB1'.trans (hB.mono (by have := hB1.size; omega))⟩
  · have hE' : ((E : Int) != 0) = true := by rw [bne_iff_ne]; omega
    go_wp2
    go_ret2
    exact ⟨none, 0, 0, false, rfl, .inl ⟨hE, rfl, rfl, rfl, rfl⟩, hB1.alloc hB1.size _⟩
end Go.Proofs.YthhkkiegfcofjaaDoor

/- The law FlowTells, walked: it returns true at every input. Condition: the variable errors.errorType holds the handle of the type 'error'. -/
namespace Go.Proofs.YthhkkiegfcofjaaDoor
open Go.RowKit

def putF (f : Flo) : List Nat := if mayB f = true then flowB f else []
def errF (f : Flo) : Nat := if mayB f = true then 0 else 1
def cutF (bs : List Nat) : List Nat := if (getFl bs).2 = 0 then cutsL (framesF (getFl bs).1) else []
def isF (bs : List Nat) : Bool := decide ((getFl bs).2 = 0)
theorem fput_says {f : Flo} {w : World} {B : Option Addr} {m cap E : Nat} (h : FPutSays f w B m cap E) : m = (putF f).length ∧ E = errF f ∧ Rd w B (u8s (putF f)) := by
  rcases h with ⟨h0, rfl, rfl, _, _, h3⟩ | ⟨h0, rfl, rfl, rfl, rfl⟩
  · rw [putF, errF, if_pos h0, if_pos h0]; exact ⟨rfl, rfl, h3⟩
  · rw [putF, errF, if_neg (by simp [h0]), if_neg (by simp [h0])]; exact ⟨rfl, rfl, .inl rfl⟩
theorem cut_says {bs : List Nat} {w : World} {A : Option Addr} {m c : Nat} {ok : Bool} (h : CutSays bs w A m c ok) : m = (cutF bs).length ∧ ok = isF bs ∧ Rd w A (i64s (cutF bs)) := by
  rcases h with ⟨h0, rfl, rfl, rfl, rfl⟩ | ⟨h0, rfl, rfl, _, _, h3⟩
  · rw [cutF, isF, if_neg h0, decide_eq_false h0]; exact ⟨rfl, rfl, .inl rfl⟩
  · rw [cutF, isF, if_pos h0, decide_eq_true h0, cutsL_length, framesF_length]; exact ⟨rfl, rfl, h3⟩
theorem cutF_few {bs : List Nat} (hb : ∀ x ∈ bs, x < 256) : (cutF bs).length ≤ 1000000 := by
  rw [cutF]
  by_cases h0 : (getFl bs).2 = 0
  · have := (getFl_back hb h0).1.few
    rw [if_pos h0, cutsL_length, framesF_length]; omega
  · rw [if_neg h0]; simp
section
variable {f : Flo} (hlo : 0 ≤ f.1) (hhi : f.1 ≤ 4294967295) (hby : ∀ p ∈ f.2, ∀ x ∈ p, x < 256) (A : Option Addr) (n c : Nat) (w : World) (h : rPts (All w) w [.slice A n c] f.2)
include hlo hhi hby h
theorem fput_form : Calls Tryd.prog 12 #[.agg #[.int .u32 f.1, .slice A n c]] w fun e w' => ∃ B cap, e = .returned (.tuple #[.slice B (putF f).length cap, .int .i64 (errF f : Int)]) ∧ Rd w' B (u8s (putF f)) ∧ Below w.heap.size w w' := by
  have hb : ((f.1.toNat : Nat) : Int) = f.1 := Int.toNat_of_nonneg hlo
  have P := fput_any A n c f.1.toNat f.2 w (by omega) h hby
  rw [hb] at P
  refine P.mono fun e w' ⟨B, m, cap, E, he, hs, hB⟩ => ?_
  obtain ⟨rfl, rfl, h3⟩ := fput_says hs
  exact ⟨B, cap, he, h3, hB⟩
theorem rfput_form : Calls Tryd.prog 13 #[.agg #[.int .u32 f.1, .slice A n c]] w fun e w' => ∃ B cap, e = .returned (.tuple #[.slice B (putF f).length cap, .int .i64 (errF f : Int)]) ∧ Rd w' B (u8s (putF f)) ∧ Below w.heap.size w w' := by
  have hb : ((f.1.toNat : Nat) : Int) = f.1 := Int.toNat_of_nonneg hlo
  have P := rfput_any A n c f.1.toNat f.2 w (by omega) h hby
  rw [hb] at P
  refine P.mono fun e w' ⟨B, m, cap, E, he, hs, hB⟩ => ?_
  obtain ⟨rfl, rfl, h3⟩ := fput_says hs
  exact ⟨B, cap, he, h3, hB⟩
end
section
variable (A : Option Addr) (c : Nat) (bs : List Nat) (w : World) (hc : bs.length ≤ c) (hb : ∀ x ∈ bs, x < 256) (hr : Rd w A (u8s bs)) (hlen : bs.length ≤ 100000)
include hc hb hr hlen
theorem fcuts_form : Calls Tryd.prog 16 #[.slice A bs.length c] w fun e w' => ∃ A' c', e = .returned (.tuple #[.slice A' (cutF bs).length c', .bool (isF bs)]) ∧ Rd w' A' (i64s (cutF bs)) ∧ Below w.heap.size w w' :=
  (fcuts_any A c _ bs w rfl hc hb hr (by omega)).mono fun e w' ⟨A', m, c', ok, he, hs, hB⟩ => by
    obtain ⟨rfl, rfl, h3⟩ := cut_says hs
    exact ⟨A', c', he, h3, hB⟩
theorem rfcuts_form : Calls Tryd.prog 17 #[.slice A bs.length c] w fun e w' => ∃ A' c', e = .returned (.tuple #[.slice A' (cutF bs).length c', .bool (isF bs)]) ∧ Rd w' A' (i64s (cutF bs)) ∧ Below w.heap.size w w' :=
  (rfcuts_any A c _ bs w rfl hc hb hr (by omega)).mono fun e w' ⟨A', m, c', ok, he, hs, hB⟩ => by
    obtain ⟨rfl, rfl, h3⟩ := cut_says hs
    exact ⟨A', c', he, h3, hB⟩
end

set_option maxRecDepth 100000 in
set_option maxHeartbeats 4000000 in
theorem flowTells_walk (w : World) (hg : Han w) (cs : Array Value) (f : Flo) (h : rFlo (All w) w cs.toList f) (ds : Array Value) (g : Flo) (h' : rFlo (All w) w ds.toList g) (A : Option Addr) (c : Nat) (bs : List Nat) (hl : bs.length ≤ c) (_ : c ≤ maxLen) (hb : ∀ x ∈ bs, x < 256) (hr : Rd w A (u8s bs)) :
    Calls Tryd.prog 3 #[.agg cs, .agg ds, .slice A bs.length c] w fun e w' => e = .returned (.bool true) ∧ Below w.heap.size w w' := by
  obtain ⟨Af, cf, rfl, hfl, hfm, hfb, hfby, hfp⟩ := flo_arg h
  obtain ⟨Ag, cg, rfl, hgl, hgm, hgb, hgby, hgp⟩ := flo_arg h'
  clear h h'
  have H00 := Box.new (Below.refl _ w) hg hfp
  have K0 := H00.new' (g := g) (rPts_stays.to (Keeps.below ((Below.refl _ w).alloc (Nat.le_refl _) _)) hgp)
  have H0 := H00.alloc (.cells #[.int .u32 g.1, .slice Ag g.2.length cg] 25)
  rw [World.size_alloc] at K0
  have W1 := Lib.hid (awake_any _ H0.han)
  have HO := Lib.hid hr
  clear H00 hr
  go_enter Tryd.func3, Tryd.ntmps3
  go_wp2_with fail
  refine W1.out.mono ?_
  rintro e w1 ⟨rfl, hB1⟩
  have H1 := H0.below hB1
  have K1 := K0.below hB1
  clear W1 H0 K0 hB1
  have W2 := Lib.hid (few_any Af f.2.length cf 60 f w1 H1.pts)
  have x0 := H1.c0
  have x1 := H1.c1
  go_wp2_with fail
  refine W2.out.mono ?_
  rintro e w2 ⟨rfl, hB2⟩
  have H2 := H1.below hB2
  have K2 := K1.below hB2
  clear W2 H1 K1 hB2 x0 x1
  have W3 := Lib.hid (few_any Ag g.2.length cg 60 g w2 K2.pts)
  have y0 := K2.c0
  have y1 := K2.c1
  go_wp2_with fail
  refine W3.out.mono ?_
  rintro e w3 ⟨rfl, hB3⟩
  have H3 := H2.below hB3
  have K3 := K2.below hB3
  clear W3 H2 K2 hB3 y0 y1
  have x0 := H3.c0
  have x1 := H3.c1
  by_cases hgo : fewB f 60 = true ∧ fewB g 60 = true ∧ bs.length ≤ 2000
  · obtain ⟨hfew, hfewg, h2000⟩ := hgo
    rw [hfew, hfewg]
    have hd : decide ((2000 : Int) < (bs.length : Int)) = false := by simp; omega
    have P1 := Lib.hid (fput_form hfb.1 hfb.2 hfby Af f.2.length cf w3 H3.pts)
    have P2 := Lib.hid (fun W h => rfput_form hfb.1 hfb.2 hfby Af f.2.length cf W h)
    have G1 := Lib.hid (fun W h h2 => fget_any A c bs.length bs W rfl hl hb h (by omega) h2)
    have G2 := Lib.hid (fun W h => rfget_any A c bs.length bs W rfl hl hb h (by omega))
    have C1 := Lib.hid (fun W h => fcuts_form A c bs W hl hb h (by omega))
    have C2 := Lib.hid (fun W h => rfcuts_form A c bs W hl hb h (by omega))
    have hcf := cutF_few hb
    generalize putF f = pf at *
    generalize errF f = ef at *
    generalize getFl bs = gf at *
    generalize cutF bs = cu at *
    generalize isF bs = ok at *
    obtain ⟨x, E⟩ := gf
    simp only at G1 G2
    go_wp2_with fail
    refine P1.out.mono ?_
    rintro e w4 ⟨B4, cap4, rfl, hr4, hB4⟩
    have H4 := H3.below hB4
    have K4 := K3.below hB4
    clear P1 H3 K3 hB4 x0 x1
    have x0 := H4.c0
    have x1 := H4.c1
    have HP2 := Lib.hid (P2.out w4 H4.pts)
    clear P2
    go_wp2_with fail
    refine HP2.out.mono ?_
    rintro e w5 ⟨B5, cap5, rfl, hr5, hB5⟩
    have H5 := H4.below hB5
    have K5 := K4.below hB5
    have hr45 := hr4.below hB5
    clear HP2 H4 K4 hB5 x0 x1 hr4
    have HG1 := Lib.hid (G1.out w5 (HO.out.below H5.bel) H5.han)
    clear G1
    go_wp2_with fail
    refine HG1.out.mono ?_
    rintro e w6 ⟨A6, c6, rfl, hp6, hB6⟩
    have H6 := (H5.below hB6).alloc (.cells #[.int .u32 x.1, .slice A6 x.2.length c6] 25)
    have K6 := (K5.below hB6).alloc (.cells #[.int .u32 x.1, .slice A6 x.2.length c6] 25)
    have X6 := (H5.below hB6).new' (g := x) hp6
    have hba6 : Below w6.heap.size w6 (w6.alloc (.cells #[.int .u32 x.1, .slice A6 x.2.length c6] 25)) := (Below.refl _ w6).alloc (Nat.le_refl _) _
    have hr46 := (hr45.below hB6).below hba6
    have hr56 := (hr5.below hB6).below hba6
    have HG2 := Lib.hid (G2.out _ (HO.out.below H6.bel))
    clear G2 HG1 H5 K5 hB6 hr45 hr5 hp6 hba6
    go_wp2_with fail
    refine HG2.out.mono ?_
    rintro e w7 ⟨A7, c7, rfl, hp7, hB7⟩
    have H7 := (H6.below hB7).alloc (.cells #[.int .u32 x.1, .slice A7 x.2.length c7] 25)
    have K7 := (K6.below hB7).alloc (.cells #[.int .u32 x.1, .slice A7 x.2.length c7] 25)
    have X7 := (X6.below hB7).alloc (.cells #[.int .u32 x.1, .slice A7 x.2.length c7] 25)
    have Y7 := (H6.below hB7).new' (g := x) hp7
    have hba7 : Below w7.heap.size w7 (w7.alloc (.cells #[.int .u32 x.1, .slice A7 x.2.length c7] 25)) := (Below.refl _ w7).alloc (Nat.le_refl _) _
    have hr47 := (hr46.below hB7).below hba7
    have hr57 := (hr56.below hB7).below hba7
    have HC1 := Lib.hid (C1.out _ (HO.out.below H7.bel))
    clear C1 HG2 H6 K6 X6 hB7 hr46 hr56 hp7 hba7
    go_wp2_with fail
    refine HC1.out.mono ?_
    rintro e w8 ⟨A8, c8, rfl, hr8, hB8⟩
    have H8 := H7.below hB8
    have K8 := K7.below hB8
    have X8 := X7.below hB8
    have Y8 := Y7.below hB8
    have hr48 := hr47.below hB8
    have hr58 := hr57.below hB8
    have HC2 := Lib.hid (C2.out _ (HO.out.below H8.bel))
    clear C2 HC1 H7 K7 X7 Y7 hB8 hr47 hr57
    go_wp2_with fail
    refine HC2.out.mono ?_
    rintro e w9 ⟨A9, c9, rfl, hr9, hB9⟩
    have H9 := H8.below hB9
    have K9 := K8.below hB9
    have X9 := X8.below hB9
    have Y9 := Y8.below hB9
    have hr49 := hr48.below hB9
    have hr59 := hr58.below hB9
    have hr89 := hr8.below hB9
    have S1 := rfsame_any A6 A7 x.2.length c6 x.2.length c7 x x w9 X9.pts Y9.pts
    rw [decide_eq_true rfl] at S1
    have HS1 := Lib.hid S1
    have x0 := X9.c0
    have x1 := X9.c1
    have y0 := Y9.c0
    have y1 := Y9.c1
    clear S1 HC2 H8 K8 X8 Y8 hB9 hr48 hr58 hr8
    go_wp2_with fail
    refine HS1.out.mono ?_
    rintro e w10 ⟨rfl, hB10⟩
    have H10 := H9.below hB10
    have K10 := K9.below hB10
    have hr410 := hr49.below hB10
    have hr510 := hr59.below hB10
    have N1 := ints_any A8 A9 cu.length c8 cu.length c9 cu cu w10 rfl rfl hcf (hr89.below hB10) (hr9.below hB10)
    rw [decide_eq_true rfl] at N1
    have HN1 := Lib.hid N1
    clear N1 HS1 H9 K9 X9 Y9 x0 x1 y0 y1 hB10 hr49 hr59 hr89 hr9
    go_wp2_with fail
    refine HN1.out.mono ?_
    rintro e w11 ⟨rfl, hB11⟩
    have H11 := H10.below hB11
    have K11 := K10.below hB11
    have hr411 := hr410.below hB11
    have hr511 := hr510.below hB11
    have M1 := Lib.hid (rmay_any Af f.2.length cf f w11 H11.pts)
    have x0 := H11.c0
    have x1 := H11.c1
    clear HN1 H10 K10 hB11 hr410 hr510
    go_wp2_with fail
    refine M1.out.mono ?_
    rintro e w12 ⟨rfl, hB12⟩
    have H12 := H11.below hB12
    have K12 := K11.below hB12
    have hr412 := hr411.below hB12
    have hr512 := hr511.below hB12
    have S2 := Lib.hid (rfsame_any Af Ag f.2.length cf g.2.length cg f g w12 H12.pts K12.pts)
    clear M1 H11 K11 x0 x1 hB12 hr411 hr511
    have x0 := H12.c0
    have x1 := H12.c1
    have y0 := K12.c0
    have y1 := K12.c1
    go_wp2_with fail
    refine S2.out.mono ?_
    rintro e w13 ⟨rfl, hB13⟩
    have H13 := H12.below hB13
    have K13 := K12.below hB13
    have u1 := conv_B B4 pf _ cap4 w13 rfl (hr412.below hB13)
    have u2 := conv_B B5 pf _ cap5 w13 rfl (hr512.below hB13)
    clear S2 H12 K12 x0 x1 y0 y1 hB13 hr412 hr512
    have x0 := H13.c0
    have x1 := H13.c1
    have M2 := Lib.hid (may_any Af f.2.length cf f w13 H13.pts)
    have S3 := Lib.hid (fun W h1 h2 => fsame_any Af Ag f.2.length cf g.2.length cg f g W h1 h2)
    generalize mayB f = mf at *
    generalize decide (f = g) = sf at *
    go_wp2_with fail
    refine M2.out.mono ?_
    rintro e w14 ⟨rfl, hB14⟩
    have H14 := H13.below hB14
    have K14 := K13.below hB14
    clear M2 H13 K13 x0 x1 u1 u2 hB14
    have x0 := H14.c0
    have x1 := H14.c1
    have y0 := K14.c0
    have y1 := K14.c1
    have HS3 := Lib.hid (S3.out w14 H14.pts K14.pts)
    clear S3
    go_wp2_with fail
    refine HS3.out.mono ?_
    rintro e w15 ⟨rfl, hB15⟩
    have hbel := (H14.below hB15).bel
    go_wp2
    go_ret
    exact ⟨by simp, hbel⟩
  · have hor : fewB f 60 = false ∨ (fewB f 60 = true ∧ fewB g 60 = false) ∨ (fewB f 60 = true ∧ fewB g 60 = true ∧ decide ((2000 : Int) < (bs.length : Int)) = true) := by
      cases hf : fewB f 60 with
      | false => exact .inl rfl
      | true =>
        refine .inr ?_
        cases hf2 : fewB g 60 with
        | false => exact .inl ⟨rfl, rfl⟩
        | true =>
          refine .inr ⟨rfl, rfl, ?_⟩
          rw [decide_eq_true_iff]
          have : ¬ bs.length ≤ 2000 := fun h => hgo ⟨hf, hf2, h⟩
          omega
    have hbel := H3.bel
    rcases hor with hf | ⟨hf, hf2⟩ | ⟨hf, hf2, hd⟩
    · rw [hf]
      go_wp2
      go_ret
      exact ⟨rfl, hbel⟩
    · rw [hf, hf2]
      go_wp2
      go_ret
      exact ⟨rfl, hbel⟩
    · rw [hf, hf2]
      go_wp2
      go_ret
      exact ⟨rfl, hbel⟩
end Go.Proofs.YthhkkiegfcofjaaDoor
