/- Why there is no new object, no other value, no other root: on plain data, and the contracts of graph's nextId, whyNoNew, whyNoSet and whyNoRoot. Nothing that was there is changed. Condition of nextId: a graph that may be. -/
import Derived.Test.YtembafogbfcajaaGrComePlain
import Derived.Test.YtembafogbfcajaaGrMayAll
namespace Go.Proofs.Ytembafogbfcajaa
open Go.RowKit

def nextG (os : List Ob) : Int := match os.getLast? with | none => 0 | some o => o.1 + 1
def newE (g : Gr) (t : Int) : Int := if mayG g = true then if (decide (0 ≤ t) && decide (t < (g.1.length : Int))) = true then if g.2.1.length = 8 ∨ 1073741824 < nextG g.2.1 then 8 else 0 else 6 else 1
/-- The object of an id. -/
def objG (os : List Ob) (id : Int) : Ob := os.getD (findG os id).toNat (0, 0, [])
def setE (g : Gr) (id k : Int) (v : Vl) : Int :=
  if mayG g = true then if findG g.2.1 id ≠ -1 ∧ (decide (0 ≤ k) && decide (k < ((objG g.2.1 id).2.2.length : Int))) = true then if haveG g ((fldsG g.1 (objG g.2.1 id).2.1).getD k.toNat ([], 0, [])) v = true then 0 else 6 else 11 else 1
def rootE (g : Gr) (i id : Int) : Int := if mayG g = true then if (decide (0 ≤ i) && decide (i < 3)) = true ∧ i ≤ (g.2.2.length : Int) ∧ rootG g.2.1 id = true then 0 else 11 else 1
theorem nextG_nil : nextG [] = 0 := rfl
theorem nextG_last {os : List Ob} {o : Ob} (h : os[os.length - 1]? = some o) : nextG os = o.1 + 1 := by
  rw [nextG, List.getLast?_eq_getElem?, h]
theorem objG_at {os : List Ob} {id : Int} {i : Nat} {o : Ob} (hi : findG os id = (i : Int)) (ho : os[i]? = some o) : objG os id = o := by
  rw [objG, hi, Int.toNat_natCast, List.getD_eq_getElem?_getD, ho]; rfl

set_option maxRecDepth 100000 in
set_option maxHeartbeats 1000000 in
theorem nextId_any (A B C : Option Addr) (N c M d K e : Nat) (g : Gr) (w : World) (h : rGr (All w) w [.slice A N c, .slice B M d, .slice C K e] g) (hm : mayG g = true) :
    Calls Try.prog 35 #[.agg #[.slice A N c, .slice B M d, .slice C K e]] w fun e w' => e = .returned (.int .i64 (nextG g.2.1)) ∧ Below w.heap.size w w' := by
  have hB0 : Below w.heap.size w (w.alloc (.cells #[.slice A N c, .slice B M d, .slice C K e] 28)) := (Below.refl _ w).alloc (Nat.le_refl _) _
  obtain ⟨hM, hMd, hdm⟩ := slice_len (rGr_open h).2.1
  have h8 := (mayG_parts hm).2.1
  by_cases h0 : M = 0
  · have Hn : Hid (nextG g.2.1 = 0) := Lib.hid (by rw [List.eq_nil_of_length_eq_zero (by omega : g.2.1.length = 0)]; rfl)
    subst h0
    go_enter Try.func35, Try.ntmps35
    go_wp2
    go_ret
    exact ⟨by rw [Hn.out]; rfl, hB0⟩
  · obtain ⟨o, ho⟩ : ∃ o, g.2.1[M - 1]? = some o := ⟨_, List.getElem?_eq_getElem (by omega)⟩
    have mo := mayG_obj hm (List.mem_of_getElem? ho)
    have h1 := mo.id1
    have h2 := mo.id0
    have Hn : Hid (nextG g.2.1 = o.1 + 1) := Lib.hid (nextG_last (by rw [hM]; exact ho))
    obtain ⟨b, off, A2, c2, rfl, hb, x0, -, -, -, -, -⟩ := ob_at (rGr_open h).2.1 ho
    have x0' := (hB0.cell (p := ⟨b, off + (M - 1) * 3, none⟩) hb).trans x0
    obtain ⟨m, hm1⟩ : ∃ m, M = m + 1 := ⟨M - 1, by omega⟩
    subst hm1
    have e1 : wrap64 ((m : Int) + 1 - 1) = (m : Int) := by unfold wrap64; omega
    have e2 : (((m + 1 : Nat) : Int) == 0) = false := by rw [beq_eq_false_iff_ne]; omega
    have e3 : wrap64 (o.1 + 1) = o.1 + 1 := by unfold wrap64; omega
    have e4 : (m : Int) < ((m + 1 : Nat) : Int) := by omega
    have e5 : (0 : Int) ≤ (m : Int) := by omega
    rw [Nat.add_sub_cancel] at x0'
    clear h mo ho x0 h1 h2 h0 hm
    generalize o.1 = ov at *
    have HR : Hid (Ending.returned (.int .i64 (wrap64 (ov + 1))) = .returned (.int .i64 (nextG g.2.1))) := Lib.hid (by rw [Hn.out, e3])
    clear e3 Hn
    go_enter Try.func35, Try.ntmps35
    go_wp2
    go_ret
    exact ⟨HR.out, hB0⟩

set_option maxRecDepth 100000 in
set_option maxHeartbeats 2000000 in
theorem whyNoNew_any (A B C : Option Addr) (N c M d K e : Nat) (g : Gr) (t : Int) (w : World) (h : rGr (All w) w [.slice A N c, .slice B M d, .slice C K e] g) :
    Calls Try.prog 34 #[.agg #[.slice A N c, .slice B M d, .slice C K e], .int .i64 t] w fun e w' => e = .returned (.int .i64 (newE g t)) ∧ Below w.heap.size w w' := by
  have hB0 : Below w.heap.size w (w.alloc (.cells #[.slice A N c, .slice B M d, .slice C K e] 28)) := (Below.refl _ w).alloc (Nat.le_refl _) _
  have p1 := Blk.new w 28 [.slice A N c, .slice B M d, .slice C K e]
  obtain ⟨hN, hNc, hcm⟩ := slice_len (rGr_open h).1
  obtain ⟨hM, hMd, hdm⟩ := slice_len (rGr_open h).2.1
  have T1 := Lib.hid (gmay_any A B C N c M d K e g _ (gr_below hB0 h))
  have T2 := Lib.hid (fun W => isPlace_any t (N : Int) W)
  have T3 := Lib.hid (fun W (hW : Below w.heap.size w W) hm => nextId_any A B C N c M d K e g W (gr_below hW h) hm)
  have Hv : Hid (newE g t = if mayG g = true then if (decide (0 ≤ t) && decide (t < (g.1.length : Int))) = true then if g.2.1.length = 8 ∨ 1073741824 < nextG g.2.1 then 8 else 0 else 6 else 1) := Lib.hid rfl
  rw [hN, hM] at Hv
  have HB0 := Lib.hid hB0
  clear h hB0
  generalize newE g t = r at *
  generalize nextG g.2.1 = nx at *
  generalize hmg : mayG g = m1 at *
  generalize (decide (0 ≤ t) && decide (t < (N : Int))) = m2 at *
  go_enter Try.func34, Try.ntmps34
  go_wp2_with fail
  refine T1.out.mono ?_
  rintro e w1 ⟨rfl, hB1⟩
  have H1 := Lib.hid (HB0.out.trans (hB1.mono HB0.out.size))
  replace p1 := p1.to hB1
  clear hB1 HB0 T1
  cases m1
  · rw [if_neg (by simp)] at Hv
    go_wp2
    go_ret
    exact ⟨by rw [Hv.out]; rfl, H1.out⟩
  rw [if_pos rfl] at Hv
  have c0 := p1.cell (j := 0) rfl
  have c1 := p1.cell (j := 1) rfl
  have c2 := p1.cell (j := 2) rfl
  go_wp2_with fail
  refine (T2.out _).mono ?_
  rintro e w2 ⟨rfl, rfl⟩
  cases m2
  · rw [if_neg (by simp)] at Hv
    go_wp2
    go_ret
    exact ⟨by rw [Hv.out]; rfl, H1.out⟩
  rw [if_pos rfl] at Hv
  by_cases h8 : M = 8
  · rw [if_pos (.inl h8)] at Hv
    subst h8
    go_wp2
    go_ret
    exact ⟨by rw [Hv.out]; rfl, H1.out⟩
  · have h8' : ((M : Int) == 8) = false := by rw [beq_eq_false_iff_ne]; omega
    have HM := Lib.hid h8
    clear h8
    go_wp2_with fail
    refine (T3.out _ H1.out (by trivial)).mono ?_
    rintro e w3 ⟨rfl, hB3⟩
    have H3 := Lib.hid (H1.out.trans (hB3.mono H1.out.size))
    by_cases hx : 1073741824 < nx
    · rw [if_pos (.inr hx)] at Hv
      have hx' : decide ((1073741824 : Int) < nx) = true := decide_eq_true hx
      clear hx
      go_wp2
      go_ret
      exact ⟨by rw [Hv.out]; rfl, H3.out⟩
    · rw [if_neg (by have := HM.out; omega)] at Hv
      have hx' : decide ((1073741824 : Int) < nx) = false := decide_eq_false hx
      clear hx
      go_wp2
      go_ret
      exact ⟨by rw [Hv.out]; rfl, H3.out⟩

set_option maxRecDepth 100000 in
set_option maxHeartbeats 2000000 in
theorem whyNoRoot_any (A B C : Option Addr) (N c M d K e : Nat) (g : Gr) (i id : Int) (w : World) (h : rGr (All w) w [.slice A N c, .slice B M d, .slice C K e] g) :
    Calls Try.prog 41 #[.agg #[.slice A N c, .slice B M d, .slice C K e], .int .i64 i, .int .i64 id] w fun e w' => e = .returned (.int .i64 (rootE g i id)) ∧ Below w.heap.size w w' := by
  have hB0 : Below w.heap.size w (w.alloc (.cells #[.slice A N c, .slice B M d, .slice C K e] 28)) := (Below.refl _ w).alloc (Nat.le_refl _) _
  have p1 := Blk.new w 28 [.slice A N c, .slice B M d, .slice C K e]
  obtain ⟨hK, hKe, hem⟩ := slice_len (rGr_open h).2.2
  have T1 := Lib.hid (gmay_any A B C N c M d K e g _ (gr_below hB0 h))
  have T2 := Lib.hid (fun W => isPlace_any i 3 W)
  have T3 := Lib.hid (fun W (hW : Below w.heap.size w W) => mayRoot_any A B C N c M d K e g id W (gr_below hW h))
  have Hv : Hid (rootE g i id = if mayG g = true then if (decide (0 ≤ i) && decide (i < 3)) = true ∧ i ≤ (g.2.2.length : Int) ∧ rootG g.2.1 id = true then 0 else 11 else 1) := Lib.hid rfl
  rw [hK] at Hv
  have HB0 := Lib.hid hB0
  clear h hB0
  generalize rootE g i id = r at *
  generalize rootG g.2.1 id = m3 at *
  generalize mayG g = m1 at *
  generalize (decide (0 ≤ i) && decide (i < 3)) = m2 at *
  go_enter Try.func41, Try.ntmps41
  go_wp2_with fail
  refine T1.out.mono ?_
  rintro e w1 ⟨rfl, hB1⟩
  have H1 := Lib.hid (HB0.out.trans (hB1.mono HB0.out.size))
  replace p1 := p1.to hB1
  clear hB1 HB0 T1
  cases m1
  · rw [if_neg (by simp)] at Hv
    go_wp2
    go_ret
    exact ⟨by rw [Hv.out]; rfl, H1.out⟩
  rw [if_pos rfl] at Hv
  have c0 := p1.cell (j := 0) rfl
  have c1 := p1.cell (j := 1) rfl
  have c2 := p1.cell (j := 2) rfl
  go_wp2_with fail
  refine (T2.out _).mono ?_
  rintro e w2 ⟨rfl, rfl⟩
  cases m2
  · rw [if_neg (by simp)] at Hv
    go_wp2
    go_ret
    exact ⟨by rw [Hv.out]; rfl, H1.out⟩
  by_cases hx : (K : Int) < i
  · rw [if_neg (by rintro ⟨-, h1, -⟩; omega)] at Hv
    have hx' : decide ((K : Int) < i) = true := decide_eq_true hx
    clear hx
    go_wp2
    go_ret
    exact ⟨by rw [Hv.out]; rfl, H1.out⟩
  · have hx' : decide ((K : Int) < i) = false := decide_eq_false hx
    have Hx := Lib.hid hx
    clear hx
    go_wp2_with fail
    refine (T3.out _ H1.out).mono ?_
    rintro e w3 ⟨rfl, hB3⟩
    have H3 := Lib.hid (H1.out.trans (hB3.mono H1.out.size))
    cases m3
    · rw [if_neg (by simp)] at Hv
      go_wp2
      go_ret
      exact ⟨by rw [Hv.out]; rfl, H3.out⟩
    · rw [if_pos ⟨by trivial, by have := Hx.out; omega, by trivial⟩] at Hv
      go_wp2
      go_ret
      exact ⟨by rw [Hv.out]; rfl, H3.out⟩

set_option maxRecDepth 100000 in
set_option maxHeartbeats 2000000 in
theorem whyNoSet_any (A B C : Option Addr) (N c M d K e : Nat) (g : Gr) (id k : Int) (s : ByteArray) (v : Vl) (w : World) (h : rGr (All w) w [.slice A N c, .slice B M d, .slice C K e] g) (hs : byt s = v.2.1) :
    Calls Try.prog 38 #[.agg #[.slice A N c, .slice B M d, .slice C K e], .int .i64 id, .int .i64 k, .agg #[.int .i64 v.1, .string s, .int .i64 v.2.2]] w fun e w' => e = .returned (.int .i64 (setE g id k v)) ∧ Below w.heap.size w w' := by
  have hB0 : Below w.heap.size w ((w.alloc (.cells #[.slice A N c, .slice B M d, .slice C K e] 28)).alloc (.cells #[.int .i64 v.1, .string s, .int .i64 v.2.2] 30)) := ((Below.refl _ w).alloc (Nat.le_refl _) _).alloc (by simp) _
  obtain ⟨p1, p2⟩ := blk_two w 28 30 [.slice A N c, .slice B M d, .slice C K e] [.int .i64 v.1, .string s, .int .i64 v.2.2]
  obtain ⟨hN, hNc, hcm⟩ := slice_len (rGr_open h).1
  obtain ⟨hM, hMd, hdm⟩ := slice_len (rGr_open h).2.1
  have T1 := Lib.hid (gmay_any A B C N c M d K e g _ (gr_below hB0 h))
  have T2 := Lib.hid (fun W (hW : Below w.heap.size w W) => gfind_any A B C N c M d K e g id W (gr_below hW h))
  have T4 := Lib.hid (fun W (hW : Below w.heap.size w W) x y f hy => mayHave_any A B C N c M d K e g x y s f v W (gr_below hW h) hy hs)
  have Hg := Lib.hid (fun W (hW : Below w.heap.size w W) => gr_below hW h)
  have Hv : Hid (setE g id k v = if mayG g = true then if findG g.2.1 id ≠ -1 ∧ (decide (0 ≤ k) && decide (k < ((objG g.2.1 id).2.2.length : Int))) = true then if haveG g ((fldsG g.1 (objG g.2.1 id).2.1).getD k.toNat ([], 0, [])) v = true then 0 else 6 else 11 else 1) := Lib.hid rfl
  have HB0 := Lib.hid hB0
  clear h hB0 hs
  generalize setE g id k v = r at *
  generalize hmg : mayG g = m1 at *
  generalize v.1 = n1 at *
  generalize v.2.2 = n2 at *
  go_enter Try.func38, Try.ntmps38
  go_wp2_with fail
  refine T1.out.mono ?_
  rintro e w1 ⟨rfl, hB1⟩
  have H1 := Lib.hid (HB0.out.trans (hB1.mono HB0.out.size))
  replace p1 := p1.to hB1
  replace p2 := p2.to hB1
  clear hB1 HB0 T1
  cases m1
  · rw [if_neg (by simp)] at Hv
    go_wp2
    go_ret
    exact ⟨by rw [Hv.out]; rfl, H1.out⟩
  rw [if_pos rfl] at Hv
  have c0 := p1.cell (j := 0) rfl
  have c1 := p1.cell (j := 1) rfl
  have c2 := p1.cell (j := 2) rfl
  have Hfa := Lib.hid (fun h => findG_at (os := g.2.1) (id := id) h)
  have Hob := Lib.hid (fun i o h1 h2 => objG_at (os := g.2.1) (id := id) (i := i) (o := o) h1 h2)
  generalize findG g.2.1 id = q at *
  go_wp2_with fail
  refine (T2.out _ H1.out).mono ?_
  rintro e w2 ⟨rfl, hB2⟩
  have H2 := Lib.hid (H1.out.trans (hB2.mono H1.out.size))
  replace p1 := p1.to hB2
  replace p2 := p2.to hB2
  clear hB2 c0 c1 c2 H1 T2
  have c1 := p1.cell (j := 1) rfl
  by_cases hq : q = -1
  · subst hq
    rw [if_neg (by simp)] at Hv
    go_wp2
    go_ret
    exact ⟨by rw [Hv.out]; rfl, H2.out⟩
  obtain ⟨I, o, rfl, hgi, -, -⟩ := Hfa.out hq
  rw [Hob.out I o rfl hgi] at Hv
  have hIM : I < M := by have := (List.getElem?_eq_some_iff.1 hgi).1; omega
  obtain ⟨b, off, A2, c2', rfl, hb, x0, x1, x2, hvs, -, -⟩ := ob_at (rGr_open (Hg.out _ H2.out)).2.1 hgi
  have hq' : ((I : Int) == -1) = false := by rw [beq_eq_false_iff_ne]; omega
  have hil : (I : Int) < (M : Int) := by omega
  have hi0 : (0 : Int) ≤ (I : Int) := by omega
  have T3 := Lib.hid (fun W => isPlace_any k (o.2.2.length : Int) W)
  have mo := mayG_obj hmg (List.mem_of_getElem? hgi)
  have t0 := mo.t0
  have t1 := mo.t1
  have hlen := mo.len
  clear mo Hfa Hob hq hgi
  by_cases hp : (decide (0 ≤ k) && decide (k < (o.2.2.length : Int))) = true
  · rw [if_pos ⟨by omega, hp⟩] at Hv
    rw [hp] at T3
    obtain ⟨kn, hkn⟩ : ∃ kn : Nat, k = (kn : Int) := ⟨k.toNat, by simp at hp; omega⟩
    have hkl : kn < o.2.2.length := by simp at hp; omega
    obtain ⟨t, ht⟩ : ∃ t : Nat, o.2.1 = (t : Int) := ⟨o.2.1.toNat, by omega⟩
    have htN : t < N := by omega
    obtain ⟨ty, hty⟩ : ∃ ty, g.1[t]? = some ty := ⟨_, List.getElem?_eq_getElem (by omega)⟩
    obtain ⟨bt, offt, st, AF, cF, rfl, hbt, -, y1, -, -, hfs⟩ := typ_at (rGr_open (Hg.out _ H2.out)).1 hty
    rw [fldsG_at ht hty] at hlen Hv
    obtain ⟨f, hfk⟩ : ∃ f, ty.2[kn]? = some f := ⟨_, List.getElem?_eq_getElem (by omega)⟩
    obtain ⟨bf, offf, sx, tx, rfl, hbf, z0, z1, z2, -, hy, -, -, -⟩ := fld_at hfs hfk
    rw [hkn, Int.toNat_natCast, List.getD_eq_getElem?_getD, hfk, Option.getD_some] at Hv
    have T5 := Lib.hid (fun W hW => T4.out W hW sx tx f hy)
    have d0 := p1.cell (j := 0) rfl
    have d2 := p1.cell (j := 2) rfl
    have v0 := p2.cell (j := 0) rfl
    have v1 := p2.cell (j := 1) rfl
    have v2 := p2.cell (j := 2) rfl
    have hkl' : (kn : Int) < (ty.2.length : Int) := by omega
    have hk0 : (0 : Int) ≤ (kn : Int) := by omega
    have htl : (t : Int) < (N : Int) := by omega
    have ht0 : (0 : Int) ≤ (t : Int) := by omega
    rw [ht] at x1
    subst hkn
    clear hty hfk T4 Hg hfs hvs hlen t0 t1 hy hp ht
    generalize haveG g f v = m3 at *
    generalize o.2.2.length = vl at *
    generalize ty.2.length = fl at *
    generalize f.2.1 = kk at *
    go_wp2_with fail
    refine (T3.out _).mono ?_
    rintro e w3 ⟨rfl, rfl⟩
    have l1 := p1.lt
    have l2 := p2.lt
    clear p1 p2
    have S0 := And.intro (d0) (And.intro (c1) (And.intro (d2) (And.intro (x1) (And.intro (y1) (And.intro (z0) (And.intro (z1) (And.intro (z2) (And.intro (v0) (And.intro (v1) (v2))))))))))
    clear d0 d2 x0 x1 x2 y1 z0 z1 z2 v0 v1 v2
    go_wp2
    refine sch_start [(0, true), (1, true), (2, true), (3, true), (4, true), (5, true), (6, true), (7, true), (8, true), (9, true), (10, true), (11, true), (12, true), (13, true), (14, true), (15, true), (16, true), (17, false), (18, true)]
      (fun W => W.cell? ⟨w.heap.size, 0, none⟩ = some (.slice (some ⟨bt, offt, none⟩) N c) ∧ W.cell? ⟨w.heap.size, 1, none⟩ = some (.slice (some ⟨b, off, none⟩) M d) ∧ W.cell? ⟨w.heap.size, 2, none⟩ = some (.slice C K e) ∧ W.cell? ⟨b, off + I * 3 + 1, none⟩ = some (.int .i64 (t : Int)) ∧ W.cell? ⟨bt, offt + t * 2 + 1, none⟩ = some (.slice (some ⟨bf, offf, none⟩) fl cF) ∧ W.cell? ⟨bf, offf + kn * 3, none⟩ = some (.string sx) ∧ W.cell? ⟨bf, offf + kn * 3 + 1, none⟩ = some (.int .i64 kk) ∧ W.cell? ⟨bf, offf + kn * 3 + 2, none⟩ = some (.string tx) ∧ W.cell? ⟨w.heap.size + 1, 0, none⟩ = some (.int .i64 n1) ∧ W.cell? ⟨w.heap.size + 1, 1, none⟩ = some (.string s) ∧ W.cell? ⟨w.heap.size + 1, 2, none⟩ = some (.int .i64 n2)) (by kernel_rfl) rfl (by kernel_rfl) (fun _ _ _ _ _ h => h) S0 (fun hH => ?_)
    repeat (first | (refine sch_yes (v := ?_) rfl rfl ?_ hH ?_; rotate_left; (focus ((rintro W ⟨hW0, hW1, hW2, hW3, hW4, hW5, hW6, hW7, hW8, hW9, hW10⟩; go_simp) <;> with_reducible rfl)); simp only [Act.put, List.setIfInBounds_toArray, List.set_cons_zero, List.set_cons_succ]) | (refine sch_no rfl rfl hH ?_; simp only [Act.put, List.setIfInBounds_toArray, List.set_cons_zero, List.set_cons_succ]))
    refine sch_call rfl rfl (fun K' hK => ?_)
    go_wp2_with (go_at_call 67; refine (T5.out _ H2.out.drew).mono ?_; rintro e w8 ⟨rfl, hC8⟩)
    have hC9 : Below w3.heap.size w3 w8 := (Below.refl w3.heap.size w3).drew.trans hC8
    have hH8 := And.intro ((hC9.cell (p := ⟨w.heap.size, 0, none⟩) l1).trans S0.1) (And.intro ((hC9.cell (p := ⟨w.heap.size, 1, none⟩) l1).trans S0.2.1) (And.intro ((hC9.cell (p := ⟨w.heap.size, 2, none⟩) l1).trans S0.2.2.1) (And.intro ((hC9.cell (p := ⟨b, off + I * 3 + 1, none⟩) hb).trans S0.2.2.2.1) (And.intro ((hC9.cell (p := ⟨bt, offt + t * 2 + 1, none⟩) hbt).trans S0.2.2.2.2.1) (And.intro ((hC9.cell (p := ⟨bf, offf + kn * 3, none⟩) hbf).trans S0.2.2.2.2.2.1) (And.intro ((hC9.cell (p := ⟨bf, offf + kn * 3 + 1, none⟩) hbf).trans S0.2.2.2.2.2.2.1) (And.intro ((hC9.cell (p := ⟨bf, offf + kn * 3 + 2, none⟩) hbf).trans S0.2.2.2.2.2.2.2.1) (And.intro ((hC9.cell (p := ⟨w.heap.size + 1, 0, none⟩) l2).trans S0.2.2.2.2.2.2.2.2.1) (And.intro ((hC9.cell (p := ⟨w.heap.size + 1, 1, none⟩) l2).trans S0.2.2.2.2.2.2.2.2.2.1) ((hC9.cell (p := ⟨w.heap.size + 1, 2, none⟩) l2).trans S0.2.2.2.2.2.2.2.2.2.2))))))))))
    refine hK.out _ _ hH8 ?_
    clear hK hH
    have hH := hH8
    repeat (first | (refine sch_yes (v := ?_) rfl rfl ?_ hH ?_; rotate_left; (focus ((rintro W ⟨hW0, hW1, hW2, hW3, hW4, hW5, hW6, hW7, hW8, hW9, hW10⟩; go_simp) <;> with_reducible rfl)); simp only [Act.put, List.setIfInBounds_toArray, List.set_cons_zero, List.set_cons_succ]) | (refine sch_no rfl rfl hH ?_; simp only [Act.put, List.setIfInBounds_toArray, List.set_cons_zero, List.set_cons_succ]))
    refine sch_done ?_
    clear hH hH8
    have H9 := Lib.hid (H2.out.trans (hC9.mono H2.out.size))
    cases m3
    · rw [if_neg (by simp)] at Hv
      go_wp2
      go_ret
      exact ⟨by rw [Hv.out]; rfl, H9.out⟩
    · rw [if_pos (by trivial)] at Hv
      go_wp2
      go_ret
      exact ⟨by rw [Hv.out]; rfl, H9.out⟩
  · have hp' : (decide (0 ≤ k) && decide (k < (o.2.2.length : Int))) = false := by simpa using hp
    rw [if_neg (by rintro ⟨-, h2⟩; exact hp h2)] at Hv
    rw [hp'] at T3
    clear hp hp'
    generalize o.2.2.length = vl at *
    go_wp2_with fail
    refine (T3.out _).mono ?_
    rintro e w3 ⟨rfl, rfl⟩
    go_wp2
    go_ret
    exact ⟨by rw [Hv.out]; rfl, H2.out⟩
end Go.Proofs.Ytembafogbfcajaa
