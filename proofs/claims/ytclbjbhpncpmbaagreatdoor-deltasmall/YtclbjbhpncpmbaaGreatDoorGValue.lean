/- The texts BlkNew2, VlPut, VlGet in one (as far as the seat has what they speak of); what each proves, and its conditions, stands before it. -/
import Derived.Test.YtclbjbhpncpmbaaGreatDoorGGen
import Derived.Test.YtclbjbhpncpmbaaGreatDoorGBytes
import Derived.Test.YtclbjbhpncpmbaaGreatDoorGVari
import Derived.Test.YtclbjbhpncpmbaaGreatDoorGGraph
import Derived.Lib.AppendStr
/- The second of two new blocks. No condition. -/
namespace Go.Proofs.YtclbjbhpncpmbaaGreatDoor
open Go.RowKit

theorem blk_new2 (w : World) (o : Obj) (t : TypeId) (cs : List Value) : Blk ((w.alloc o).alloc (.cells cs.toArray t)) (w.heap.size + 1) t cs := by
  have := Blk.new (w.alloc o) t cs
  rwa [World.size_alloc] at this
end Go.Proofs.YtclbjbhpncpmbaaGreatDoor

/- The contract of value.Put: the bytes of a value that fits, in memory of the call's own; nothing, if it does not fit. Condition: the number is one of 64 bits, the text is one that memory can hold. And that of the document's own Zero. -/
namespace Go.Proofs.YtclbjbhpncpmbaaGreatDoor
open Go.RowKit

/-- A field and a value that lie in boxes, from the world w0 on. -/
structure VlArgs (w0 w : World) (a b s : ByteArray) (k n r : Int) : Prop where
  bel : Below w0.heap.size w0 w
  fld : Blk w w0.heap.size 62 [.string a, .int .i64 k, .string b]
  val : Blk w (w0.heap.size + 1) 55 [.int .i64 n, .string s, .int .i64 r]
theorem VlArgs.start (w : World) (a b s : ByteArray) (k n r : Int) : VlArgs w ((w.alloc (.cells #[.string a, .int .i64 k, .string b] 62)).alloc (.cells #[.int .i64 n, .string s, .int .i64 r] 55)) a b s k n r :=
  ⟨((Below.refl _ w).alloc (Nat.le_refl _) _).alloc (by simp) _, (Blk.new w 62 [.string a, .int .i64 k, .string b]).alloc _, blk_new2 w _ 55 [.int .i64 n, .string s, .int .i64 r]⟩
section
variable {w0 w w' : World} {a b s : ByteArray} {k n r : Int}
theorem VlArgs.below (h : VlArgs w0 w a b s k n r) (hB : Below w.heap.size w w') : VlArgs w0 w' a b s k n r :=
  ⟨h.bel.trans (hB.mono h.bel.size), h.fld.below h.fld.lt hB, h.val.below h.val.lt hB⟩
theorem VlArgs.alloc (h : VlArgs w0 w a b s k n r) (o : Obj) : VlArgs w0 (w.alloc o) a b s k n r := h.below ((Below.refl _ w).alloc (Nat.le_refl _) o)
theorem VlArgs.cells (h : VlArgs w0 w a b s k n r) : (w.cell? ⟨w0.heap.size, 0, none⟩ = some (.string a) ∧ w.cell? ⟨w0.heap.size, 1, none⟩ = some (.int .i64 k) ∧ w.cell? ⟨w0.heap.size, 2, none⟩ = some (.string b)) ∧
    w.cell? ⟨w0.heap.size + 1, 0, none⟩ = some (.int .i64 n) ∧ w.cell? ⟨w0.heap.size + 1, 1, none⟩ = some (.string s) ∧ w.cell? ⟨w0.heap.size + 1, 2, none⟩ = some (.int .i64 r) :=
  ⟨⟨h.fld.cell rfl, h.fld.cell rfl, h.fld.cell rfl⟩, h.val.cell rfl, h.val.cell rfl, h.val.cell rfl⟩
theorem VlArgs.froz (h : VlArgs w0 w a b s k n r) : w.frozen? ⟨w0.heap.size + 1, 0, none⟩ = false ∧ w.frozen? ⟨w0.heap.size + 1, 1, none⟩ = false ∧ w.frozen? ⟨w0.heap.size + 1, 2, none⟩ = false := ⟨h.val.frozen 0, h.val.frozen 1, h.val.frozen 2⟩
/-- Another value is stored where the one lies. -/
theorem VlArgs.put (h : VlArgs w0 w a b s k n r) (x : Int) (t : ByteArray) (y : Int) : VlArgs w0 (((w.setCell ⟨w0.heap.size + 1, 0, none⟩ (.int .i64 x)).setCell ⟨w0.heap.size + 1, 1, none⟩ (.string t)).setCell ⟨w0.heap.size + 1, 2, none⟩ (.int .i64 y)) a b t k x y :=
  ⟨((h.bel.setCell (Nat.le_succ _) _).setCell (Nat.le_succ _) _).setCell (Nat.le_succ _) _, ((h.fld.other _ _ (by simp)).other _ _ (by simp)).other _ _ (by simp), ((h.val.set 0 _).set 1 _).set 2 _⟩
end
theorem strCells_byt (s : ByteArray) : Lib.strCells s = u8s (byt s) := by
  simp only [Lib.strCells, u8s, byt, List.map_map]
  rfl

theorem assert_str (k n r : Int) (s : ByteArray) (W : World) : (Instr.typeAssert (holdV k n s r) 20 9 true).run Tryz.prog W = .ok (.tuple #[.string (if k = 4 then s else ⟨#[]⟩), .bool (decide (k = 4))]) W := by
  rcases vl_kinds k with rfl | rfl | rfl | rfl | rfl | rfl | hk
  · kernel_rfl
  · kernel_rfl
  · kernel_rfl
  · kernel_rfl
  · kernel_rfl
  · kernel_rfl
  · rw [vl_hold_x hk, decide_eq_false (by omega), if_neg (by omega)]; kernel_rfl
theorem assert_ref (n r : Int) (s : ByteArray) (W : World) : (Instr.typeAssert (holdV 5 n s r) 20 196 false).run Tryz.prog W = .ok (.int .i64 r) W := by kernel_rfl

set_option maxRecDepth 100000 in
set_option maxHeartbeats 1000000 in
theorem vlput_any (a b s : ByteArray) (k n r : Int) (w : World) (h0 : -9223372036854775808 ≤ n) (h1 : n ≤ 9223372036854775807) :
    Calls Tryz.prog 156 #[.agg #[.string a, .int .i64 k, .string b], .agg #[.int .i64 n, .string s, .int .i64 r]] w fun e w' =>
      ∃ v, e = .returned (.tuple #[v, .bool (fitsV k (n, byt s, r))]) ∧ w'.ownsRow w.heap.size 5 1 v (putVF k (n, byt s, r)).length (u8s (putVF k (n, byt s, r))) ∧ Below w.heap.size w w' := by
  have T1 := Lib.hid (fun W => vlfits_any a b s k n r W)
  have T2 := Lib.hid (fun W => vlhold_any a b s k n r W)
  have ts := assert_str k n r s
  have A0 := Lib.hid (VlArgs.start w a b s k n r)
  cases hf : fitsV k (n, byt s, r)
  · rw [hf] at T1
    rw [putVF_no hf]
    clear hf ts
    go_enter Tryz.func156, Tryz.ntmps156
    go_wp2_with fail
    refine (T1.out _).mono ?_
    rintro e w1 ⟨rfl, hC1⟩
    have A1 := A0.out.below hC1
    go_wp2
    go_ret2
    exact ⟨_, rfl, World.ownsRow_nil _ _ _ _, A1.bel⟩
  · rw [hf] at T1
    rw [putVF_yes hf]
    by_cases h4 : k = 4
    · subst h4
      rw [if_pos rfl, decide_eq_true rfl] at ts
      rw [vl_fits_4] at hf
      obtain ⟨hl, -, -⟩ := of_decide_eq_true hf
      rw [vl_put_4]
      simp only [byt_length] at hl ⊢
      have hw : IntKind.u64.wrap (s.size : Int) = (s.size : Int) := by simp [IntKind.wrap, IntKind.bits, IntKind.signed]; omega
      have hpl := putL_len10 s.size (by omega)
      have T3 := Lib.hid (fun W => vput_any s.size W (by omega))
      obtain ⟨i0, hi, hz0, hz1, hz2⟩ := info_parts info_u8
      clear hf
      generalize holdV 4 n s r = hv at *
      go_enter Tryz.func156, Tryz.ntmps156
      go_wp2_with fail
      refine (T1.out _).mono ?_
      rintro e w1 ⟨rfl, hC1⟩
      have A1 := A0.out.below hC1
      obtain ⟨⟨c0, c1, c2⟩, d0, d1, d2⟩ := A1.cells
      go_wp2_with fail
      refine (T2.out _).mono ?_
      rintro e w2 ⟨rfl, hC2⟩
      have A2 := A1.below hC2
      clear c0 c1 c2 d0 d1 d2
      obtain ⟨⟨c0, c1, c2⟩, d0, d1, d2⟩ := A2.cells
      go_wp2_with fail
      refine (T3.out _).mono ?_
      rintro e w3 ⟨v3, rfl, hown3, hC3⟩
      have A3 := A2.below hC3
      have hw3 := hC3.size
      clear c0 c1 c2 d0 d1 d2
      go_wp2_with (first | (at_builtin; refine Lib.wpList_append_own_string _ rfl (.tmp 25) (.tmp 26) 104 9 rfl w2.heap.size 5 i0 Tryz.underlying104 Tryz.underlying9 hi hz0 hz1 hz2 v3 _ _ rfl hown3 s rfl (by simp only [maxLen]; omega) (by omega) hw3 ?_; intro v4 w4 hown4 hg4 _) | fail)

      go_ret2
      refine ⟨_, rfl, ?_, A3.bel.grown hg4 A3.bel.size (fun k hk => Nat.le_trans A2.bel.size (hown3.lt k hk).1)⟩
      rw [strCells_byt, ← u8s_append] at hown4
      rw [List.length_append, byt_length]
      exact own_mono hown4 A2.bel.size
    · rw [decide_eq_false h4, if_neg h4] at ts
      by_cases h5 : k = 5
      · subst h5
        have tr := assert_ref n r s
        rw [vl_fits_5] at hf
        obtain ⟨hr0, hr1, -, -⟩ := of_decide_eq_true hf
        simp only at hr0 hr1
        obtain ⟨u, hu⟩ : ∃ u : Nat, r + 1 = (u : Int) := ⟨(r + 1).toNat, by omega⟩
        rw [vl_put_5]
        simp only
        have hwr : IntKind.i64.wrap (r + 1) = (u : Int) := by rw [← hu]; simp [IntKind.wrap, IntKind.bits, IntKind.signed]; omega
        have hwu : IntKind.u64.wrap (u : Int) = (u : Int) := by simp [IntKind.wrap, IntKind.bits, IntKind.signed]; omega
        have hut : (r + 1).toNat = u := by omega
        rw [hut]
        have T3 := Lib.hid (fun W => vput_any u W (by omega))
        clear hf
        generalize holdV 5 n s r = hv at *
        go_enter Tryz.func156, Tryz.ntmps156
        go_wp2_with fail
        refine (T1.out _).mono ?_
        rintro e w1 ⟨rfl, hC1⟩
        have A1 := A0.out.below hC1
        obtain ⟨⟨c0, c1, c2⟩, d0, d1, d2⟩ := A1.cells
        go_wp2_with fail
        refine (T2.out _).mono ?_
        rintro e w2 ⟨rfl, hC2⟩
        have A2 := A1.below hC2
        clear c0 c1 c2 d0 d1 d2
        obtain ⟨⟨c0, c1, c2⟩, d0, d1, d2⟩ := A2.cells
        go_wp2_with fail
        refine (T3.out _).mono ?_
        rintro e w3 ⟨v3, rfl, hown3, hC3⟩
        have A3 := A2.below hC3
        go_wp2
        go_ret2
        exact ⟨_, rfl, own_mono hown3 A2.bel.size, A3.bel⟩
      · have e5 : (k == 5) = false := beq_false_of_ne h5
        obtain ⟨u, hu, hlt⟩ := vl_zig_nat h0 h1
        rw [vl_put_num h4 h5]
        simp only
        rw [hu, Int.toNat_natCast]
        have T3 := Lib.hid (fun W => zig_any n W h0 h1)
        rw [hu] at T3
        have T4 := Lib.hid (fun W => vput_any u W hlt)
        clear hf
        generalize holdV k n s r = hv at *
        go_enter Tryz.func156, Tryz.ntmps156
        go_wp2_with fail
        refine (T1.out _).mono ?_
        rintro e w1 ⟨rfl, hC1⟩
        have A1 := A0.out.below hC1
        obtain ⟨⟨c0, c1, c2⟩, d0, d1, d2⟩ := A1.cells
        go_wp2_with fail
        refine (T2.out _).mono ?_
        rintro e w2 ⟨rfl, hC2⟩
        have A2 := A1.below hC2
        clear c0 c1 c2 d0 d1 d2
        obtain ⟨⟨c0, c1, c2⟩, d0, d1, d2⟩ := A2.cells
        go_wp2_with fail
        refine (T3.out _).mono ?_
        rintro e w3 ⟨rfl, rfl⟩
        go_wp2_with fail
        refine (T4.out _).mono ?_
        rintro e w4 ⟨v4, rfl, hown4, hC4⟩
        have A4 := A2.below hC4
        go_wp2
        go_ret2
        exact ⟨_, rfl, own_mono hown4 A2.bel.size, A4.bel⟩
end Go.Proofs.YtclbjbhpncpmbaaGreatDoor

/- The contracts of value's readText, read and Get: the value that bytes begin by, and how many these are; noughts, if there is none. Condition: a slice's own bound (2^47 bytes). -/
namespace Go.Proofs.YtclbjbhpncpmbaaGreatDoor
open Go.RowKit

theorem byt_strB {l : List Nat} (h : ∀ x ∈ l, x < 256) : byt (strB l) = l := by
  simp only [byt, strB, List.map_map]
  conv => rhs; rw [← List.map_id l]
  apply List.map_congr_left
  intro x hx
  have := h x hx
  simp
  omega
/-- The text of so many bytes behind the first ones, and where it ends. -/
def rtS (bs : List Nat) (count first : Nat) : ByteArray := if count ≤ 12 ∧ first + count ≤ bs.length then strB ((bs.drop first).take count) else ⟨#[]⟩
def rtN (bs : List Nat) (count first : Nat) : Nat := if count ≤ 12 ∧ first + count ≤ bs.length then first + count else 0


/-- The value that bytes tell, and how many they are (whether it fits is not asked). -/
def readV (k : Int) (bs : List Nat) : (Int × ByteArray × Int) × Nat :=
  if k = 4 then ((0, rtS bs (getL bs).1 (getL bs).2, 0), rtN bs (getL bs).1 (getL bs).2)
  else if k = 5 then if (getL bs).1 ≤ 1073741825 then ((0, ⟨#[]⟩, ((getL bs).1 : Int) - 1), (getL bs).2) else ((0, ⟨#[]⟩, 0), 0)
  else ((zagV ((getL bs).1 : Int), ⟨#[]⟩, 0), (getL bs).2)
theorem vl_read_4 (bs : List Nat) : readV 4 bs = ((0, rtS bs (getL bs).1 (getL bs).2, 0), rtN bs (getL bs).1 (getL bs).2) := rfl
theorem vl_read_5 (bs : List Nat) : readV 5 bs = if (getL bs).1 ≤ 1073741825 then ((0, ⟨#[]⟩, ((getL bs).1 : Int) - 1), (getL bs).2) else ((0, ⟨#[]⟩, 0), 0) := rfl
theorem vl_read_num {k : Int} {bs : List Nat} (h4 : k ≠ 4) (h5 : k ≠ 5) : readV k bs = ((zagV ((getL bs).1 : Int), ⟨#[]⟩, 0), (getL bs).2) := by rw [readV, if_neg h4, if_neg h5]


/-- What Get answers: the value, how many bytes, whether there is one. -/
def gotV (k : Int) (bs : List Nat) : Vl := ((getV k bs).getD (vz, 0)).1
def gotM (k : Int) (bs : List Nat) : Nat := ((getV k bs).getD (vz, 0)).2
def gotB (k : Int) (bs : List Nat) : Bool := (getV k bs).isSome
theorem vl_got_some {k : Int} {bs : List Nat} {v : Vl} {m : Nat} (h : getV k bs = some (v, m)) : gotV k bs = v ∧ gotM k bs = m ∧ gotB k bs = true := by
  rw [gotV, gotM, gotB, h]; exact ⟨rfl, rfl, rfl⟩
theorem vl_got_none {k : Int} {bs : List Nat} (h : getV k bs = none) : gotV k bs = vz ∧ gotM k bs = 0 ∧ gotB k bs = false := by
  rw [gotV, gotM, gotB, h]; exact ⟨rfl, rfl, rfl⟩
/-- What is read, if it is some bytes' and fits, is what Get answers. -/
theorem vl_read_get (k : Int) (bs : List Nat) (hb : ∀ x ∈ bs, x < 256) : ((readV k bs).2 = 0 ∧ getV k bs = none) ∨ ((readV k bs).2 ≠ 0 ∧ fitsV k ((readV k bs).1.1, byt (readV k bs).1.2.1, (readV k bs).1.2.2) = false ∧ getV k bs = none) ∨
    ((readV k bs).2 ≠ 0 ∧ fitsV k ((readV k bs).1.1, byt (readV k bs).1.2.1, (readV k bs).1.2.2) = true ∧ getV k bs = some (((readV k bs).1.1, byt (readV k bs).1.2.1, (readV k bs).1.2.2), (readV k bs).2)) := by
  obtain ⟨hle, h10, hlt⟩ := getL_le bs hb
  have hz := getL_zero bs
  by_cases h0 : (getL bs).2 = 0
  · have hg := vl_get_none (k := k) h0
    left
    refine ⟨?_, hg⟩
    have h1 := hz h0
    rcases (by omega : k = 4 ∨ k = 5 ∨ (k ≠ 4 ∧ k ≠ 5)) with rfl | rfl | ⟨h4, h5⟩
    · rw [vl_read_4]; simp only
      rw [rtN]; split <;> omega
    · rw [vl_read_5]; split <;> simp only <;> omega
    · rw [vl_read_num h4 h5]; exact h0
  · rcases (by omega : k = 4 ∨ k = 5 ∨ (k ≠ 4 ∧ k ≠ 5)) with rfl | rfl | ⟨h4, h5⟩
    · rw [vl_read_4, vl_get_4 h0]; simp only
      rw [rtN, rtS]
      by_cases hc : (getL bs).1 ≤ 12 ∧ (getL bs).2 + (getL bs).1 ≤ bs.length
      · rw [if_pos hc, if_pos hc, if_pos hc]
        right; right
        rw [byt_strB (fun x hx => hb x (List.mem_of_mem_drop (List.mem_of_mem_take hx)))]
        refine ⟨by omega, ?_, rfl⟩
        rw [vl_fits_4]
        refine decide_eq_true ⟨?_, rfl, rfl⟩
        simp only [List.length_take, List.length_drop]
        omega
      · rw [if_neg hc, if_neg hc]
        exact .inl ⟨rfl, rfl⟩
    · rw [vl_read_5, vl_get_5 h0]
      by_cases hc : (getL bs).1 ≤ 1073741825
      · rw [if_pos hc, if_pos hc]
        right; right
        refine ⟨h0, ?_, rfl⟩
        rw [vl_fits_5]
        exact decide_eq_true ⟨by simp only; omega, by simp only; omega, rfl, rfl⟩
      · rw [if_neg hc, if_neg hc]
        exact .inl ⟨rfl, rfl⟩
    · rw [vl_read_num h4 h5, vl_get_num h4 h5 h0]
      simp only [byt_nil]
      cases hf : fitsV k (zagV ((getL bs).1 : Int), [], 0)
      · exact .inr (.inl ⟨h0, rfl, if_neg (by decide)⟩)
      · exact .inr (.inr ⟨h0, rfl, if_pos rfl⟩)

end Go.Proofs.YtclbjbhpncpmbaaGreatDoor
