/- The contract of schema's readFields: what 'readF' tells; the list is of the call's own; nothing that was there is changed. Conditions: at most 2^47 bytes; the table of kinds lies as the program's text lays it. -/
import Derived.Test.YtomndfeifjiljaaDoorScReadF
import Derived.Test.YtomndfeifjiljaaDoorAppendS
namespace Go.Proofs.YtomndfeifjiljaaDoor
open Go.RowKit

theorem info_fld4 : (Tryd.prog.info? 40).map (fun i => (i.zero, i.size, i.bytes)) = some (some (.agg #[.string ⟨#[]⟩, .int .i64 0, .string ⟨#[]⟩]), 3, 40) := by kernel_rfl
/-- What fields that are read are, or none. -/
def FsIs (S : Nat → Prop) (w : World) (o : Option (List Fld)) (v : Value) (b : Bool) : Prop := match o with
  | none => b = false ∧ v = .slice none 0 0
  | some fs => b = true ∧ ∃ A c, v = .slice A fs.length c ∧ rFlds S w [.slice A fs.length c] fs
def mesR : Value → Value → Nat
  | .string r, .bool true => r.size + 1
  | _, _ => 0
/-- Where the reading of fields stands. -/
structure FsAt (w : World) (o : Option (List Fld)) (N : Nat) (r : ByteArray) (v : Value) (m : Bool) (w' : World) (pre : List Fld) (xs : List Value) : Prop where
  room : r.size ≤ N
  few : pre.length ≤ 5
  own : w'.ownsRow w.heap.size 40 3 v pre.length xs
  ahead : Chunks 3 (rFld (fun _ => False) w) xs pre
  rest : Hid (o = if m = true then (pFs (5 - pre.length) (byt r)).map (pre ++ ·) else some pre)
  bel : Below w.heap.size w w'
theorem rFld_free {S S' : Nat → Prop} {w w' : World} {cs : List Value} {f : Fld} (h : rFld S w cs f) : rFld S' w' cs f := h

set_option maxRecDepth 100000 in
set_option maxHeartbeats 4000000 in
theorem readFields_any (s : ByteArray) (w : World) (hK : Kt w) (hs : s.size ≤ 140737488355328) :
    Calls Tryd.prog 47 #[.string s] w fun e w' => ∃ v b, e = .returned (.tuple #[v, .bool b]) ∧ FsIs (fun b => w.heap.size ≤ b ∧ b < w'.heap.size) w' (readF (byt s)) v b ∧ Below w.heap.size w w' := by
  obtain ⟨i0, hi, hz0, hz1, hz2⟩ := info_parts info_fld4
  have h0 : FsAt w (readF (byt s)) s.size s (.slice none 0 0) (!s.toList.isEmpty) w [] [] := ⟨Nat.le_refl _, by simp, World.ownsRow_nil _ _ _ _, Chunks.nil, Lib.hid (by
    rw [str_empty, readF]
    cases hb : byt s with
    | nil => rfl
    | cons a l => simp), Below.refl _ _⟩
  generalize readF (byt s) = o at *
  go_enter Tryd.func47, Tryd.ntmps47
  go_wp2
  go_loopw [0, 4, 5] (fun rv lv mv w' => ∃ r v m pre xs, rv = .string r ∧ lv = v ∧ mv = .bool m ∧ FsAt w o s.size r v m w' pre xs) (fun rv _ mv _ => mesR rv mv)
  case atStart => exact ⟨s, _, _, [], [], rfl, rfl, rfl, h0⟩
  case round =>
    rename_i iv wr
    obtain ⟨r, v, m, pre, xs, rfl, hv, rfl, H⟩ := hrel
    subst hv
    clear h0
    obtain ⟨hroom, hfew, hown, hch, hrest, hB⟩ := H
    cases m
    · have hrest' := hrest.out
      simp only [Bool.false_eq_true, if_false] at hrest'
      have Hr := Lib.hid hrest'
      clear hrest hrest'
      go_wp2
      go_ret2
      obtain ⟨A, c, rfl, hnc, hcm, hrd⟩ := own_in hown
      refine ⟨_, _, rfl, ?_, hB⟩
      rw [Hr.out]
      exact ⟨rfl, A, c, rfl, A, c, xs, rfl, hnc, hcm, hrd, hch.imp fun cs a h => rFld_free h⟩
    · have hrest' := hrest.out
      simp only [if_true] at hrest'
      have Hr := Lib.hid hrest'
      clear hrest hrest'
      have T1 := Lib.hid (fun W => cut_any r 44 W (by omega) (by simp only [maxLen]; omega))
      have hl := cutL_len 44 (byt r)
      rw [byt_length] at hl
      have Hstep : Hid (∀ n, pFs (n + 1) (byt r) = match pF (cutL 44 (byt r)).1 with
        | none => none
        | some f => if (cutL 44 (byt r)).2.2 = true then (pFs n (cutL 44 (byt r)).2.1).map (f :: ·) else some [f]) := Lib.hid (fun n => rfl)
      have Hl := Lib.hid hl
      clear hl
      generalize cutL 44 (byt r) = q at *
      obtain ⟨q1, q2, q3⟩ := q
      go_wp2_with fail
      refine (T1.out _).mono ?_
      rintro e w1 ⟨x, y, rfl, hx, hy, hB1⟩
      subst hx hy
      have hxs : x.size ≤ r.size := by rw [← byt_length]; exact Hl.out.1
      have hys : y.size ≤ r.size := by rw [← byt_length]; exact Hl.out.2.1
      have hBw := hB.trans (hB1.mono hB.size)
      have hown1 := own_below hown hB1
      have T2 := Lib.hid (readField_any x w1 (hK.below hBw) (by omega))
      clear T1 hB hB1 hown
      have Hch := Lib.hid hch
      clear hch
      go_wp2_with fail
      refine T2.out.mono ?_
      rintro e w2 ⟨x', y', k', b', rfl, hfi, hxs', hys', hk', hB2⟩
      clear T2
      have hBw2 := hBw.trans (hB2.mono hBw.size)
      have hown2 := own_below hown1 hB2
      clear hBw hB2 hown1
      obtain ⟨A, c, hv⟩ : ∃ A c, u4 = .slice A pre.length c := by
        obtain ⟨A, c, hv, _⟩ := own_in hown2
        exact ⟨A, c, hv⟩
      subst hv
      cases hpf : pF (byt x) with
      | none =>
        rw [hpf] at hfi
        obtain ⟨rfl, _⟩ := hfi
        have Ho : Hid (o = none) := Lib.hid (by
          rw [Hr.out]
          cases 5 - pre.length with
          | zero => rfl
          | succ n => rw [Hstep.out]; simp only [hpf]; rfl)
        clear Hr Hstep hpf
        go_wp2
        go_ret2
        exact ⟨_, _, rfl, by rw [Ho.out]; exact ⟨rfl, rfl⟩, hBw2.alloc hBw2.size _⟩
      | some f =>
        rw [hpf] at hfi
        obtain ⟨rfl, hfx, hfk, hfy⟩ := hfi
        by_cases h5 : pre.length = 5
        · have Ho : Hid (o = none) := Lib.hid (by rw [Hr.out, h5]; rfl)
          have h5' : ((pre.length : Int) == 5) = true := by rw [h5]; rfl
          clear Hr Hstep hpf
          go_wp2
          go_ret2
          exact ⟨_, _, rfl, by rw [Ho.out]; exact ⟨rfl, rfl⟩, hBw2.alloc hBw2.size _⟩
        · have h5' : ((pre.length : Int) == 5) = false := by simp; omega
          have Ho : Hid (o = if q3 = true then (pFs (5 - (pre ++ [f]).length) (byt y)).map ((pre ++ [f]) ++ ·) else some (pre ++ [f])) := Lib.hid (by
            obtain ⟨n, hn⟩ : ∃ n, 5 - pre.length = n + 1 := ⟨4 - pre.length, by omega⟩
            have hn' : 5 - (pre ++ [f]).length = n := by rw [List.length_append, List.length_cons, List.length_nil]; omega
            rw [Hr.out, hn, Hstep.out, hn']
            simp only [hpf]
            cases q3
            · simp
            · simp only [if_true, Option.map_map]
              congr 1
              funext z
              simp)
          clear Hr Hstep hpf
          have hA : Below w2.heap.size w2 ((w2.alloc (.cells #[.string x', .int .i64 k', .string y'] 40)).alloc (.cells #[.string x', .int .i64 k', .string y'] 40)) := ((Below.refl _ w2).alloc (Nat.le_refl _) _).alloc (by simp) _
          have hbx : Rd ((w2.alloc (.cells #[.string x', .int .i64 k', .string y'] 40)).alloc (.cells #[.string x', .int .i64 k', .string y'] 40)) (some ⟨w2.heap.size + 1, 0, none⟩) [.string x', .int .i64 k', .string y'] := by
            have := (Blk.new (w2.alloc (.cells #[.string x', .int .i64 k', .string y'] 40)) 40 [.string x', .int .i64 k', .string y']).rd
            rw [show (w2.alloc (.cells #[.string x', .int .i64 k', .string y'] 40)).heap.size = w2.heap.size + 1 by simp] at this
            exact this
          have hown3 := own_below hown2 hA
          have hB3 := hBw2.trans (hA.mono hBw2.size)
          have hwf : (Lit.int .i64 k').wf = true := by
            simp [Lit.wf, IntKind.min, IntKind.max, IntKind.signed, IntKind.bits]
            omega
          have Hch3 := Lib.hid (Hch.out.append (Chunks.one (size := 3) rfl (rFld_mk (f := f) hfx hfy (by simp only [maxLen]; omega) (by simp only [maxLen]; omega) (by rw [← hfk]; exact hwf))))
          rw [← hfk] at Hch3
          clear Hch hA hown2 hBw2 hwf hfx hfy hfk
          cases q3
          all_goals
            go_wp2_with (first
              | (at_builtin; refine wpList_apps rfl (.tmp 30) (.tmp 32) 32 rfl w.heap.size 40 i0 (.agg #[.string ⟨#[]⟩, .int .i64 0, .string ⟨#[]⟩]) 3 40 Tryd.underlying32 hi hz0 hz1 hz2 rfl (by omega) (.slice A pre.length c) pre.length xs rfl hown3 (some ⟨w2.heap.size + 1, 0, none⟩) 1 1 [.string x', .int .i64 k', .string y'] rfl rfl hbx (by simp [Value.oneCell']) (by simp only [maxLen]; omega) (by omega) hB3.size ?_; intro v4 w4 hown4 hg4 hv4)
              | fail)
            go_roundw
          · exact ⟨y, v4, false, pre ++ [f], _, rfl, rfl, rfl, by omega, by rw [List.length_append, List.length_cons, List.length_nil]; omega, by rw [List.length_append]; exact hown4, Hch3.out, Lib.hid (by have := Ho.out; simpa using this), hB3.grown hg4 hB3.size (fun k hk => (hown3.lt k hk).1)⟩
          · show 0 < r.size + 1
            omega
          · exact ⟨y, v4, true, pre ++ [f], _, rfl, rfl, rfl, by omega, by rw [List.length_append, List.length_cons, List.length_nil]; omega, by rw [List.length_append]; exact hown4, Hch3.out, Lib.hid (by have := Ho.out; simpa using this), hB3.grown hg4 hB3.size (fun k hk => (hown3.lt k hk).1)⟩
          · show y.size + 1 < r.size + 1
            have := Hl.out.2.2 trivial
            rw [byt_length] at this
            omega
end Go.Proofs.YtomndfeifjiljaaDoor
