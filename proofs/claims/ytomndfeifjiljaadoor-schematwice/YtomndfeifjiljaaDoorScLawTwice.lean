/- SchemaTwice's walk. -/
import Derived.Test.YtomndfeifjiljaaDoorScAwake
import Derived.Test.YtomndfeifjiljaaDoorAppend
namespace Go.Proofs.YtomndfeifjiljaaDoor
open Go.RowKit

theorem byt_strB {l : List Nat} (h : ∀ x ∈ l, x < 256) : byt (strB l) = l := by
  simp only [byt, strB, List.map_map]
  conv => rhs; rw [← List.map_id l]
  apply List.map_congr_left
  intro x hx
  have := h x hx
  simp
  omega
theorem read_twice {l : List Nat} {x : Sch} (h : readS l = some x) : readS (l ++ l) = none := by
  cases hy : readS (l ++ l) with
  | none => rfl
  | some y =>
    obtain ⟨hx1, rfl⟩ := (readS_iff _ _).1 h
    obtain ⟨hy1, hy2⟩ := (readS_iff _ _).1 hy
    rw [← sText_append] at hy2
    have hg := mayS_good hx1
    have e := sText_inj (mayS_good hy1) (fun t ht => (List.mem_append.1 ht).elim (hg t) (hg t)) hy2
    subst e
    obtain ⟨⟨hl, _⟩, hall⟩ := (mayS_iff _).1 hy1
    rw [List.length_append] at hl
    have h0 : x[0]? = some x[0] := List.getElem?_eq_getElem (by omega)
    have ha := hall 0 x[0] (by rw [List.getElem?_append_left (by omega)]; exact h0)
    have hb := hall x.length x[0] (by rw [List.getElem?_append_right (by omega), Nat.sub_self]; exact h0)
    have h1 := ((mayT_iff _ _ _).1 ha).2.1
    have h2 := ((mayT_iff _ _ _).1 hb).2.1
    rw [h1] at h2
    omega
theorem read_more {l : List Nat} {x : Sch} (h : readS l = some x) (c : Nat) : readS (l ++ [c]) = none := by
  cases hy : readS (l ++ [c]) with
  | none => rfl
  | some y =>
    obtain ⟨hx1, rfl⟩ := (readS_iff _ _).1 h
    obtain ⟨hy1, hy2⟩ := (readS_iff _ _).1 hy
    obtain ⟨a1, a2⟩ := sText_count (mayS_good hx1)
    obtain ⟨b1, b2⟩ := sText_count (mayS_good hy1)
    obtain ⟨q, hq⟩ := sText_last (mayS_ne hy1)
    rw [hy2, List.count_append, a1] at b1
    rw [hy2, List.count_append, a2] at b2
    rw [hy2] at hq
    have hc := (List.append_inj' hq rfl).2
    simp only [List.cons.injEq, and_true] at hc
    subst hc
    rw [show List.count 125 [125] = 1 from rfl] at b2
    rw [show List.count 123 [125] = 0 from rfl] at b1
    omega

set_option maxRecDepth 100000 in
set_option maxHeartbeats 2000000 in
theorem schemaTwice_walk (w : World) (hK : Kt w) (s : ByteArray) (hs : s.size ≤ maxLen) (n : Nat) (hn : n < 256) :
    Calls Tryd.prog 8 #[.string s, .int .u8 (n : Int)] w fun e w' => e = .returned (.bool true) ∧ Below w.heap.size w w' := by
  simp only [maxLen] at hs
  by_cases h600 : s.size ≤ 600
  · have h600' : decide ((600 : Int) < (s.size : Int)) = false := decide_eq_false (by omega)
    have hb2 : byt (s ++ s) = byt s ++ byt s := byt_append s s
    have hb3 : byt (s ++ strB [n]) = byt s ++ [n] := by rw [byt_append, byt_strB (by simpa using hn)]
    have hsz3 : (strB [n]).size = 1 := rfl
    have T1 := Lib.hid (fun W hW => read_any s W hW (by omega))
    have T2 := Lib.hid (fun W hW => read_any (s ++ s) W hW (by rw [ByteArray.size_append]; omega))
    have T3 := Lib.hid (fun W hW => read_any (s ++ strB [n]) W hW (by rw [ByteArray.size_append, hsz3]; omega))
    rw [hb2] at T2
    rw [hb3] at T3
    have H2 := Lib.hid (fun x => read_twice (l := byt s) (x := x))
    have H3 := Lib.hid (fun x (h : readS (byt s) = some x) => read_more h n)
    clear hb2 hb3
    generalize readS (byt s) = o1 at *
    generalize readS (byt s ++ byt s) = o2 at *
    generalize readS (byt s ++ [n]) = o3 at *
    go_enter Tryd.func8, Tryd.ntmps8
    go_wp2_with fail
    refine (sawake_any _ hK).mono ?_
    rintro e w1 ⟨rfl, hB1⟩
    go_wp2_with fail
    refine (T1.out _ (hK.below hB1)).mono ?_
    rintro e w2 ⟨A2, n2, c2, b2, rfl, hi2, hC2⟩
    have hB2 := (hB1.trans (hC2.mono hB1.size)).alloc (Nat.le_trans hB1.size hC2.size) (.cells #[.slice A2 n2 c2] 24)
    obtain ⟨rfl, -⟩ := hi2
    clear hC2 hB1
    go_wp2_with fail
    refine (T2.out _ (hK.below hB2)).mono ?_
    rintro e w3 ⟨A3, n3, c3, b3, rfl, hi3, hC3⟩
    have hB3 := (hB2.trans (hC3.mono hB2.size)).alloc (Nat.le_trans hB2.size hC3.size) (.cells #[.slice A3 n3 c3] 24)
    obtain ⟨rfl, -⟩ := hi3
    clear hC3 hB2
    have hB4 := hB3.alloc hB3.size (.cells #[.int .u8 (n : Int)] 5)
    have hrd := lit_rd (w3.alloc (.cells #[.slice A3 n3 c3] 24)) [n]
    rw [World.size_alloc] at hrd
    have hcv : (convert 42 9 (.slice (some ⟨w3.heap.size + 1, 0, none⟩) 1 1)).run Tryd.prog ((w3.alloc (.cells #[.slice A3 n3 c3] 24)).alloc (.cells #[.int .u8 (n : Int)] 5)) = .ok (.string (strB [n])) ((w3.alloc (.cells #[.slice A3 n3 c3] 24)).alloc (.cells #[.int .u8 (n : Int)] 5)) :=
      conv_str (P := Tryd.prog) _ 42 5 9 Tryd.underlying42 Tryd.underlying5 Tryd.underlying9 (some ⟨w3.heap.size + 1, 0, none⟩) [n] 1 1 rfl hrd
    clear hrd
    generalize strB [n] = sn at *
    go_wp2_with fail
    refine (T3.out _ (hK.below hB4)).mono ?_
    rintro e w5 ⟨A5, n5, c5, b5, rfl, hi5, hC5⟩
    have hB5 := (hB4.trans (hC5.mono hB4.size)).alloc (Nat.le_trans hB4.size hC5.size) (.cells #[.slice A5 n5 c5] 24)
    obtain ⟨rfl, -⟩ := hi5
    clear hC5 hB4 hcv
    cases o1 with
    | none =>
      go_wp2
      go_ret
      exact ⟨rfl, hB5⟩
    | some x =>
      obtain rfl := H2.out x rfl
      obtain rfl := H3.out x rfl
      go_wp2
      go_ret
      exact ⟨rfl, hB5⟩
  · have h600' : decide ((600 : Int) < (s.size : Int)) = true := decide_eq_true (by omega)
    go_enter Tryd.func8, Tryd.ntmps8
    go_wp2_with fail
    refine (sawake_any _ hK).mono ?_
    rintro e w1 ⟨rfl, hB1⟩
    go_wp2
    go_ret
    exact ⟨rfl, hB1⟩
end Go.Proofs.YtomndfeifjiljaaDoor
