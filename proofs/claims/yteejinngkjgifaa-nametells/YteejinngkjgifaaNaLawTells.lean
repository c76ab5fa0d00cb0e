/- NameTells' walk. -/
import Derived.Test.YteejinngkjgifaaNaAwake
import Derived.Test.YteejinngkjgifaaNaRef4
namespace Go.Proofs.Yteejinngkjgifaa
open Go.RowKit

set_option maxRecDepth 100000 in
set_option maxHeartbeats 4000000 in
theorem nameTells_walk (w : World) (a : ByteArray) (hsa : a.size ≤ maxLen) (b : ByteArray) (hsb : b.size ≤ maxLen) :
    Calls Try.prog 3 #[.string a, .string b] w fun e w' => e = .returned (.bool true) ∧ Below w.heap.size w w' := by
  by_cases ha2 : a.size ≤ 200
  rotate_left
  · have ha' : decide ((200 : Int) < (a.size : Int)) = true := by simp; omega
    go_enter Try.func3, Try.ntmps3
    go_wp2_with fail
    refine (awake_any _).mono ?_
    rintro e w1 ⟨rfl, hB⟩
    go_wp2
    go_ret
    exact ⟨rfl, hB⟩
  have ha' : decide ((200 : Int) < (a.size : Int)) = false := by simp; omega
  by_cases hb2 : b.size ≤ 200
  rotate_left
  · have hb' : decide ((200 : Int) < (b.size : Int)) = true := by simp; omega
    go_enter Try.func3, Try.ntmps3
    go_wp2_with fail
    refine (awake_any _).mono ?_
    rintro e w1 ⟨rfl, hB⟩
    go_wp2
    go_ret
    exact ⟨rfl, hB⟩
  have hb' : decide ((200 : Int) < (b.size : Int)) = false := by simp; omega
  have S1 := Lib.hid (fun W => split_any a W hsa)
  have S2 := Lib.hid (fun W => rsplit_any a W (by omega))
  have M1 := Lib.hid (fun W => may_any a W)
  have M2 := Lib.hid (fun W => rmay_any a W (by omega))
  have N1 := Lib.hid (fun W => len_any a W)
  have N2 := Lib.hid (fun W => rlen_any a W (by omega))
  have L1 := Lib.hid (fun W => less_any a b W hsb)
  have L2 := Lib.hid (fun W => rless_any a b W (by omega) (by omega))
  have J1 := Lib.hid (fun W => join_any a b W)
  have J2 := Lib.hid (fun W => rjoin_any a b W (by omega) (by omega))
  generalize mayN (byt a) = m at *
  generalize lenN (byt a) = n at *
  generalize lexN (sgn (byt a)) (sgn (byt b)) = x at *
  generalize joinN (byt a) (byt b) = j at *
  generalize canN (byt a) = can at *
  generalize splitN (byt a) = sp at *
  have hmm : (m == m) = true := by simp
  have hxx : (x == x) = true := by simp
  have hcc : (can == can) = true := by simp
  have hnn : ((n : Int) == (n : Int)) = true := by simp
  go_enter Try.func3, Try.ntmps3
  go_wp2_with fail
  refine (awake_any _).mono ?_
  rintro e w1 ⟨rfl, hB⟩
  go_wp2_with fail
  refine (S1.out _).mono ?_
  rintro e w2 ⟨p, q, rfl, hp, hq, hBn⟩
  have hB' := hB.trans (hBn.mono hB.size)
  clear hB hBn
  go_wp2_with fail
  refine (S2.out _).mono ?_
  rintro e w3 ⟨p2, q2, rfl, hp2, hq2, hBn⟩
  have hB := hB'.trans (hBn.mono hB'.size)
  clear hB' hBn
  obtain rfl : p = p2 := byt_inj (hp.trans hp2.symm)
  obtain rfl : q = q2 := byt_inj (hq.trans hq2.symm)
  clear hp hq hp2 hq2 S1 S2
  go_wp2_with fail
  refine (M2.out _).mono ?_
  rintro e w4 ⟨rfl, hBn⟩
  have hB' := hB.trans (hBn.mono hB.size)
  clear hB hBn
  go_wp2_with fail
  refine (L2.out _).mono ?_
  rintro e w5 ⟨rfl, hBn⟩
  have hB := hB'.trans (hBn.mono hB'.size)
  clear hB' hBn
  go_wp2_with fail
  refine (M1.out _).mono ?_
  rintro e w6 ⟨rfl, hBn⟩
  have hB' := hB.trans (hBn.mono hB.size)
  clear hB hBn
  go_wp2_with fail
  refine (N1.out _).mono ?_
  rintro e w7 ⟨rfl, hBn⟩
  have hB := hB'.trans (hBn.mono hB'.size)
  clear hB' hBn
  go_wp2_with fail
  refine (N2.out _).mono ?_
  rintro e w8 ⟨rfl, hBn⟩
  have hB' := hB.trans (hBn.mono hB.size)
  clear hB hBn
  go_wp2_with fail
  refine (L1.out _).mono ?_
  rintro e w9 ⟨rfl, hBn⟩
  have hB := hB'.trans (hBn.mono hB'.size)
  clear hB' hBn
  go_wp2_with fail
  refine (J1.out _).mono ?_
  rintro e w10 ⟨t, rfl, ht, hBn⟩
  have hB' := hB.trans (hBn.mono hB.size)
  clear hB hBn
  go_wp2_with fail
  refine (J2.out _).mono ?_
  rintro e w11 ⟨t2, rfl, ht2, hBn⟩
  have hB := hB'.trans (hBn.mono hB'.size)
  clear hB' hBn
  obtain rfl : t = t2 := byt_inj (ht.trans ht2.symm)
  clear ht ht2
  go_wp2
  go_ret
  exact ⟨rfl, hB⟩
end Go.Proofs.Yteejinngkjgifaa
