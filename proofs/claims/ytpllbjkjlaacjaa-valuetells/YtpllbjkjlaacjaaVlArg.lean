/- Fields and values that came in, as the row reads them; and what value.Put answers, in the form that the laws' walks use. No condition. -/
import Derived.Test.YtpllbjkjlaacjaaVlAwake
import Derived.Test.YtpllbjkjlaacjaaShape
namespace Go.Proofs.Ytpllbjkjlaacjaa
open Go.RowKit

abbrev rVlFld : Reader (ByteArray × Int × ByteArray) := rBoth 1 rStr (rBoth 1 (rInt .i64) rStr)
abbrev rVl : Reader (Int × ByteArray × Int) := rBoth 1 (rInt .i64) (rBoth 1 rStr (rInt .i64))
theorem vl_fld_arg {w : World} {cs : Array Value} {x : ByteArray × Int × ByteArray} (h : rVlFld (All w) w cs.toList x) :
    cs = #[.string x.1, .int .i64 x.2.1, .string x.2.2] ∧ x.1.size ≤ maxLen ∧ x.2.2.size ≤ maxLen ∧ (-9223372036854775808 ≤ x.2.1 ∧ x.2.1 ≤ 9223372036854775807) := by
  obtain ⟨_, ⟨h1, h2⟩, _, ⟨h3, h4⟩, h5, h6⟩ := h
  refine ⟨?_, h2, h6, bounds_i64 h4⟩
  have : cs.toList = [.string x.1, .int .i64 x.2.1, .string x.2.2] := by
    rw [← List.take_append_drop 1 cs.toList, h1, ← List.take_append_drop 1 (cs.toList.drop 1), h3, h5]
    rfl
  cases cs
  simpa using this
theorem vl_val_arg {w : World} {cs : Array Value} {x : Int × ByteArray × Int} (h : rVl (All w) w cs.toList x) :
    cs = #[.int .i64 x.1, .string x.2.1, .int .i64 x.2.2] ∧ x.2.1.size ≤ maxLen ∧ (-9223372036854775808 ≤ x.1 ∧ x.1 ≤ 9223372036854775807) := by
  obtain ⟨_, ⟨h1, h2⟩, _, ⟨h3, h4⟩, h5, h6⟩ := h
  refine ⟨?_, h4, bounds_i64 h2⟩
  have : cs.toList = [.int .i64 x.1, .string x.2.1, .int .i64 x.2.2] := by
    rw [← List.take_append_drop 1 cs.toList, h1, ← List.take_append_drop 1 (cs.toList.drop 1), h3, h5]
    rfl
  cases cs
  simpa using this
theorem vl_ok {n r : Int} {s : ByteArray} (h0 : -9223372036854775808 ≤ n) (h1 : n ≤ 9223372036854775807) : OkV (n, byt s, r) := ⟨⟨h0, h1⟩, byt_lt s⟩
/-- Put, its bytes as a slice that reads. -/
theorem vlput_sl (a b s : ByteArray) (k n r : Int) (w : World) (h0 : -9223372036854775808 ≤ n) (h1 : n ≤ 9223372036854775807) :
    Calls Try.prog 11 #[.agg #[.string a, .int .i64 k, .string b], .agg #[.int .i64 n, .string s, .int .i64 r]] w fun e w' =>
      ∃ A c, e = .returned (.tuple #[.slice A (putVF k (n, byt s, r)).length c, .bool (fitsV k (n, byt s, r))]) ∧ (putVF k (n, byt s, r)).length ≤ c ∧ Rd w' A (u8s (putVF k (n, byt s, r))) ∧ Below w.heap.size w w' := by
  refine (vlput_any a b s k n r w h0 h1).mono fun e w' ⟨v, he, hown, hB⟩ => ?_
  obtain ⟨A, c, hv, hc, hr, _⟩ := own_slice hown
  subst hv
  exact ⟨A, c, he, hc, hr, hB⟩
/-- string(b) of bytes that read. -/
theorem vl_conv (w : World) (A : Option Addr) (bs : List Nat) (n c : Nat) (hn : bs.length = n) (hr : Rd w A (u8s bs)) : (convert 26 9 (.slice A n c)).run Try.prog w = .ok (.string (strB bs)) w :=
  conv_str (P := Try.prog) w 26 5 9 Try.underlying26 Try.underlying5 Try.underlying9 A bs n c hn hr
end Go.Proofs.Ytpllbjkjlaacjaa
