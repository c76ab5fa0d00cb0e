/- Damage of some of 32 bits, one behind the other, within one frame of a flow's bytes: it is refused. No program. No condition. -/
import Derived.Test.YtnmgdaaddfdffaaGreatDoorGBytes
import Derived.Test.YtnmgdaaddfdffaaGreatDoorGFrame
import Derived.Test.YtnmgdaaddfdffaaGreatDoorGFlow
namespace Go.Proofs.YtnmgdaaddfdffaaGreatDoor

theorem pow256 (k : Nat) : 256 ^ k = 2 ^ (8 * k) := by rw [Nat.pow_mul]
theorem shl_mod (m a b : Nat) (h : b ≤ a) : m * 2 ^ a % 2 ^ b = 0 := by
  rw [pow_split b a h, ← Nat.mul_assoc]
  exact Nat.mul_mod_left _ _
theorem shl_div (m a b : Nat) (h : b ≤ a) : m * 2 ^ a / 2 ^ b = m * 2 ^ (a - b) := by
  rw [pow_split b a h, ← Nat.mul_assoc]
  exact Nat.mul_div_cancel _ (Nat.pow_pos (by omega))
/-- A flow's bytes at a frame: what lies ahead, the frame, the rest. -/
theorem flow_at {fr : List Fra} {i : Nat} {F : Fra} (h : fr[i]? = some F) : catL fr = catL (fr.take i) ++ (putL F.1.toNat F.2 ++ catL (fr.drop (i + 1))) := by
  obtain ⟨hlt, he⟩ := List.getElem?_eq_some_iff.1 h
  conv => lhs; rw [← List.take_append_drop i fr]
  rw [catL_append, List.drop_eq_getElem_cons hlt, he]
  rfl
theorem flow_burst {f : Flo} (hf : OkF f) {i : Nat} {F : Fra} (hi : (framesF f)[i]? = some F) {mask t : Nat} (hm : mask < 4294967296) (h0 : mask ≠ 0) (ht : t + 32 ≤ 8 * (F.2.length + 10))
    {ys : List Nat} (hl : ys.length = (flowB f).length) (hy : ∀ y ∈ ys, y < 256) (hv : val ys = val (flowB f) ^^^ mask * 2 ^ (8 * cutAt (framesF f) i + t)) : (getFl ys).2 ≠ 0 := by
  have hfit := framesF_fit hf
  have hF := hfit F (List.mem_of_getElem? hi)
  have hat := flow_at hi
  have hb := flowB_byte hf
  have hlen := congrArg List.length hat
  rw [List.length_append, List.length_append, putL_length] at hlen
  rw [show catL (framesF f) = flowB f from rfl] at hat hlen
  have hP : (catL ((framesF f).take i)).length = cutAt (framesF f) i := rfl
  rw [hP] at hlen
  generalize cutAt (framesF f) i = P at *
  have hq : F.1.toNat < 256 := by have := hF.1; have := hF.2.1; omega
  -- ahead of the frame nothing is another one
  have e0 : ys.take P = catL ((framesF f).take i) := by
    have h1 : (flowB f).take P = catL ((framesF f).take i) := by rw [hat, List.take_append_of_le_length (by omega), List.take_of_length_le (by omega)]
    rw [← h1]
    refine val_inj _ _ (by rw [List.length_take, List.length_take, hl]) (fun z hz => hy z (List.mem_of_mem_take hz)) (fun z hz => hb z (List.mem_of_mem_take hz)) ?_
    rw [val_take P ys hy, val_take P _ hb, hv, pow256, Nat.xor_mod_two_pow, shl_mod _ _ _ (by omega), Nat.xor_zero]
  -- the frame
  have hd : val (ys.drop P) = val ((flowB f).drop P) ^^^ mask * 2 ^ t := by
    rw [val_drop P ys hy, val_drop P _ hb, hv, pow256, Nat.xor_div_two_pow, shl_div _ _ _ (by omega), show 8 * P + t - 8 * P = t by omega]
  have hdb : (flowB f).drop P = putL F.1.toNat F.2 ++ catL ((framesF f).drop (i + 1)) := by
    rw [hat, ← hP, List.drop_left]
  have hyd : ∀ z ∈ ys.drop P, z < 256 := fun z hz => hy z (List.mem_of_mem_drop hz)
  have hbd : ∀ z ∈ (flowB f).drop P, z < 256 := fun z hz => hb z (List.mem_of_mem_drop hz)
  have hxl : ((ys.drop P).take (F.2.length + 10)).length = F.2.length + 10 := by rw [List.length_take, List.length_drop]; omega
  have hfr : ((flowB f).drop P).take (F.2.length + 10) = putL F.1.toNat F.2 := by
    rw [hdb, List.take_append_of_le_length (by rw [putL_length]; omega), List.take_of_length_le (by rw [putL_length]; omega)]
  have hsm : mask * 2 ^ t < 2 ^ (8 * (F.2.length + 10)) := by
    calc mask * 2 ^ t < 2 ^ 32 * 2 ^ t := Nat.mul_lt_mul_of_pos_right (by omega) (Nat.pow_pos (by omega))
      _ = 2 ^ (32 + t) := (Nat.pow_add 2 32 t).symm
      _ ≤ 2 ^ (8 * (F.2.length + 10)) := Nat.pow_le_pow_right (by omega) (by omega)
  have hx : val ((ys.drop P).take (F.2.length + 10)) = val (putL F.1.toNat F.2) ^^^ mask * 2 ^ t := by
    rw [val_take _ _ hyd, hd, pow256, Nat.xor_mod_two_pow, Nat.mod_eq_of_lt hsm, ← hfr, val_take _ _ hbd, pow256]
  have hE := frame_burst (q := F.1.toNat) (body := F.2) (x := (ys.drop P).take (F.2.length + 10)) hq (by have := hF.2.2.1; omega) hF.2.2.2 (fun z hz => hyd z (List.mem_of_mem_take hz)) hxl mask t hm h0 ht hx ((ys.drop P).drop (F.2.length + 10))
  rw [List.take_append_drop] at hE
  have hne : ys.drop P ≠ [] := fun e => by rw [e] at hxl; simp at hxl
  have hbad := allL_bad hne hE
  have happ := allL_app ((framesF f).take i) (ys.drop P) (fun x hx => hfit x (List.mem_of_mem_take hx))
  rw [← e0, List.take_append_drop, hbad] at happ
  simp only [ne_eq, hE, not_false_eq_true, if_true] at happ
  rw [getFl, happ]
  simp only [ne_eq, hE, not_false_eq_true, if_true]
end Go.Proofs.YtnmgdaaddfdffaaGreatDoor
