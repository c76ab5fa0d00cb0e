/- The contracts of crc.With and crc.Sum, and of the document's own Sum: for every number of 32 bits and all bytes: what 'withL' tells; nothing that was there is changed. No condition but a slice's own bound. -/
import Derived.Test.YthhkkiegfcofjaaDoorCrTable
namespace Go.Proofs.YthhkkiegfcofjaaDoor
open Go.RowKit

theorem tab_get {i : Nat} (hi : i < 256) : (u32s (tabF 0))[i]? = some (.int .u32 ((hvN 8 i : Nat) : Int)) := by
  refine u32s_get ?_
  simp [tabF, hi, Nat.mod_one]
theorem mod_nat (n : Nat) : (n : Int) % 256 = ((n % 256 : Nat) : Int) := by omega
theorem with_round (f d : Nat) (hf : f < 4294967296) (hd : d < 256) : bits BinOp.xor IntKind.u32 ((f : Int) / 256) ((hvN 8 (f % 256 ^^^ d) : Nat) : Int) = ((stp f d : Nat) : Int) := by
  rw [stp_table]
  exact u32_xor_nat (f / 256) _ (by omega) (hvN_lt 8 (by have := xor_lt8 (a := f % 256) (b := d) (by omega) hd; omega))

set_option maxRecDepth 100000 in
set_option maxHeartbeats 1000000 in
theorem with_any (s : Nat) (A : Option Addr) (c : Nat) (bs : List Nat) (w : World) (hs : s < 4294967296) (hb : ∀ x ∈ bs, x < 256) (hr : Rd w A (u8s bs)) (hlen : bs.length ≤ 140737488355328) :
    Calls Tryd.prog 69 #[.int .u32 (s : Int), .slice A bs.length c] w fun e w' => e = .returned (.int .u32 (withL s bs : Int)) ∧ Below w.heap.size w w' := by
  by_cases h0 : bs.length = 0
  · obtain rfl : bs = [] := List.eq_nil_of_length_eq_zero h0
    go_enter Tryd.func69, Tryd.ntmps69
    go_wp2
    go_ret
    exact ⟨by rw [withL_nil]; rfl, Below.refl _ _⟩
  · obtain ⟨hz, hsz⟩ := zero_of_info info_tab
    have hf : bits BinOp.xor IntKind.u32 4294967295 (s : Int) = ((flip32 s : Nat) : Int) := by rw [flip32, Nat.xor_comm]; exact u32_xor_nat 4294967295 s (by omega) hs
    have hfl := flip_lt hs
    have hres : ∀ f, f < 4294967296 → fol (flip32 s) bs = f → bits BinOp.xor IntKind.u32 4294967295 (f : Int) = ((withL s bs : Nat) : Int) := fun f h1 h => by
      rw [withL, h, flip32, Nat.xor_comm]; exact u32_xor_nat 4294967295 f (by omega) h1
    have Hres := Lib.hid hres
    clear hres
    generalize flip32 s = f0 at *
    have h0' : ((bs.length : Int) == 0) = false := by rw [beq_eq_false_iff_ne]; omega
    have hsg : IntKind.u32.signed = false := rfl
    have hmx : IntKind.u32.max = 4294967295 := rfl
    go_enter Tryd.func69, Tryd.ntmps69
    go_wp2_with fail
    refine (table_any _).mono ?_
    rintro e w1 ⟨rfl, hB1⟩
    have hul : (u32s (tabF 0)).length = 256 := by rw [u32s_length, tabF_length]
    have hrep : (Array.replicate 256 (Value.int .u32 0)) = (u32s (tabF 8)).toArray := by rw [tabF_8, u32s, List.map_replicate, List.toArray_replicate]; rfl
    have hb0 := Blk.new w1 120 (u32s (tabF 8))
    rw [← hrep] at hb0
    have hsc := hb0.stores (P := Tryd.prog) (cs' := u32s (tabF 0)) (by rw [u32s_length, u32s_length, tabF_length, tabF_length]) (u32s_one _)
    have hb1 := hb0.row (u32s (tabF 0))
    have hB2 : Below w.heap.size w ((w1.alloc (.cells (Array.replicate 256 (Value.int .u32 0)) 120)).setRow w1.heap.size (u32s (tabF 0)).toArray) := below_setRow (hB1.alloc hB1.size _) hB1.size _
    have hq : ∀ i, i < 256 → ((w1.alloc (.cells (Array.replicate 256 (Value.int .u32 0)) 120)).setRow w1.heap.size (u32s (tabF 0)).toArray).cell? ⟨w1.heap.size, i, none⟩ = some (.int .u32 ((hvN 8 i : Nat) : Int)) := fun i hi => hb1.cell (tab_get hi)
    have Hq := Lib.hid hq
    clear hq hrep hb0 hb1
    generalize tabF 0 = T0 at *
    go_wp2
    generalize (w1.alloc (.cells (Array.replicate 256 (Value.int .u32 0)) 120)).setRow w1.heap.size (u32s T0).toArray = w2 at *
    generalize w1.heap.size = g at *
    have hr2 := hr.below hB2
    clear hsc
    go_loop [6, 18] (fun n i => ∃ k f : Nat, k ≤ bs.length ∧ f < 4294967296 ∧ i = .int .i64 k ∧ n = .int .u32 f ∧ fol f (bs.drop k) = fol f0 bs) (fun _ i => bs.length - (intOf i).toNat)
    case atStart => exact ⟨0, f0, Nat.zero_le _, hfl, rfl, rfl, rfl⟩
    case round =>
      obtain ⟨k, f, hk, hfl', rfl, rfl, hg⟩ := hrel
      by_cases hlt : k < bs.length
      · obtain ⟨b, off, rfl, hblt, hcell⟩ := u8s_at hr2 hlt
        have hd : bs[k] < 256 := hb _ (List.getElem_mem hlt)
        rw [List.drop_eq_getElem_cons hlt] at hg
        generalize bs[k] = d at *
        have hst := stp_lt hfl' hd
        have hg' : fol (stp f d) (bs.drop (k + 1)) = fol f0 bs := hg
        have Hg := Lib.hid hg'
        clear hg hg'
        have hx8 : bits BinOp.xor IntKind.u8 ((f : Int) % 256) (d : Int) = ((f % 256 ^^^ d : Nat) : Int) := u8_xor_nat (f % 256) d (by omega) hd
        have hil := xor_lt8 (a := f % 256) (b := d) (by omega) hd
        have hqi := Hq.out _ hil
        have hro := with_round f d hfl' hd
        generalize f % 256 ^^^ d = i at *
        generalize hvN 8 i = t at *
        generalize stp f d = f' at *
        have hil' : (i : Int) < 256 := by omega
        go_wp2
        refine ⟨⟨k + 1, f', by omega, hst, by go_num, rfl, Hg.out⟩, ?_⟩
        simp [intOf]; omega
      · have hdr : bs.drop k = [] := List.drop_eq_nil_of_le (by omega)
        rw [hdr] at hg
        have hres := Hres.out f hfl' hg.symm
        have HH := Lib.hid hres
        clear hres hg hdr
        go_wp2
        go_ret
        exact ⟨ret_int HH.out, hB2⟩

theorem sum_any (A : Option Addr) (c n : Nat) (bs : List Nat) (w : World) (hn : bs.length = n) (hb : ∀ x ∈ bs, x < 256) (hr : Rd w A (u8s bs)) (hlen : n ≤ 140737488355328) :
    Calls Tryd.prog 63 #[.slice A n c] w fun e w' => e = .returned (.int .u32 (sumL bs : Int)) ∧ Below w.heap.size w w' := by
  subst hn
  have h := with_any 0 A c bs w (by omega) hb hr hlen
  have H := Lib.hid h
  clear h
  go_enter Tryd.func63, Tryd.ntmps63
  go_wp2_with fail
  refine H.out.mono ?_
  rintro e w1 ⟨rfl, hB1⟩
  go_wp2
  go_ret
  exact ⟨rfl, hB1⟩
theorem rsum_any (A : Option Addr) (c n : Nat) (bs : List Nat) (w : World) (hn : bs.length = n) (hb : ∀ x ∈ bs, x < 256) (hr : Rd w A (u8s bs)) (hlen : n ≤ 140737488355328) :
    Calls Tryd.prog 55 #[.slice A n c] w fun e w' => e = .returned (.int .u32 (sumL bs : Int)) ∧ w = w' := by
  subst hn
  have h := rwith_any 0 A c bs w (by omega) hb hr hlen
  have H := Lib.hid h
  clear h
  go_enter Tryd.func55, Tryd.ntmps55
  go_wp2_with fail
  refine H.out.mono ?_
  rintro e w1 ⟨rfl, rfl⟩
  go_wp2
  go_ret
  exact ⟨rfl, rfl⟩
theorem with_len (s : Nat) (A : Option Addr) (c n : Nat) (bs : List Nat) (w : World) (hn : bs.length = n) (hs : s < 4294967296) (hb : ∀ x ∈ bs, x < 256) (hr : Rd w A (u8s bs)) (hlen : n ≤ 140737488355328) :
    Calls Tryd.prog 69 #[.int .u32 (s : Int), .slice A n c] w fun e w' => e = .returned (.int .u32 (withL s bs : Int)) ∧ Below w.heap.size w w' := by
  subst hn
  exact with_any s A c bs w hs hb hr hlen
end Go.Proofs.YthhkkiegfcofjaaDoor
