/- Nothing is come to but roots, and what leads from them. No condition. -/
import Derived.Test.YtembafogbfcajaaGrStayPlain
namespace Go.Proofs.Ytembafogbfcajaa

/-- Of objects of which are all roots, and where their Refs lead, all that is come to is one. -/
theorem least_come {g : Gr} {some : List Bool} (hm : mayG g = true) (hr : ∀ r ∈ g.2.2, 0 ≤ r → some[(findG g.2.1 r).toNat]? = Option.some true)
    (hs : ∀ (i : Nat) o (k : Nat) f v, g.2.1[i]? = Option.some o → some[i]? = Option.some true → (fldsG g.1 o.2.1)[k]? = Option.some f → o.2.2[k]? = Option.some v → f.2.1 = 5 → 0 ≤ v.2.2 → some[(findG g.2.1 v.2.2).toNat]? = Option.some true) {x : Int} (hx : ComeG g x) : some[(findG g.2.1 x).toNat]? = Option.some true := by
  obtain ⟨id, h1, h2, h3⟩ := hx
  induction h3 with
  | here =>
    obtain ⟨p, hp, e⟩ := come_is hm (x := id) ⟨id, h1, h2, .here⟩
    have := (mayG_obj hm hp).id0
    exact hr id h1 (by omega)
  | step hf ho hr' ih =>
    rename_i o r
    obtain ⟨k, f, v, a1, a2, a3, a4, rfl⟩ := refsG_mem.1 hr'
    have hfo := findG_mem.2 ⟨o, ho, rfl⟩
    obtain ⟨i, p, e1, e2, e3, -⟩ := findG_at hfo
    obtain rfl := mayG_apart hm (List.mem_of_getElem? e2) ho e3
    rw [e1, Int.toNat_natCast] at ih
    obtain ⟨q, hq, e⟩ := findG_mem.1 (haveG_ref ((mayG_obj hm ho).have' k f v a1 a2) a3 a4).1
    have := (mayG_obj hm hq).id0
    exact hs i p k f v e2 ih a1 a2 a3 (by omega)
end Go.Proofs.Ytembafogbfcajaa
