/- Slices of pairs of integers. -/
import Derived.Test.YtcekfgahhicdcaaBytes
namespace Go.Proofs.Ytcekfgahhicdcaa
open Go.RowKit

def Prs (w : World) (v : Value) (es : List (Int × Int)) : Prop :=
  (v = .slice none 0 0 ∧ es = []) ∨ ∃ ad c, v = .slice (some ad) es.length c ∧ es.length ≤ c ∧ ∀ j (p : Int × Int), es[j]? = some p → w.cell? (ad.add (j * 2)) = some (.int .i64 p.1) ∧ w.cell? ⟨(ad.add (j * 2)).block, (ad.add (j * 2)).off + 1, none⟩ = some (.int .i64 p.2)
theorem Prs.shape {w : World} {v : Value} {es : List (Int × Int)} (h : Prs w v es) : ∃ A c, v = .slice A es.length c := by
  rcases h with ⟨rfl, rfl⟩ | ⟨ad, c, rfl, _⟩
  · exact ⟨none, 0, rfl⟩
  · exact ⟨some ad, c, rfl⟩
theorem Prs.below {w w' : World} {v : Value} {es : List (Int × Int)} (h : Prs w v es) (hb : Below w.heap.size w w') : Prs w' v es := by
  rcases h with h | ⟨ad, c, rfl, hc, hcell⟩
  · exact .inl h
  · refine .inr ⟨ad, c, rfl, hc, fun j p hp => ?_⟩
    obtain ⟨h1, h2⟩ := hcell j p hp
    exact ⟨(hb.cell (World.block_lt_of_cell? _ _ h1)).trans h1, (hb.cell (World.block_lt_of_cell? _ _ h2)).trans h2⟩
theorem prs_cell {w : World} {v : Value} {es : List (Int × Int)} (h : Prs w v es) (k : Nat) (hk : k < es.length) : ∃ ad c, v = .slice (some ad) es.length c ∧ es.length ≤ c ∧ w.cell? (ad.add (k * 2)) = some (.int .i64 es[k].1) ∧ w.cell? ⟨(ad.add (k * 2)).block, (ad.add (k * 2)).off + 1, none⟩ = some (.int .i64 es[k].2) := by
  rcases h with ⟨rfl, rfl⟩ | ⟨ad, c, rfl, hc, hcell⟩
  · simp at hk
  · obtain ⟨h1, h2⟩ := hcell k es[k] (List.getElem?_eq_getElem hk)
    exact ⟨ad, c, rfl, hc, h1, h2⟩
end Go.Proofs.Ytcekfgahhicdcaa
