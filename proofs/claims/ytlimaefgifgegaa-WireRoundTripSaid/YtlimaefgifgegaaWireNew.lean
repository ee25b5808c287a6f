/- The contracts of bytes.Clone and wire.New. -/
import Derived.Test.YtlimaefgifgegaaWireRdr
import Derived.Test.YtlimaefgifgegaaWireInt
import Derived.WalkSpells
import Derived.WalkLawsBesides
namespace Go.Proofs.Ytlimaefgifgegaa
open Go.RowKit

def ClonePost (w : World) (xs : List Nat) (e : Ending) (w' : World) : Prop :=
  ∃ A c, e = .returned (.slice A xs.length c) ∧ xs.length ≤ c ∧ (xs = [] ∨ ∃ g, A = some ⟨g, 0, none⟩ ∧ w.heap.size ≤ g ∧ g < w'.heap.size ∧ ∀ j b, xs[j]? = some b → w'.cell? ((⟨g, 0, none⟩ : Addr).add j) = some (bv b)) ∧ Below w.heap.size w w'

set_option maxHeartbeats 400000 in
theorem clone_any (v : Value) (xs : List Nat) (w : World) (hx : Bsl w v xs) (hr : Room2 xs.length) : Calls Try.prog 34 #[v] w (ClonePost w xs) := by
  have heq := fun (w : World) (A : Option Addr) (n c : Nat) => Lib.run_eql_slice_nil (P := Try.prog) w 24 5 A n c 0 0 Try.underlying24
  rcases hx with ⟨rfl, rfl⟩ | ⟨ad, c, rfl, hc, hcell⟩
  · go_enter Try.func34, Try.ntmps34
    go_wp2
    go_ret
    exact ⟨none, 0, rfl, by simp, .inl rfl, Below.refl _ _⟩
  · obtain ⟨i0, hi, hz0, hz1, hz2⟩ := info_parts info_u8
    have hown := World.ownsRow_made (e := 5) (size := 1) w #[] 0 (Nat.le_refl _) (by decide) rfl
    have hcells : ∀ j u, (xs.map bv)[j]? = some u → (w.alloc (.cells #[] 5)).cell? (ad.add j) = some u := by
      intro j u hu
      rw [List.getElem?_map] at hu
      cases hj : xs[j]? with
      | none => rw [hj] at hu; cases hu
      | some b =>
        rw [hj] at hu
        have hw := hcell j b hj
        rw [World.cell?_alloc_lt _ _ _ (World.block_lt_of_cell? _ _ hw), hw]
        exact hu
    have Hc := Lib.hid hcells
    have Hr := Lib.hid hr
    clear hcells hcell hr
    go_enter Try.func34, Try.ntmps34
    go_wp2_with (at_builtin; refine wpList_append_own _ rfl _ _ 24 rfl w.heap.size 5 i0 (.int .u8 0) 1 1 Try.underlying24 hi hz0 hz1 hz2 rfl (by decide) _ _ _ rfl hown ad xs.length c (xs.map bv) rfl (by simp) Hc.out (bv_one xs) (by have := Hr.out; unfold Room2 at this; unfold maxLen; omega) (by have := Hr.out; unfold Room2 at this; omega) (by simp) ?_; intro v' w1 hown1 hg1 _)
    go_ret
    obtain ⟨hlen, hf⟩ := hown1
    have hbel : Below w.heap.size w w1 := ((Below.refl _ w).alloc (Nat.le_refl _) _).grown hg1 (by simp) (fun k hk => (hown.lt k hk).1)
    rcases hf with ⟨rfl, h0⟩ | ⟨g, cap, cur, rfl, hg, hh, hn, _, _, htk⟩
    · exact ⟨none, 0, by rw [show xs.length = 0 by omega]; rfl, by omega, .inl (List.eq_nil_of_length_eq_zero (by omega)), hbel⟩
    · refine ⟨some ⟨g, 0, none⟩, cap, by simp, by omega, .inr ⟨g, rfl, hg, lt_of_some hh, ?_⟩, hbel⟩
      intro j b hj
      have hcl := World.ownsRow.cells (w := w1) (base := w.heap.size) (e := 5) (size := 1) (v := .slice (some ⟨g, 0, none⟩) (0 + xs.length) cap) (n := 0 + xs.length) (xs := [] ++ xs.map bv) ⟨hlen, .inr ⟨g, cap, cur, rfl, hg, hh, hn, ‹_›, ‹_›, htk⟩⟩ (g := g) rfl j (bv b)
      exact hcl (by simp [List.getElem?_map, hj])

def NewPost (w : World) (xs : List Nat) (e : Ending) (w' : World) : Prop :=
  ∃ g A c, e = .returned (.pointer (some ⟨g, 0, none⟩)) ∧ w.heap.size ≤ g ∧ (xs = [] ∨ ∀ ad, A = some ad → w.heap.size ≤ ad.block) ∧ Rdr w' g A xs.length c xs 0 false ∧ Below w.heap.size w w'

theorem new_any (v : Value) (xs : List Nat) (w : World) (hx : Bsl w v xs) (hb : Byt xs) (hr : Room2 xs.length) : Calls Try.prog 13 #[v] w (NewPost w xs) := by
  go_enter Try.func13, Try.ntmps13
  go_wp2_with (go_at_call 34; refine (clone_any _ xs w hx hr).mono ?_; rintro e w1 ⟨A, c, rfl, hc, hd, hbel⟩)
  go_ret
  refine ⟨w1.heap.size, A, c, rfl, hbel.size, ?_, ⟨?_, rfl, hc, Nat.zero_le _, ?_, hb, hr⟩, hbel.alloc hbel.size _⟩
  · rcases hd with h0 | ⟨g, hA, hg, _, _⟩
    · exact .inl h0
    · exact .inr fun ad had => by rw [hA] at had; cases had; exact hg
  · simpa using heap_alloc_new w1 _
  · rcases hd with h0 | ⟨g, hA, _, hg2, hcl⟩
    · exact .inl h0
    · refine .inr ⟨⟨g, 0, none⟩, hA, by show g ≠ _; omega, by simp; omega, fun j b hj => ?_⟩
      have h1 := hcl j b hj
      rw [World.cell?_alloc_lt _ _ _ (World.block_lt_of_cell? _ _ h1), h1]
end Go.Proofs.Ytlimaefgifgegaa
