/- value: strings.NewReplacer at value's four strings. -/
import Derived.Test.YtnainhpcmoekcaaGreatDoorVaO
namespace Go.Proofs.YtnainhpcmoekcaaGreatDoor
open Go.RowKit

theorem Strs.below {w w' : World} {o : Nat} (h : Strs w o) (hb : Below w.heap.size w w') : Strs w' o := by
 have hl : o < w.heap.size := World.block_lt_of_cell? _ _ h.1
 exact ⟨(hb.cell hl).trans h.1, (hb.cell hl).trans h.2.1, (hb.cell hl).trans h.2.2.1, (hb.cell hl).trans h.2.2.2⟩
def fourS : List Value := [.string ⟨#[34]⟩, .string ⟨#[92, 34]⟩, .string ⟨#[92]⟩, .string ⟨#[92, 92]⟩]
theorem addr_0 (g i : Nat) : (⟨g, 0, none⟩ : Addr).add i = ⟨g, i, none⟩ := by unfold Addr.add; split <;> simp_all
theorem own_strs {w : World} {B : Nat} {v : Value} (h : w.ownsRow B 9 1 v 4 fourS) : ∃ o c, v = .slice (some ⟨o, 0, none⟩) 4 c ∧ B ≤ o ∧ o < w.heap.size ∧ Strs w o := by
 rcases h.2 with ⟨rfl, h0⟩ | ⟨o, cap, cur, rfl, hB, ho, _⟩
 ·cases h0
 ·have hc := @World.ownsRow.cells _ _ _ _ _ _ _ h
  have e : ∀ i u, fourS[i]? = some u → w.cell? ⟨o, i, none⟩ = some u := fun i u hu => by
   have := hc (g := o) rfl i u hu
   rwa [addr_0] at this
  exact ⟨o, cap, rfl, hB, lt_of_some ho, e 0 _ rfl, e 1 _ rfl, e 2 _ rfl, e 3 _ rfl⟩
def NewP (w : World) (e : Ending) (w' : World) : Prop := ∃ rb o c, e = .returned (.pointer (some ⟨rb, 0, none⟩)) ∧ w.heap.size ≤ rb ∧ Bx w' rb 109 #[.int .u32 0, .int .i32 0, .int .u32 0, .nilIface, .slice (some ⟨o, 0, none⟩) 4 c] ∧ Strs w' o ∧ o ≠ rb ∧ Below w.heap.size w w'
set_option maxRecDepth 100000 in
theorem new_any (g : Nat) (w : World) (hs : Strs w g) :
  Calls Tryz.prog 55 #[.slice (some ⟨g, 0, none⟩) 4 4] w (NewP w) := by
 have HS := Lib.hid hs
 obtain ⟨i0, hi, hz0, hz1, hz2⟩ := info_parts info_str
 go_enter Tryz.func55, Tryz.ntmps55
 have hcells : ∀ (j : Nat) (u : Value), fourS[j]? = some u → w.cell? ((⟨g, 0, none⟩ : Addr).add j) = some u := fun j u hu => by
  rw [addr_0]
  match j, hu with
  | 0, hu => cases hu; exact hs.1
  | 1, hu => cases hu; exact hs.2.1
  | 2, hu => cases hu; exact hs.2.2.1
  | 3, hu => cases hu; exact hs.2.2.2
 have hone : ∀ u ∈ fourS, u.oneCell' = true := fun u hu => by
  simp [fourS] at hu
  rcases hu with rfl | rfl | rfl | rfl <;> rfl
 have HC := Lib.hid hcells; have H1 := Lib.hid hone
 clear hs hcells hone
 go_wp2_with (at_builtin; refine wpList_append_own _ rfl _ _ 75 rfl w.heap.size 9 i0 (.string ⟨#[]⟩) 1 16 Tryz.underlying75 hi hz0 hz1 hz2 rfl (by decide) (.slice none 0 0) 0 [] rfl (World.ownsRow_nil _ _ _ _) ⟨g, 0, none⟩ 4 4 fourS rfl rfl HC.out H1.out (by unfold maxLen; omega) (by omega) (Nat.le_refl _) ?_; intro v' w1 hown hg _; obtain ⟨o, c, rfl, hB, hlt, hst⟩ := own_strs hown)
 have hb1 : Below w.heap.size w w1 := ⟨hg.os, hg.tape, hg.output, hg.size, fun k hk => hg.block k hk (by intro h; cases h)⟩
 go_wp2_with fail
 go_ret
 have hba := al1 w1 (.cells #[.int .u32 0, .int .i32 0, .int .u32 0, .nilIface, .slice (some ⟨o, 0, none⟩) 4 c] 109)
 exact ⟨w1.heap.size, o, c, rfl, hg.size, heap_alloc_new w1 _, hst.below hba, by omega, below_ext2 hb1 hba⟩
end Go.Proofs.YtnainhpcmoekcaaGreatDoor
