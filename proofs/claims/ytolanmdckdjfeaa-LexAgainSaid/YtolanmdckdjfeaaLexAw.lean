/- Layer 9: what every law checks first. -/
import Derived.Test.YtolanmdckdjfeaaLexTok
import Derived.Test.YtolanmdckdjfeaaLexWd
namespace Go.Proofs.Ytolanmdckdjfeaa
open Go.RowKit

theorem aw1 : full [97, 49, 45, 62, 98, 58, 120, 32, 47, 47, 32, 121] = ([⟨1, [97, 49], 0, 0⟩, ⟨4, [45, 62], 0, 2⟩, ⟨1, [98], 0, 4⟩, ⟨4, [58], 0, 5⟩, ⟨1, [120], 0, 6⟩], 0, 0) := by decide +kernel
theorem aw2 : full [32, 49, 50, 97] = ([], 1, 3) := by decide +kernel
theorem aw3 : nmB [111, 114] = true := by decide +kernel
theorem aw4 : wdB [111, 114] = false := by decide +kernel
theorem tokens_lit (l : List UInt8) (ts : List Tok) (a x : Nat) (h : full l = (ts, a, x)) (w : World) : Calls Try.prog 11 #[.string ⟨l.toArray⟩] w fun e w' => ∃ v, e = .returned (.tuple #[v, .int .i64 (a : Int), .int .i64 (x : Int)]) ∧ Toks w' v ts ∧ Below w.heap.size w w' := by
  refine (tokens_any l w).mono fun e w' hp => ?_
  obtain ⟨v, h1, h2, h3⟩ := hp
  rw [h] at h1 h2
  exact ⟨v, h1, h2, h3⟩
set_option maxRecDepth 100000 in
set_option maxHeartbeats 1000000 in
theorem awake_any (w : World) : Calls Try.prog 10 #[] w fun e w' => e = .returned (.bool true) ∧ Below w.heap.size w w' := by
  go_enter Try.func10, Try.ntmps10
  go_wp2_with fail
  refine (tokens_lit [97, 49, 45, 62, 98, 58, 120, 32, 47, 47, 32, 121] _ _ _ aw1 _).mono ?_
  rintro e w1 ⟨v1, rfl, ht1, hb1⟩
  have HT := Lib.hid ht1
  have HB1 := Lib.hid hb1
  clear ht1 hb1
  go_wp2_with fail
  refine (tokens_lit [32, 49, 50, 97] _ _ _ aw2 _).mono ?_
  rintro e w2 ⟨v2, rfl, ht2, hb2⟩
  have HB2 := Lib.hid (HB1.out.trans (hb2.mono HB1.out.size))
  have HT2 := Lib.hid (HT.out.below hb2)
  clear ht2 hb2
  obtain ⟨ad, c, rfl, hc, a0, a1, a2, a3⟩ := toks_cell HT2.out 0 (by decide)
  obtain ⟨ad', c', he, hc', b0, b1, b2, b3⟩ := toks_cell HT2.out 1 (by decide)
  simp only [Value.slice.injEq, Option.some.injEq] at he
  obtain ⟨rfl, _, rfl⟩ := he
  have A0 : w2.cell? ad = some (.int .i64 1) := a0
  have A1 : w2.cell? ⟨ad.block, ad.off + 1, none⟩ = some (.string { data := #[97, 49] }) := a1
  have A2 : w2.cell? ⟨ad.block, ad.off + 2, none⟩ = some (.int .i64 0) := a2
  have A3 : w2.cell? ⟨ad.block, ad.off + 3, none⟩ = some (.int .i64 0) := a3
  have C0 : w2.cell? ⟨ad.block, ad.off + 4, none⟩ = some (.int .i64 4) := b0
  have C1 : w2.cell? ⟨ad.block, ad.off + 4 + 1, none⟩ = some (.string { data := #[45, 62] }) := b1
  have C2 : w2.cell? ⟨ad.block, ad.off + 4 + 2, none⟩ = some (.int .i64 0) := b2
  have C3 : w2.cell? ⟨ad.block, ad.off + 4 + 3, none⟩ = some (.int .i64 2) := b3
  clear hc' HT a0 a1 a2 a3 b0 b1 b2 b3
  go_wp2_with fail
  refine (isName_any [111, 114] _).mono ?_; rintro e w3 ⟨rfl, rfl⟩; rw [aw3]
  go_wp2_with fail
  refine (isWord_any [111, 114] _).mono ?_; rintro e w3 ⟨rfl, rfl⟩; rw [aw4]
  go_wp2
  go_ret
  exact ⟨rfl, HB2.out⟩
end Go.Proofs.Ytolanmdckdjfeaa
