/- Layer 9: the keywords: what the functions answer of them. -/
import Derived.Test.YtolanmdckdjfeaaLexAw
namespace Go.Proofs.Ytolanmdckdjfeaa
open Go.RowKit

def kwCells : Array Value := (kws.map fun l => Value.string (ofL l)).toArray
theorem keywords_any (w : World) : Calls Try.prog 22 #[] w fun e w' => e = .returned (.slice (some ⟨w.heap.size, 0, none⟩) 28 28) ∧ w' = w.alloc (.cells kwCells 9) := by
  go_enter Try.func22, Try.ntmps22
  go_wp2
  go_ret
  exact ⟨rfl, rfl⟩
theorem kw_facts : ∀ k ∈ kws, nmB k = true ∧ wdB k = false ∧ wdB (UInt8.ofNat (nxt k - 32) :: k.tail) = true ∧ full k = ([⟨1, k, 0, 0⟩], 0, 0) ∧ 97 ≤ nxt k ∧ nxt k ≤ 122 ∧ 2 ≤ k.length ∧ k.length ≤ 16 := by decide +kernel
theorem kw_longer : ∀ k ∈ kws, ∀ c < 26, wdB (k ++ [UInt8.ofNat (97 + c)] ++ [120]) = true := by decide +kernel
theorem isName_at (s : ByteArray) (l : List UInt8) (hs : s = ofL l) (b : Bool) (hb : nmB l = b) (w : World) : Calls Try.prog 15 #[.string s] w fun e w' => e = .returned (.bool b) ∧ w' = w := by
  subst hs; subst hb
  exact (isName_any l w).mono fun e w' ⟨h1, h2⟩ => ⟨h1, h2.symm⟩
theorem isWord_at (s : ByteArray) (l : List UInt8) (hs : s = ofL l) (b : Bool) (hb : wdB l = b) (w : World) : Calls Try.prog 17 #[.string s] w fun e w' => e = .returned (.bool b) ∧ w' = w := by
  subst hs; subst hb
  exact (isWord_any l w).mono fun e w' ⟨h1, h2⟩ => ⟨h1, h2.symm⟩
theorem tokens_at (s : ByteArray) (l : List UInt8) (hs : s = ofL l) (ts : List Tok) (a x : Nat) (h : full l = (ts, a, x)) (w : World) : Calls Try.prog 11 #[.string s] w fun e w' => ∃ v, e = .returned (.tuple #[v, .int .i64 (a : Int), .int .i64 (x : Int)]) ∧ Toks w' v ts ∧ Below w.heap.size w w' := by
  subst hs
  exact tokens_lit l ts a x h w
end Go.Proofs.Ytolanmdckdjfeaa
