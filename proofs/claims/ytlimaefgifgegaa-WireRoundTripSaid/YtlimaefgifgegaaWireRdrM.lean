/- A reader in memory: its block, its bytes; what keeps it. -/
import Derived.Test.YtlimaefgifgegaaWireDigM
import Derived.Test.YtlimaefgifgegaaRows
import Derived.Lib.Hide
import Derived.Deep.Draws
namespace Go.Proofs.Ytlimaefgifgegaa
open Go.RowKit

/-- A reader: its block g, its bytes xs at A, the offset k, failed or not. -/
structure Rdr (w : World) (g : Nat) (A : Option Addr) (n c : Nat) (xs : List Nat) (k : Nat) (fl : Bool) : Prop where
  blk : w.heap[g]? = some (.cells #[.slice A n c, .int .i64 (k : Int), .bool fl] 64 (0, 0))
  len : xs.length = n
  cap : n ≤ c
  off : k ≤ n
  data : xs = [] ∨ ∃ ad, A = some ad ∧ ad.block ≠ g ∧ ad.block < w.heap.size ∧ ∀ j b, xs[j]? = some b → w.cell? (ad.add j) = some (bv b)
  byt : Byt xs
  room : Room2 n

section
variable {w w' : World} {g n c k : Nat} {A : Option Addr} {xs : List Nat} {fl : Bool}
theorem Rdr.lt (h : Rdr w g A n c xs k fl) : g < w.heap.size := lt_of_some h.blk
theorem Rdr.cell (h : Rdr w g A n c xs k fl) (i : Nat) : w.cell? ⟨g, i, none⟩ = (#[Value.slice A n c, .int .i64 (k : Int), .bool fl])[i]? := cell_of_row w g i _ _ _ h.blk
theorem Rdr.free (h : Rdr w g A n c xs k fl) (i : Nat) : w.frozen? ⟨g, i, none⟩ = false := by simp [World.frozen?, h.blk]
theorem Rdr.bs (h : Rdr w g A n c xs k fl) : Bs w A xs := by
  rcases h.data with h0 | ⟨ad, hA, _, _, hc⟩
  · exact .inl h0
  · exact .inr ⟨ad, hA, hc⟩
theorem Rdr.drewN (h : Rdr w g A n c xs k fl) (m : Nat) : Rdr (w.drewN m) g A n c xs k fl := ⟨h.blk, h.len, h.cap, h.off, h.data, h.byt, h.room⟩
/-- Whoever leaves the blocks of w alone, but for others than the reader's and its bytes', leaves the reader alone. -/
theorem Rdr.keep (h : Rdr w g A n c xs k fl) {P : Nat → Prop} (hg : ¬ P g) (hA : ∀ ad, A = some ad → ¬ P ad.block) (hs : w.heap.size ≤ w'.heap.size) (hk : ∀ b, b < w.heap.size → ¬ P b → w'.heap[b]? = w.heap[b]?) : Rdr w' g A n c xs k fl := by
  refine ⟨(hk g h.lt hg).trans h.blk, h.len, h.cap, h.off, ?_, h.byt, h.room⟩
  rcases h.data with h0 | ⟨ad, hAd, hne, hlt, hc⟩
  · exact .inl h0
  · refine .inr ⟨ad, hAd, hne, by omega, fun j b hj => ?_⟩
    rw [World.cell?_of_block (w := w) (by rw [addr_add_block]; exact hk _ hlt (hA ad hAd))]
    exact hc j b hj
theorem Rdr.below (h : Rdr w g A n c xs k fl) (hb : Below w.heap.size w w') : Rdr w' g A n c xs k fl :=
  h.keep (P := fun _ => False) (fun x => x) (fun _ _ x => x) hb.size (fun b hlt _ => hb.block b hlt)
/-- The reader behind a write of one of its fields. -/
theorem Rdr.put (h : Rdr w g A n c xs k fl) {v : Value} {i k' : Nat} {fl' : Bool} (e : (#[Value.slice A n c, .int .i64 (k : Int), .bool fl]).setIfInBounds i v = #[.slice A n c, .int .i64 (k' : Int), .bool fl']) (hk : k' ≤ n) : Rdr (w.setCell ⟨g, i, none⟩ v) g A n c xs k' fl' := by
  refine ⟨by rw [heap_set h.blk, e], h.len, h.cap, hk, ?_, h.byt, h.room⟩
  rcases h.data with h0 | ⟨ad, hAd, hne, hlt, hc⟩
  · exact .inl h0
  · refine .inr ⟨ad, hAd, hne, by simp [World.setCell]; exact hlt, fun j b hj => ?_⟩
    rw [World.cell?_of_block (w := w) (by rw [addr_add_block]; exact Below.heap_setCell _ _ _ _ hne)]
    exact hc j b hj
theorem Rdr.fail (h : Rdr w g A n c xs k fl) : Rdr (w.setCell ⟨g, 2, none⟩ (.bool true)) g A n c xs k true := h.put (by simp) h.off
theorem Rdr.go (h : Rdr w g A n c xs k fl) (k' : Nat) (hk : k' ≤ n) : Rdr (w.setCell ⟨g, 1, none⟩ (.int .i64 (k' : Int))) g A n c xs k' fl := h.put (by simp) hk

/-- w' is w with new blocks and with writes to block g alone. -/
structure Only (g : Nat) (w w' : World) : Prop where
  os : w'.os = w.os
  tape : w'.tape = w.tape
  output : w'.output = w.output
  size : w.heap.size ≤ w'.heap.size
  block : ∀ k, k < w.heap.size → k ≠ g → w'.heap[k]? = w.heap[k]?
theorem Only.refl (g : Nat) (w : World) : Only g w w := ⟨rfl, rfl, rfl, Nat.le_refl _, fun _ _ _ => rfl⟩
theorem Only.trans {a b c : World} (h : Only g a b) (k : Only g b c) : Only g a c :=
  ⟨k.os.trans h.os, k.tape.trans h.tape, k.output.trans h.output, Nat.le_trans h.size k.size, fun i hi hn => (k.block i (Nat.lt_of_lt_of_le hi h.size) hn).trans (h.block i hi hn)⟩
theorem Only.drewN {a b : World} (h : Only g a b) (m : Nat) : Only g a (b.drewN m) := ⟨h.os, h.tape, h.output, h.size, h.block⟩
theorem Only.set {a b : World} (h : Only g a b) (i : Nat) (v : Value) : Only g a (b.setCell ⟨g, i, none⟩ v) :=
  h.trans ⟨rfl, rfl, rfl, by simp [World.setCell], fun k _ hn => Below.heap_setCell _ _ _ _ hn⟩
theorem Only.below {a b c : World} (h : Only g a b) (hb : Below b.heap.size b c) : Only g a c :=
  h.trans ⟨hb.os, hb.tape, hb.output, hb.size, fun k hk _ => hb.block k hk⟩
theorem Only.alloc {a b : World} (h : Only g a b) (o : Obj) : Only g a (b.alloc o) := h.below ((Below.refl _ _).alloc (Nat.le_refl _) o)
theorem Only.toBelow {B : Nat} (h : Only g w w') (hB : B ≤ g) (hw : B ≤ w.heap.size) : Below B w w' := ⟨h.os, h.tape, h.output, h.size, fun k hk => h.block k (by omega) (by omega)⟩
theorem Rdr.only {g' : Nat} (h : Rdr w g A n c xs k fl) (ho : Only g' w w') (hg : g ≠ g') (hA : ∀ ad, A = some ad → ad.block ≠ g') : Rdr w' g A n c xs k fl :=
  h.keep (P := fun b => b = g') hg hA ho.size ho.block
end

theorem drop_eq_of_zero {k n : Nat} {xs : List Nat} (h : xs.length = n) (hk : n ≤ k) : xs.drop k = [] := List.drop_eq_nil_of_le (by omega)
/-- s[k:] of bytes. -/
theorem Bs.cut {w : World} {A : Option Addr} {xs : List Nat} {n k cap : Nat} (h : Bs w A xs) (hn : xs.length = n) (hk : k ≤ n) (hc : n ≤ cap) : Bs w (if cap = k then A else A.map (·.add k)) (xs.drop k) := by
  by_cases he : k = n
  · left; exact List.drop_eq_nil_of_le (by omega)
  · rcases h with h | ⟨ad, rfl, h⟩
    · left; simp [h]
    · right
      refine ⟨ad.add k, by rw [if_neg (by omega)]; rfl, fun j c hj => ?_⟩
      rw [addr_add_add]
      exact h _ _ (by rw [← hj, List.getElem?_drop])
theorem Byt.drop {xs : List Nat} (h : Byt xs) (k : Nat) : Byt (xs.drop k) := fun c hc => h c (List.mem_of_mem_drop hc)

def unzig (u : Nat) : Int := if u % 2 = 0 then (u / 2 : Nat) else -((u / 2 : Nat) : Int) - 1
theorem unzig_zig (n : Int) : unzig (zig n) = n := by
  unfold unzig zig
  split <;> split <;> omega
theorem and1 (u : Nat) (h : u < 18446744073709551616) : bits .and .u64 (u : Int) 1 = ((u % 2 : Nat) : Int) := by
  have e : (1 : Int) = ((1 : Nat) : Int) := rfl
  rw [e, bits_and_u64_nat u 1 h (by decide)]
  congr 1
  exact Nat.and_one_is_mod u
theorem unzig_bits (u : Nat) (h : u < 18446744073709551616) : bits .xor .i64 (IntKind.i64.wrap ((u : Int) / 2)) (IntKind.i64.wrap (-(IntKind.i64.wrap (bits .and .u64 (u : Int) 1)))) = unzig u := by
  rw [and1 u h]
  have e1 : IntKind.i64.wrap ((u : Int) / 2) = ((u / 2 : Nat) : Int) := by rw [IntKind.wrap_i64]; omega
  have e2 : IntKind.i64.wrap ((u % 2 : Nat) : Int) = ((u % 2 : Nat) : Int) := by rw [IntKind.wrap_i64]; omega
  rw [e1, e2]
  have hlt : u / 2 < 2 ^ 63 := by omega
  unfold unzig
  show IntKind.i64.wrap ((BitVec.ofInt 64 ((u / 2 : Nat) : Int) ^^^ BitVec.ofInt 64 (IntKind.i64.wrap (-((u % 2 : Nat) : Int)))).toNat : Int) = _
  by_cases he : u % 2 = 0
  · have e3 : IntKind.i64.wrap (-((u % 2 : Nat) : Int)) = 0 := by rw [he, IntKind.wrap_i64]; omega
    rw [e3, if_pos he]
    simp only [BitVec.ofInt_natCast]
    have : (BitVec.ofNat 64 (u / 2) ^^^ BitVec.ofInt 64 0).toNat = u / 2 := by simp; omega
    rw [this, IntKind.wrap_i64]
    omega
  · have e3 : IntKind.i64.wrap (-((u % 2 : Nat) : Int)) = -1 := by
      have : u % 2 = 1 := by omega
      rw [this, IntKind.wrap_i64]; omega
    rw [e3, if_neg he]
    simp only [BitVec.ofInt_natCast]
    have ea : BitVec.ofInt 64 (-1) = BitVec.allOnes 64 := by decide
    rw [ea, BitVec.xor_allOnes, BitVec.toNat_not, BitVec.toNat_ofNat, Nat.mod_eq_of_lt (by omega), IntKind.wrap_i64]
    omega
theorem unzig_bits' (u : Nat) (h : U64 u) : bits .xor .i64 (wrap64 ((u : Int) / 2)) (wrap64 (-(wrap64 (bits .and .u64 (u : Int) 1)))) = unzig u := by
  have hw : ∀ x, wrap64 x = IntKind.i64.wrap x := fun x => by rw [IntKind.wrap_i64]; unfold wrap64; rfl
  simp only [hw]
  exact unzig_bits u h
end Go.Proofs.Ytlimaefgifgegaa
