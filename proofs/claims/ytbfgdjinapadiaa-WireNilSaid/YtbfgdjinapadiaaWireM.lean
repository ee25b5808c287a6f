/- Plain arithmetic of the wire format: zigzag, digits in base 128. -/
import Derived.WalkKit
import Derived.Deep.Draws
namespace Go.Proofs.Ytbfgdjinapadiaa
open Go.RowKit

def zig (n : Int) : Nat := if 0 ≤ n then (2 * n).toNat else (-2 * n - 1).toNat
def encF : Nat → Nat → List Nat
  | 0, u => [u]
  | f + 1, u => if u < 128 then [u] else (u % 128 + 128) :: encF f (u / 128)
def enc (n : Int) : List Nat := encF 9 (zig n)
def bv (c : Nat) : Value := .int .u8 (c : Int)

theorem zig_lt (n : Int) (h1 : -9223372036854775808 ≤ n) (h2 : n ≤ 9223372036854775807) : zig n < 18446744073709551616 := by
  unfold zig; split <;> omega

theorem zig_bits (n : Int) (h1 : -9223372036854775808 ≤ n) (h2 : n ≤ 9223372036854775807) :
    bits .xor .u64 (IntKind.u64.wrap (IntKind.u64.wrap n * 2)) (IntKind.u64.wrap (n / 9223372036854775808)) = (zig n : Int) := by
  simp only [IntKind.wrap_u64]
  by_cases hn : 0 ≤ n
  · have e1 : n / 9223372036854775808 = 0 := by omega
    have e2 : (n % 18446744073709551616 * 2) % 18446744073709551616 = ((2 * n).toNat : Int) := by omega
    have e3 : (0 : Int) % 18446744073709551616 = ((0 : Nat) : Int) := by omega
    rw [e1, e2, e3, u64_xor_nat _ _ (by omega) (by omega)]
    simp [zig, hn]
  · have e1 : n / 9223372036854775808 = -1 := by omega
    have e2 : (n % 18446744073709551616 * 2) % 18446744073709551616 = ((18446744073709551615 - (-2 * n - 1).toNat : Nat) : Int) := by omega
    have e3 : (-1 : Int) % 18446744073709551616 = ((18446744073709551615 : Nat) : Int) := by omega
    have hz : zig n = (-2 * n - 1).toNat := by simp [zig, hn]
    rw [e1, e2, e3, u64_xor_nat _ _ (by omega) (by omega), hz]
    have hlt : (-2 * n - 1).toNat < 2 ^ 64 := by omega
    congr 1
    have key : ∀ m : Nat, m < 2 ^ 64 → (18446744073709551615 - m) ^^^ 18446744073709551615 = m := by
      intro m hm
      have e : 18446744073709551615 - m = (~~~ (BitVec.ofNat 64 m)).toNat := by
        rw [BitVec.toNat_not, BitVec.toNat_ofNat, Nat.mod_eq_of_lt hm]
      have h3 : ((~~~ BitVec.ofNat 64 m) ^^^ BitVec.allOnes 64).toNat = m := by
        rw [BitVec.xor_allOnes]; simp; omega
      rw [BitVec.toNat_xor, ← e] at h3
      exact h3
    exact key _ hlt

theorem encF_len (f u : Nat) : (encF f u).length ≤ f + 1 := by
  induction f generalizing u with
  | zero => simp [encF]
  | succ f ih => unfold encF; split <;> simp; exact ih _

theorem encF_pos (f u : Nat) : 0 < (encF f u).length := by
  cases f with
  | zero => simp [encF]
  | succ f => unfold encF; split <;> simp

theorem encF_small {f u : Nat} (h : u < 128) : encF f u = [u] := by
  cases f with
  | zero => rfl
  | succ f => simp [encF, h]

theorem encF_big {f u : Nat} (h : 128 ≤ u) : encF (f + 1) u = (u % 128 + 128) :: encF f (u / 128) := by
  have : ¬ u < 128 := by omega
  simp [encF, this]

theorem or128 (u : Nat) : bits .or .u8 (IntKind.u8.wrap (u : Int)) 128 = ((u % 128 + 128 : Nat) : Int) := by
  have e : IntKind.u8.wrap (u : Int) = ((u % 256 : Nat) : Int) := by rw [IntKind.wrap_u8]; omega
  have e8 : (128 : Int) = ((128 : Nat) : Int) := rfl
  rw [e, e8, (bits_nat .u8 8 (by decide) (fun n h1 h2 => wraps_u8 n h1 h2) _ _ (by omega) (by omega)).2]
  congr 1
  by_cases hb : u % 256 < 128
  · rw [Nat.or_comm, nat_join 7 128 (u % 256) (by decide) hb]; omega
  · have e2 : u % 256 = 128 + u % 128 := by omega
    rw [e2, ← nat_join 7 128 (u % 128) (by decide) (by omega), Nat.or_comm, ← Nat.or_assoc, Nat.or_self, nat_join 7 128 (u % 128) (by decide) (by omega)]
    omega

theorem or128' (u : Nat) : bits .or .u8 ((u : Int) % 256) 128 = ((u % 128 + 128 : Nat) : Int) := by
  rw [← or128, IntKind.wrap_u8]

theorem bv_one (l : List Nat) : ∀ u ∈ l.map bv, u.oneCell' = true := by
  intro u hu
  obtain ⟨c, _, rfl⟩ := List.mem_map.1 hu
  rfl

def Room (len : Nat) : Prop := len ≤ 35184372088832
def Room2 (len : Nat) : Prop := len ≤ 140737488355000
def U64 (q : Nat) : Prop := q < 18446744073709551616
def I64 (n : Int) : Prop := -9223372036854775808 ≤ n ∧ n ≤ 9223372036854775807
theorem Room2.of {a b : Nat} (h : Room a) (hb : b ≤ 10000) : Room2 (a + b) := by unfold Room2; unfold Room at h; omega

/-- w' is w, but for new blocks and for blocks of type e from B on. -/
structure Frm (e B : Nat) (w w' : World) : Prop where
  os : w'.os = w.os
  tape : w'.tape = w.tape
  output : w'.output = w.output
  size : w.heap.size ≤ w'.heap.size
  block : ∀ k, k < w.heap.size → (k < B ∨ ∀ cs fr, w.heap[k]? ≠ some (.cells cs e fr)) → w'.heap[k]? = w.heap[k]?
section
variable {e B : Nat} {w w' : World}
theorem Frm.refl (e B : Nat) (w : World) : Frm e B w w := ⟨rfl, rfl, rfl, Nat.le_refl _, fun _ _ _ => rfl⟩
theorem Frm.trans {a b c : World} (h : Frm e B a b) (k : Frm e B b c) : Frm e B a c :=
  ⟨k.os.trans h.os, k.tape.trans h.tape, k.output.trans h.output, Nat.le_trans h.size k.size, fun i hi hn => by
    have h1 := h.block i hi hn
    rw [k.block i (Nat.lt_of_lt_of_le hi h.size) (by rw [h1]; exact hn), h1]⟩
theorem Frm.grown {v : Value} {n : Nat} {xs : List Value} (hown : w.ownsRow B e 1 v n xs) (hg : w.grownBy w' v.ownBlock) : Frm e B w w' :=
  ⟨hg.os, hg.tape, hg.output, hg.size, fun k hk hn => hg.block k hk (by
    intro he
    rcases hown.2 with ⟨rfl, _⟩ | ⟨g, cap, cur, rfl, hb, hh, _⟩
    · simp [Value.ownBlock] at he
    · simp [Value.ownBlock] at he
      subst he
      rcases hn with hn | hn
      · omega
      · exact hn _ _ hh)⟩
theorem Frm.alloc_ (w : World) (o : Obj) : Frm e B w (w.alloc o) := ⟨rfl, rfl, rfl, by simp, fun k hk _ => Below.heap_alloc w o k hk⟩
theorem Frm.alloc {a : World} (h : Frm e B a w) (o : Obj) : Frm e B a (w.alloc o) := h.trans (Frm.alloc_ w o)
theorem Frm.drewN {a : World} (h : Frm e B a w) (m : Nat) : Frm e B a (w.drewN m) := ⟨h.os, h.tape, h.output, h.size, h.block⟩
theorem Frm.mono {B' : Nat} (h : Frm e B w w') (hB : B' ≤ B) : Frm e B' w w' := ⟨h.os, h.tape, h.output, h.size, fun k hk hn => h.block k hk (hn.imp (by omega) id)⟩
theorem Frm.below (h : Frm e B w w') (hB : B ≤ w.heap.size) : Below B w w' := ⟨h.os, h.tape, h.output, h.size, fun k hk => h.block k (by omega) (.inl hk)⟩
/-- A block of another type stays. -/
theorem Frm.keeps {g t : Nat} {cs : Array Value} (h : Frm e B w w') (hb : w.heap[g]? = some (.cells cs t (0, 0))) (ht : t ≠ e) : w'.heap[g]? = some (.cells cs t (0, 0)) := by
  rw [h.block g (Array.getElem?_eq_some_iff.1 hb).1 (.inr fun cs' fr hc => by rw [hb] at hc; cases hc; exact ht rfl), hb]
end

/-- append(s, c) of one element c of one cell and one byte, s a row of the call's own: c lies in a new block first. -/
theorem app1 {P : Program} {w : World} {ops : Array Oper} {rest : List Oper} {o : Oper} {a : Act} {Q : Exit → Act → World → Prop} (hgd : o.guard = none) (s x : Operand) (t : TypeId)
    (ho : o.op = .call { callee := .builtin .append, args := #[s, x], argTypes := #[t, t] })
    (e : TypeId) (z : Value) (hinfo : (P.info? e).map (fun i => (i.zero, i.size, i.bytes)) = some (some z, 1, 1)) (ht : P.underlying t = some (.slice e)) (hzs : z.cells.size = 1)
    (B : Nat) (v : Value) (n : Nat) (xs : List Value) (hs : a.eval s = v) (hown : w.ownsRow B e 1 v n xs) (c : Value) (hx : a.eval x = .slice (some ⟨w.heap.size, 0, none⟩) 1 1) (h1 : c.oneCell' = true)
    (hr : Room2 n) (hB : B ≤ w.heap.size)
    (h : ∀ v' w', w'.ownsRow B e 1 v' (n + 1) (xs ++ [c]) → Frm e B w w' → wpList P ops Q rest (a.put o.dst v') w') : wpList P ops Q (o :: rest) a (w.alloc (.cells #[c] e)) := by
  obtain ⟨i0, hi, hz0, hz1, hz2⟩ := info_parts hinfo
  unfold Room2 at hr
  refine wpList_append_own _ hgd s x t ho B e i0 z 1 1 ht hi hz0 hz1 hz2 hzs (by decide) v n xs hs (hown.alloc _) ⟨w.heap.size, 0, none⟩ 1 1 [c] hx rfl ?_ ?_ ?_ ?_ ?_ ?_
  · intro j u hj
    match j, hj with
    | 0, hj => simp at hj; subst hj; simp [Addr.add]
  · intro u hu; simp at hu; subst hu; exact h1
  · unfold maxLen; omega
  · omega
  · simp; omega
  · intro v' w' hown' hg _
    exact h v' w' hown' ((Frm.alloc_ w _).trans (Frm.grown (hown.alloc _) hg))
end Go.Proofs.Ytbfgdjinapadiaa
