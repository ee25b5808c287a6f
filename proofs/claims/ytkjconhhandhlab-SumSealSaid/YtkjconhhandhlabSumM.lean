/- Plain arithmetic of the hash: its step, that each step can be undone, its bytes and its digits. -/
import Derived.Test.YtkjconhhandhlabBytes
namespace Go.Proofs.Ytkjconhhandhlab
open Go.RowKit

def fstep (h c : Nat) : Nat := ((h ^^^ c) * 1099511628211) % 18446744073709551616
def fnv (h : Nat) (xs : List Nat) : Nat := xs.foldl fstep h
def fbase : Nat := 14695981039346656037
theorem fnv_nil (h : Nat) : fnv h [] = h := by rw [fnv, List.foldl_nil]
theorem fnv_snoc (h : Nat) (xs : List Nat) (c : Nat) : fnv h (xs ++ [c]) = fstep (fnv h xs) c := by rw [fnv, List.foldl_append, List.foldl_cons, List.foldl_nil, fnv]
theorem fnv_cons (h c : Nat) (xs : List Nat) : fnv h (c :: xs) = fnv (fstep h c) xs := by rw [fnv, List.foldl_cons, fnv]
theorem fnv_app (h : Nat) (xs ys : List Nat) : fnv h (xs ++ ys) = fnv (fnv h xs) ys := by rw [fnv, List.foldl_append, fnv, fnv]
theorem fstep_lt (h c : Nat) : fstep h c < 18446744073709551616 := Nat.mod_lt _ (by decide)
theorem fnv_lt (xs : List Nat) : ∀ h, h < 18446744073709551616 → fnv h xs < 18446744073709551616 := by
  induction xs with
  | nil => intro h hh; rw [fnv_nil]; exact hh
  | cons c xs ih => intro h _; rw [fnv_cons]; exact ih _ (fstep_lt h c)
theorem fnv_take (h : Nat) (xs : List Nat) (k : Nat) (hk : k < xs.length) : fnv h (xs.take (k + 1)) = fstep (fnv h (xs.take k)) xs[k] := by
  rw [List.take_succ_eq_append_getElem hk, fnv_snoc]

theorem step_int (q c : Nat) (hq : q < 18446744073709551616) (hc : c < 256) :
    IntKind.u64.wrap (bits .xor .u64 (q : Int) (c : Int) * 1099511628211) = ((fstep q c : Nat) : Int) := by
  rw [u64_xor_nat _ _ hq (by omega), IntKind.wrap_u64]
  unfold fstep
  omega

theorem xor_lt {a b : Nat} (ha : a < 18446744073709551616) (hb : b < 18446744073709551616) : a ^^^ b < 18446744073709551616 := Nat.xor_lt_two_pow (n := 64) ha hb
theorem xor_cancel_r {a b c : Nat} (h : a ^^^ c = b ^^^ c) : a = b := by
  have := congrArg (· ^^^ c) h
  simpa [Nat.xor_assoc] using this
theorem xor_cancel_l {a b c : Nat} (h : c ^^^ a = c ^^^ b) : a = b := by
  have := congrArg (c ^^^ ·) h
  simpa [← Nat.xor_assoc] using this
theorem mul_inj {a b : Nat} (ha : a < 18446744073709551616) (hb : b < 18446744073709551616) (h : (a * 1099511628211) % 18446744073709551616 = (b * 1099511628211) % 18446744073709551616) : a = b := by
  have e : ∀ x, x < 18446744073709551616 → ((x * 1099511628211) % 18446744073709551616 * 14886173955864302971) % 18446744073709551616 = x := by
    intro x hx
    rw [Nat.mod_mul_mod, Nat.mul_assoc, ← Nat.mul_mod_mod, show (1099511628211 * 14886173955864302971) % 18446744073709551616 = 1 by decide]
    omega
  rw [← e a ha, ← e b hb, h]
theorem fstep_inj {h k c : Nat} (hh : h < 18446744073709551616) (hk : k < 18446744073709551616) (hc : c < 256) (e : fstep h c = fstep k c) : h = k :=
  xor_cancel_r (mul_inj (xor_lt hh (by omega)) (xor_lt hk (by omega)) e)
theorem fstep_inj2 {h c d : Nat} (hh : h < 18446744073709551616) (hc : c < 256) (hd : d < 256) (e : fstep h c = fstep h d) : c = d :=
  xor_cancel_l (mul_inj (xor_lt hh (by omega)) (xor_lt hh (by omega)) e)
theorem fnv_inj (xs : List Nat) (hb : Byt xs) : ∀ h k, h < 18446744073709551616 → k < 18446744073709551616 → fnv h xs = fnv k xs → h = k := by
  induction xs with
  | nil => intro h k _ _ e; rw [fnv_nil, fnv_nil] at e; exact e
  | cons c xs ih =>
    intro h k hh hk e
    rw [fnv_cons, fnv_cons] at e
    exact fstep_inj hh hk (hb c (by simp)) (ih (fun x hx => hb x (by simp [hx])) _ _ (fstep_lt _ _) (fstep_lt _ _) e)
/-- Byte strings that differ in one place at most have equal hashes exactly if they are equal. -/
theorem fnv_one (h : Nat) (hh : h < 18446744073709551616) (xs : List Nat) (hb : Byt xs) (i c : Nat) (hi : i < xs.length) (hc : c < 256) : fnv h (xs.set i c) = fnv h xs ↔ xs[i] = c := by
  constructor
  · intro e
    have h1 : xs.set i c = xs.take i ++ c :: xs.drop (i + 1) := by rw [List.set_eq_take_append_cons_drop, if_pos hi]
    have h2 : xs = xs.take i ++ xs[i] :: xs.drop (i + 1) := by rw [← List.drop_eq_getElem_cons hi, List.take_append_drop]
    rw [h1] at e
    rw [show fnv h xs = fnv h (xs.take i ++ xs[i] :: xs.drop (i + 1)) by rw [← h2], fnv_app, fnv_app, fnv_cons, fnv_cons] at e
    have hd : Byt (xs.drop (i + 1)) := fun x hx => hb x (List.mem_of_mem_drop hx)
    exact (fstep_inj2 (fnv_lt _ _ hh) hc (hb _ (List.getElem_mem hi)) (fnv_inj _ hd _ _ (fstep_lt _ _) (fstep_lt _ _) e)).symm
  · intro e
    rw [← e, List.set_getElem_self]
end Go.Proofs.Ytkjconhhandhlab
