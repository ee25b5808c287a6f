/- Layer 8: what the functions answer, over the words of the pasts. -/
import Derived.Test.YtcekfgahhicdcaaOrdM
namespace Go.Proofs.Ytcekfgahhicdcaa
open Go.RowKit

def pst (N : Int) (es : List (Int × Int)) (j : Nat) : Nat := setOf N.toNat (fun i => Bf N es i j)
def psts (N : Int) (es : List (Int × Int)) : List Nat := (List.range N.toNat).map (pst N es)
def rdyW (ps : List Nat) (s e : Nat) : Bool := !s.testBit e && decide (sdiff (ps.getD e 0) s = 0)
/-- The words by the first k edges. -/
def edW (n : Nat) (es : List (Int × Int)) (k : Nat) : List Nat := (List.range n).map fun j => setOf n (fun i => Eg (es.take k) i j)
/-- The words inside round b of the completion, in front of event e. -/
def flW (n : Nat) (E : Nat → Nat → Bool) (b e : Nat) : List Nat := (List.range n).map fun j => setOf n (fun i => Pk E (if j < e then b + 1 else b) i j)
theorem getD_map_range {n k : Nat} (f : Nat → Nat) (hk : k < n) : ((List.range n).map f).getD k 0 = f k := by
  rw [List.getD_eq_getElem?_getD, List.getElem?_map, List.getElem?_range hk]; rfl
theorem set_map_range {n k x : Nat} (f g : Nat → Nat) (hx : g k = x) (h : ∀ j, j < n → j ≠ k → f j = g j) : ((List.range n).map f).set k x = (List.range n).map g := by
  apply List.ext_getElem
  · simp
  · intro i h1 h2
    have hi : i < n := by simpa using h2
    rw [List.getElem_set]
    by_cases e : k = i
    · subst e; simp [hx]
    · rw [if_neg e]; simpa using h i hi (fun h => e h.symm)
theorem map_range_ext {n : Nat} {f g : Nat → Nat} (h : ∀ j, j < n → f j = g j) : (List.range n).map f = (List.range n).map g := List.map_congr_left fun j hj => h j (List.mem_range.1 hj)
theorem edW_len (n : Nat) (es : List (Int × Int)) (k : Nat) : (edW n es k).length = n := by simp [edW]
theorem flW_len (n : Nat) (E : Nat → Nat → Bool) (b e : Nat) : (flW n E b e).length = n := by simp [flW]
theorem psts_len (N : Int) (es : List (Int × Int)) : (psts N es).length = N.toNat := by simp [psts]
theorem psts_at {N : Int} {es : List (Int × Int)} {j : Nat} (hj : j < N.toNat) : (psts N es).getD j 0 = pst N es j := getD_map_range _ hj
theorem Eg_take_succ {es : List (Int × Int)} {k : Nat} (hk : k < es.length) (i j : Nat) : Eg (es.take (k + 1)) i j = (Eg (es.take k) i j || (es[k].1 == (i : Int) && es[k].2 == (j : Int))) := by
  unfold Eg
  rw [List.take_succ_eq_append_getElem hk, List.any_append]
  simp
theorem edW_zero (n : Nat) (es : List (Int × Int)) : edW n es 0 = List.replicate n 0 := by
  unfold edW
  rw [List.eq_replicate_iff]
  refine ⟨by simp, fun x hx => ?_⟩
  obtain ⟨j, _, rfl⟩ := List.mem_map.1 hx
  exact ((setOf_ext fun k _ => by simp [Eg]).trans (setOf_zero n).symm)
theorem edW_at {n : Nat} {es : List (Int × Int)} {k j : Nat} (hj : j < n) : (edW n es k).getD j 0 = setOf n (fun i => Eg (es.take k) i j) := getD_map_range _ hj
theorem edW_next {n : Nat} {es : List (Int × Int)} {k a b : Nat} (hk : k < es.length) (h : es[k] = ((a : Int), (b : Int))) (ha : a < n) (hb : b < n) : (edW n es k).set b ((edW n es k).getD b 0 ||| 2 ^ a) = edW n es (k + 1) := by
  rw [edW_at hb, setOf_only ha, setOf_or]
  refine set_map_range _ _ ?_ ?_
  · refine setOf_ext fun i _ => ?_
    rw [Eg_take_succ hk, h]
    have : (((a : Int) == (i : Int)) && ((b : Int) == (b : Int))) = (i == a) := by
      rw [Bool.eq_iff_iff]; simp; omega
    rw [this]
  · intro j hj hne
    refine setOf_ext fun i _ => ?_
    rw [Eg_take_succ hk, h]
    have : (((a : Int) == (i : Int)) && ((b : Int) == (j : Int))) = false := by
      rw [Bool.eq_false_iff]; simp; omega
    rw [this, Bool.or_false]
theorem edW_flW (n : Nat) (es : List (Int × Int)) : edW n es es.length = flW n (Eg es) 0 0 := by
  unfold edW flW
  rw [List.take_length]
  exact map_range_ext fun j _ => by simp [Pk]
theorem flW_at {n : Nat} {E : Nat → Nat → Bool} {b e j : Nat} (hj : j < n) : (flW n E b e).getD j 0 = setOf n (fun i => Pk E (if j < e then b + 1 else b) i j) := getD_map_range _ hj
/-- The word of the event b is the same all the round long. -/
theorem flW_self {n : Nat} {E : Nat → Nat → Bool} {b e : Nat} (hb : b < n) : (flW n E b e).getD b 0 = setOf n (fun i => Pk E b i b) := by
  rw [flW_at hb]
  refine setOf_ext fun i _ => ?_
  split
  · rw [Pk]
    cases Pk E b i b <;> simp
  · rfl
theorem flW_has {n : Nat} {E : Nat → Nat → Bool} {b e : Nat} (hb : b < n) (he : e < n) : ((flW n E b e).getD e 0).testBit b = Pk E b b e := by
  rw [flW_at he, setOf_bit, if_neg (Nat.lt_irrefl e), decide_eq_true hb, Bool.true_and]
theorem flW_yes {n : Nat} {E : Nat → Nat → Bool} {b e : Nat} (he : e < n) (h : Pk E b b e = true) : (flW n E b e).set e ((flW n E b e).getD e 0 ||| setOf n (fun i => Pk E b i b)) = flW n E b (e + 1) := by
  rw [flW_at he, setOf_or, if_neg (Nat.lt_irrefl e)]
  refine set_map_range _ _ ?_ ?_
  · refine setOf_ext fun i _ => ?_
    rw [if_pos (Nat.lt_succ_self e), Pk, h, Bool.and_true]
  · intro j hj hne
    refine setOf_ext fun i _ => ?_
    by_cases h1 : j < e
    · rw [if_pos h1, if_pos (by omega)]
    · rw [if_neg h1, if_neg (by omega)]
theorem flW_no {n : Nat} {E : Nat → Nat → Bool} {b e : Nat} (h : Pk E b b e = false) : flW n E b e = flW n E b (e + 1) := by
  refine map_range_ext fun j hj => setOf_ext fun i _ => ?_
  by_cases e' : j = e
  · subst e'
    rw [if_neg (Nat.lt_irrefl j), if_pos (Nat.lt_succ_self j), Pk, h, Bool.and_false, Bool.or_false]
  · by_cases h1 : j < e
    · rw [if_pos h1, if_pos (by omega)]
    · rw [if_neg h1, if_neg (by omega)]
theorem flW_round (n : Nat) (E : Nat → Nat → Bool) (b : Nat) : flW n E b n = flW n E (b + 1) 0 := by
  refine map_range_ext fun j hj => setOf_ext fun i _ => ?_
  rw [if_pos hj, if_neg (Nat.not_lt_zero j)]
theorem flW_end (N : Int) (es : List (Int × Int)) : flW N.toNat (Eg es) N.toNat 0 = psts N es := by
  unfold flW psts pst Bf
  exact map_range_ext fun j hj => by simp
theorem mem_lt {n : Nat} {f : Nat → Nat → Bool} (h : n ≤ 60) {x : Nat} (hx : x ∈ (List.range n).map fun j => setOf n (f j)) : x < 2 ^ 64 := by
  obtain ⟨j, _, rfl⟩ := List.mem_map.1 hx
  exact setOf_u64 h _
/-- Is a list a linear extension, behind s? -/
def isW (N : Int) (ps : List Nat) : List Int → Nat → Bool
  | [], _ => true
  | x :: t, s => inB N x && (rdyW ps s x.toNat && isW N ps t (s ||| 2 ^ x.toNat))
/-- The set of a list of different events. -/
def seW (N : Int) : List Int → Nat → Option Nat
  | [], s => some s
  | x :: t, s => if (inB N x && !s.testBit x.toNat) = true then seW N t (s ||| 2 ^ x.toNat) else none
def cutW (N : Int) (ps : List Nat) (l : List Int) : Bool := match seW N l 0 with
  | none => false
  | some s => l.all fun x => decide (sdiff (ps.getD x.toNat 0) s = 0)
def isO (N : Int) (es : List (Int × Int)) (l : List Int) : Bool := valO N es && (decide ((l.length : Int) = N) && isW N (psts N es) l 0)
def cutO (N : Int) (es : List (Int × Int)) (l : List Int) : Bool := valO N es && cutW N (psts N es) l
def befO (N : Int) (es : List (Int × Int)) (a b : Int) : Bool := valO N es && (inB N a && (inB N b && Bf N es a.toNat b.toNat))
def conO (N : Int) (es : List (Int × Int)) (a b : Int) : Bool := valO N es && (inB N a && (inB N b && (decide (a ≠ b) && (!Bf N es b.toNat a.toNat && !Bf N es a.toNat b.toNat))))
/-- The first k events of the least linear extension, and their word. -/
def nxW (ps : List Nat) (s : Nat) : Nat := ((List.range ps.length).find? (rdyW ps s)).getD 0
def liW (ps : List Nat) : Nat → List Nat × Nat
  | 0 => ([], 0)
  | k + 1 => ((liW ps k).1 ++ [nxW ps (liW ps k).2], (liW ps k).2 ||| 2 ^ nxW ps (liW ps k).2)
/-- Counting on, behind s, from c. -/
def exW (ps : List Nat) (most : Int) : Nat → Nat → Int → Int
  | 0, _, c => c + 1
  | f + 1, s, c => if s = 2 ^ ps.length - 1 then c + 1 else (List.range ps.length).foldl (fun c e => if (decide (c < most) && rdyW ps s e) = true then exW ps most f (s ||| 2 ^ e) c else c) c
def cntW (ps : List Nat) (most : Int) : Int := exW ps most ps.length 0 0
theorem pst_bit {N : Int} {es : List (Int × Int)} {i j : Nat} (hi : i < N.toNat) : (pst N es j).testBit i = Bf N es i j := by
  unfold pst; rw [setOf_bit, decide_eq_true hi, Bool.true_and]
theorem pst_bit' {N : Int} {es : List (Int × Int)} {i j : Nat} : (pst N es j).testBit i = (decide (i < N.toNat) && Bf N es i j) := by
  unfold pst; rw [setOf_bit]
theorem psts_mem {N : Int} {es : List (Int × Int)} (h : N.toNat ≤ 60) {x : Nat} (hx : x ∈ psts N es) : x < 2 ^ 64 := mem_lt h hx
end Go.Proofs.Ytcekfgahhicdcaa
