/- Layer 5: paths of an automaton and of its reversal. -/
import Derived.Test.YtockgbilbnheaaaDoorMBitsEq
import Derived.Test.YtockgbilbnheaaaDoorMBitsComb
import Derived.Test.YtockgbilbnheaaaDoorNfaDeM
import Derived.Test.YtockgbilbnheaaaDoorNfaAwk
import Derived.Laws.OwnMore
import Derived.ArgAppend
namespace Go.Proofs.YtockgbilbnheaaaDoor
/- Layer 5: paths of an automaton and of its reversal. -/
open Go.RowKit

/-- A path of arcs from a to b by a word. -/
inductive Pt (ar : List Ac) : Int → List Int → Int → Prop
 | nil (a : Int) : Pt ar a [] a
 | eps {a b c : Int} {w : List Int} : Pt ar a w b → (b, 0, c) ∈ ar → Pt ar a w c
 | step {a b d c : Int} {w : List Int} : Pt ar a w b → 1 ≤ c → c ≤ 10000 → (b, c, d) ∈ ar → Pt ar a (w ++ [c]) d
section
variable {ar br : List Ac} {a b c d : Int} {w : List Int} {st : List Int}
theorem Pt.cl {Q : Int → Prop} (hQ : ∀ x, Q x ↔ ∃ a, a ∈ st ∧ Pt ar a w x) {n : Int} : Cl ar Q n ↔ ∃ a, a ∈ st ∧ Pt ar a w n := by
 constructor
 ·intro h
  induction h with
  | base h => exact (hQ _).1 h
  | step _ he ih =>
   obtain ⟨a, h1, h2⟩ := ih
   exact ⟨a, h1, .eps h2 he⟩
 ·rintro ⟨a, h1, h2⟩
  exact .base ((hQ n).2 ⟨a, h1, h2⟩)
theorem pt_last (h : Pt ar a w b) : ∀ (v : List Int) (c : Int), w = v ++ [c] → 1 ≤ c ∧ c ≤ 10000 ∧ ∃ p q, Pt ar a v p ∧ (p, c, q) ∈ ar ∧ Pt ar q [] b := by
 induction h with
 | nil => intro v c e; simp at e
 | eps _ he ih =>
  intro v c e
  obtain ⟨g1, g2, p, q, g3, g4, g5⟩ := ih v c e
  exact ⟨g1, g2, p, q, g3, g4, .eps g5 he⟩
 | step h1 h2 h3 h4 _ =>
  intro v c e
  obtain ⟨rfl, e2⟩ := List.append_inj' e rfl
  simp only [List.cons.injEq, and_true] at e2
  subst e2
  exact ⟨h2, h3, _, _, h1, h4, .nil _⟩
theorem pt_app (h : Pt ar a w b) {v : List Int} (k : Pt ar b v c) : Pt ar a (w ++ v) c := by
 induction k with
 | nil => rw [List.append_nil]; exact h
 | eps _ he ih => exact .eps ih he
 | step _ h2 h3 h4 ih => rw [← List.append_assoc]; exact .step ih h2 h3 h4
theorem pt_rev (hr : ∀ x y z, (x, y, z) ∈ ar → (z, y, x) ∈ br) (h : Pt ar a w b) : Pt br b w.reverse a := by
 induction h with
 | nil => exact .nil _
 | eps _ he ih =>
  have := pt_app (Pt.eps (.nil _) (hr _ _ _ he)) ih
  simpa using this
 | step _ h2 h3 h4 ih =>
  have := pt_app (Pt.step (.nil _) h2 h3 (hr _ _ _ h4)) ih
  simpa using this
theorem pt_nil_cl {n : Int} : Cl ar (fun x => x ∈ st) n ↔ ∃ a, a ∈ st ∧ Pt ar a [] n := by
 constructor
 ·intro h
  induction h with
  | base h => exact ⟨_, h, .nil _⟩
  | step _ he ih =>
   obtain ⟨a, h1, h2⟩ := ih
   exact ⟨a, h1, .eps h2 he⟩
 ·rintro ⟨a, h1, h2⟩
  generalize hw : ([] : List Int) = v at h2
  induction h2 with
  | nil => exact .base h1
  | eps _ he ih => exact .step (ih hw) he
  | step => simp at hw
theorem run_pt : ∀ (word : List Int) (n : Int), Run ar (Cl ar (fun x => x ∈ st)) word n ↔ ∃ a, a ∈ st ∧ Pt ar a word n := by
 intro word
 generalize hl : word.length = l
 induction l generalizing word with
 | zero =>
  intro n
  obtain rfl := List.eq_nil_of_length_eq_zero hl
  exact pt_nil_cl
 | succ l ih =>
  intro n
  rcases List.eq_nil_or_concat word with rfl | ⟨v, c, rfl⟩
  ·simp at hl
  ·rw [List.concat_eq_append] at hl ⊢
   have ih := ih v (by simp at hl; omega)
   have e : Run ar (Cl ar (fun x => x ∈ st)) (v ++ [c]) n ↔ Sp ar (Run ar (Cl ar (fun x => x ∈ st)) v) c n := by
    unfold Run; rw [List.foldl_append]; exact Iff.rfl
   rw [e]
   clear e
   constructor
   ·intro h
    unfold Sp at h
    induction h with
    | base h =>
     obtain ⟨h1, h2, m, h3, h4⟩ := h
     obtain ⟨a, g1, g2⟩ := (ih m).1 h3
     exact ⟨a, g1, .step g2 h1 h2 h4⟩
    | step _ he ih2 =>
     obtain ⟨a, g1, g2⟩ := ih2
     exact ⟨a, g1, .eps g2 he⟩
   ·rintro ⟨a, g1, g2⟩
    obtain ⟨h1, h2, p, q, h3, h4, h5⟩ := pt_last g2 v c rfl
    have hq : Sp ar (Run ar (Cl ar (fun x => x ∈ st)) v) c q := .base ⟨h1, h2, p, (ih p).2 ⟨a, g1, h3⟩, h4⟩
    exact Cl.idem.1 ((pt_nil_cl (st := [q])).2 ⟨q, by simp, h5⟩ |>.mono fun x hx => by rw [List.mem_singleton.1 hx]; exact hq)
end
/-- What the reversal accepts. -/
theorem acc_rev {S : Nat} {st st2 : List Int} {fin fin2 : List Bool} {ar ar2 : List Ac} (hv : VN S st fin ar) (hst : ∀ n : Int, n ∈ st2 ↔ ∃ k : Nat, n = k ∧ fin[k]?.getD false = true) (hfin : ∀ k : Nat, fin2[k]?.getD false = true ↔ (k : Int) ∈ st) (har : ∀ x y z, (x, y, z) ∈ ar ↔ (z, y, x) ∈ ar2) (word : List Int) :
  AccP st fin ar word ↔ AccP st2 fin2 ar2 word.reverse := by
 unfold AccP
 constructor
 ·rintro ⟨n, h1, h2⟩
  obtain ⟨a, g1, g2⟩ := (run_pt word n).1 h1
  obtain ⟨k, rfl⟩ : ∃ k : Nat, a = k := ⟨a.toNat, by have := (hv.bds a g1).1; omega⟩
  exact ⟨k, (run_pt _ _).2 ⟨n, (hst n).2 ⟨n, rfl, h2⟩, pt_rev (fun x y z => (har x y z).1) g2⟩, (hfin k).2 g1⟩
 ·rintro ⟨k, h1, h2⟩
  obtain ⟨a, g1, g2⟩ := (run_pt _ _).1 h1
  obtain ⟨n, rfl, g3⟩ := (hst a).1 g1
  have := pt_rev (ar := ar2) (br := ar) (fun x y z => (har z y x).2) g2
  rw [List.reverse_reverse] at this
  exact ⟨n, (run_pt _ _).2 ⟨k, (hfin k).1 h2, this⟩, g3⟩
/- bits.Minus. -/
open Go.RowKit

theorem andn_fn (x y : Nat) (w : World) (hx : U64 x) (hy : U64 y) : Calls Tryd.prog 65 #[.int .u64 (x : Int), .int .u64 (y : Int)] w fun e w' => e = .returned (.int .u64 ((andn x y : Nat) : Int)) ∧ w = w' := by
 have hb : bits .andNot .u64 (x : Int) (y : Int) = ((andn x y : Nat) : Int) := (u64_andNot_nat _ _ hx hy).trans (congrArg (fun n : Nat => (n : Int)) (andn_eq x y hx hy))
 have Hb := Lib.hid hb; clear hb
 clear hx hy
 go_enter Tryd.func65, Tryd.ntmps65
 go_wp2
 go_ret
 exact ⟨congrArg (fun n => Ending.returned (Value.int .u64 n)) Hb.out, rfl⟩
set_option maxRecDepth 100000 in
set_option maxHeartbeats 400000 in
theorem andn_comb (va vb : Value) (a b : List Nat) (w : World) (ha : Sl uv w va a) (hb : Sl uv w vb b) (la : Room2 a.length) (lb : Room2 b.length) (wa : Wds a) (wb : Wds b) :
  Calls Tryd.prog 32 #[va, vb, .func (.func 65) #[] #[]] w (MadeP w (setop (andn) a b)) := by
 have Ha := Lib.hid ha; have Hb := Lib.hid hb; have La := Lib.hid la; have Lb := Lib.hid lb; have Wa := Lib.hid wa; have Wb := Lib.hid wb
 clear ha hb la lb wa wb
 have ua := (ulen_le a).2
 have ub := (ulen_le b).2
 obtain ⟨i0, hi, hz0, hz1, hz2⟩ := info_parts info_u64
 go_enter Tryd.func32, Tryd.ntmps32
 go_wp2_with fail
 refine (used_any va a _ Ha.out La.out).mono ?_
 rintro e w1 ⟨v1, rfl, _, h1, rfl⟩
 obtain ⟨A1, c1, rfl⟩ := h1.shape
 rw [used_len]
 clear h1
 go_wp2_with fail
 refine (used_any vb b _ Hb.out Lb.out).mono ?_
 rintro e w1 ⟨v1, rfl, _, h1, rfl⟩
 obtain ⟨A2, c2, rfl⟩ := h1.shape
 rw [used_len]
 clear h1
 obtain ⟨m, hm⟩ : ∃ m, m = max (ulen a) (ulen b) := ⟨_, rfl⟩
 have hm64 : m ≤ 64 := by omega
 have Hm := Lib.hid hm
 clear hm
 go_wp2_with (at_make; refine wpList_make_full _ rfl _ _ _ rfl w.heap.size 68 i0 _ 1 (by kernel_rfl) hi hz0 hz1 _ _ _ _ m rfl rfl (by have := Hm.out; omega) (by have := Hm.out; omega) (by rw [hz2]; omega) (by unfold maxLen; omega) (Nat.le_refl _) ?_; intro w1 hown hgr)
 all_goals
  have hb1 : Below w.heap.size w w1 := (Below.refl _ w).grown hgr (Nat.le_refl _) (fun k e => by cases e)
  have hown1 : w1.ownsRow w.heap.size 68 1 (.slice (some ⟨w.heap.size, 0, none⟩) m m) m ((crow (andn) m 0 a b).map uv) := by
   rw [crow_zero, ← toList_madeCells_one]
   rw [Nat.mul_one] at hown
   exact hown
  have Hown1 := Lib.hid hown1
  clear hown1 hown hgr
  go_loopw [19] (fun i wr => ∃ k : Nat, k ≤ m ∧ i = .int .i64 k ∧ wr.ownsRow w.heap.size 68 1 (.slice (some ⟨w.heap.size, 0, none⟩) m m) m ((crow (andn) m k a b).map uv) ∧ Below w.heap.size w wr) (fun i _ => m - (intOf i).toNat)
  case atStart => exact ⟨0, Nat.zero_le _, rfl, Hown1.out, hb1⟩
  case round =>
   obtain ⟨k, hk, rfl, hown, hbel⟩ := hrel
   have Hbel := Lib.hid hbel
   by_cases hlt : k < m
   ·have ck := hown.cellAt k (by omega)
    have fk := hown.frozenAt k
    rw [List.getElem?_map, List.getElem?_eq_getElem (by rw [crow_len]; exact hlt)] at ck
    have hst := (hown.stored k (uv ((andn) (a[k]?.getD 0) (b[k]?.getD 0)))).1
    rw [crow_set] at hst
    have Hst := Lib.hid hst
    clear hst hown
    go_wp2_with fail
    refine (word_any va a k _ (Ha.out.below Hbel.out) La.out).mono ?_
    rintro e w3 ⟨rfl, rfl⟩
    go_wp2_with fail
    refine (word_any vb b k _ (Hb.out.below Hbel.out) Lb.out).mono ?_
    rintro e w3 ⟨rfl, rfl⟩
    go_wp2_with fail
    refine (andn_fn _ _ _ (Wa.out.at k) (Wb.out.at k)).mono ?_
    rintro e w3 ⟨rfl, rfl⟩
    go_wp2
    go_roundw
    case rel => exact ⟨k + 1, by omega, by go_num, Hst.out, Hbel.out.setCell (p := ⟨w.heap.size, k, none⟩) (Nat.le_refl _) _⟩
    case measure => simp [intOf]; omega
   ·obtain rfl : k = m := by omega
    have Hown := Lib.hid hown; clear hown hbel
    go_wp2_with fail
    refine (used_any _ (crow (andn) k k a b) _ (Sl.of_own Hown.out) (by rw [crow_len]; unfold Room2; omega)).mono ?_
    rintro e w3 ⟨v3, rfl, hv3, h3, rfl⟩
    have h4 := used_own Hown.out hv3
    rw [crow_all] at h4
    rw [Hm.out] at h4
    clear h3 hv3
    go_wp2
    go_ret
    exact ⟨_, rfl, h4, Hbel.out⟩

theorem minus_any (va vb : Value) (a b : List Nat) (w : World) (ha : Sl uv w va a) (hb : Sl uv w vb b) (la : Room2 a.length) (lb : Room2 b.length) (wa : Wds a) (wb : Wds b) :
  Calls Tryd.prog 54 #[va, vb] w (MadeP w (setop (andn) a b)) := by
 have Ha := Lib.hid ha; have Hb := Lib.hid hb; have La := Lib.hid la; have Lb := Lib.hid lb; have Wa := Lib.hid wa; have Wb := Lib.hid wb
 clear ha hb la lb wa wb
 go_enter Tryd.func54, Tryd.ntmps54
 go_wp2_with fail
 refine (andn_comb va vb a b _ Ha.out Hb.out La.out Lb.out Wa.out Wb.out).mono ?_
 rintro e w1 ⟨v, rfl, h1, h2⟩
 go_wp2
 go_ret
 exact ⟨_, rfl, h1, h2⟩
/- Rows of the call's own that are read and stored to (the head of XGrOwn). Of no function. -/
open Go.RowKit

/-- Block g holds the cells cs, of type t. -/
def Row (w : World) (g : Nat) (t : TypeId) (cs : List Value) : Prop := w.heap[g]? = some (.cells cs.toArray t (0, 0))
section
variable {w w' : World} {g : Nat} {t : TypeId} {cs : List Value}
theorem Row.lt (h : Row w g t cs) : g < w.heap.size := lt_of_some h
theorem Row.cell (h : Row w g t cs) {i : Nat} {v : Value} (hi : cs[i]? = some v) : w.cell? ⟨g, i, none⟩ = some v := by
 rw [cell_of_row w g i _ _ _ h]; simpa using hi
theorem Row.free (h : Row w g t cs) (i : Nat) : w.frozen? ⟨g, i, none⟩ = false := by
 have h' : w.heap[g]? = _ := h
 simp [World.frozen?, h']
theorem Row.set (h : Row w g t cs) (i : Nat) (v : Value) : Row (w.setCell ⟨g, i, none⟩ v) g t (cs.set i v) := by
 have := heap_setCell_same w g i cs.toArray t v h
 unfold Row
 rw [this]
 simp
theorem Row.below {B : Nat} (h : Row w g t cs) (hb : Below B w w') (hg : g < B) : Row w' g t cs := (hb.block g hg).trans h
theorem Row.keep (h : Row w g t cs) (hb : Below w.heap.size w w') : Row w' g t cs := h.below hb h.lt
theorem Row.other {a : Addr} {u : Value} (h : Row w g t cs) (ha : g ≠ a.block) : Row (w.setCell a u) g t cs := (Below.heap_setCell w a u g ha).trans h
theorem Row.sl {α : Type} {f : α → Value} {xs : List α} {n : Nat} (h : Row w g t (xs.map f)) (hn : xs.length = n) : Sl f w (.slice (some ⟨g, 0, none⟩) n n) xs := by
 refine .inr ⟨⟨g, 0, none⟩, n, by rw [hn], by omega, fun j b hj => ?_⟩
 have e : (⟨g, 0, none⟩ : Addr).add j = ⟨g, j, none⟩ := by unfold Addr.add; split <;> simp_all
 rw [e]
 exact h.cell (by rw [List.getElem?_map, hj]; rfl)
theorem Row.of_own {B n : Nat} (h : w.ownsRow B t 1 (.slice (some ⟨g, 0, none⟩) n n) n cs) : Row w g t cs := by
 rcases h.2 with ⟨h0, _⟩ | ⟨g', cap, cur, h1, _, hh, _, _, h3, h4⟩
 ·cases h0
 ·simp only [Value.slice.injEq, Option.some.injEq, Addr.mk.injEq, and_true, true_and] at h1
  obtain ⟨rfl, rfl⟩ := h1
  rw [Nat.mul_one] at h3 h4
  rw [List.take_of_length_le (by rw [Array.length_toList, h3]; exact Nat.le_refl _)] at h4
  unfold Row
  rw [hh, ← h4]
end
end Go.Proofs.YtockgbilbnheaaaDoor
