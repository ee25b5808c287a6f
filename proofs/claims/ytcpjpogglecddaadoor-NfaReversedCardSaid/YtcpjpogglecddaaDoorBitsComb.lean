/- The contracts of bits.combine with each operation, of Union, Inter and Minus. -/
import Derived.Test.YtcpjpogglecddaaDoorBitsFn
import Derived.OwnWalk
import Derived.Laws.OwnMore
namespace Go.Proofs.YtcpjpogglecddaaDoor
open Go.RowKit

theorem info_u64 : (Tryd.prog.info? 68).map (fun i => (i.zero, i.size, i.bytes)) = some (some (.int .u64 0), 1, 8) := by kernel_rfl
/-- The row while it is filled: k words are written. -/
def crow (op : Nat → Nat → Nat) (m k : Nat) (a b : List Nat) : List Nat := (List.range m).map fun i => if i < k then op (a[i]?.getD 0) (b[i]?.getD 0) else 0
theorem crow_len (op : Nat → Nat → Nat) (m k : Nat) (a b : List Nat) : (crow op m k a b).length = m := by simp [crow]
theorem crow_zero (op : Nat → Nat → Nat) (m : Nat) (a b : List Nat) : (crow op m 0 a b).map uv = List.replicate m (uv 0) := by
  rw [crow, List.map_map]
  apply List.ext_getElem
  · simp
  · intro i h1 h2; simp
theorem crow_set (op : Nat → Nat → Nat) (m k : Nat) (a b : List Nat) : ((crow op m k a b).map uv).set k (uv (op (a[k]?.getD 0) (b[k]?.getD 0))) = (crow op m (k + 1) a b).map uv := by
  rw [← List.map_set]
  congr 1
  apply List.ext_getElem
  · simp [crow]
  · intro i h1 h2
    simp only [crow, List.length_map, List.length_range] at h2
    rw [List.getElem_set]
    by_cases hik : k = i
    · subst hik; simp [crow]
    · rw [if_neg hik]
      simp only [crow, List.getElem_map, List.getElem_range]
      by_cases hlt : i < k
      · rw [if_pos hlt, if_pos (by omega)]
      · rw [if_neg hlt, if_neg (by omega)]
theorem crow_all (op : Nat → Nat → Nat) (m : Nat) (a b : List Nat) : crow op m m a b = comb op m a b := by
  unfold crow comb
  apply List.map_congr_left
  intro i hi
  rw [if_pos (List.mem_range.1 hi)]
/-- A slice value at the head of an own row of words of that length. -/
def Own (B : Nat) (w : World) (v : Value) (xs : List Nat) : Prop :=
  ∃ (g m : Nat) (ys : List Nat), v = .slice (some ⟨g, 0, none⟩) xs.length m ∧ w.ownsRow B 68 1 (.slice (some ⟨g, 0, none⟩) m m) m (ys.map uv) ∧ xs = ys.take xs.length ∧ xs.length ≤ m
theorem Own.sl {B : Nat} {w : World} {v : Value} {xs : List Nat} (h : Own B w v xs) : Sl uv w v xs := by
  obtain ⟨g, m, ys, rfl, ho, e, hl⟩ := h
  have := (Sl.of_own (f := uv) (xs := ys) ho).take ⟨g, 0, none⟩ m m xs.length hl
  rwa [← e] at this
def MadeP (w : World) (xs : List Nat) (e : Ending) (w' : World) : Prop := ∃ v, e = .returned v ∧ Own w.heap.size w' v xs ∧ Below w.heap.size w w'
theorem used_own {B : Nat} {w : World} {g m : Nat} {ys : List Nat} {v : Value} (ho : w.ownsRow B 68 1 (.slice (some ⟨g, 0, none⟩) m m) m (ys.map uv)) (hv : v = .slice (some ⟨g, 0, none⟩) (ulen ys) m) : Own B w v (used ys) := by
  have hl : ys.length = m := by simpa using ho.1
  have h1 := (ulen_le ys).1
  exact ⟨g, m, ys, by rw [used_len]; exact hv, ho, by rw [used_len]; rfl, by rw [used_len]; omega⟩


theorem or_fn (x y : Nat) (w : World) (hx : U64 x) (hy : U64 y) : Calls Tryd.prog 33 #[.int .u64 (x : Int), .int .u64 (y : Int)] w fun e w' => e = .returned (.int .u64 ((x ||| y : Nat) : Int)) ∧ w = w' := by
  have hb : bits .or .u64 (x : Int) (y : Int) = ((x ||| y : Nat) : Int) := u64_or_nat _ _ hx hy
  have Hb := Lib.hid hb; clear hb
  clear hx hy
  go_enter Tryd.func33, Tryd.ntmps33
  go_wp2
  go_ret
  exact ⟨congrArg (fun n => Ending.returned (Value.int .u64 n)) Hb.out, rfl⟩
set_option maxRecDepth 100000 in
set_option maxHeartbeats 400000 in
theorem or_comb (va vb : Value) (a b : List Nat) (w : World) (ha : Sl uv w va a) (hb : Sl uv w vb b) (la : Room2 a.length) (lb : Room2 b.length) (wa : Wds a) (wb : Wds b) :
    Calls Tryd.prog 32 #[va, vb, .func (.func 33) #[] #[]] w (MadeP w (setop (fun x y => x ||| y) a b)) := by
  have Ha := Lib.hid ha; have Hb := Lib.hid hb; have La := Lib.hid la; have Lb := Lib.hid lb; have Wa := Lib.hid wa; have Wb := Lib.hid wb
  clear ha hb la lb wa wb
  have ua := (ulen_le a).2
  have ub := (ulen_le b).2
  obtain ⟨i0, hi, hz0, hz1, hz2⟩ := info_parts info_u64
  go_enter Tryd.func32, Tryd.ntmps32
  go_wp2_with fail
  refine (used_any va a _ Ha.out La.out).mono ?_
  rintro e w1 ⟨v1, rfl, _, h1, rfl⟩
  obtain ⟨A1, c1, rfl⟩ := h1.shape
  rw [used_len]
  clear h1
  go_wp2_with fail
  refine (used_any vb b _ Hb.out Lb.out).mono ?_
  rintro e w1 ⟨v1, rfl, _, h1, rfl⟩
  obtain ⟨A2, c2, rfl⟩ := h1.shape
  rw [used_len]
  clear h1
  obtain ⟨m, hm⟩ : ∃ m, m = max (ulen a) (ulen b) := ⟨_, rfl⟩
  have hm64 : m ≤ 64 := by omega
  have Hm := Lib.hid hm
  clear hm
  go_wp2_with (at_make; refine wpList_make_full _ rfl _ _ _ rfl w.heap.size 68 i0 _ 1 (by kernel_rfl) hi hz0 hz1 _ _ _ _ m rfl rfl (by have := Hm.out; omega) (by have := Hm.out; omega) (by rw [hz2]; omega) (by unfold maxLen; omega) (Nat.le_refl _) ?_; intro w1 hown hgr)
  all_goals
    have hb1 : Below w.heap.size w w1 := (Below.refl _ w).grown hgr (Nat.le_refl _) (fun k e => by cases e)
    have hown1 : w1.ownsRow w.heap.size 68 1 (.slice (some ⟨w.heap.size, 0, none⟩) m m) m ((crow (fun x y => x ||| y) m 0 a b).map uv) := by
      rw [crow_zero, ← toList_madeCells_one]
      rw [Nat.mul_one] at hown
      exact hown
    have Hown1 := Lib.hid hown1
    clear hown1 hown hgr
    go_loopw [19] (fun i wr => ∃ k : Nat, k ≤ m ∧ i = .int .i64 k ∧ wr.ownsRow w.heap.size 68 1 (.slice (some ⟨w.heap.size, 0, none⟩) m m) m ((crow (fun x y => x ||| y) m k a b).map uv) ∧ Below w.heap.size w wr) (fun i _ => m - (intOf i).toNat)
    case atStart => exact ⟨0, Nat.zero_le _, rfl, Hown1.out, hb1⟩
    case round =>
      obtain ⟨k, hk, rfl, hown, hbel⟩ := hrel
      have Hbel := Lib.hid hbel
      by_cases hlt : k < m
      · have ck := hown.cellAt k (by omega)
        have fk := hown.frozenAt k
        rw [List.getElem?_map, List.getElem?_eq_getElem (by rw [crow_len]; exact hlt)] at ck
        have hst := (hown.stored k (uv ((fun x y => x ||| y) (a[k]?.getD 0) (b[k]?.getD 0)))).1
        rw [crow_set] at hst
        have Hst := Lib.hid hst
        clear hst hown
        go_wp2_with fail
        refine (word_any va a k _ (Ha.out.below Hbel.out) La.out).mono ?_
        rintro e w3 ⟨rfl, rfl⟩
        go_wp2_with fail
        refine (word_any vb b k _ (Hb.out.below Hbel.out) Lb.out).mono ?_
        rintro e w3 ⟨rfl, rfl⟩
        go_wp2_with fail
        refine (or_fn _ _ _ (Wa.out.at k) (Wb.out.at k)).mono ?_
        rintro e w3 ⟨rfl, rfl⟩
        go_wp2
        go_roundw
        case rel => exact ⟨k + 1, by omega, by go_num, Hst.out, Hbel.out.setCell (p := ⟨w.heap.size, k, none⟩) (Nat.le_refl _) _⟩
        case measure => simp [intOf]; omega
      · obtain rfl : k = m := by omega
        have Hown := Lib.hid hown; clear hown hbel
        go_wp2_with fail
        refine (used_any _ (crow (fun x y => x ||| y) k k a b) _ (Sl.of_own Hown.out) (by rw [crow_len]; unfold Room2; omega)).mono ?_
        rintro e w3 ⟨v3, rfl, hv3, h3, rfl⟩
        have h4 := used_own Hown.out hv3
        rw [crow_all] at h4
        rw [Hm.out] at h4
        clear h3 hv3
        go_wp2
        go_ret
        exact ⟨_, rfl, h4, Hbel.out⟩

theorem union_any (va vb : Value) (a b : List Nat) (w : World) (ha : Sl uv w va a) (hb : Sl uv w vb b) (la : Room2 a.length) (lb : Room2 b.length) (wa : Wds a) (wb : Wds b) :
    Calls Tryd.prog 15 #[va, vb] w (MadeP w (setop (fun x y => x ||| y) a b)) := by
  have Ha := Lib.hid ha; have Hb := Lib.hid hb; have La := Lib.hid la; have Lb := Lib.hid lb; have Wa := Lib.hid wa; have Wb := Lib.hid wb
  clear ha hb la lb wa wb
  go_enter Tryd.func15, Tryd.ntmps15
  go_wp2_with fail
  refine (or_comb va vb a b _ Ha.out Hb.out La.out Lb.out Wa.out Wb.out).mono ?_
  rintro e w1 ⟨v, rfl, h1, h2⟩
  go_wp2
  go_ret
  exact ⟨_, rfl, h1, h2⟩


end Go.Proofs.YtcpjpogglecddaaDoor