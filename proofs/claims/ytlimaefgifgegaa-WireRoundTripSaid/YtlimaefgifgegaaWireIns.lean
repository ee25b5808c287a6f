/- The contract of slices.Insert at bytes: a row of the call's own takes some bytes at a place. -/
import Derived.Test.YtlimaefgifgegaaWireJoin
import Derived.Lib.Overlaps
import Derived.Lib.AppendZerosOnto
import Derived.Laws.CopyRow
import Derived.Laws.NewBlocks
import Derived.Laws.Externs
import Derived.Shelf.Spec.SlicesInsert
namespace Go.Proofs.Ytlimaefgifgegaa
open Go.RowKit

def ins8 (xs ys : List Nat) (i : Nat) : List Nat := xs.take i ++ ys ++ xs.drop i
theorem ins8_len (xs ys : List Nat) (i : Nat) : (ins8 xs ys i).length = xs.length + ys.length := by
  unfold ins8; simp only [List.length_append, List.length_take, List.length_drop]; omega
def InsPost (w : World) (B n m : Nat) (xs ys : List Nat) (i : Nat) (e : Ending) (w' : World) : Prop :=
  ∃ v', e = .returned v' ∧ w'.ownsRow B 5 1 v' (n + m) ((ins8 xs ys i).map bv) ∧ Frm 5 B w w'
theorem size_u8 : (Try.prog.info? 5).map (·.size) = some 1 := by kernel_rfl
theorem cell_heap {w : World} {g : Nat} {cs : Array Value} {t : TypeId} {fr : Nat × Nat} (h : w.heap[g]? = some (.cells cs t fr)) (j : Nat) : w.cell? ⟨g, j, none⟩ = cs[j]? := by
  simp [World.cell?, h]
theorem frozen_heap {w : World} {g : Nat} {cs : Array Value} {t : TypeId} (h : w.heap[g]? = some (.cells cs t (0, 0))) (j : Nat) : w.frozen? ⟨g, j, none⟩ = false := by
  simp [World.frozen?, h]
theorem setRow_row {w : World} {g : Nat} {cs cs' : Array Value} {t : TypeId} {fr : Nat × Nat} (h : w.heap[g]? = some (.cells cs t fr)) : (w.setRow g cs').heap[g]? = some (.cells cs' t fr) := by
  first | exact setRow_heap w g _ _ t _ h | simp [World.setRow, h]
theorem frm_setRow {w : World} {g B : Nat} {cs cs' : Array Value} (h : w.heap[g]? = some (.cells cs 5 (0, 0))) (hB : B ≤ g) : Frm 5 B w (w.setRow g cs') := by
  refine ⟨rfl, rfl, rfl, by simp [World.setRow], fun k hk hn => setRow_other w g k cs' ?_⟩
  rintro rfl
  rcases hn with h1 | h1
  · omega
  · exact h1 _ _ h

/-- At the end: an append. -/
theorem ins8_end (w : World) (B B2 : Nat) (v u : Value) (n m : Nat) (xs ys : List Nat) (hv : w.ownsRow B 5 1 v n (xs.map bv)) (hu : w.ownsRow B2 5 1 u m (ys.map bv)) (hm : 1 ≤ m) (hB : B ≤ w.heap.size) (hn : n + m ≤ 100000) :
    Calls Try.prog 33 #[v, .int .i64 (n : Int), u] w (InsPost w B n m xs ys n) := by
  have hx : xs.length = n := by simpa using hv.1
  have hy : ys.length = m := by simpa using hu.1
  have hI : ins8 xs ys n = xs ++ ys := by unfold ins8; rw [List.take_of_length_le (by omega), List.drop_eq_nil_of_le (by omega), List.append_nil]
  have hbu := Bsl.of_own hu
  obtain ⟨gu, cu, rfl, _, _, _⟩ := own_shape hu hm
  have hz1 : ¬ ((m : Int) = 0) := by omega
  subst hy
  have HI := Lib.hid hI
  clear hI
  have hshape : ∃ A c, v = .slice A n c ∧ n ≤ c := by
    rcases hv.2 with ⟨rfl, h0⟩ | ⟨g, cap, cur, rfl, _, _, h3, _⟩
    · exact ⟨none, 0, by rw [h0], by omega⟩
    · exact ⟨_, cap, rfl, h3⟩
  obtain ⟨A, c, rfl, hc⟩ := hshape
  have HV := Lib.hid hv; have HU := Lib.hid hu; have HB := Lib.hid hbu
  clear hv hu hbu
  subst hx
  by_cases hcn : c = xs.length
  all_goals
    go_enter Try.func33, Try.ntmps33
    go_wp2_with (at_builtin; refine appB rfl _ _ 24 rfl info_u8 Try.underlying24 B _ _ _ rfl HV.out _ ys rfl HB.out (by unfold Room2; omega) hB ?_; intro v' w1 hown1 hf1)
    go_ret
    refine ⟨v', rfl, ?_, hf1⟩
    rw [HI.out, List.map_append]
    exact hown1

def room1 (cur : List Value) (xs : List Nat) (m i : Nat) : List Value := cur.take (i + m) ++ (xs.drop i).map bv ++ cur.drop (i + m + ((xs.drop i).map bv).length)
def room2 (cur : List Value) (xs ys : List Nat) (m i : Nat) : List Value := (room1 cur xs m i).take i ++ ys.map bv ++ (room1 cur xs m i).drop (i + (ys.map bv).length)
theorem room1_len (cur : List Value) (xs : List Nat) (n m i : Nat) (hx : xs.length = n) (hi : i ≤ n) (hr : n + m ≤ cur.length) : (room1 cur xs m i).length = cur.length := by
  unfold room1; simp only [List.length_append, List.length_take, List.length_drop, List.length_map]; omega
theorem room2_ok (cur : List Value) (xs ys : List Nat) (n m i : Nat) (hx : xs.length = n) (hy : ys.length = m) (hi : i ≤ n) (hr : n + m ≤ cur.length) (ht : cur.take n = xs.map bv) :
    (room2 cur xs ys m i).length = cur.length ∧ (room2 cur xs ys m i).take (n + m) = (ins8 xs ys i).map bv := by
  have hl := room1_len cur xs n m i hx hi hr
  have a1 : (room1 cur xs m i).take i = (xs.take i).map bv := by
    unfold room1
    rw [List.append_assoc, List.take_append_of_le_length (by rw [List.length_take]; omega), List.take_take, Nat.min_eq_left (by omega), List.map_take, ← ht, List.take_take, Nat.min_eq_left hi]
  have a2 : (room1 cur xs m i).drop (i + m) = (xs.drop i).map bv ++ cur.drop (i + m + ((xs.drop i).map bv).length) := by
    unfold room1
    rw [List.append_assoc]
    exact List.drop_left' (by rw [List.length_take]; omega)
  unfold room2
  rw [List.length_map, hy, a1, a2]
  constructor
  · simp only [List.length_append, List.length_take, List.length_drop, List.length_map]; omega
  · rw [← List.append_assoc, ← List.map_append, ← List.map_append]
    exact List.take_left' (by simp only [List.length_append, List.length_take, List.length_drop, List.length_map]; omega)
def grow1 (L : List Value) (ys : List Nat) (i : Nat) : List Value := L.take i ++ ys.map bv ++ L.drop (i + (ys.map bv).length)
def grow2 (L : List Value) (xs ys : List Nat) (m i : Nat) : List Value := (grow1 L ys i).take (i + m) ++ (xs.drop i).map bv ++ (grow1 L ys i).drop (i + m + ((xs.drop i).map bv).length)
theorem grow1_len (L : List Value) (ys : List Nat) (n m i : Nat) (hy : ys.length = m) (hi : i ≤ n) (hr : n + m ≤ L.length) : (grow1 L ys i).length = L.length := by
  unfold grow1; simp only [List.length_append, List.length_take, List.length_drop, List.length_map]; omega
theorem grow2_ok (L : List Value) (xs ys : List Nat) (n m i : Nat) (hx : xs.length = n) (hy : ys.length = m) (hi : i ≤ n) (hr : n + m ≤ L.length) (ht : L.take i = (xs.take i).map bv) :
    (grow2 L xs ys m i).length = L.length ∧ (grow2 L xs ys m i).take (n + m) = (ins8 xs ys i).map bv := by
  have hl := grow1_len L ys n m i hy hi hr
  have a1 : (grow1 L ys i).take (i + m) = (xs.take i).map bv ++ ys.map bv := by
    unfold grow1
    rw [ht]
    exact List.take_left' (by simp only [List.length_append, List.length_take, List.length_map]; omega)
  unfold grow2
  rw [a1]
  constructor
  · simp only [List.length_append, List.length_take, List.length_drop, List.length_map, hl]; omega
  · rw [← List.map_append, ← List.map_append]
    exact List.take_left' (by simp only [List.length_append, List.length_take, List.length_drop, List.length_map]; omega)

set_option maxHeartbeats 4000000 in
set_option maxRecDepth 100000 in
/-- There is room. -/
theorem ins8_room (w : World) (B B2 : Nat) (v u : Value) (n m i : Nat) (xs ys : List Nat) (g cap : Nat) (cur : Array Value) (hv : v = .slice (some ⟨g, 0, none⟩) n cap) (hg : w.heap[g]? = some (.cells cur 5 (0, 0))) (hBg : B ≤ g)
    (hcm : cap ≤ maxLen) (hcs : cur.size = cap) (ht : cur.toList.take n = xs.map bv) (hx : xs.length = n) (hroom : n + m ≤ cap) (hu : w.ownsRow B2 5 1 u m (ys.map bv)) (hne : u.ownBlock ≠ some g) (hm : 1 ≤ m) (hi : i < n) (hn : n + m ≤ 100000) :
    Calls Try.prog 33 #[v, .int .i64 (i : Int), u] w (InsPost w B n m xs ys i) := by
  subst hv
  have hy : ys.length = m := by simpa using hu.1
  have hux : ∃ (gu cu : Nat) (curu : Array Value), u = .slice (some ⟨gu, 0, none⟩) m cu ∧ w.heap[gu]? = some (.cells curu 5 (0, 0)) ∧ (∀ j x, (ys.map bv)[j]? = some x → w.cell? ⟨gu, j, none⟩ = some x) := by
    rcases hu.2 with ⟨_, h0⟩ | ⟨gu, cu, curu, rfl, _, h2, h3, _, h5, h6⟩
    · omega
    · refine ⟨gu, cu, curu, rfl, h2, fun j x hj => ?_⟩
      rw [← h6, List.getElem?_take] at hj
      rw [cell_heap h2]
      split at hj
      · simpa using hj
      · cases hj
  obtain ⟨gu, cu, curu, rfl, hgu, hcu⟩ := hux
  have hgne : gu ≠ g := fun e => hne (by rw [e]; rfl)
  obtain ⟨hL, hT⟩ := room2_ok cur.toList xs ys n m i hx hy (by omega) (by simpa [hcs] using hroom) ht
  have hL1 := room1_len cur.toList xs n m i hx (by omega) (by simpa [hcs] using hroom)
  have hdl : ((xs.drop i).map bv).length = n - i := by rw [List.length_map, List.length_drop, hx]
  have hyl : (ys.map bv).length = m := by rw [List.length_map, hy]
  have hcur : ∀ j x, ((xs.drop i).map bv)[j]? = some x → w.drew.cell? ((⟨g, i, none⟩ : Addr).add j) = some x := by
    intro j x hj
    rw [Addr.add_lit]
    show w.cell? _ = _
    rw [cell_heap hg, ← Array.getElem?_toList]
    have : (xs.map bv)[i + j]? = some x := by rw [List.map_drop, List.getElem?_drop] at hj; exact hj
    rw [← ht, List.getElem?_take] at this
    split at this
    · exact this
    · cases this
  obtain ⟨C1, hC1⟩ : ∃ C, C = room1 cur.toList xs m i := ⟨_, rfl⟩
  obtain ⟨C2, hC2⟩ : ∃ C, C = room2 cur.toList xs ys m i := ⟨_, rfl⟩
  have hcp1 : ∀ ty dc sc, (Builtin.copy_ #[24, 24] ty #[.slice (some ⟨g, i + m, none⟩) (n + m - (i + m)) dc, .slice (some ⟨g, i, none⟩) (n + m - i) sc]).run Try.prog w.drew = .ok (goInt ((xs.drop i).map bv).length) (w.drew.setRow g C1.toArray) := fun ty dc sc => by
    rw [hC1]
    exact run_copy_row (P := Try.prog) w.drew _ _ ty 5 g (i + m) (n + m - (i + m)) dc ⟨g, i, none⟩ (n + m - i) sc cur 5 ((xs.drop i).map bv) Try.underlying24 size_u8 hg (by rw [hdl]; simp only [Nat.min_def]; split <;> omega) hcur (by rw [hdl, hcs]; omega) (bv_one _)
  obtain ⟨W1, hW1⟩ : ∃ W1, W1 = w.drew.setRow g C1.toArray := ⟨_, rfl⟩
  have hg1 : W1.heap[g]? = some (.cells C1.toArray 5 (0, 0)) := by rw [hW1]; exact setRow_row (w := w.drew) hg
  have hu1 : W1.heap[gu]? = w.heap[gu]? := by rw [hW1]; exact setRow_other w.drew g gu _ hgne
  have hcp2 : ∀ ty dc, (Builtin.copy_ #[24, 24] ty #[.slice (some ⟨g, i, none⟩) (n + m - i) dc, .slice (some ⟨gu, 0, none⟩) m cu]).run Try.prog W1 = .ok (goInt (ys.map bv).length) (W1.setRow g C2.toArray) := fun ty dc => by
    have h := run_copy_row (P := Try.prog) W1 24 24 ty 5 g i (n + m - i) dc ⟨gu, 0, none⟩ m cu C1.toArray 5 (ys.map bv) Try.underlying24 size_u8 hg1 (by rw [hyl]; simp only [Nat.min_def]; split <;> omega) (fun j x hj => by rw [Addr.add_lit, Nat.zero_add, World.cell?_of_block (w := w) hu1]; exact hcu j x hj) (by rw [hyl, List.size_toArray, hC1, hL1, Array.length_toList, hcs]; omega) (bv_one _)
    rw [h, hC2]
    rw [hC1]
    rfl
  rw [← hW1] at hcp1
  have hfr : Frm 5 B w (W1.setRow g C2.toArray) := by
    have h1 : Frm 5 B w W1 := by rw [hW1]; exact ((Frm.refl _ _ w).drewN 1).trans (frm_setRow (w := w.drew) hg hBg)
    exact h1.trans (frm_setRow hg1 hBg)
  have hown : (W1.setRow g C2.toArray).ownsRow B 5 1 (.slice (some ⟨g, 0, none⟩) (n + m) cap) (n + m) ((ins8 xs ys i).map bv) := by
    refine ⟨by rw [List.length_map, ins8_len, hx, hy, Nat.mul_one], .inr ⟨g, cap, C2.toArray, rfl, hBg, setRow_row hg1, hroom, hcm, ?_, ?_⟩⟩
    · rw [List.size_toArray, hC2, hL, Array.length_toList, hcs, Nat.mul_one]
    · rw [List.toList_toArray, hC2, Nat.mul_one, hT]
  have hov : ∀ lb cb, (callFunc 49 #[.slice (some ⟨gu, 0, none⟩) m cu, .slice (some ⟨g, i + m, none⟩) lb cb]).run Try.prog w = .ok (.value (.bool false)) w := fun lb cb => by
    rw [run_callFunc_extern Try.func49 (by kernel_rfl) (by kernel_rfl) (by kernel_rfl) (e := Extern.SlicesOverlaps.overlaps #[24, 24] #[4]) (by kernel_rfl),
      Lib.run_overlaps_apart w 24 4 5 Try.underlying24 1 Try.sizeOf5 ⟨gu, 0, none⟩ ⟨g, i + m, none⟩ m cu lb cb hgne 5 5 curu.size cur.size (by simp [World.shape?, hgu]) (by simp [World.shape?, hg]) (by omega) (frozen_heap hgu 0) (frozen_heap hgu _)]
    rfl
  have hz1 : ¬ ((m : Int) = 0) := by omega
  have hz2 : ¬ ((i : Int) = (n : Int)) := by omega
  have hw1 : IntKind.i64.wrap ((i : Int) + (m : Int)) = (i : Int) + (m : Int) := by rw [IntKind.wrap_i64]; omega
  have hb1 : (0 : Int) ≤ (i : Int) + (m : Int) := by omega
  have hin : i ≤ n := by omega
  have htn : ((i : Int) + (m : Int)).toNat = i + m := by omega
  have hb2 : ¬ (cap = i + m) := by omega
  have hb3 : (i : Int) ≤ (n : Int) + (m : Int) := by omega
  have hb4 : ¬ (cap = i) := by omega
  have hc63 : cap ≤ 9223372036854775807 := by unfold maxLen at hcm; omega
  have HF := Lib.hid hfr; have HO := Lib.hid hown
  clear hfr hown hg1 hu1 hW1 hC1 hC2 hL hT hL1 hcur hcu hgu hg ht hcs hdl hyl hx hy hu hcm
  go_enter Try.func33, Try.ntmps33
  go_wp2_with (simp only [hov])
  go_region_law (refine step_copy_runI rfl _ _ 24 24 rfl _ _ (by simp [Act.eval, Act.put]) (by simp [Act.eval, Act.put]) (hcp1 _ _ _) ?_)
  go_wp2_with (at_builtin; refine wpList_copy_runI _ rfl _ _ 24 24 rfl _ _ rfl rfl (hcp2 _ _) ?_)
  go_ret
  exact ⟨_, rfl, HO.out, HF.out⟩

set_option maxHeartbeats 4000000 in
set_option maxRecDepth 100000 in
/-- There is no room. -/
theorem ins8_grow (w : World) (B B2 : Nat) (v u : Value) (n m i : Nat) (xs ys : List Nat) (g cap : Nat) (cur : Array Value) (hv : v = .slice (some ⟨g, 0, none⟩) n cap) (hg : w.heap[g]? = some (.cells cur 5 (0, 0))) (hB : B ≤ w.heap.size)
    (hnc : n ≤ cap) (ht : cur.toList.take n = xs.map bv) (hx : xs.length = n) (hroom : cap < n + m) (hu : w.ownsRow B2 5 1 u m (ys.map bv)) (hm : 1 ≤ m) (hi : i < n) (hn : n + m ≤ 100000) :
    Calls Try.prog 33 #[v, .int .i64 (i : Int), u] w (InsPost w B n m xs ys i) := by
  subst hv
  have hy : ys.length = m := by simpa using hu.1
  have hux : ∃ (gu cu : Nat) (curu : Array Value), u = .slice (some ⟨gu, 0, none⟩) m cu ∧ w.heap[gu]? = some (.cells curu 5 (0, 0)) ∧ (∀ j x, (ys.map bv)[j]? = some x → w.cell? ⟨gu, j, none⟩ = some x) := by
    rcases hu.2 with ⟨_, h0⟩ | ⟨gu, cu, curu, rfl, _, h2, h3, _, h5, h6⟩
    · omega
    · refine ⟨gu, cu, curu, rfl, h2, fun j x hj => ?_⟩
      rw [← h6, List.getElem?_take] at hj
      rw [cell_heap h2]
      split at hj
      · simpa using hj
      · cases hj
  obtain ⟨gu, cu, curu, rfl, hgu, hcu⟩ := hux
  obtain ⟨i0, hi0, hz0, hzs, hzb⟩ := info_parts info_u8
  have hgl := lt_of_some hg
  have hul := lt_of_some hgu
  have hdl : ((xs.drop i).map bv).length = n - i := by rw [List.length_map, List.length_drop, hx]
  have hyl : (ys.map bv).length = m := by rw [List.length_map, hy]
  have hik : i + (n + m - i) = n + m := by omega
  have hkk : (n : Int) + (m : Int) - (i : Int) = ((n + m - i : Nat) : Int) := by omega
  have hcl : ∀ j x, (xs.map bv)[j]? = some x → w.cell? ⟨g, j, none⟩ = some x := by
    intro j x hj
    rw [cell_heap hg, ← Array.getElem?_toList]
    rw [← ht, List.getElem?_take] at hj
    split at hj
    · exact hj
    · cases hj
  have hold : (Builtin.firstCells i0.size i (.slice (some ⟨g, 0, none⟩) i cap)).run Try.prog w.drew = .ok ((xs.take i).map bv).toArray w.drew := by
    rw [hzs]
    exact run_firstCells_some w.drew 1 i ⟨g, 0, none⟩ i cap ((xs.take i).map bv) (by rw [List.length_map, List.length_take]; omega) (fun j x hj => by
      rw [Addr.add_lit, Nat.zero_add]
      rw [List.map_take, List.getElem?_take] at hj
      split at hj
      · exact hcl j x hj
      · cases hj)
  obtain ⟨G, hG⟩ : ∃ G, G = grownCap w (n + m) cap 5 := ⟨_, rfl⟩
  obtain ⟨L, hL⟩ : ∃ L : List Value, L = ((xs.take i).map bv).toArray.toList ++ (Builtin.zeroCells (Value.int .u8 0).cells (n + m - i)).toList ++ (Builtin.zeroCells (Value.int .u8 0).cells (G - (n + m))).toList := ⟨_, rfl⟩
  have hGn : n + m ≤ G := by rw [hG]; exact grownCap_ge w _ _ _
  have hGm : G ≤ maxLen := by rw [hG]; exact grownCap_le_maxLen w (n + m) cap 5 (by unfold maxLen; omega)
  have hLl : L.length = G := by
    rw [hL]
    simp only [List.length_append, Array.length_toList, size_zeroCells, List.length_map, List.length_take]
    simp only [Value.cells]
    simp
    omega
  have hLt : L.take i = (xs.take i).map bv := by
    rw [hL, List.append_assoc]
    exact List.take_left' (by simp; omega)
  have hrz : ∀ ty, (Builtin.append_ #[24, 3] ty #[.slice (some ⟨g, 0, none⟩) i cap, .int .i64 ((n : Int) + (m : Int) - (i : Int))]).run Try.prog w =
      .ok (.slice (some ⟨w.heap.size, 0, none⟩) (n + m) G) (w.drew.alloc (.cells L.toArray 5)) := fun ty => by
    have h := Lib.run_append_grow_zeros w 24 3 ty 5 i0 _ .i64 .i64 Try.underlying24 Try.underlying3 hi0 hz0 (some ⟨g, 0, none⟩) i cap ((xs.take i).map bv) hold (n + m - i) (by omega) (by omega) (by omega) (by omega) (by rw [hzb]; omega) (by rw [hzb, hik]; exact growslice_fits hroom (by omega))
    rw [hik, ← hG] at h
    rw [hkk, h, hL]
    congr 4
    apply Array.toList_inj.1
    simp
  obtain ⟨hL2, hT⟩ := grow2_ok L xs ys n m i hx hy (by omega) (by omega) hLt
  have hL1 := grow1_len L ys n m i hy (by omega) (by omega)
  obtain ⟨C1, hC1⟩ : ∃ C, C = grow1 L ys i := ⟨_, rfl⟩
  obtain ⟨C2, hC2⟩ : ∃ C, C = grow2 L xs ys m i := ⟨_, rfl⟩
  obtain ⟨N, hN⟩ : ∃ N, N = w.heap.size := ⟨_, rfl⟩
  have hgA : ((w.alloc (.cells L.toArray 5)).drew).heap[N]? = some (.cells L.toArray 5 (0, 0)) := by rw [hN]; exact heap_alloc_new w _
  have hoA : ∀ k, k < N → ((w.alloc (.cells L.toArray 5)).drew).heap[k]? = w.heap[k]? := fun k hk => Below.heap_alloc w _ k (by omega)
  have hcp1 : ∀ ty dc, (Builtin.copy_ #[24, 24] ty #[.slice (some ⟨N, i, none⟩) (n + m - i) dc, .slice (some ⟨gu, 0, none⟩) m cu]).run Try.prog ((w.alloc (.cells L.toArray 5)).drew) = .ok (goInt (ys.map bv).length) (((w.alloc (.cells L.toArray 5)).drew).setRow N C1.toArray) := fun ty dc => by
    have h := run_copy_row (P := Try.prog) ((w.alloc (.cells L.toArray 5)).drew) 24 24 ty 5 N i (n + m - i) dc ⟨gu, 0, none⟩ m cu L.toArray 5 (ys.map bv) Try.underlying24 size_u8 hgA (by rw [hyl]; simp only [Nat.min_def]; split <;> omega) (fun j x hj => by rw [Addr.add_lit, Nat.zero_add, World.cell?_of_block (w := w) (hoA gu (by omega))]; exact hcu j x hj) (by rw [hyl, List.size_toArray, hLl]; omega) (bv_one _)
    rw [h, hC1]
    rfl
  obtain ⟨W1, hW1⟩ : ∃ W1, W1 = ((w.alloc (.cells L.toArray 5)).drew).setRow N C1.toArray := ⟨_, rfl⟩
  have hg1 : W1.heap[N]? = some (.cells C1.toArray 5 (0, 0)) := by rw [hW1]; exact setRow_row hgA
  have ho1 : ∀ k, k < N → W1.heap[k]? = w.heap[k]? := fun k hk => by rw [hW1]; exact (setRow_other _ N k _ (by omega)).trans (hoA k hk)
  have hcp2 : ∀ ty dc sc, (Builtin.copy_ #[24, 24] ty #[.slice (some ⟨N, i + m, none⟩) (n + m - (i + m)) dc, .slice (some ⟨g, i, none⟩) (n - i) sc]).run Try.prog W1.drew = .ok (goInt ((xs.drop i).map bv).length) (W1.drew.setRow N C2.toArray) := fun ty dc sc => by
    have h := run_copy_row (P := Try.prog) W1.drew 24 24 ty 5 N (i + m) (n + m - (i + m)) dc ⟨g, i, none⟩ (n - i) sc C1.toArray 5 ((xs.drop i).map bv) Try.underlying24 size_u8 hg1 (by rw [hdl]; simp only [Nat.min_def]; split <;> omega) (fun j x hj => by
      rw [Addr.add_lit]
      show W1.cell? _ = _
      rw [World.cell?_of_block (w := w) (ho1 g (by omega))]
      exact hcl _ x (by rwa [List.map_drop, List.getElem?_drop] at hj)) (by rw [hdl, List.size_toArray, hC1, hL1, hLl]; omega) (bv_one _)
    rw [h, hC2]
    rw [hC1]
    rfl
  rw [← hW1] at hcp1
  have hf1 : Frm 5 B w (W1.drew.setRow N C2.toArray) := by
    have h1 : Frm 5 B w W1 := by rw [hW1]; exact (((Frm.refl _ _ w).alloc _).drewN 1).trans (frm_setRow hgA (by omega))
    exact (h1.drewN 1).trans (frm_setRow (w := W1.drew) hg1 (by omega))
  have hown : (W1.drew.setRow N C2.toArray).ownsRow B 5 1 (.slice (some ⟨N, 0, none⟩) (n + m) G) (n + m) ((ins8 xs ys i).map bv) := by
    refine ⟨by rw [List.length_map, ins8_len, hx, hy, Nat.mul_one], .inr ⟨N, G, C2.toArray, rfl, by omega, setRow_row (w := W1.drew) hg1, hGn, hGm, ?_, ?_⟩⟩
    · rw [List.size_toArray, hC2, hL2, hLl, Nat.mul_one]
    · rw [List.toList_toArray, hC2, Nat.mul_one, hT]
  have hz1 : ¬ ((m : Int) = 0) := by omega
  have hz2 : ¬ ((i : Int) = (n : Int)) := by omega
  have hz3 : (cap : Int) < (n : Int) + (m : Int) := by omega
  have hG63 : G ≤ 9223372036854775807 := by unfold maxLen at hGm; omega
  have hGi : ¬ (G = i) := by omega
  have hGim : ¬ (G = i + m) := by omega
  have hci : ¬ (cap = i) := by omega
  have hw1 : IntKind.i64.wrap ((i : Int) + (m : Int)) = (i : Int) + (m : Int) := by rw [IntKind.wrap_i64]; omega
  have hb1 : (0 : Int) ≤ (i : Int) + (m : Int) := by omega
  have hin : i ≤ n := by omega
  have htn : ((i : Int) + (m : Int)).toNat = i + m := by omega
  have hb3 : (i : Int) ≤ (n : Int) := by omega
  have HF := Lib.hid hf1; have HO := Lib.hid hown
  rw [← hN] at hrz
  clear hf1 hown hg1 ho1 hW1 hC1 hC2 hL2 hT hL1 hcl hcu hgu hg ht hdl hyl hx hy hu hGm hLl hLt hL hG hik hkk hold hgA hoA hi0 hz0 hzs hzb hgl hul hN
  go_enter Try.func33, Try.ntmps33
  go_wp2_with (first
    | (at_builtin; refine Lib.wpList_append_run _ rfl _ _ _ _ rfl _ _ rfl rfl _ _ (hrz _) ?_)
    | (at_builtin; refine wpList_copy_runI _ rfl _ _ 24 24 rfl _ _ rfl rfl (hcp1 _ _) ?_))
  go_region_law (refine step_copy_runI rfl _ _ 24 24 rfl (.slice (some ⟨N, i + m, none⟩) (n + m - (i + m)) (G - (i + m))) (.slice (some ⟨g, i, none⟩) (n - i) (cap - i)) (by simp [Act.eval, Act.put]) (by simp [Act.eval, Act.put]) (hcp2 3 (G - (i + m)) (cap - i)) ?_)
  go_wp2
  go_ret
  exact ⟨_, rfl, HO.out, HF.out⟩

theorem ins8_any (w : World) (B B2 : Nat) (v u : Value) (n m i : Nat) (xs ys : List Nat) (hv : w.ownsRow B 5 1 v n (xs.map bv)) (hu : w.ownsRow B2 5 1 u m (ys.map bv)) (hne : ∀ g, v.ownBlock = some g → u.ownBlock ≠ some g) (hm : 1 ≤ m) (hi : i ≤ n) (hB : B ≤ w.heap.size) (hn : n + m ≤ 100000) :
    Calls Try.prog 33 #[v, .int .i64 (i : Int), u] w (InsPost w B n m xs ys i) := by
  by_cases e : i = n
  · subst e
    exact ins8_end w B B2 v u i m xs ys hv hu hm hB hn
  · have hx : xs.length = n := by simpa using hv.1
    rcases hv.2 with ⟨_, h0⟩ | ⟨g, cap, cur, hve, h1, h2, h3, h4, h5, h6⟩
    · omega
    · rw [Nat.mul_one] at h5 h6
      by_cases hr : n + m ≤ cap
      · exact ins8_room w B B2 v u n m i xs ys g cap cur hve h2 h1 h4 h5 h6 hx hr hu (hne g (by rw [hve]; rfl)) hm (by omega) hn
      · exact ins8_grow w B B2 v u n m i xs ys g cap cur hve h2 hB h3 h6 hx (by omega) hu hm (by omega) hn
end Go.Proofs.Ytlimaefgifgegaa
