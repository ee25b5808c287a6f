/- slices.Insert of one number into a row of the call's own. -/
import Derived.Test.YtnhhhnhakpambaaLayIns
import Derived.Test.YtnhhhnhakpambaaGraphCloM
namespace Go.Proofs.Ytnhhhnhakpambaa
open Go.RowKit

def setM (l : List Value) : Nat → List Value → List Value
  | _, [] => l
  | o, v :: r => setM (l.set o v) (o + 1) r
theorem setM_len : ∀ (vs : List Value) (l : List Value) (o : Nat), (setM l o vs).length = l.length
  | [], _, _ => rfl
  | v :: r, l, o => by rw [setM, setM_len r]; simp
theorem setM_get : ∀ (vs : List Value) (l : List Value) (o j : Nat), (setM l o vs)[j]? = if o ≤ j ∧ j < o + vs.length ∧ j < l.length then vs[j - o]? else l[j]?
  | [], l, o, j => by rw [setM, if_neg (by simp; omega)]
  | v :: r, l, o, j => by
    rw [setM, setM_get r, List.length_set]
    by_cases h : o + 1 ≤ j ∧ j < o + 1 + r.length ∧ j < l.length
    · rw [if_pos h, if_pos ⟨by omega, by simp; omega, h.2.2⟩, show j - o = (j - (o + 1)) + 1 by omega, List.getElem?_cons_succ]
    · rw [if_neg h, List.getElem?_set]
      by_cases e : o = j
      · subst e
        rw [if_pos rfl]
        by_cases hl : o < l.length
        · rw [if_pos hl, if_pos ⟨Nat.le_refl _, by simp, hl⟩]; simp
        · rw [if_neg hl, if_neg (by intro h; exact hl h.2.2), List.getElem?_eq_none (by omega)]
      · rw [if_neg e, if_neg (by intro h2; apply h; simp at h2; omega)]
theorem heap_setMany (g : Nat) (t : TypeId) : ∀ (vs : List Value) (o : Nat) (w : World) (cur : Array Value), w.heap[g]? = some (.cells cur t (0, 0)) → ∃ cur' : Array Value, (w.setCells g o vs).heap[g]? = some (.cells cur' t (0, 0)) ∧ cur'.toList = setM cur.toList o vs
  | [], _, _, cur, h => ⟨cur, h, rfl⟩
  | v :: r, o, w, cur, h => by
    obtain ⟨cur', h1, h2⟩ := heap_setMany g t r (o + 1) (w.setCell ⟨g, o, none⟩ v) (cur.setIfInBounds o v) (heap_set h)
    exact ⟨cur', h1, by rw [h2, setM, Array.toList_setIfInBounds]⟩
theorem grownBy_setMany (g : Nat) : ∀ (vs : List Value) (o : Nat) (w : World), w.grownBy (w.setCells g o vs) (some g)
  | [], _, _ => ⟨rfl, rfl, rfl, Nat.le_refl _, fun _ _ _ => rfl⟩
  | v :: r, o, w => grownBy_trans (Proofs.Ytnhhhnhakpambaa.grownBy_setCell w g o v) (grownBy_setMany g r (o + 1) _)
theorem size_setMany (g : Nat) : ∀ (vs : List Value) (o : Nat) (w : World), (w.setCells g o vs).heap.size = w.heap.size
  | [], _, _ => rfl
  | v :: r, o, w => by rw [World.setCells, size_setMany g r, size_setCell]
theorem grown_new {w w1 w2 : World} {g : Nat} {row : Option Nat} (h : w.grownBy w1 none) (k : w1.grownBy w2 (some g)) (hg : w.heap.size ≤ g) : w.grownBy w2 row :=
  ⟨k.os.trans h.os, k.tape.trans h.tape, k.output.trans h.output, Nat.le_trans h.size k.size, fun i hi _ => (k.block i (Nat.lt_of_lt_of_le hi h.size) (fun e => by cases e; omega)).trans (h.block i hi (by simp))⟩
def insM (xs : List Int) (i : Nat) (x : Int) : List Int := xs.take i ++ x :: xs.drop i
theorem insM_len {xs : List Int} {i : Nat} {x : Int} (h : i ≤ xs.length) : (insM xs i x).length = xs.length + 1 := by
  unfold insM; rw [List.length_append, List.length_cons, List.length_take, List.length_drop]; omega
theorem insM_get {xs : List Int} {i : Nat} {x : Int} (h : i ≤ xs.length) (j : Nat) : ((insM xs i x).map iv)[j]? = if j < i then (xs.map iv)[j]? else if j = i then some (iv x) else (xs.map iv)[j - 1]? := by
  unfold insM
  rw [List.map_append, List.map_cons, List.getElem?_append, List.length_map, List.length_take, Nat.min_eq_left h]
  by_cases h1 : j < i
  · rw [if_pos h1, if_pos h1, List.map_take, List.getElem?_take, if_pos h1]
  · rw [if_neg h1, if_neg h1]
    by_cases h2 : j = i
    · subst h2; simp
    · rw [if_neg h2, show j - i = (j - i - 1) + 1 by omega, List.getElem?_cons_succ, List.map_drop, List.getElem?_drop]
      congr 1; omega
def InsR (B n : Nat) (v : Value) (xs : List Int) (i : Nat) (x : Int) (w : World) (e : Ending) (w' : World) : Prop := ∃ v', e = .returned v' ∧ w'.ownsRow B 3 1 v' (n + 1) ((insM xs i x).map iv) ∧ w.grownBy w' v.ownBlock ∧ Fresh w v v'
theorem iv_one (l : List Int) : ∀ u ∈ l.map iv, u.oneCell' = true := by
  intro u hu
  obtain ⟨x, _, rfl⟩ := List.mem_map.1 hu
  rfl
theorem cell_of_heap {w : World} {g : Nat} {cs : Array Value} {t : TypeId} (h : w.heap[g]? = some (.cells cs t (0, 0))) (j : Nat) : w.cell? ⟨g, j, none⟩ = cs[j]? := by
  simp [World.cell?, h]
theorem frozen_of_heap {w : World} {g : Nat} {cs : Array Value} {t : TypeId} (h : w.heap[g]? = some (.cells cs t (0, 0))) (j : Nat) : w.frozen? ⟨g, j, none⟩ = false := by
  simp [World.frozen?, h]
set_option maxHeartbeats 1000000 in
theorem insert_own (w : World) (B : Nat) (v : Value) (n : Nat) (xs : List Int) (i : Nat) (x : Int) (vb vc : Nat) (hown : w.ownsRow B 3 1 v n (xs.map iv)) (hi : i ≤ n) (hx : w.heap[vb]? = some (.cells #[.int .i64 x] 3 (0, 0))) (hne : v.ownBlock ≠ some vb) (hB : B ≤ w.heap.size) (hn : n ≤ 10000) :
    Calls Try.prog 53 #[v, .int .i64 (i : Int), .slice (some ⟨vb, 0, none⟩) 1 vc] w (InsR B n v xs i x w) := by
  have hxl : xs.length = n := by have := hown.1; simpa using this
  have hvs : ∀ j u, [iv x][j]? = some u → w.cell? ⟨vb, 0 + j, none⟩ = some u := by
    intro j u hj
    rw [cell_of_heap hx, Nat.zero_add]
    match j, hj with
    | 0, hj => simpa [iv] using hj
  have h1v : ∀ u ∈ [iv x], u.oneCell' = true := iv_one [x]
  rcases hown.2 with ⟨rfl, rfl⟩ | ⟨g, cap, cur, rfl, hBg, hg, hncap, hcapm, hcs, htk⟩
  · obtain rfl : i = 0 := by omega
    obtain rfl : xs = [] := List.length_eq_zero_iff.1 hxl
    refine (Any2.slices_Insert_int_end_grow laysNm221 none 0 0 vb 0 1 vc [] [iv x] w (by omega) (by omega) (by omega) (by omega) rfl rfl (fun _ => rfl) (by intro a h; cases h) hvs h1v).mono ?_
    rintro e w' ⟨rfl, rfl⟩
    refine ⟨_, rfl, ⟨by simp [insM], .inr ⟨w.heap.size, _, _, rfl, hB, heap_alloc_new w.drew _, (show 1 ≤ grownCap w 1 0 3 from grownCap_ge w 1 0 3), ?_, ?_, ?_⟩⟩, ⟨rfl, rfl, rfl, by simp, fun k hk _ => Below.heap_alloc w _ k hk⟩, ⟨w.heap.size, rfl, .inr (Nat.le_refl _)⟩⟩
    · exact grownCap_le_maxLen w 1 0 _ (by decide)
    · have := grownCap_ge w 1 0 3
      simp only [Array.size_append, size_zeroCells]
      simp only [Value.cells]
      simp [laysNm221_ren]
      omega
    · simp [insM]
  · have hgb : (Value.slice (some ⟨g, 0, none⟩) n cap).ownBlock = some g := rfl
    rw [hgb] at hne
    have hvbg : vb ≠ g := fun e => hne (by rw [e])
    rw [Nat.mul_one] at hcs htk
    have hcl : (xs.map iv).length = n := by rw [List.length_map, hxl]
    have hcs2 : ∀ j u, (xs.map iv)[j]? = some u → w.cell? ⟨g, 0 + j, none⟩ = some u := by
      intro j u hj
      rw [← htk, List.getElem?_take] at hj
      rw [cell_of_heap hg, Nat.zero_add]
      by_cases h : j < n
      · rw [if_pos h] at hj; simpa using hj
      · rw [if_neg h] at hj; cases hj
    have hsp : ∀ j, j < cap → (w.cell? ⟨g, 0 + j, none⟩).isSome = true := by
      intro j hj
      rw [cell_of_heap hg, Nat.zero_add, Array.getElem?_eq_getElem (by omega)]
      rfl
    have hfz : ∀ j, w.frozen? ⟨g, j, none⟩ = false := frozen_of_heap hg
    have hcur : ∀ j, j < n → cur.toList[j]? = (xs.map iv)[j]? := by
      intro j hj
      rw [← htk, List.getElem?_take, if_pos hj]
    rcases Nat.lt_or_ge cap (n + 1) with hroom | hroom
    · rcases Nat.lt_or_ge i n with hin | hin
      · refine (Any2.slices_Insert_int_grow laysNm221 g 0 n cap i vb 0 1 vc (xs.map iv) [iv x] w hin (by omega) hncap hroom (by omega) hcl rfl hcs2 hvs (iv_one xs) h1v).mono ?_
        rintro e w' ⟨rfl, rfl⟩
        have hge := grownCap_ge w (n + 1) cap 3
        generalize hGC : grownCap w (n + 1) cap (laysNm221_ren.t 3) = GC at *
        have hGC' : grownCap w (n + 1) cap 3 = GC := hGC
        rw [hGC'] at hge
        generalize hC0 : ((List.take i (xs.map iv)).toArray ++ Builtin.zeroCells (Value.int .i64 0).cells (n + 1 - i) ++ Builtin.zeroCells (Value.int .i64 0).cells (GC - (n + 1))) = C0
        have hC0s : C0.size = GC := by
          rw [← hC0]
          simp only [Array.size_append, size_zeroCells, List.size_toArray, List.length_take, List.length_map, hxl, Value.cells]
          simp; omega
        have hC0g : ∀ j, j < i → C0.toList[j]? = (xs.map iv)[j]? := by
          intro j hj
          rw [← hC0]
          simp only [Array.toList_append, List.append_assoc]
          rw [List.getElem?_append_left (by simp [hxl]; omega), List.getElem?_take, if_pos hj]
        have hnew : (w.alloc (.cells C0 (laysNm221_ren.t 3))).drew.heap[w.heap.size]? = some (.cells C0 3 (0, 0)) := heap_alloc_new w _
        obtain ⟨c1, hc1, hl1⟩ := heap_setMany w.heap.size 3 [iv x] i _ _ hnew
        obtain ⟨c2, hc2, hl2⟩ := heap_setMany w.heap.size 3 ((xs.map iv).drop i) (i + 1) _ _ (show ((w.alloc (.cells C0 (laysNm221_ren.t 3))).drew.setCells w.heap.size i [iv x]).drew.heap[w.heap.size]? = _ from hc1)
        refine ⟨_, rfl, ⟨by rw [List.length_map, insM_len (by omega)]; omega, .inr ⟨w.heap.size, GC, c2, rfl, hB, hc2, hge, ?_, ?_, ?_⟩⟩, ?_, ⟨w.heap.size, rfl, .inr (Nat.le_refl _)⟩⟩
        · rw [← hGC']; exact grownCap_le_maxLen w _ _ _ (by unfold maxLen; omega)
        · have : c2.toList.length = C0.toList.length := by rw [hl2, setM_len, hl1, setM_len]
          simp at this; omega
        · refine List.ext_getElem? fun j => ?_
          rw [List.getElem?_take, insM_get (by omega)]
          by_cases hj : j < (n + 1) * 1
          · rw [if_pos hj, hl2, setM_get, hl1, setM_len, setM_get]
            have hlen : C0.toList.length = GC := by simpa using hC0s
            rw [hlen]
            by_cases hji : j < i
            · rw [if_neg (by omega), if_neg (by simp; omega), if_pos hji, hC0g j hji]
            · by_cases hje : j = i
              · subst hje
                rw [if_neg (by omega), if_pos ⟨Nat.le_refl _, by simp, by omega⟩, if_neg (by omega), if_pos rfl]
                simp
              · rw [if_pos ⟨by omega, by rw [List.length_drop, hcl]; omega, by omega⟩, if_neg hji, if_neg hje, List.getElem?_drop]
                congr 1; omega
          · rw [if_neg hj, if_neg (by omega), if_neg (by omega), List.getElem?_eq_none (by rw [hcl]; omega)]
        · rw [hgb]
          have k0 : w.grownBy (w.alloc (.cells C0 (laysNm221_ren.t 3))).drew none := ⟨rfl, rfl, rfl, by simp, fun k hk _ => Below.heap_alloc w _ k hk⟩
          have k1 := grownBy_setMany w.heap.size [iv x] i (w.alloc (.cells C0 (laysNm221_ren.t 3))).drew
          have k2 := grownBy_setMany w.heap.size ((xs.map iv).drop i) (i + 1) ((w.alloc (.cells C0 (laysNm221_ren.t 3))).drew.setCells w.heap.size i [iv x]).drew
          exact grown_new k0 (grownBy_trans k1 (⟨k2.os, k2.tape, k2.output, k2.size, k2.block⟩)) (Nat.le_refl _)
      · obtain rfl : i = n := by omega
        refine (Any2.slices_Insert_int_end_grow laysNm221 (some ⟨g, 0, none⟩) i cap vb 0 1 vc (xs.map iv) [iv x] w (by omega) hncap hroom (by omega) hcl rfl (by intro h; cases h) (by intro a h j u hj; cases h; have h5 := hcs2 j u hj; rw [Nat.zero_add] at h5; cases j <;> simpa [Addr.add] using h5) hvs h1v).mono ?_
        rintro e w' ⟨rfl, rfl⟩
        have hge := grownCap_ge w (i + 1) cap 3
        generalize hGC : grownCap w (i + 1) cap (laysNm221_ren.t 3) = GC at *
        have hGC' : grownCap w (i + 1) cap 3 = GC := hGC
        rw [hGC'] at hge
        refine ⟨_, rfl, ⟨by rw [List.length_map, insM_len (by omega)]; omega, .inr ⟨w.heap.size, GC, _, rfl, hB, heap_alloc_new w.drew _, hge, ?_, ?_, ?_⟩⟩, ⟨rfl, rfl, rfl, by simp, fun k hk _ => Below.heap_alloc w _ k hk⟩, ⟨w.heap.size, rfl, .inr (Nat.le_refl _)⟩⟩
        · rw [← hGC']; exact grownCap_le_maxLen w _ _ _ (by unfold maxLen; omega)
        · simp only [Array.size_append, size_zeroCells, List.size_toArray, List.length_append, hcl, Value.cells]
          simp; omega
        · have e : insM xs i x = xs ++ [x] := by unfold insM; rw [List.take_of_length_le (by omega), List.drop_eq_nil_of_le (by omega)]
          rw [e, Array.toList_append, List.map_append]
          show List.take _ ((xs.map iv ++ [iv x]) ++ _) = _
          rw [List.take_append_of_le_length (by simp [hxl]), List.take_of_length_le (by simp [hxl])]
          rfl
    · rcases Nat.lt_or_ge i n with hin | hin
      · refine (Any2.slices_Insert_int_shift laysNm221 g 0 n cap i vb 0 1 vc (xs.map iv) [iv x] w hin (by omega) hroom (by unfold maxLen at hcapm; omega) hvbg hcl rfl hcs2 (fun j hj => hsp j (by omega)) (fun j _ => hfz _) hvs (iv_one xs) h1v 3 3 1 cur.size (by simp [World.shape?, hx]) (by simp [World.shape?, hg]) (by omega) (frozen_of_heap hx 0) (frozen_of_heap hx 1)).mono ?_
        rintro e w' ⟨rfl, rfl⟩
        obtain ⟨c1, hc1, hl1⟩ := heap_setMany g 3 ((xs.map iv).drop i) (0 + (i + 1)) w.drew cur hg
        obtain ⟨c2, hc2, hl2⟩ := heap_setMany g 3 [iv x] (0 + i) _ c1 hc1
        have hlen : cur.toList.length = cap := by simpa using hcs
        refine ⟨_, rfl, ⟨by rw [List.length_map, insM_len (by omega)]; omega, .inr ⟨g, cap, c2, rfl, hBg, hc2, hroom, hcapm, ?_, ?_⟩⟩, ?_, ⟨g, rfl, .inl rfl⟩⟩
        · have : c2.toList.length = cur.toList.length := by rw [hl2, setM_len, hl1, setM_len]
          simp at this; omega
        · refine List.ext_getElem? fun j => ?_
          rw [List.getElem?_take, insM_get (by omega)]
          by_cases hj : j < (n + 1) * 1
          · rw [if_pos hj, hl2, setM_get, hl1, setM_len, setM_get, hlen]
            by_cases hji : j < i
            · rw [if_neg (by omega), if_neg (by omega), if_pos hji, hcur j (by omega)]
            · by_cases hje : j = i
              · subst hje
                rw [if_pos ⟨by omega, by simp, by omega⟩, if_neg (by omega), if_pos rfl]
                simp
              · rw [if_neg (by simp; omega), if_pos ⟨by omega, by rw [List.length_drop, hcl]; omega, by omega⟩, if_neg hji, if_neg hje, List.getElem?_drop]
                congr 1; omega
          · rw [if_neg hj, if_neg (by omega), if_neg (by omega), List.getElem?_eq_none (by rw [hcl]; omega)]
        · rw [hgb]
          have k1 := grownBy_setMany g ((xs.map iv).drop i) (0 + (i + 1)) w.drew
          have k2 := grownBy_setMany g [iv x] (0 + i) (w.drew.setCells g (0 + (i + 1)) ((xs.map iv).drop i))
          exact grownBy_trans (⟨k1.os, k1.tape, k1.output, k1.size, k1.block⟩) k2
      · obtain rfl : i = n := by omega
        refine (Any2.slices_Insert_int_end_room laysNm221 g 0 i cap vb 0 1 vc [iv x] w (by omega) hroom (by unfold maxLen at hcapm; omega) rfl (fun j hj => by have := hsp (i + j) (by omega); rwa [Nat.add_assoc]) (fun j _ => hfz _) hvs h1v).mono ?_
        rintro e w' ⟨rfl, rfl⟩
        obtain ⟨c1, hc1, hl1⟩ := heap_setMany g 3 [iv x] (0 + i) w cur hg
        have hlen : cur.toList.length = cap := by simpa using hcs
        refine ⟨_, rfl, ⟨by rw [List.length_map, insM_len (by omega)]; omega, .inr ⟨g, cap, c1, rfl, hBg, hc1, hroom, hcapm, ?_, ?_⟩⟩, ?_, ⟨g, rfl, .inl rfl⟩⟩
        · have : c1.toList.length = cur.toList.length := by rw [hl1, setM_len]
          simp at this; omega
        · refine List.ext_getElem? fun j => ?_
          rw [List.getElem?_take, insM_get (by omega)]
          by_cases hj : j < (i + 1) * 1
          · rw [if_pos hj, hl1, setM_get, hlen]
            by_cases hji : j < i
            · rw [if_neg (by omega), if_pos hji, hcur j (by omega)]
            · obtain rfl : j = i := by omega
              rw [if_pos ⟨by omega, by simp, by omega⟩, if_neg (by omega), if_pos rfl]
              simp
          · rw [if_neg hj, if_neg (by omega), if_neg (by omega), List.getElem?_eq_none (by rw [hcl]; omega)]
        · rw [hgb]
          exact grownBy_setMany g [iv x] (0 + i) w
end Go.Proofs.Ytnhhhnhakpambaa
