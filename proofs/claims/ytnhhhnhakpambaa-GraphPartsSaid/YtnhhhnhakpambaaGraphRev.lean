/- Directed graphs: reversal, orders. Of no program. -/
import Derived.Test.YtnhhhnhakpambaaGraphM
namespace Go.Proofs.Ytnhhhnhakpambaa

theorem asc_ext : ∀ {l m : List Nat}, l.Pairwise (· < ·) → m.Pairwise (· < ·) → (∀ x, x ∈ l ↔ x ∈ m) → l = m
  | [], [], _, _, _ => rfl
  | [], b :: m, _, _, h => absurd ((h b).2 (by simp)) (by simp)
  | a :: l, [], _, _, h => absurd ((h a).1 (by simp)) (by simp)
  | a :: l, b :: m, hl, hm, h => by
    obtain ⟨hl1, hl2⟩ := List.pairwise_cons.1 hl
    obtain ⟨hm1, hm2⟩ := List.pairwise_cons.1 hm
    have e : a = b := by
      rcases List.mem_cons.1 ((h a).1 (by simp)) with h1 | h1
      · exact h1
      · rcases List.mem_cons.1 ((h b).2 (by simp)) with h2 | h2
        · exact h2.symm
        · have := hm1 a h1; have := hl1 b h2; omega
    subst e
    rw [asc_ext hl2 hm2 fun x => ⟨fun hx => ?_, fun hx => ?_⟩]
    · rcases List.mem_cons.1 ((h x).1 (List.mem_cons_of_mem _ hx)) with h1 | h1
      · have := hl1 x hx; omega
      · exact h1
    · rcases List.mem_cons.1 ((h x).2 (List.mem_cons_of_mem _ hx)) with h1 | h1
      · have := hm1 x hx; omega
      · exact h1
theorem range_asc (n : Nat) : (List.range n).Pairwise (· < ·) := List.pairwise_lt_range
/-- The nodes below i that lead to j, and i, if j is among the first k successors of i. -/
def rv (g : List (List Nat)) (i k j : Nat) : List Nat := ((List.range i).filter fun m => decide (j ∈ row g m)) ++ if j ∈ (row g i).take k then [i] else []
def rowsR (g : List (List Nat)) (i k : Nat) : List (List Nat) := (List.range g.length).map (rv g i k)
def revM (g : List (List Nat)) : List (List Nat) := rowsR g g.length 0
theorem rv_zero (g : List (List Nat)) (i j : Nat) : rv g i 0 j = (List.range i).filter fun m => decide (j ∈ row g m) := by simp [rv]
theorem rv_next (g : List (List Nat)) (i j : Nat) : rv g i (row g i).length j = rv g (i + 1) 0 j := by
  rw [rv_zero, List.range_succ, List.filter_append, rv, List.take_length]
  by_cases h : j ∈ row g i <;> simp [h]
theorem not_take {l : List Nat} (h : l.Pairwise (· < ·)) {k : Nat} (hk : k < l.length) : l[k] ∉ l.take k := by
  intro hm
  obtain ⟨m, hm1, hm2⟩ := List.getElem_of_mem hm
  have hm3 : m < k := by rw [List.length_take] at hm1; omega
  rw [List.getElem_take] at hm2
  have := List.pairwise_iff_getElem.1 h m k (by omega) hk hm3
  omega
theorem rv_succ {g : List (List Nat)} (hg : VG g) {i k : Nat} (hk : k < (row g i).length) (j : Nat) : rv g i (k + 1) j = if j = (row g i)[k] then rv g i k j ++ [i] else rv g i k j := by
  have h1 := take_succ_mem hk j
  by_cases e : j = (row g i)[k]
  · have hn : j ∉ (row g i).take k := by rw [e]; exact not_take (hg.asc i) hk
    rw [if_pos e]
    unfold rv
    rw [if_pos (h1.2 (.inr e)), if_neg hn, List.append_nil]
  · rw [if_neg e]
    unfold rv
    by_cases hm : j ∈ (row g i).take k
    · rw [if_pos (h1.2 (.inl hm)), if_pos hm]
    · rw [if_neg hm, if_neg (fun h => (h1.1 h).elim hm e)]
theorem rv_len (g : List (List Nat)) (i k j : Nat) : (rv g i k j).length ≤ i + 1 := by
  unfold rv
  have := List.length_filter_le (fun m => decide (j ∈ row g m)) (List.range i)
  rw [List.length_range] at this
  rw [List.length_append]
  split <;> simp <;> omega
theorem rowsR_len (g : List (List Nat)) (i k : Nat) : (rowsR g i k).length = g.length := by simp [rowsR]
theorem rowsR_row (g : List (List Nat)) (i k j : Nat) (hj : j < g.length) : row (rowsR g i k) j = rv g i k j := by
  unfold row rowsR
  rw [List.getElem?_map, List.getElem?_range hj]; rfl
theorem rowsR_next (g : List (List Nat)) (i : Nat) : rowsR g i (row g i).length = rowsR g (i + 1) 0 := by
  unfold rowsR
  exact List.map_congr_left fun j _ => rv_next g i j
theorem rowsR_start (g : List (List Nat)) : rowsR g 0 0 = List.replicate g.length [] := by
  unfold rowsR
  refine List.ext_getElem (by simp) fun j h1 h2 => ?_
  simp [rv]
theorem rowsR_succ {g : List (List Nat)} (hg : VG g) {i k : Nat} (hk : k < (row g i).length) : rowsR g i (k + 1) = (rowsR g i k).set (row g i)[k] (rv g i k (row g i)[k] ++ [i]) := by
  refine List.ext_getElem (by simp [rowsR]) fun j h1 h2 => ?_
  rw [List.getElem_set]
  simp only [rowsR, List.getElem_map, List.getElem_range]
  rw [rv_succ hg hk]
  by_cases e : j = (row g i)[k]
  · rw [if_pos e, if_pos e.symm, e]
  · rw [if_neg e, if_neg (fun h => e h.symm)]
theorem revM_len (g : List (List Nat)) : (revM g).length = g.length := rowsR_len g _ _
theorem revM_row {g : List (List Nat)} {j : Nat} (hj : j < g.length) : row (revM g) j = (List.range g.length).filter fun m => decide (j ∈ row g m) := by
  unfold revM; rw [rowsR_row g _ _ j hj, rv_zero]
theorem revM_mem {g : List (List Nat)} (hg : VG g) (u v : Nat) : v ∈ row (revM g) u ↔ u ∈ row g v := by
  constructor
  · intro h
    have hu : u < g.length := by have := row_lt h; rwa [revM_len] at this
    rw [revM_row hu] at h
    simpa using (List.mem_filter.1 h).2
  · intro h
    rw [revM_row (hg.node v u h)]
    exact List.mem_filter.2 ⟨List.mem_range.2 (row_lt h), by simpa using h⟩
theorem revM_rev {g : List (List Nat)} (hg : VG g) : Rev g (revM g) := ⟨revM_len g, revM_mem hg⟩
theorem revM_vg {g : List (List Nat)} (hg : VG g) : VG (revM g) := by
  refine ⟨by rw [revM_len]; exact hg.len, fun i x hx => ?_, fun i => ?_⟩
  · rw [revM_len]; exact row_lt ((revM_mem hg i x).1 hx)
  · rcases Nat.lt_or_ge i g.length with h | h
    · rw [revM_row h]
      exact (range_asc _).filter _
    · rw [row_big (by rw [revM_len]; exact h)]; exact List.Pairwise.nil
theorem graph_ext {g h : List (List Nat)} (hl : g.length = h.length) (hr : ∀ i, i < g.length → row g i = row h i) : g = h := by
  refine List.ext_getElem hl fun i h1 h2 => ?_
  have := hr i h1
  rwa [row_get h1, row_get h2] at this
theorem VG.ext {g h : List (List Nat)} (hg : VG g) (hh : VG h) (hl : g.length = h.length) (hm : ∀ i x, x ∈ row g i ↔ x ∈ row h i) : g = h :=
  graph_ext hl fun i _ => asc_ext (hg.asc i) (hh.asc i) (hm i)
theorem revM_revM {g : List (List Nat)} (hg : VG g) : revM (revM g) = g :=
  (revM_vg (revM_vg hg)).ext hg (by rw [revM_len, revM_len]) fun i x => by rw [revM_mem (revM_vg hg), revM_mem hg]

-- the order
/-- i can come next: it is not listed, and all that lead to it are. -/
def cand (g : List (List Nat)) (out : List Nat) (i : Nat) : Bool := decide (i ∉ out) && (List.range g.length).all fun m => decide (i ∈ row g m → m ∈ out)
theorem cand_iff (g : List (List Nat)) (out : List Nat) (i : Nat) : cand g out i = true ↔ i ∉ out ∧ ∀ m, i ∈ row g m → m ∈ out := by
  unfold cand
  simp only [Bool.and_eq_true, decide_eq_true_eq, List.all_eq_true, List.mem_range]
  constructor
  · rintro ⟨h1, h2⟩; exact ⟨h1, fun m hm => h2 m (row_lt hm) hm⟩
  · rintro ⟨h1, h2⟩; exact ⟨h1, fun m _ hm => h2 m hm⟩
def nxtO (g : List (List Nat)) (out : List Nat) : Option Nat := (List.range g.length).find? (cand g out)
def ordM (g : List (List Nat)) : Nat → List Nat → Option (List Nat)
  | 0, out => some out
  | k + 1, out => match nxtO g out with
    | none => none
    | some x => ordM g k (out ++ [x])
def cnt (g : List (List Nat)) (out : List Nat) (i : Nat) : Nat := ((List.range g.length).filter fun m => decide (i ∈ row g m ∧ m ∉ out)).length
theorem cnt_zero (g : List (List Nat)) (out : List Nat) (i : Nat) : cnt g out i = 0 ↔ ∀ m, i ∈ row g m → m ∈ out := by
  unfold cnt
  rw [List.length_eq_zero_iff, List.filter_eq_nil_iff]
  constructor
  · intro h m hm
    have := h m (List.mem_range.2 (row_lt hm))
    simp only [decide_eq_true_eq] at this
    exact Classical.not_not.1 fun hn => this ⟨hm, hn⟩
  · intro h m _
    simp only [decide_eq_true_eq]
    rintro ⟨h1, h2⟩
    exact h2 (h m h1)
/-- The counters of the code: what leads to a node and is not listed yet; -1 at what is listed. -/
structure Ahd (g : List (List Nat)) (out : List Nat) (A : List Int) : Prop where
  len : A.length = g.length
  node : ∀ x ∈ out, x < g.length
  nodup : out.Nodup
  shut : ∀ x ∈ out, ∀ m, x ∈ row g m → m ∈ out
  at_ : ∀ i, i < g.length → dat A i = if i ∈ out then -1 else (cnt g out i : Int)
/-- x has just been listed, and k of its successors are counted down. -/
structure AhdK (g : List (List Nat)) (out : List Nat) (x k : Nat) (A : List Int) : Prop where
  len : A.length = g.length
  at_ : ∀ i, i < g.length → dat A i = if i ∈ out ++ [x] then -1 else (cnt g out i : Int) - if i ∈ (row g x).take k then 1 else 0
theorem Ahd.qlen {g : List (List Nat)} {out : List Nat} {A : List Int} (h : Ahd g out A) : out.length ≤ g.length := nodup_lt h.nodup h.node
theorem Ahd.zero {g : List (List Nat)} {out : List Nat} {A : List Int} (h : Ahd g out A) {i : Nat} (hi : i < g.length) : dat A i = 0 ↔ cand g out i = true := by
  rw [h.at_ i hi, cand_iff]
  split
  · rename_i hm; constructor
    · intro h; omega
    · intro h; exact absurd hm h.1
  · rename_i hm
    rw [show ((cnt g out i : Int) = 0 ↔ cnt g out i = 0) by omega, cnt_zero]
    exact ⟨fun h => ⟨hm, h⟩, fun h => h.2⟩
theorem Ahd.list {g : List (List Nat)} {out : List Nat} {A : List Int} (h : Ahd g out A) {x : Nat} (hx : x < g.length) (hc : cand g out x = true) : AhdK g out x 0 (A.set x (dat A x - 1)) := by
  have hxl : x < A.length := by rw [h.len]; exact hx
  have h0 := (h.zero hx).2 hc
  refine ⟨by simp [h.len], fun i hi => ?_⟩
  rw [dat_set hxl, h0]
  by_cases e : i = x
  · subst e
    rw [if_pos rfl, if_pos (by simp)]; rfl
  · rw [if_neg e, h.at_ i hi]
    by_cases hm : i ∈ out
    · rw [if_pos hm, if_pos (by simp [hm])]
    · rw [if_neg hm, if_neg (by simp [hm, e])]; simp
theorem AhdK.step {g : List (List Nat)} {out : List Nat} {A : List Int} {x k : Nat} (hg : VG g) (h : AhdK g out x k A) (hs : ∀ y ∈ out ++ [x], x ∉ out ∧ ¬ y ∈ row g x) (hk : k < (row g x).length) : AhdK g out x (k + 1) (A.set (row g x)[k] (dat A (row g x)[k] - 1)) := by
  have hv := hg.node x _ (List.getElem_mem hk)
  have hvl : (row g x)[k] < A.length := by rw [h.len]; exact hv
  refine ⟨by simp [h.len], fun i hi => ?_⟩
  have h1 := take_succ_mem hk i
  rw [dat_set hvl]
  by_cases e : i = (row g x)[k]
  · rw [if_pos e]
    have hno : i ∉ out ++ [x] := fun hm => (hs i hm).2 (by rw [e]; exact List.getElem_mem hk)
    have hn : i ∉ (row g x).take k := by rw [e]; exact not_take (hg.asc x) hk
    rw [← e, h.at_ i hi, if_neg hno, if_neg hno, if_neg hn, if_pos (h1.2 (.inr e))]; omega
  · rw [if_neg e, h.at_ i hi]
    have : i ∈ (row g x).take (k + 1) ↔ i ∈ (row g x).take k := by rw [h1]; exact ⟨fun h => h.resolve_right e, .inl⟩
    simp only [this]
theorem filter_len_sub {α : Type} (p q : α → Bool) (x : α) : ∀ l : List α, l.Nodup → (∀ m ∈ l, p m = (q m && true) ∨ m = x) → p x = false → q x = true → (∀ m ∈ l, m ≠ x → p m = q m) → x ∈ l → (l.filter p).length + 1 = (l.filter q).length
  | [], _, _, _, _, _, h => by cases h
  | a :: l, hn, hh, hp, hq, hs, hm => by
    obtain ⟨h1, h2⟩ := List.nodup_cons.1 hn
    by_cases e : a = x
    · subst e
      have : l.filter p = l.filter q := List.filter_congr fun m hm => hs m (List.mem_cons_of_mem _ hm) (fun e => h1 (e ▸ hm))
      rw [List.filter_cons_of_neg (by rw [hp]; decide), List.filter_cons_of_pos hq, this]; rfl
    · have hm' : x ∈ l := (List.mem_cons.1 hm).resolve_left fun h => e h.symm
      have ih := filter_len_sub p q x l h2 (fun m hm => hh m (List.mem_cons_of_mem _ hm)) hp hq (fun m hm => hs m (List.mem_cons_of_mem _ hm)) hm'
      have e1 := hs a (by simp) e
      cases hqa : q a with
      | true => rw [List.filter_cons_of_pos (by rw [e1, hqa]), List.filter_cons_of_pos hqa]; simp only [List.length_cons]; omega
      | false => rw [List.filter_cons_of_neg (by rw [e1, hqa]; decide), List.filter_cons_of_neg (by rw [hqa]; decide)]; exact ih
theorem cnt_snoc {g : List (List Nat)} {out : List Nat} {x i : Nat} (hx : x ∉ out) : (cnt g (out ++ [x]) i : Int) = (cnt g out i : Int) - if i ∈ row g x then 1 else 0 := by
  unfold cnt
  split
  · rename_i hm
    have := filter_len_sub (fun m => decide (i ∈ row g m ∧ m ∉ out ++ [x])) (fun m => decide (i ∈ row g m ∧ m ∉ out)) x (List.range g.length) List.nodup_range
      (fun m _ => by by_cases e : m = x <;> simp [e]) (by simp) (by simp [hm, hx]) (fun m _ e => by simp [e]) (List.mem_range.2 (row_lt hm))
    omega
  · rename_i hm
    rw [List.filter_congr (q := fun m => decide (i ∈ row g m ∧ m ∉ out)) fun m _ => by
      by_cases e : m = x
      · subst e; simp [hm]
      · simp [e]]
    omega
theorem AhdK.fin {g : List (List Nat)} {out : List Nat} {A A' : List Int} {x : Nat} (h0 : Ahd g out A') (hx : x < g.length) (hc : cand g out x = true) (h : AhdK g out x (row g x).length A) : Ahd g (out ++ [x]) A := by
  obtain ⟨c1, c2⟩ := (cand_iff g out x).1 hc
  refine ⟨h.len, ?_, ?_, ?_, ?_⟩
  · intro y hy
    rcases List.mem_append.1 hy with h1 | h1
    · exact h0.node y h1
    · simp at h1; subst h1; exact hx
  · rw [List.nodup_append]
    refine ⟨h0.nodup, by simp, fun a ha b hb => ?_⟩
    simp at hb; subst hb
    rintro rfl; exact c1 ha
  · intro y hy m hm
    rcases List.mem_append.1 hy with h1 | h1
    · exact List.mem_append_left _ (h0.shut y h1 m hm)
    · simp at h1; subst h1; exact List.mem_append_left _ (c2 m hm)
  · intro i hi
    rw [h.at_ i hi, List.take_length, cnt_snoc c1]
/-- What the step's lemma asks. -/
theorem Ahd.free {g : List (List Nat)} {out : List Nat} {A : List Int} {x : Nat} (h0 : Ahd g out A) (hc : cand g out x = true) : ∀ y ∈ out ++ [x], x ∉ out ∧ ¬ y ∈ row g x := by
  obtain ⟨c1, c2⟩ := (cand_iff g out x).1 hc
  intro y hy
  refine ⟨c1, fun hm => ?_⟩
  rcases List.mem_append.1 hy with h1 | h1
  · exact c1 (h0.shut y h1 x hm)
  · simp at h1; subst h1; exact c1 (c2 _ hm)
/-- The first part of Order: the edges of the nodes below i are counted, and k of i's. -/
def pre (g : List (List Nat)) (i k j : Nat) : Int := (rv g i k j).length
structure AhdP (g : List (List Nat)) (i k : Nat) (A : List Int) : Prop where
  len : A.length = g.length
  at_ : ∀ j, j < g.length → dat A j = pre g i k j
theorem AhdP.start (g : List (List Nat)) : AhdP g 0 0 (List.replicate g.length 0) :=
  ⟨by simp, fun j hj => by unfold dat pre; rw [List.getElem?_replicate, if_pos hj]; simp [rv]⟩
theorem AhdP.step {g : List (List Nat)} {i k : Nat} {A : List Int} (hg : VG g) (h : AhdP g i k A) (hk : k < (row g i).length) : AhdP g i (k + 1) (A.set (row g i)[k] (dat A (row g i)[k] + 1)) := by
  have hv := hg.node i _ (List.getElem_mem hk)
  have hvl : (row g i)[k] < A.length := by rw [h.len]; exact hv
  refine ⟨by simp [h.len], fun j hj => ?_⟩
  rw [dat_set hvl]
  unfold pre
  rw [rv_succ hg hk j]
  split
  · rename_i e
    rw [← e, h.at_ j hj, List.length_append]; unfold pre; simp
  · exact h.at_ j hj
theorem AhdP.next {g : List (List Nat)} {i : Nat} {A : List Int} (h : AhdP g i (row g i).length A) : AhdP g (i + 1) 0 A :=
  ⟨h.len, fun j hj => by rw [h.at_ j hj]; unfold pre; rw [rv_next]⟩
theorem AhdP.fin {g : List (List Nat)} {A : List Int} (h : AhdP g g.length 0 A) : Ahd g [] A := by
  refine ⟨h.len, by simp, by simp, by simp, fun i hi => ?_⟩
  rw [h.at_ i hi, if_neg (by simp)]
  unfold pre cnt
  rw [rv_zero]; simp
end Go.Proofs.Ytnhhhnhakpambaa
