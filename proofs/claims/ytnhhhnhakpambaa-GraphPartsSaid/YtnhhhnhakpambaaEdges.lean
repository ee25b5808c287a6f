/- The graph with some edges: plain facts, rows of one call's own that are replaced, slices.BinarySearch. -/
import Derived.Test.YtnhhhnhakpambaaIns
namespace Go.Proofs.Ytnhhhnhakpambaa
open Go.RowKit

theorem rgo_ins (n : Nat) : ∀ l : List Nat, Asc l → n ∉ l → l.take (l.countP fun y => decide (y < n)) ++ n :: l.drop (l.countP fun y => decide (y < n)) = rgo n l false
  | [], _, _ => by simp [rgo]
  | x :: t, h, hn => by
    have h1 := List.pairwise_cons.1 h
    have hx : x ≠ n := fun e => hn (by simp [e])
    have ih := rgo_ins n t h1.2 (fun e => hn (List.mem_cons_of_mem _ e))
    simp only [rgo, Bool.false_eq_true, if_false, rgo_true]
    by_cases e1 : n ≤ x
    · have h0 : (x :: t).countP (fun y => decide (y < n)) = 0 := by
        rw [List.countP_eq_zero]
        intro y hy
        rcases List.mem_cons.1 hy with rfl | hy
        · simp; omega
        · have := h1.1 y hy; simp; omega
      rw [h0, if_pos e1, if_pos (by omega)]
      rfl
    · rw [if_neg e1, List.countP_cons_of_pos (by simp; omega), List.take_succ_cons, List.drop_succ_cons, List.cons_append, ih]
theorem rgo_old (n : Nat) : ∀ l : List Nat, Asc l → n ∈ l → rgo n l false = l
  | [], _, h => by cases h
  | x :: t, h, hn => by
    have h1 := List.pairwise_cons.1 h
    simp only [rgo, Bool.false_eq_true, if_false, rgo_true]
    rcases List.mem_cons.1 hn with rfl | hm
    · rw [if_pos (Nat.le_refl _), if_neg (by omega)]
    · have := h1.1 n hm
      rw [if_neg (by omega), rgo_old n t h1.2 hm]
def rank (l : List Nat) (n : Nat) : Nat := l.countP fun y => decide (y < n)
theorem rank_le (l : List Nat) (n : Nat) : rank l n ≤ l.length := List.countP_le_length
theorem ins_rwith {l : List Nat} {n : Nat} (h : Asc l) (hn : n ∉ l) : insM (l.map fun n : Nat => (n : Int)) (rank l n) (n : Int) = (rwith l n).map fun n : Nat => (n : Int) := by
  unfold insM rwith
  rw [← rgo_ins n l h hn, List.map_append, List.map_cons, List.map_take, List.map_drop]
  rfl
def withE (g : List (List Nat)) (e : Nat × Nat) : List (List Nat) := g.set e.1 (rwith (row g e.1) e.2)
def edM (n : Nat) (es : List (Nat × Nat)) : List (List Nat) := es.foldl withE (List.replicate n [])
theorem withE_len (g : List (List Nat)) (e : Nat × Nat) : (withE g e).length = g.length := by simp [withE]
theorem foldE_len : ∀ (es : List (Nat × Nat)) (g : List (List Nat)), (es.foldl withE g).length = g.length
  | [], _ => rfl
  | e :: r, g => by rw [List.foldl_cons, foldE_len r, withE_len]
theorem edM_len (n : Nat) (es : List (Nat × Nat)) : (edM n es).length = n := by unfold edM; rw [foldE_len]; simp
theorem row_withE (g : List (List Nat)) (e : Nat × Nat) (he : e.1 < g.length) (i : Nat) : row (withE g e) i = if i = e.1 then rwith (row g e.1) e.2 else row g i := by
  unfold withE
  exact row_set he
theorem withE_vg {g : List (List Nat)} (hg : VG g) {e : Nat × Nat} (h1 : e.1 < g.length) (h2 : e.2 < g.length) : VG (withE g e) := by
  refine ⟨by rw [withE_len]; exact hg.len, fun i x hx => ?_, fun i => ?_⟩
  · rw [withE_len]
    rw [row_withE g e h1] at hx
    split at hx
    · rcases (rwith_mem _ _ _).1 hx with h | rfl
      · exact hg.node _ _ h
      · exact h2
    · exact hg.node _ _ hx
  · rw [row_withE g e h1]
    split
    · exact rwith_asc (hg.asc _) _
    · exact hg.asc i
theorem vg_none {n : Nat} (hn : n ≤ 400) : VG (List.replicate n []) := by
  have hr : ∀ i, row (List.replicate n ([] : List Nat)) i = [] := fun i => by
    unfold row
    rw [List.getElem?_replicate]
    split <;> rfl
  refine ⟨by simpa using hn, fun i x hx => ?_, fun i => ?_⟩
  · rw [hr] at hx; cases hx
  · rw [hr]; exact List.Pairwise.nil
theorem foldE_vg : ∀ (es : List (Nat × Nat)) (g : List (List Nat)), VG g → (∀ e ∈ es, e.1 < g.length ∧ e.2 < g.length) → VG (es.foldl withE g)
  | [], _, hg, _ => hg
  | e :: r, g, hg, h => by
    obtain ⟨h1, h2⟩ := h e (by simp)
    exact foldE_vg r _ (withE_vg hg h1 h2) (fun x hx => by rw [withE_len]; exact h x (by simp [hx]))
theorem edM_vg {n : Nat} {es : List (Nat × Nat)} (hn : n ≤ 400) (h : ∀ e ∈ es, e.1 < n ∧ e.2 < n) : VG (edM n es) := foldE_vg es _ (vg_none hn) (by simpa using h)
theorem edM_next {n k : Nat} {es : List (Nat × Nat)} (hk : k < es.length) : edM n (es.take (k + 1)) = withE (edM n (es.take k)) es[k] := by
  unfold edM
  rw [List.take_succ_eq_append_getElem hk, List.foldl_append]; rfl
/-- A row of one call's own is replaced. -/
theorem GRows.put {w w1 : World} {B g j : Nat} {vals : List Value} {ls : List (List Nat)} {v v' : Value} {l l' : List Nat} (h : GRows w B g vals ls) (hv : vals[j]? = some v) (hl : ls[j]? = some l)
    (ho : w1.ownsRow B 3 1 v' l'.length (l'.map nv)) (hgr : w.grownBy w1 v.ownBlock) (hf : Fresh w v v') :
    GRows (w1.setCell ⟨g, j, none⟩ v') B g (vals.set j v') (ls.set j l') := by
  have hjv : j < vals.length := (List.getElem?_eq_some_iff.1 hv).1
  have hjl : j < ls.length := (List.getElem?_eq_some_iff.1 hl).1
  have hgne : some g ≠ v.ownBlock := fun e => by
    have := (h.own j v l hv hl).lt g e.symm
    have := h.lt
    omega
  have hrow1 : Row w1 g 38 vals := (hgr.block g h.row.lt hgne).trans h.row
  obtain ⟨b', hb', hbf⟩ := hf
  refine ⟨hrow1.set j v', by simp [h.len], h.lt, Nat.le_trans h.base (Nat.le_trans hgr.size (by simp [World.setCell])), fun i u m hu hm => ?_, fun i k u y b hu hy hub hyb => ?_⟩
  · rw [List.getElem?_set] at hu hm
    by_cases e : j = i
    · subst e
      rw [if_pos rfl, if_pos hjv] at hu
      rw [if_pos rfl, if_pos hjl] at hm
      cases hu; cases hm
      exact ownsRow_setCell_below ho (a := ⟨g, j, none⟩) h.lt v'
    · rw [if_neg e] at hu hm
      have hk := h.own i u m hu hm
      have hne : u.ownBlock = none ∨ u.ownBlock ≠ v.ownBlock := by
        cases hub : u.ownBlock with
        | none => exact .inl rfl
        | some b => exact .inr fun e2 => e (h.apart i j u v b hu hv hub (by rw [← e2])).symm
      exact ownsRow_setCell_below (hk.kept hgr hne) (a := ⟨g, j, none⟩) h.lt v'
  · rw [List.getElem?_set] at hu hy
    have old : ∀ (m : Nat) (y : Value) (b : Nat), vals[m]? = some y → y.ownBlock = some b → b = b' → m = j := fun m y b hm hyb hbe => by
      subst hbe
      rcases hbf with h1 | h1
      · exact h.apart m j y v b hm hv hyb h1
      · have hlm : ∃ lm, ls[m]? = some lm := ⟨_, List.getElem?_eq_getElem (by rw [← h.len]; exact (List.getElem?_eq_some_iff.1 hm).1)⟩
        obtain ⟨lm, hlm⟩ := hlm
        have := (h.own m y lm hm hlm).lt b hyb
        omega
    by_cases e1 : j = i <;> by_cases e2 : j = k
    · omega
    · rw [if_pos e1, if_pos (by omega)] at hu
      rw [if_neg e2] at hy
      cases hu
      rw [hb'] at hub; cases hub
      exact absurd (old k y b' hy hyb rfl).symm e2
    · rw [if_pos e2, if_pos (by omega)] at hy
      rw [if_neg e1] at hu
      cases hy
      rw [hb'] at hyb; cases hyb
      exact absurd (old i u b' hu hub rfl).symm e1
    · rw [if_neg e1] at hu
      rw [if_neg e2] at hy
      exact h.apart i k u y b hu hy hub hyb
/-- slices.BinarySearch in an ascending row of the call's own. -/
theorem bsearch_own (w : World) (B : Nat) (v : Value) (l : List Nat) (n : Nat) (hown : w.ownsRow B 3 1 v l.length (l.map nv)) (ha : Asc l) (hl : l.length ≤ 10000) :
    Calls Try.prog 52 #[v, .int .i64 (n : Int)] w fun e w' => e = .returned (.tuple #[.int .i64 (rank l n : Nat), .bool (decide (n ∈ l))]) ∧ ∃ q, w' = w.drewN q := by
  rcases hown.2 with ⟨rfl, h0⟩ | ⟨g, cap, cur, rfl, _, hg, _, _, _, htk⟩
  · obtain rfl : l = [] := List.length_eq_zero_iff.1 h0
    exact (lib_BinarySearch_int_empty none 0 n w).mono fun e w' ⟨h1, h2⟩ => ⟨by rw [h1]; rfl, 0, h2⟩
  · rw [Nat.mul_one] at htk
    refine (lib_BinarySearch_int g 0 l.length cap (l.map fun n : Nat => (n : Int)) (n : Int) w (by simp) (by omega) ?_ ?_).mono ?_
    · intro j hj
      rw [List.length_map] at hj
      have e1 : (l.map nv)[j]? = some (nv l[j]) := by rw [List.getElem?_map, List.getElem?_eq_getElem hj]; rfl
      rw [← htk, List.getElem?_take, if_pos hj] at e1
      rw [cell_of_heap hg, Nat.zero_add, List.getD_eq_getElem?_getD, List.getElem?_map, List.getElem?_eq_getElem hj]
      simpa [nv] using e1
    · rw [List.take_of_length_le (by simp)]
      exact List.pairwise_map.2 (ha.imp fun h => by omega)
    · rintro e w' ⟨h1, h2⟩
      refine ⟨?_, h2⟩
      rw [h1, List.take_of_length_le (by simp)]
      have e1 : (l.map fun n : Nat => (n : Int)).countP (fun y => decide (y < (n : Int))) = rank l n := by
        unfold rank
        rw [List.countP_map]
        refine List.countP_congr fun y _ => ?_
        simp
      have e2 : (l.map fun n : Nat => (n : Int)).contains (n : Int) = decide (n ∈ l) := by
        rw [Bool.eq_iff_iff, decide_eq_true_iff, List.contains_iff_mem, List.mem_map]
        constructor
        · rintro ⟨y, hy, e⟩
          rwa [show n = y by omega]
        · intro h; exact ⟨n, h, rfl⟩
      rw [e1, e2]
/-- A slice of pairs. -/
def Prs (w : World) (v : Value) (es : List (Int × Int)) : Prop :=
  (v = .slice none 0 0 ∧ es = []) ∨ ∃ ad c, v = .slice (some ad) es.length c ∧ es.length ≤ c ∧ ∀ j (p : Int × Int), es[j]? = some p → w.cell? (ad.add (j * 2)) = some (.int .i64 p.1) ∧ w.cell? ⟨(ad.add (j * 2)).block, (ad.add (j * 2)).off + 1, none⟩ = some (.int .i64 p.2)
theorem Prs.shape {w : World} {v : Value} {es : List (Int × Int)} (h : Prs w v es) : ∃ A c, v = .slice A es.length c := by
  rcases h with ⟨rfl, rfl⟩ | ⟨ad, c, rfl, _⟩
  · exact ⟨none, 0, rfl⟩
  · exact ⟨some ad, c, rfl⟩
theorem Prs.below {w w' : World} {v : Value} {es : List (Int × Int)} (h : Prs w v es) (hb : Below w.heap.size w w') : Prs w' v es := by
  rcases h with h | ⟨ad, c, rfl, hc, hcell⟩
  · exact .inl h
  · refine .inr ⟨ad, c, rfl, hc, fun j p hp => ?_⟩
    obtain ⟨h1, h2⟩ := hcell j p hp
    exact ⟨(hb.cell (World.block_lt_of_cell? _ _ h1)).trans h1, (hb.cell (World.block_lt_of_cell? _ _ h2)).trans h2⟩
theorem prs_cell {w : World} {v : Value} {es : List (Int × Int)} (h : Prs w v es) (k : Nat) (hk : k < es.length) : ∃ ad c, v = .slice (some ad) es.length c ∧ es.length ≤ c ∧ w.cell? (ad.add (k * 2)) = some (.int .i64 es[k].1) ∧ w.cell? ⟨(ad.add (k * 2)).block, (ad.add (k * 2)).off + 1, none⟩ = some (.int .i64 es[k].2) := by
  rcases h with ⟨rfl, rfl⟩ | ⟨ad, c, rfl, hc, hcell⟩
  · simp at hk
  · obtain ⟨h1, h2⟩ := hcell k es[k] (List.getElem?_eq_getElem hk)
    exact ⟨ad, c, rfl, hc, h1, h2⟩
def castP (es : List (Nat × Nat)) : List (Int × Int) := es.map fun p => ((p.1 : Int), (p.2 : Int))
theorem castP_len (es : List (Nat × Nat)) : (castP es).length = es.length := by simp [castP]
end Go.Proofs.Ytnhhhnhakpambaa
