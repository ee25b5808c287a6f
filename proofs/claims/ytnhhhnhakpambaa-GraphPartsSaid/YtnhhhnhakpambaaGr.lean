/- Graphs in memory: slices of slices that are read; the valid ones. -/
import Derived.Test.YtnhhhnhakpambaaSl
import Derived.Test.YtnhhhnhakpambaaLaw
import Derived.Test.YtnhhhnhakpambaaGraphRev
import Derived.Deep.QuietTactic
import Derived.BigQuiet
namespace Go.Proofs.Ytnhhhnhakpambaa
open Go.RowKit

def nv (n : Nat) : Value := .int .i64 (n : Int)
theorem info_int : (Try.prog.info? 3).map (fun i => (i.zero, i.size, i.bytes)) = some (some (.int .i64 0), 1, 8) := by kernel_rfl
def LGot (w : World) (l : List Nat) (e : Ending) (w' : World) : Prop := ∃ v, e = .returned v ∧ Sl nv w' v l ∧ Below w.heap.size w w'
/-- v is a slice of slices that holds g. -/
def Gr {α : Type} (f : α → Value) (w : World) (v : Value) (g : List (List α)) : Prop :=
  ∃ rows : List Value, Sl id w v rows ∧ rows.length = g.length ∧ ∀ (i : Nat) (r : Value) (l : List α), rows[i]? = some r → g[i]? = some l → Sl f w r l
section
variable {α : Type} {f : α → Value} {w w' : World} {v : Value} {g : List (List α)}
theorem Gr.below (h : Gr f w v g) (hb : Below w.heap.size w w') : Gr f w' v g := by
  obtain ⟨rows, h1, h2, h3⟩ := h
  exact ⟨rows, h1.below hb, h2, fun i r l hr hl => (h3 i r l hr hl).below hb⟩
theorem Gr.nil : Gr f w (.slice none 0 0) [] := ⟨[], Sl.nil, rfl, by intro i r l h; cases h⟩
theorem Gr.shape (h : Gr f w v g) : ∃ A c, v = .slice A g.length c := by
  obtain ⟨rows, h1, h2, _⟩ := h
  obtain ⟨A, c, rfl⟩ := h1.shape
  exact ⟨A, c, by rw [h2]⟩
theorem gr_cell (h : Gr f w v g) (i : Nat) (hi : i < g.length) : ∃ ad c A cr, v = .slice (some ad) g.length c ∧ g.length ≤ c ∧ w.cell? (ad.add i) = some (.slice A (row g i).length cr) ∧ Sl f w (.slice A (row g i).length cr) (row g i) := by
  obtain ⟨rows, h1, h2, h3⟩ := h
  obtain ⟨ad, c, e, hc, hcell⟩ := sl_cell h1 i (by omega)
  have hr := h3 i (rows[i]'(by omega)) g[i] (List.getElem?_eq_getElem (by omega)) (List.getElem?_eq_getElem hi)
  rw [row_get hi]
  obtain ⟨A, cr, e2⟩ := hr.shape
  refine ⟨ad, c, A, cr, by rw [e, h2], by omega, by rw [hcell, id, e2], by rw [← e2]; exact hr⟩
end
def cst (g : List (List Nat)) : List (List Int) := g.map fun l => l.map fun n : Nat => (n : Int)
theorem cst_row (g : List (List Nat)) (i : Nat) : row (cst g) i = (row g i).map fun n : Nat => (n : Int) := by
  unfold row cst
  rw [List.getElem?_map]
  cases g[i]? <;> rfl
theorem cst_len (g : List (List Nat)) : (cst g).length = g.length := by simp [cst]
theorem Sl.nv_iv {w : World} {v : Value} {l : List Nat} (h : Sl nv w v l) : Sl iv w v (l.map fun n : Nat => (n : Int)) := by
  rcases h with ⟨h, h0⟩ | ⟨ad, c, rfl, h2, h3⟩
  · exact .inl ⟨h, by rw [h0]; rfl⟩
  · refine .inr ⟨ad, c, by rw [List.length_map], by rw [List.length_map]; exact h2, fun j b hj => ?_⟩
    rw [List.getElem?_map] at hj
    cases hl : l[j]? with
    | none => rw [hl] at hj; cases hj
    | some x => rw [hl] at hj; cases hj; exact h3 j x hl
theorem Sl.iv_nv {w : World} {v : Value} {l : List Nat} (h : Sl iv w v (l.map fun n : Nat => (n : Int))) : Sl nv w v l := by
  rcases h with ⟨h, h0⟩ | ⟨ad, c, rfl, h2, h3⟩
  · exact .inl ⟨h, by simpa using h0⟩
  · rw [List.length_map] at h2 ⊢
    refine .inr ⟨ad, c, rfl, h2, fun j b hj => ?_⟩
    exact h3 j _ (by rw [List.getElem?_map, hj]; rfl)
theorem Gr.cst {w : World} {v : Value} {g : List (List Nat)} (h : Gr nv w v g) : Gr iv w v (cst g) := by
  obtain ⟨rows, h1, h2, h3⟩ := h
  refine ⟨rows, h1, by rw [h2, cst_len], fun i r l hr hl => ?_⟩
  unfold Proofs.Ytnhhhnhakpambaa.cst at hl
  rw [List.getElem?_map] at hl
  cases hg : g[i]? with
  | none => rw [hg] at hl; cases hl
  | some x => rw [hg] at hl; cases hl; exact (h3 i r x hr hg).nv_iv
theorem Gr.uncst {w : World} {v : Value} {g : List (List Nat)} (h : Gr iv w v (Proofs.Ytnhhhnhakpambaa.cst g)) : Gr nv w v g := by
  obtain ⟨rows, h1, h2, h3⟩ := h
  refine ⟨rows, h1, by rw [h2, cst_len], fun i r l hr hl => ?_⟩
  exact (h3 i r (l.map fun n : Nat => (n : Int)) hr (by unfold Proofs.Ytnhhhnhakpambaa.cst; rw [List.getElem?_map, hl]; rfl)).iv_nv

/-- The list l of node i is fine at k. -/
def OkE (n : Nat) (l : List Int) (k : Nat) (h : k < l.length) : Prop := 0 ≤ l[k] ∧ l[k] < n ∧ (0 < k → l[k - 1] < l[k])
def VldI (g : List (List Int)) : Prop := g.length ≤ 400 ∧ ∀ i k (h : k < (row g i).length), OkE g.length (row g i) k h
noncomputable def vb (g : List (List Int)) : Bool := @decide (VldI g) (Classical.propDecidable _)
theorem vb_true {g : List (List Int)} (h : VldI g) : vb g = true := @decide_eq_true _ (Classical.propDecidable _) h
theorem vb_false {g : List (List Int)} (h : ¬ VldI g) : vb g = false := @decide_eq_false _ (Classical.propDecidable _) h
theorem VG.vldI {g : List (List Nat)} (hg : VG g) : VldI (Proofs.Ytnhhhnhakpambaa.cst g) := by
  refine ⟨by rw [cst_len]; exact hg.len, fun i k h => ?_⟩
  have h' : k < (row g i).length := by rw [cst_row, List.length_map] at h; exact h
  have e : ∀ m (hm : m < (row (Proofs.Ytnhhhnhakpambaa.cst g) i).length) (hm' : m < (row g i).length), (row (Proofs.Ytnhhhnhakpambaa.cst g) i)[m] = ((row g i)[m] : Nat) := fun m hm hm' => by
    have : (row (Proofs.Ytnhhhnhakpambaa.cst g) i)[m]? = some (((row g i)[m] : Nat) : Int) := by rw [cst_row, List.getElem?_map, List.getElem?_eq_getElem hm']; rfl
    rw [List.getElem?_eq_getElem hm] at this
    exact Option.some.inj this
  refine ⟨by rw [e k h h']; omega, ?_, fun hk => ?_⟩
  · rw [e k h h', cst_len]
    have := hg.node i _ (List.getElem_mem h')
    omega
  · rw [e k h h', e (k - 1) (by omega) (by omega)]
    have := List.pairwise_iff_getElem.1 (hg.asc i) (k - 1) k (by omega) h' (by omega)
    omega
theorem adj_lt {l : List Int} (h : ∀ k (hk : k < l.length), 0 < k → l[k - 1] < l[k]) : ∀ j i (_ : i < j) (hj : j < l.length), l[i] < l[j] := by
  intro j
  induction j with
  | zero => intro i hi; omega
  | succ j ih =>
    intro i hi hj
    have h1 := h (j + 1) hj (by omega)
    simp only [Nat.add_sub_cancel] at h1
    rcases Nat.lt_succ_iff_lt_or_eq.1 hi with h2 | rfl
    · have := ih i h2 (by omega); omega
    · exact h1
theorem VldI.vg {g : List (List Int)} (h : VldI g) : ∃ gn, g = Proofs.Ytnhhhnhakpambaa.cst gn ∧ VG gn := by
  refine ⟨g.map fun l => l.map Int.toNat, ?_, ?_, ?_, ?_⟩
  · unfold Proofs.Ytnhhhnhakpambaa.cst
    rw [List.map_map]
    conv => lhs; rw [← List.map_id g]
    apply List.map_congr_left
    intro l hl
    obtain ⟨i, hi, e⟩ := List.getElem_of_mem hl
    simp only [id, Function.comp_apply, List.map_map]
    conv => lhs; rw [← List.map_id l]
    apply List.map_congr_left
    intro x hx
    obtain ⟨k, hk, e2⟩ := List.getElem_of_mem hx
    have hr : row g i = l := by rw [row_get hi, e]
    have := (h.2 i k (by rw [hr]; exact hk)).1
    simp only [hr, e2] at this
    simp only [id, Function.comp_apply]
    omega
  · rw [List.length_map]; exact h.1
  · intro i x hx
    have hr : row (g.map fun l => l.map Int.toNat) i = (row g i).map Int.toNat := by
      unfold row; rw [List.getElem?_map]; cases g[i]? <;> rfl
    rw [hr] at hx
    obtain ⟨y, hy, rfl⟩ := List.mem_map.1 hx
    obtain ⟨k, hk, rfl⟩ := List.getElem_of_mem hy
    obtain ⟨h1, h2, _⟩ := h.2 i k hk
    rw [List.length_map]; omega
  · intro i
    have hr : row (g.map fun l => l.map Int.toNat) i = (row g i).map Int.toNat := by
      unfold row; rw [List.getElem?_map]; cases g[i]? <;> rfl
    rw [hr, List.pairwise_map, List.pairwise_iff_getElem]
    intro a b ha hb hab
    have := adj_lt (l := row g i) (fun k hk => (h.2 i k hk).2.2) b a hab hb
    have h1 := (h.2 i a ha).1
    have h2 := (h.2 i b hb).1
    omega
/-- The bounds of every graph that a law looks into. -/
def Lim {α : Type} (g : List (List α)) : Prop := g.length ≤ 1000 ∧ ∀ i, (row g i).length ≤ 1000
theorem VG.lim {g : List (List Nat)} (hg : VG g) : Lim g := ⟨by have := hg.len; omega, fun i => by have := hg.row_len i; have := hg.len; omega⟩
theorem Lim.cst {g : List (List Nat)} (h : Lim g) : Lim (Proofs.Ytnhhhnhakpambaa.cst g) := ⟨by rw [cst_len]; exact h.1, fun i => by rw [cst_row, List.length_map]; exact h.2 i⟩
end Go.Proofs.Ytnhhhnhakpambaa
