/- VclockCausal: the row that is filled. -/
import Derived.Test.YtgfnhkipoicmiaaVcCauS
import Derived.StillTailTactics
namespace Go.Proofs.Ytgfnhkipoicmiaa
open Go.RowKit

section
variable {w0 w w' : World} {B n nb bb : Nat} {nv cs : List (List Int)} {rbs : List Nat} {rows : List (List Bool)} {u6 : Value}
theorem VM.rowG (h : VM w0 B n nb bb nv cs rbs rows u6 w) {j g : Nat} (hj : rbs[j]? = some g) : w.cell? ⟨bb, j, none⟩ = some (.slice (some ⟨g, 0, none⟩) n n) := by
  obtain ⟨h1, rfl⟩ := List.getElem?_eq_some_iff.1 hj
  exact h.rowAt j h1
theorem VM.bitG (h : VM w0 B n nb bb nv cs rbs rows u6 w) {j g : Nat} (hj : rbs[j]? = some g) {k : Nat} (hk : k < n) : w.cell? ⟨g, k, none⟩ = some (.bool ((rows.getD j []).getD k false)) ∧ w.frozen? ⟨g, k, none⟩ = false ∧ (rows.getD j []).length = n := by
  obtain ⟨h1, rfl⟩ := List.getElem?_eq_some_iff.1 hj
  exact h.bitAt j k h1 hk
theorem VM.setBitG (h : VM w0 B n nb bb nv cs rbs rows u6 w) {j g : Nat} (hj : rbs[j]? = some g) (k : Nat) (b : Bool) : VM w0 B n nb bb nv cs rbs (rows.set j ((rows.getD j []).set k b)) u6 (w.setCell ⟨g, k, none⟩ (.bool b)) := by
  obtain ⟨h1, rfl⟩ := List.getElem?_eq_some_iff.1 hj
  exact h.setBit j k b h1
theorem VM.clsG (h : VM w0 B n nb bb nv cs rbs rows u6 w) {i : Nat} (hi : cs.length = i) {j : Nat} (hj : j < i) (hl : (Cf cs j).length = 3) :
    ∃ g cp gk pk, u6 = .slice (some ⟨g, 0, none⟩) i cp ∧ i ≤ cp ∧ w.cell? ⟨g, j, none⟩ = some (.slice (some ⟨gk, 0, none⟩) 3 pk) ∧ Clk w (.slice (some ⟨gk, 0, none⟩) 3 pk) (Cf cs j) := by
  subst hi
  obtain ⟨g, cp, v, h1, h2, h3, h4⟩ := h.clsAt j hj
  have e : Cf cs j = cs[j] := by unfold Cf; rw [List.getD_eq_getElem?_getD, List.getElem?_eq_getElem hj]; rfl
  rw [← e] at h4
  obtain ⟨gk, pk, cur, fr, hv, h5⟩ := h4
  rw [hl] at hv
  subst hv
  exact ⟨g, cp, gk, pk, h1, h2, h3, gk, pk, cur, fr, by rw [hl], h5⟩
end
theorem VM.clkNow {w0 w : World} {B n nb bb : Nat} {nv cs : List (List Int)} {rbs : List Nat} {rows : List (List Bool)} {u6 : Value} (h : VM w0 B n nb bb nv cs rbs rows u6 w) (r : Nat) (u : Value) {v : Value} {c : List Int} (hc : Clk w v c) : Clk (w.setCell ⟨nb, r, none⟩ u) v c := by
  obtain ⟨vs, _, h2, _⟩ := h.now
  exact VM.clk_set (a := ⟨nb, r, none⟩) h2 (by decide) hc
/-- The row i is filled: its bits are those of P; the rows ahead of it stay. -/
structure RI (n : Nat) (w0 : World) (B nb bb i gr : Nat) (nv cs : List (List Int)) (rbs : List Nat) (rows : List (List Bool)) (u6 : Value) (P : Nat → Prop) (rws : List (List Bool)) (w : World) : Prop where
  m : VM w0 B n nb bb nv cs rbs rws u6 w
  gi : rbs[i]? = some gr
  old : ∀ j, j < i → rws.getD j [] = rows.getD j []
  row : ∀ q, q < n → ((rws.getD i []).getD q false = true ↔ P q)
def RX (n : Nat) (w0 : World) (B nb bb i gr : Nat) (nv cs : List (List Int)) (rbs : List Nat) (rows : List (List Bool)) (u6 : Value) (P : Nat → Prop) (w : World) : Prop := ∃ rws, RI n w0 B nb bb i gr nv cs rbs rows u6 P rws w
section
variable {w0 w w' : World} {B n nb bb i gr : Nat} {nv cs : List (List Int)} {rbs : List Nat} {rows : List (List Bool)} {u6 : Value} {P Q : Nat → Prop} {k0 : Nat} {u0 : Value}
theorem RX.ext (h : RX n w0 B nb bb i gr nv cs rbs rows u6 P w) (hb : Below w.heap.size w w') : RX n w0 B nb bb i gr nv cs rbs rows u6 P w' := by
  obtain ⟨rws, h⟩ := h
  exact ⟨rws, h.m.ext hb, h.gi, h.old, h.row⟩
theorem RX.iff (h : RX n w0 B nb bb i gr nv cs rbs rows u6 P w) (hp : ∀ q, q < n → (P q ↔ Q q)) : RX n w0 B nb bb i gr nv cs rbs rows u6 Q w := by
  obtain ⟨rws, h⟩ := h
  exact ⟨rws, h.m, h.gi, h.old, fun q hq => (h.row q hq).trans (hp q hq)⟩
theorem RX.cell (h : RX n w0 B nb bb i gr nv cs rbs rows u6 P w) : w.cell? ⟨bb, i, none⟩ = some (.slice (some ⟨gr, 0, none⟩) n n) := by
  obtain ⟨rws, h⟩ := h
  exact h.m.rowG h.gi
theorem RX.bit (h : RX n w0 B nb bb i gr nv cs rbs rows u6 P w) {k : Nat} (hk : k < n) : ∃ b : Bool, w.cell? ⟨gr, k, none⟩ = some (.bool b) ∧ w.frozen? ⟨gr, k, none⟩ = false ∧ (b = true ↔ P k) := by
  obtain ⟨rws, h⟩ := h
  obtain ⟨h1, h2, h3⟩ := h.m.bitG h.gi hk
  exact ⟨_, h1, h2, h.row k hk⟩
theorem RX.below (h : RX n w0 B nb bb i gr nv cs rbs rows u6 P w) : Below w0.heap.size w0 w := by
  obtain ⟨rws, h⟩ := h
  exact h.m.below
theorem RX.oldrow (h : RX n w0 B nb bb i gr nv cs rbs rows u6 P w) {k : Nat} (hk : k < i) : ∃ g, w.cell? ⟨bb, k, none⟩ = some (.slice (some ⟨g, 0, none⟩) n n) ∧ ∀ q, q < n → w.cell? ⟨g, q, none⟩ = some (.bool ((rows.getD k []).getD q false)) := by
  obtain ⟨rws, h⟩ := h
  have hi := (List.getElem?_eq_some_iff.1 h.gi).1
  have hg : rbs[k]? = some (rbs[k]'(by omega)) := List.getElem?_eq_getElem (by omega)
  refine ⟨_, h.m.rowG hg, fun q hq => ?_⟩
  rw [← h.old k hk]
  exact (h.m.bitG hg hq).1
theorem RX.set (h : RX n w0 B nb bb i gr nv cs rbs rows u6 P w) (k : Nat) (b : Bool) (hk : k < n) (hq : ∀ q, q < n → (Q q ↔ if q = k then b = true else P q)) : RX n w0 B nb bb i gr nv cs rbs rows u6 Q (w.setCell ⟨gr, k, none⟩ (.bool b)) := by
  obtain ⟨rws, h⟩ := h
  have hi := (List.getElem?_eq_some_iff.1 h.gi).1
  have hr := h.m.rl
  have hl := (h.m.bitG h.gi hk).2.2
  refine ⟨_, h.m.setBitG h.gi k b, h.gi, fun j hj => ?_, fun q hqn => ?_⟩
  · rw [List.getD_eq_getElem?_getD, List.getElem?_set_ne (by omega), ← List.getD_eq_getElem?_getD]
    exact h.old j hj
  · rw [List.getD_eq_getElem?_getD (l := rws.set i _), List.getElem?_set_self (by omega), Option.getD_some, hq q hqn]
    by_cases e : q = k
    · subst e
      rw [if_pos rfl, List.getD_eq_getElem?_getD, List.getElem?_set_self (by omega)]; rfl
    · rw [if_neg e, List.getD_eq_getElem?_getD, List.getElem?_set_ne (fun h => e h.symm), ← List.getD_eq_getElem?_getD]
      exact h.row q hqn
theorem RX.clk (h : RX n w0 B nb bb i gr nv cs rbs rows u6 P w) (k : Nat) (b : Bool) {v : Value} {c : List Int} (hc : Clk w v c) : Clk (w.setCell ⟨gr, k, none⟩ (.bool b)) v c := by
  obtain ⟨rws, h⟩ := h
  have hi := (List.getElem?_eq_some_iff.1 h.gi).1
  have hr := h.m.rl
  have h2 := (h.m.row i gr _ h.gi (List.getElem?_eq_getElem (show i < rws.length by omega))).2
  exact VM.clk_set (a := ⟨gr, k, none⟩) h2 (by decide) hc
theorem RX.drw (h : RX n w0 B nb bb i gr nv cs rbs rows u6 P (w.setCell ⟨gr, k0, none⟩ u0)) : RX n w0 B nb bb i gr nv cs rbs rows u6 P (w.drew.setCell ⟨gr, k0, none⟩ u0) := h.ext ⟨rfl, rfl, rfl, Nat.le_refl _, fun _ _ => rfl⟩
theorem rx_start (h : VM w0 B n nb bb nv cs (rbs ++ [gr]) (rows ++ [List.replicate n false]) u6 w) (hl : rbs.length = i) : RX n w0 B nb bb i gr nv cs (rbs ++ [gr]) rows u6 (fun _ => False) w := by
  have hr := h.rl
  rw [List.length_append, List.length_append, List.length_singleton, List.length_singleton] at hr
  refine ⟨_, h, by rw [← hl, List.getElem?_append_right (Nat.le_refl _), Nat.sub_self]; rfl, fun j hj => ?_, fun q hq => ?_⟩
  · rw [List.getD_eq_getElem?_getD, List.getElem?_append_left (by omega), ← List.getD_eq_getElem?_getD]
  · rw [List.getD_eq_getElem?_getD (l := rows ++ _), List.getElem?_append_right (by omega), show i - rows.length = 0 by omega, List.getElem?_cons_zero, Option.getD_some, List.getD_eq_getElem?_getD, List.getElem?_replicate, if_pos hq]
    simp
end
/-- What loop 3 has laid behind the events ahead of kk. -/
def Qk (R : Nat → Nat) (C : Nat → List Int) (i : Nat) (m : Option Nat) (kk q : Nat) : Prop := Dp R i m q ∨ ∃ p, p < kk ∧ Dp R i m p ∧ p < i ∧ Mb R C p q
/-- What loop 4 has laid behind the events ahead of jj. -/
def Qj (R : Nat → Nat) (C : Nat → List Int) (i : Nat) (m : Option Nat) (kk jj q : Nat) : Prop := Qk R C i m kk q ∨ (q < jj ∧ Mb R C kk q)
section
variable {R : Nat → Nat} {C : Nat → List Int} {i : Nat} {m : Option Nat} {nw : List Int}
theorem qk_zero (q : Nat) : Qk R C i m 0 q ↔ Dp R i m q := by
  unfold Qk
  constructor
  · rintro (h | ⟨p, h, _⟩)
    · exact h
    · omega
  · exact .inl
theorem qk_at (kk : Nat) : Qk R C i m kk kk ↔ Dp R i m kk := by
  unfold Qk
  constructor
  · rintro (h | ⟨p, h, _, _, h2⟩)
    · exact h
    · have := h2.1; omega
  · exact .inl
theorem qk_no {kk : Nat} (h : ¬ Dp R i m kk) (q : Nat) : Qk R C i m (kk + 1) q ↔ Qk R C i m kk q := by
  unfold Qk
  constructor
  · rintro (h1 | ⟨p, h1, h2, h3, h4⟩)
    · exact .inl h1
    · refine .inr ⟨p, ?_, h2, h3, h4⟩
      have : p ≠ kk := fun e => h (e ▸ h2)
      omega
  · rintro (h1 | ⟨p, h1, h2⟩)
    · exact .inl h1
    · exact .inr ⟨p, by omega, h2⟩
theorem qj_end {kk : Nat} (h : Dp R i m kk) (hi : kk < i) (q : Nat) : Qj R C i m kk kk q ↔ Qk R C i m (kk + 1) q := by
  unfold Qj Qk
  constructor
  · rintro ((h1 | ⟨p, h1, h2⟩) | ⟨_, h1⟩)
    · exact .inl h1
    · exact .inr ⟨p, by omega, h2⟩
    · exact .inr ⟨kk, by omega, h, hi, h1⟩
  · rintro (h1 | ⟨p, h1, h2, h3, h4⟩)
    · exact .inl (.inl h1)
    · by_cases e : p = kk
      · subst e; exact .inr ⟨h4.1, h4⟩
      · exact .inl (.inr ⟨p, by omega, h2, h3, h4⟩)
theorem qj_zero (kk q : Nat) : Qj R C i m kk 0 q ↔ Qk R C i m kk q := by
  unfold Qj
  constructor
  · rintro (h | ⟨h, _⟩)
    · exact h
    · omega
  · exact .inl
theorem qj_succ (kk jj q : Nat) : Qj R C i m kk (jj + 1) q ↔ if q = jj then (Qj R C i m kk jj jj ∨ Mb R C kk jj) else Qj R C i m kk jj q := by
  unfold Qj
  split
  · rename_i e; subst e
    constructor
    · rintro (h | ⟨_, h⟩)
      · exact .inl (.inl h)
      · exact .inr h
    · rintro ((h | ⟨_, h⟩) | h)
      · exact .inl h
      · exact .inr ⟨by omega, h⟩
      · exact .inr ⟨by omega, h⟩
  · constructor
    · rintro (h | ⟨h, h2⟩)
      · exact .inl h
      · exact .inr ⟨by omega, h2⟩
    · rintro (h | ⟨h, h2⟩)
      · exact .inl h
      · exact .inr ⟨by omega, h2⟩
theorem qk_end (hc : CI R C i) (h : New R C i m nw) (q : Nat) : Qk R C i m i q ↔ Mb R C i q := by
  unfold Qk
  have hc1 := h.ci hc
  constructor
  · rintro (h1 | ⟨p, _, h1, _, h2⟩)
    · exact h1.mb hc h
    · exact (h1.mb hc h).trans hc1 (by omega) h2
  · intro hm
    rcases h.comp hc hm with h1 | ⟨p, h1, h2, h3⟩
    · exact .inl h1
    · exact .inr ⟨p, h2, h1, h2, h3⟩
end
section
variable {P : Program} {ops : Array Oper} {w : World} {Q : Go.Act → Prop} {a : Go.Act} {o : Oper} {rest : List Oper}
theorem wpStill_run' (v : Value) (hw : Region.wanted o (yielded ops a.tmps) = true) (hv : (execOp a.eval o).run P w = .ok (.value v) w) (h : wpStill P ops w Q rest (a.put o.dst v)) : wpStill P ops w Q (o :: rest) a := by
  unfold wpStill
  rw [if_pos hw]
  unfold Oper.still
  rw [hv, Oper.stillUpon_value]
  exact h
theorem wpStill_off (hw : Region.wanted o (yielded ops a.tmps) = false) (h : wpStill P ops w Q rest (a.put o.dst undef)) : wpStill P ops w Q (o :: rest) a := by
  unfold wpStill
  rw [if_neg (by rw [hw]; decide)]
  exact h
theorem wpStill_offb (b : Bool) (hb : b = true) (hw : Region.wanted o (yielded ops a.tmps) = (b == false)) (h : wpStill P ops w Q rest (a.put o.dst undef)) : wpStill P ops w Q (o :: rest) a := wpStill_off (by rw [hw, hb]; rfl) h
theorem clk_drw {w : World} {ad : Addr} {u v : Value} {c : List Int} (h : Clk (w.setCell ad u) v c) : Clk (w.drew.setCell ad u) v c := h.below ⟨rfl, rfl, rfl, Nat.le_refl _, fun _ _ => rfl⟩
end
end Go.Proofs.Ytgfnhkipoicmiaa
