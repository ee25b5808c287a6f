/- VclockCausal's memory: the roles' clocks, the events' clocks, the rows of what is before. -/
import Derived.Test.YtgfnhkipoicmiaaVcAw
import Derived.Test.YtgfnhkipoicmiaaVcCauM
namespace Go.Proofs.Ytgfnhkipoicmiaa
open Go.RowKit

def bl (b : Bool) : Value := .bool b
/-- v holds the clock c, in a block of numbers. -/
def Clk (w : World) (v : Value) (c : List Int) : Prop :=
  ∃ (g cp : Nat) (cur : Array Value) (fr : Nat × Nat), v = .slice (some ⟨g, 0, none⟩) c.length cp ∧ c.length ≤ cp ∧ w.heap[g]? = some (.cells cur 3 fr) ∧ ∀ (j : Nat) (x : Int), c[j]? = some x → cur[j]? = some (iv x)
theorem addr_lit0 (b k : Nat) : (⟨b, 0, none⟩ : Addr).add k = ⟨b, k, none⟩ := by unfold Addr.add; split <;> simp_all
theorem Clk.sl {w : World} {v : Value} {c : List Int} (h : Clk w v c) : Sl iv w v c := by
  obtain ⟨g, cp, cur, fr, hv, hc, hg, hj⟩ := h
  refine .inr ⟨⟨g, 0, none⟩, cp, hv, hc, fun j b hb => ?_⟩
  rw [addr_lit0, cell_of_row w g j _ _ _ hg]
  exact hj j b hb
theorem Clk.keep {w w' : World} {v : Value} {c : List Int} (h : Clk w v c) (hk : ∀ (g : Nat) (cs : Array Value) (fr : Nat × Nat), w.heap[g]? = some (.cells cs 3 fr) → w'.heap[g]? = w.heap[g]?) : Clk w' v c := by
  obtain ⟨g, cp, cur, fr, hv, hc, hg, hj⟩ := h
  exact ⟨g, cp, cur, fr, hv, hc, (hk g cur fr hg).trans hg, hj⟩
theorem Clk.below {w w' : World} {v : Value} {c : List Int} (h : Clk w v c) (hb : Below w.heap.size w w') : Clk w' v c := h.keep fun _ _ _ hg => hb.block _ (lt_of_some hg)
theorem Clk.of_own {w : World} {B n : Nat} {v : Value} {c : List Int} (h : w.ownsRow B 3 1 v n (c.map iv)) (hn : 1 ≤ n) : Clk w v c := by
  have hl : c.length = n := by simpa using h.1
  rcases h.2 with ⟨rfl, h0⟩ | ⟨g, cap, cur, rfl, _, hg, hcc, _, _, htk⟩
  · omega
  · refine ⟨g, cap, cur, (0, 0), by rw [hl], by omega, hg, fun j x hj => ?_⟩
    have h2 : (c.map iv)[j]? = some (iv x) := by rw [List.getElem?_map, hj]; rfl
    rw [← htk, List.getElem?_take] at h2
    split at h2
    · simpa using h2
    · cases h2
structure VM (w0 : World) (B n nb bb : Nat) (nv cs : List (List Int)) (rbs : List Nat) (rows : List (List Bool)) (u6 : Value) (w : World) : Prop where
  now : ∃ vs : List Value, vs.length = 3 ∧ w.heap[nb]? = some (.cells vs.toArray 26 (0, 0)) ∧ ∀ (r : Nat) v c, vs[r]? = some v → nv[r]? = some c → Clk w v c
  nvl : nv.length = 3
  cls : ∃ vs : List Value, w.ownsRow B 26 1 u6 cs.length vs ∧ ∀ (j : Nat) v c, vs[j]? = some v → cs[j]? = some c → Clk w v c
  bbc : w.heap[bb]? = some (.cells ((rbs.map fun g => Value.slice (some ⟨g, 0, none⟩) n n) ++ List.replicate (n - rbs.length) (Value.slice none 0 0)).toArray 44 (0, 0))
  rl : rbs.length = rows.length
  rn : rbs.length ≤ n
  row : ∀ (j : Nat) g r, rbs[j]? = some g → rows[j]? = some r → r.length = n ∧ w.heap[g]? = some (.cells (r.map bl).toArray 4 (0, 0))
  nd : rbs.Nodup
  nbl : w0.heap.size ≤ nb ∧ nb < B
  bbl : w0.heap.size ≤ bb ∧ bb < B
  rbl : ∀ g, g ∈ rbs → B ≤ g
  below : Below w0.heap.size w0 w
  size : B ≤ w.heap.size
section
variable {w0 w w' : World} {B n nb bb : Nat} {nv cs : List (List Int)} {rbs : List Nat} {rows : List (List Bool)} {u6 : Value}
theorem VM.ext (h : VM w0 B n nb bb nv cs rbs rows u6 w) (hb : Below w.heap.size w w') : VM w0 B n nb bb nv cs rbs rows u6 w' := by
  obtain ⟨vs, h1, h2, h3⟩ := h.now
  obtain ⟨us, k1, k2⟩ := h.cls
  have hk : ∀ (g : Nat) (o : Obj), w.heap[g]? = some o → w'.heap[g]? = w.heap[g]? := fun g o hg => hb.block g (lt_of_some hg)
  refine ⟨⟨vs, h1, (hk _ _ h2).trans h2, fun r v c a b => (h3 r v c a b).below hb⟩, h.nvl, ⟨us, World.ownsRow.kept (row := none) k1 ⟨hb.os, hb.tape, hb.output, hb.size, fun k hk _ => hb.block k hk⟩ (by cases u6.ownBlock <;> simp), fun j v c a b => (k2 j v c a b).below hb⟩, (hk _ _ h.bbc).trans h.bbc, h.rl, h.rn, fun j g r a b => ⟨(h.row j g r a b).1, (hk _ _ (h.row j g r a b).2).trans (h.row j g r a b).2⟩, h.nd, h.nbl, h.bbl, h.rbl, h.below.trans (hb.mono h.below.size), Nat.le_trans h.size hb.size⟩
/-- A store to one block, of another type than numbers. -/
theorem VM.clk_set {a : Addr} {u : Value} {cs0 : Array Value} {t : TypeId} {fr0 : Nat × Nat} (ha : w.heap[a.block]? = some (.cells cs0 t fr0)) (ht : t ≠ 3) {v : Value} {c : List Int} (h : Clk w v c) : Clk (w.setCell a u) v c :=
  h.keep fun g cs fr hg => Below.heap_setCell w a u g (fun e => by rw [e, ha] at hg; cases hg; exact ht rfl)
theorem own_type {w : World} {B e m k : Nat} {v : Value} {xs : List Value} (h : w.ownsRow B e 1 v m xs) {o : Obj} (hk : w.heap[k]? = some o) (hne : ∀ cs, o ≠ .cells cs e (0, 0)) : v.ownBlock ≠ some k := by
  rcases h.2 with ⟨rfl, _⟩ | ⟨g, cap, cur, rfl, _, hg, _⟩
  · simp [Value.ownBlock]
  · simp only [Value.ownBlock]
    intro e2
    simp at e2
    subst e2
    rw [hg] at hk
    exact hne _ (Option.some.inj hk).symm
theorem VM.setNow (h : VM w0 B n nb bb nv cs rbs rows u6 w) {r : Nat} {v : Value} {c : List Int} (hr : r < 3) (hc : Clk w v c) : VM w0 B n nb bb (nv.set r c) cs rbs rows u6 (w.setCell ⟨nb, r, none⟩ v) := by
  obtain ⟨vs, h1, h2, h3⟩ := h.now
  obtain ⟨us, k1, k2⟩ := h.cls
  have hn := h.nvl
  have hne : ∀ (g : Nat) (o : Obj), w.heap[g]? = some o → (∀ cs, o ≠ .cells cs 26 (0, 0)) → (w.setCell ⟨nb, r, none⟩ v).heap[g]? = w.heap[g]? := fun g o hg hno => Below.heap_setCell w _ _ g (fun e => by
    have e : g = nb := e
    rw [e, h2] at hg
    exact hno _ (Option.some.inj hg).symm)
  refine ⟨⟨vs.set r v, by simpa using h1, ?_, fun q u d a b => ?_⟩, by simpa using hn, ⟨us, ownsRow_setCell_below k1 h.nbl.2 _, fun j u d a b => VM.clk_set (a := ⟨nb, r, none⟩) h2 (by decide) (k2 j u d a b)⟩, (hne _ _ h.bbc (fun cs e => by cases e)).trans h.bbc, h.rl, h.rn, fun j g q a b => ⟨(h.row j g q a b).1, (hne _ _ (h.row j g q a b).2 (fun cs e => by cases e)).trans (h.row j g q a b).2⟩, h.nd, h.nbl, h.bbl, h.rbl, h.below.setCell (p := ⟨nb, r, none⟩) h.nbl.1 _, by simpa [World.setCell] using h.size⟩
  · have := heap_set (i := r) (v := v) h2
    rw [this]
    simp
  · refine VM.clk_set (a := ⟨nb, r, none⟩) h2 (by decide) ?_
    by_cases e : q = r
    · subst e
      rw [List.getElem?_set_self (by omega)] at a b
      cases a; cases b
      exact hc
    · rw [List.getElem?_set_ne (fun h => e h.symm)] at a b
      exact h3 q u d a b
theorem VM.push (h : VM w0 B n nb bb nv cs rbs rows u6 w) {u7 : Value} {v : Value} {c : List Int} (vs : List Value) (hv : w.ownsRow B 26 1 u6 cs.length vs) (hvc : ∀ (j : Nat) v c, vs[j]? = some v → cs[j]? = some c → Clk w v c) (hown : w'.ownsRow B 26 1 u7 (cs.length + 1) (vs ++ [v])) (hf : Frm 26 B w w') (hc : Clk w v c) : VM w0 B n nb bb nv (cs ++ [c]) rbs rows u7 w' := by
  obtain ⟨ns, h1, h2, h3⟩ := h.now
  have hck : ∀ v c, Clk w v c → Clk w' v c := fun v c hc => hc.keep fun g _ _ hg => hf.block g (lt_of_some hg) (.inr fun cs fr e => by rw [hg] at e; cases e)
  have hlen : vs.length = cs.length := by simpa using hv.1
  refine ⟨⟨ns, h1, (hf.block nb (lt_of_some h2) (.inl h.nbl.2)).trans h2, fun r v c a b => hck _ _ (h3 r v c a b)⟩, h.nvl, ⟨vs ++ [v], by rw [List.length_append]; exact hown, fun j u d a b => ?_⟩, (hf.block bb (lt_of_some h.bbc) (.inl h.bbl.2)).trans h.bbc, h.rl, h.rn, fun j g r a b => ⟨(h.row j g r a b).1, (hf.block g (lt_of_some (h.row j g r a b).2) (.inr fun cs fr e => by rw [(h.row j g r a b).2] at e; cases e)).trans (h.row j g r a b).2⟩, h.nd, h.nbl, h.bbl, h.rbl, h.below.trans ((hf.below h.size).mono (Nat.le_of_lt (Nat.lt_of_le_of_lt h.nbl.1 h.nbl.2))), Nat.le_trans h.size hf.size⟩
  refine hck _ _ ?_
  by_cases e : j < cs.length
  · rw [List.getElem?_append_left (by omega)] at a b
    exact hvc j u d a b
  · by_cases e2 : j = cs.length
    · subst e2
      rw [List.getElem?_append_right (by omega), hlen, Nat.sub_self] at a
      rw [List.getElem?_append_right (by omega), Nat.sub_self] at b
      cases a; cases b
      exact hc
    · rw [List.getElem?_eq_none (by simp; omega)] at b
      cases b
theorem VM.nowAt (h : VM w0 B n nb bb nv cs rbs rows u6 w) (r : Nat) (hr : r < 3) : ∃ v c, w.cell? ⟨nb, r, none⟩ = some v ∧ nv[r]? = some c ∧ Clk w v c ∧ w.frozen? ⟨nb, r, none⟩ = false := by
  obtain ⟨vs, h1, h2, h3⟩ := h.now
  have hn := h.nvl
  refine ⟨vs[r], nv[r], ?_, List.getElem?_eq_getElem (by omega), h3 r _ _ (List.getElem?_eq_getElem (by omega)) (List.getElem?_eq_getElem (by omega)), ?_⟩
  · rw [cell_of_row _ _ r _ _ _ h2, ← Array.getElem?_toList]
    simp
  · simp [World.frozen?, h2]
theorem VM.clsAt (h : VM w0 B n nb bb nv cs rbs rows u6 w) (j : Nat) (hj : j < cs.length) : ∃ g cp v, u6 = .slice (some ⟨g, 0, none⟩) cs.length cp ∧ cs.length ≤ cp ∧ w.cell? ⟨g, j, none⟩ = some v ∧ Clk w v cs[j] := by
  obtain ⟨us, k1, k2⟩ := h.cls
  have hl : us.length = cs.length := by simpa using k1.1
  have hcl := @World.ownsRow.cells _ _ _ _ _ _ _ k1
  rcases k1.2 with ⟨_, h0⟩ | ⟨g, cap, cur, rfl, _, _, hn, _⟩
  · omega
  · refine ⟨g, cap, us[j], rfl, hn, ?_, k2 j _ _ (List.getElem?_eq_getElem (by omega)) (List.getElem?_eq_getElem hj)⟩
    have := hcl (g := g) rfl j _ (List.getElem?_eq_getElem (by omega))
    rwa [addr_lit0] at this
theorem VM.rowAt (h : VM w0 B n nb bb nv cs rbs rows u6 w) (j : Nat) (hj : j < rbs.length) : w.cell? ⟨bb, j, none⟩ = some (.slice (some ⟨rbs[j], 0, none⟩) n n) := by
  rw [cell_of_row _ _ j _ _ _ h.bbc, ← Array.getElem?_toList]
  simp only []
  rw [List.getElem?_append_left (by simpa using hj), List.getElem?_map, List.getElem?_eq_getElem hj]; rfl
theorem VM.bitAt (h : VM w0 B n nb bb nv cs rbs rows u6 w) (j k : Nat) (hj : j < rbs.length) (hk : k < n) : w.cell? ⟨rbs[j], k, none⟩ = some (.bool ((rows.getD j []).getD k false)) ∧ w.frozen? ⟨rbs[j], k, none⟩ = false ∧ (rows.getD j []).length = n := by
  have hr := h.rl
  obtain ⟨h1, h2⟩ := h.row j _ _ (List.getElem?_eq_getElem hj) (List.getElem?_eq_getElem (show j < rows.length by omega))
  have e : rows.getD j [] = rows[j]'(by omega) := by rw [List.getD_eq_getElem?_getD, List.getElem?_eq_getElem (by omega)]; rfl
  rw [e]
  refine ⟨?_, by simp [World.frozen?, h2], h1⟩
  rw [cell_of_row _ _ k _ _ _ h2, ← Array.getElem?_toList]
  simp only []
  rw [List.getElem?_map, List.getElem?_eq_getElem (by omega), List.getD_eq_getElem?_getD, List.getElem?_eq_getElem (by omega)]; rfl
theorem VM.setBit (h : VM w0 B n nb bb nv cs rbs rows u6 w) (j k : Nat) (b : Bool) (hj : j < rbs.length) : VM w0 B n nb bb nv cs rbs (rows.set j ((rows.getD j []).set k b)) u6 (w.setCell ⟨rbs[j], k, none⟩ (.bool b)) := by
  have hr := h.rl
  have ej : rows.getD j [] = rows[j]'(by omega) := by rw [List.getD_eq_getElem?_getD, List.getElem?_eq_getElem (by omega)]; rfl
  obtain ⟨hl1, hl2⟩ := h.row j _ _ (List.getElem?_eq_getElem hj) (List.getElem?_eq_getElem (show j < rows.length by omega))
  obtain ⟨vs, h1, h2, h3⟩ := h.now
  obtain ⟨us, k1, k2⟩ := h.cls
  have hB := h.rbl _ (List.getElem_mem hj)
  have hne : ∀ (g : Nat) (o : Obj), w.heap[g]? = some o → (∀ cs, o ≠ .cells cs 4 (0, 0)) → (w.setCell ⟨rbs[j], k, none⟩ (.bool b)).heap[g]? = w.heap[g]? := fun g o hg hno => Below.heap_setCell w _ _ g (fun e => by
    have e : g = rbs[j] := e
    rw [e, hl2] at hg
    exact hno _ (Option.some.inj hg).symm)
  refine ⟨⟨vs, h1, (hne _ _ h2 (fun cs e => by cases e)).trans h2, fun r v c a d => VM.clk_set (a := ⟨rbs[j], k, none⟩) hl2 (by decide) (h3 r v c a d)⟩, h.nvl, ⟨us, ownsRow_setCell_other k1 (own_type k1 hl2 (fun cs e => by cases e)) _, fun q v c a d => VM.clk_set (a := ⟨rbs[j], k, none⟩) hl2 (by decide) (k2 q v c a d)⟩, (hne _ _ h.bbc (fun cs e => by cases e)).trans h.bbc, by simpa using hr, h.rn, fun q g r a d => ?_, h.nd, h.nbl, h.bbl, h.rbl, h.below.setCell (p := ⟨rbs[j], k, none⟩) (show w0.heap.size ≤ rbs[j] by have := h.nbl; omega) _, by simpa [World.setCell] using h.size⟩
  by_cases e : q = j
  · subst e
    rw [List.getElem?_set_self (by omega)] at d
    rw [List.getElem?_eq_getElem hj] at a
    cases a; cases d
    rw [ej]
    refine ⟨by rw [List.length_set]; exact hl1, ?_⟩
    have := heap_set (i := k) (v := .bool b) hl2
    rw [this, List.map_set]
    simp [bl]
  · rw [List.getElem?_set_ne (fun h => e h.symm)] at d
    obtain ⟨q1, q2⟩ := h.row q g r a d
    refine ⟨q1, ?_⟩
    rw [Below.heap_setCell w ⟨rbs[j], k, none⟩ (.bool b) g (fun e2 => by
      have e2 : g = rbs[j] := e2
      have h5 : rbs[q]? = rbs[j]? := by rw [a, List.getElem?_eq_getElem hj, e2]
      exact e ((List.getElem?_inj (List.getElem?_eq_some_iff.1 a).1 h.nd).1 h5))]
    exact q2
theorem VM.addRow (h : VM w0 B n nb bb nv cs rbs rows u6 w) {g : Nat} (hl : rbs.length < n) (hg : w.heap[g]? = some (.cells ((List.replicate n false).map bl).toArray 4 (0, 0))) (hgB : B ≤ g) (hnew : g ∉ rbs) :
    VM w0 B n nb bb nv cs (rbs ++ [g]) (rows ++ [List.replicate n false]) u6 (w.setCell ⟨bb, rbs.length, none⟩ (.slice (some ⟨g, 0, none⟩) n n)) := by
  have hr := h.rl
  obtain ⟨vs, h1, h2, h3⟩ := h.now
  obtain ⟨us, k1, k2⟩ := h.cls
  have hne : ∀ (q : Nat) (o : Obj), w.heap[q]? = some o → (∀ cs, o ≠ .cells cs 44 (0, 0)) → (w.setCell ⟨bb, rbs.length, none⟩ (.slice (some ⟨g, 0, none⟩) n n)).heap[q]? = w.heap[q]? := fun q o hq hno => Below.heap_setCell w _ _ q (fun e => by
    have e : q = bb := e
    rw [e, h.bbc] at hq
    exact hno _ (Option.some.inj hq).symm)
  refine ⟨⟨vs, h1, (hne _ _ h2 (fun cs e => by cases e)).trans h2, fun r v c a d => VM.clk_set (a := ⟨bb, rbs.length, none⟩) h.bbc (by decide) (h3 r v c a d)⟩, h.nvl, ⟨us, ownsRow_setCell_below k1 h.bbl.2 _, fun q v c a d => VM.clk_set (a := ⟨bb, rbs.length, none⟩) h.bbc (by decide) (k2 q v c a d)⟩, ?_, by simp [hr], by simp; omega, fun q g2 r a d => ?_, ?_, h.nbl, h.bbl, fun q hq => ?_, h.below.setCell (p := ⟨bb, rbs.length, none⟩) h.bbl.1 _, by simpa [World.setCell] using h.size⟩
  · have := heap_set (i := rbs.length) (v := Value.slice (some ⟨g, 0, none⟩) n n) h.bbc
    rw [this]
    congr 2
    rw [List.setIfInBounds_toArray]
    congr 1
    rw [List.set_append_right _ _ (by simp), List.length_map, Nat.sub_self, List.map_append, List.length_append, List.append_assoc]
    congr 1
    rw [show n - rbs.length = (n - (rbs.length + 1)) + 1 by omega, List.replicate_succ]
    rfl
  · by_cases e : q < rbs.length
    · rw [List.getElem?_append_left e] at a
      rw [List.getElem?_append_left (by omega)] at d
      obtain ⟨q1, q2⟩ := h.row q g2 r a d
      exact ⟨q1, (hne _ _ q2 (fun cs e => by cases e)).trans q2⟩
    · have hq := (List.getElem?_eq_some_iff.1 a).1
      rw [List.length_append, List.length_singleton] at hq
      obtain rfl : q = rbs.length := by omega
      rw [List.getElem?_append_right (by omega), Nat.sub_self] at a
      rw [List.getElem?_append_right (by omega), hr, Nat.sub_self] at d
      cases a; cases d
      exact ⟨by simp, (hne _ _ hg (fun cs e => by cases e)).trans hg⟩
  · rw [List.nodup_append]
    exact ⟨h.nd, by simp, fun a ha b hb e => hnew (by rw [← List.mem_singleton.1 hb, ← e]; exact ha)⟩
  · rcases List.mem_append.1 hq with h5 | h5
    · exact h.rbl q h5
    · rw [List.mem_singleton.1 h5]; exact hgB
theorem VM.nilAt (h : VM w0 B n nb bb nv cs rbs rows u6 w) (hl : rbs.length < n) : w.cell? ⟨bb, rbs.length, none⟩ = some (.slice none 0 0) ∧ w.frozen? ⟨bb, rbs.length, none⟩ = false := by
  refine ⟨?_, by simp [World.frozen?, h.bbc]⟩
  rw [cell_of_row _ _ _ _ _ _ h.bbc, ← Array.getElem?_toList]
  simp only []
  rw [List.getElem?_append_right (by simp), List.length_map, Nat.sub_self, List.getElem?_replicate, if_pos (by omega)]
theorem block_of_own {w : World} {B e g n : Nat} {xs : List Value} (h : w.ownsRow B e 1 (.slice (some ⟨g, 0, none⟩) n n) n xs) : w.heap[g]? = some (.cells xs.toArray e (0, 0)) ∧ B ≤ g := by
  rcases h.2 with ⟨h', _⟩ | ⟨g', cap, cur, h', hb, hg, hnc, hcm, hcs, htk⟩
  · simp at h'
  · simp only [Value.slice.injEq, Option.some.injEq, Addr.mk.injEq, and_true, true_and] at h'
    obtain ⟨rfl, rfl⟩ := h'
    refine ⟨?_, hb⟩
    rw [hg]
    congr 2
    rw [← htk, List.take_of_length_le (by simp; omega)]
/-- The events as they lie in memory. -/
def Ats (w : World) (v : Value) (E : List (Nat × Nat)) : Prop :=
  (v = .slice none 0 0 ∧ E = []) ∨ ∃ ad c, v = .slice (some ad) E.length c ∧ E.length ≤ c ∧ ∀ (j : Nat) x, E[j]? = some x → w.cell? (ad.add (j * 2)) = some (.int .u8 (x.1 : Int)) ∧ w.cell? ⟨(ad.add (j * 2)).block, (ad.add (j * 2)).off + 1, none⟩ = some (.int .u8 (x.2 : Int))
theorem Ats.below {w w' : World} {v : Value} {E : List (Nat × Nat)} (h : Ats w v E) (hb : Below w.heap.size w w') : Ats w' v E := by
  rcases h with h | ⟨ad, c, hv, hc, hcell⟩
  · exact .inl h
  · refine .inr ⟨ad, c, hv, hc, fun j x hj => ?_⟩
    obtain ⟨h1, h2⟩ := hcell j x hj
    exact ⟨(hb.cell (World.block_lt_of_cell? _ _ h1)).trans h1, (hb.cell (World.block_lt_of_cell? _ _ h2)).trans h2⟩
theorem Ats.at {w : World} {A : Option Addr} {n c : Nat} {E : List (Nat × Nat)} (h : Ats w (.slice A n c) E) (k : Nat) (hk : k < E.length) : ∃ ad, A = some ad ∧ n ≤ c ∧ w.cell? (ad.add (k * 2)) = some (.int .u8 (E[k].1 : Int)) ∧ w.cell? ⟨(ad.add (k * 2)).block, (ad.add (k * 2)).off + 1, none⟩ = some (.int .u8 (E[k].2 : Int)) := by
  rcases h with ⟨_, h0⟩ | ⟨ad, c', hv, hc, hcell⟩
  · rw [h0] at hk; simp at hk
  · simp only [Value.slice.injEq] at hv
    obtain ⟨h1, h2⟩ := hcell k _ (List.getElem?_eq_getElem hk)
    exact ⟨ad, hv.1, by omega, h1, h2⟩
end
end Go.Proofs.Ytgfnhkipoicmiaa
