/- nfa.reversed (tools/gen_rv.py). -/
import Derived.Test.YtockgbilbnheaaaDoorNfaSa
import Derived.Test.YtockgbilbnheaaaDoorNfaBx
import Derived.Test.YtockgbilbnheaaaDoorNfaAwk
import Derived.Laws.MakeOwn
namespace Go.Proofs.YtockgbilbnheaaaDoor
open Go.RowKit

theorem info_bool1 : (Tryd.prog.info? 4).map (fun i => (i.zero, i.size, i.bytes)) = some (some (.bool false), 1, 1) := by kernel_rfl
theorem below_setRow {B b : Nat} {w0 w : World} (h : Below B w0 w) (hb : B ≤ b) (cs : Array Value) : Below B w0 (w.setRow b cs) :=
 ⟨h.os, h.tape, h.output, by rw [size_setRow]; exact h.size, fun k hk => (setRow_other w b k cs (by omega)).trans (h.block k hk)⟩
/-- Between the operations of 'r := NFA{States: a.States, Finals: make([]bool, a.States)}'. -/
structure RvI (w0 : World) (zb S : Nat) (L : Nat → Bool) (vs : Nat → Value) (w : World) : Prop where
 q0 : L 0 = true → vs 0 = .pointer (some ⟨zb, 0, none⟩)
 q1 : L 1 = true → vs 1 = .int .i64 (S : Int)
 q2 : L 2 = true → vs 2 = .pointer (some ⟨zb, 0, none⟩)
 q3 : L 3 = true → vs 3 = .int .i64 (S : Int)
 q4 : L 4 = true → ∃ g, vs 4 = .slice (some ⟨g, 0, none⟩) S S ∧ w0.heap.size ≤ g ∧ Bx w g 4 (madeCells #[.bool false] S)
 q5 : L 5 = true → L 4 = true ∧ vs 5 = .agg #[.int .i64 (S : Int), .slice none 0 0, vs 4, .slice none 0 0]
 q6 : L 6 = true → ∃ nb, vs 6 = .pointer (some ⟨nb, 0, none⟩) ∧ w0.heap.size ≤ nb ∧ Bx w nb 32 (if L 7 = true then #[.int .i64 (S : Int), .slice none 0 0, vs 4, .slice none 0 0] else #[.int .i64 0, .slice none 0 0, .slice none 0 0, .slice none 0 0])
 bel : Below w0.heap.size w0 w
section
variable {w0 w w' : World} {zb S : Nat} {L : Nat → Bool} {vs : Nat → Value}
theorem RvI.start : RvI w0 zb S (fun _ => false) vs w0.drew := ⟨nopeB rfl, nopeB rfl, nopeB rfl, nopeB rfl, nopeB rfl, nopeB rfl, nopeB rfl, (Below.refl _ _).drew⟩
theorem RvI.t0 (hI : RvI w0 zb S L vs w) : RvI w0 zb S (updB L 0) (updV vs 0 (.pointer (some ⟨zb, 0, none⟩))) w := ⟨fun _ => rfl, hI.q1, hI.q2, hI.q3, hI.q4, hI.q5, hI.q6, hI.bel⟩
theorem RvI.t1 (hI : RvI w0 zb S L vs w) : RvI w0 zb S (updB L 1) (updV vs 1 (.int .i64 (S : Int))) w := ⟨hI.q0, fun _ => rfl, hI.q2, hI.q3, hI.q4, hI.q5, hI.q6, hI.bel⟩
theorem RvI.t2 (hI : RvI w0 zb S L vs w) : RvI w0 zb S (updB L 2) (updV vs 2 (.pointer (some ⟨zb, 0, none⟩))) w := ⟨hI.q0, hI.q1, fun _ => rfl, hI.q3, hI.q4, hI.q5, hI.q6, hI.bel⟩
theorem RvI.t3 (hI : RvI w0 zb S L vs w) : RvI w0 zb S (updB L 3) (updV vs 3 (.int .i64 (S : Int))) w := ⟨hI.q0, hI.q1, hI.q2, fun _ => rfl, hI.q4, hI.q5, hI.q6, hI.bel⟩
theorem RvI.t4 (hI : RvI w0 zb S L vs w) (h5 : L 5 = false) (h7 : L 7 = false) : RvI w0 zb S (updB L 4) (updV vs 4 (.slice (some ⟨w.heap.size, 0, none⟩) S S)) (w.alloc (.cells (madeCells #[.bool false] S) 4)) :=
 ⟨hI.q0, hI.q1, hI.q2, hI.q3, fun _ => ⟨_, rfl, hI.bel.size, Bx.new w _ _⟩, fun h => nopeB h5 h, fun h => by
  obtain ⟨nb, h1, h2, h3⟩ := hI.q6 h
  refine ⟨nb, h1, h2, ?_⟩
  rw [h7, if_neg Bool.false_ne_true] at h3
  rw [updB_ne L (by decide), h7, if_neg Bool.false_ne_true]
  exact h3.below (al1 w _), hI.bel.trans ((al1 w _).mono hI.bel.size)⟩
theorem RvI.t5 (hI : RvI w0 zb S L vs w) (h4 : L 4 = true) : RvI w0 zb S (updB L 5) (updV vs 5 (.agg #[.int .i64 (S : Int), .slice none 0 0, vs 4, .slice none 0 0])) w :=
 ⟨hI.q0, hI.q1, hI.q2, hI.q3, hI.q4, fun _ => ⟨h4, rfl⟩, hI.q6, hI.bel⟩
theorem RvI.t6 (hI : RvI w0 zb S L vs w) (h7 : L 7 = false) : RvI w0 zb S (updB L 6) (updV vs 6 (.pointer (some ⟨w.heap.size, 0, none⟩))) (w.alloc (.cells #[.int .i64 0, .slice none 0 0, .slice none 0 0, .slice none 0 0] 32)) :=
 ⟨hI.q0, hI.q1, hI.q2, hI.q3, fun h => by obtain ⟨g, h1, h2, h3⟩ := hI.q4 h; exact ⟨g, h1, h2, h3.alloc _⟩, hI.q5, fun _ => ⟨_, rfl, hI.bel.size, by rw [updB_ne L (by decide), h7, if_neg Bool.false_ne_true]; exact Bx.new w _ _⟩, hI.bel.trans ((al1 w _).mono hI.bel.size)⟩
theorem bx_ne {w : World} {a b : Nat} {t u : TypeId} {cs ds : Array Value} (h : Bx w a t cs) (k : Bx w b u ds) (hne : t ≠ u) : a ≠ b := fun e => by
 subst e
 unfold Bx at h k
 rw [h] at k
 cases k
 exact hne rfl
theorem RvI.t7 (hI : RvI w0 zb S L vs w) (h6 : L 6 = true) {nb : Nat} (hv : vs 6 = .pointer (some ⟨nb, 0, none⟩)) : RvI w0 zb S (updB L 7) (updV vs 7 undef) (w.setRow nb #[.int .i64 (S : Int), .slice none 0 0, vs 4, .slice none 0 0]) := by
 obtain ⟨nb', h1, h2, h3⟩ := hI.q6 h6
 obtain rfl : nb' = nb := by rw [hv] at h1; simpa using h1.symm
 exact ⟨hI.q0, hI.q1, hI.q2, hI.q3, fun h => by
  obtain ⟨g, e1, e2, e3⟩ := hI.q4 h
  exact ⟨g, e1, e2, e3.rowO (bx_ne e3 h3 (by decide))⟩, hI.q5, fun _ => ⟨nb', h1, h2, h3.row⟩, below_setRow hI.bel h2 _⟩
theorem RvI.fin (hI : RvI w0 zb S L vs w) (h : ∀ i, i < 8 → L i = true) : ∃ nb g, vs 6 = .pointer (some ⟨nb, 0, none⟩) ∧ w0.heap.size ≤ nb ∧ w0.heap.size ≤ g ∧ Bx w nb 32 #[.int .i64 (S : Int), .slice none 0 0, .slice (some ⟨g, 0, none⟩) S S, .slice none 0 0] ∧ Bx w g 4 (madeCells #[.bool false] S) ∧ Below w0.heap.size w0 w := by
 obtain ⟨g, e1, e2, e3⟩ := hI.q4 (h 4 (by decide))
 obtain ⟨nb, h1, h2, h3⟩ := hI.q6 (h 6 (by decide))
 rw [if_pos (h 7 (by decide)), e1] at h3
 exact ⟨nb, g, h1, h2, e2, h3, e3, hI.bel⟩
end
/-- The final states, as start states. -/
def rvS (fin : List Bool) (k : Nat) : List Int := ((List.range k).filter fun n => fin[n]?.getD false).map fun n : Nat => (n : Int)
theorem rvS_next (fin : List Bool) (k : Nat) : rvS fin (k + 1) = rvS fin k ++ if fin[k]?.getD false = true then [(k : Int)] else [] := by
 unfold rvS
 rw [List.range_succ, List.filter_append, List.map_append]
 congr 1
 cases h : fin[k]?.getD false <;> simp [h]
theorem rvS_len (fin : List Bool) (k : Nat) : (rvS fin k).length ≤ k := by
 unfold rvS
 rw [List.length_map]
 have := List.length_filter_le (fun n => fin[n]?.getD false) (List.range k)
 rwa [List.length_range] at this
/-- The start states, as final states. -/
def rvF (S : Nat) (st : List Int) : List Bool := (List.range S).map fun n : Nat => decide ((n : Int) ∈ st)
theorem rvF_len (S : Nat) (st : List Int) : (rvF S st).length = S := by simp [rvF]
theorem rvF_nil (S : Nat) : madeCells #[.bool false] S = ((rvF S []).map bl).toArray := by
 apply Array.toList_inj.1
 have e := toList_madeCells_one (.bool false) S
 rw [e]
 apply List.ext_getElem
 ·simp [rvF]
 ·intro i h1 h2
  simp [rvF, bl]
theorem rvF_set (S : Nat) (st : List Int) (k : Nat) (hk : k < st.length) (n : Nat) (hn : st[k] = (n : Int)) : (((rvF S (st.take k)).map bl).toArray).setIfInBounds n (.bool true) = ((rvF S (st.take (k + 1))).map bl).toArray := by
 apply Array.toList_inj.1
 rw [Array.toList_setIfInBounds]
 apply List.ext_getElem
 ·simp [rvF]
 ·intro i h1 h2
  have e := List.take_succ_eq_append_getElem hk
  rw [List.getElem_set]
  by_cases hi : n = i
  ·subst hi
   rw [if_pos rfl]
   simp [rvF, bl, e, hn]
  ·rw [if_neg hi]
   simp only [rvF, List.map_map, List.getElem_map, List.getElem_range, Function.comp_apply, e, List.mem_append, List.mem_singleton, hn]
   congr 2
   have : ¬ ((i : Int) = (n : Int)) := by omega
   simp [this]
/-- The arcs, turned. -/
def rvA (l : List Ac) : List Ac := l.map fun x => (x.2.2, x.2.1, x.1)
theorem addr00 (g i : Nat) : (⟨g, 0, none⟩ : Addr).add i = ⟨g, i, none⟩ := by unfold Addr.add; split <;> simp_all
theorem add_block (a : Addr) (i : Nat) : (a.add i).block = a.block := by unfold Addr.add; split <;> rfl
theorem own_off {w : World} {B sz n : Nat} {e t : TypeId} {v : Value} {xs : List Value} {b : Nat} {cs : Array Value} (h : w.ownsRow B e sz v n xs) (hb : Bx w b t cs) (hne : t ≠ e) : some b ≠ v.ownBlock := fun hv => by
 rcases h.2 with ⟨rfl, _⟩ | ⟨q, cap, cur, rfl, _, hq, _⟩
 ·simp [Value.ownBlock] at hv
 ·have hbq : b = q := by simpa [Value.ownBlock] using hv
  subst hbq
  exact bx_ne hb (show Bx w b e cur from hq) hne rfl
theorem cell_off {w : World} {a : Addr} {b i : Nat} {u : Value} (h : a.block ≠ b) : (w.setCell ⟨b, i, none⟩ u).cell? a = w.cell? a := World.cell?_of_block (Below.heap_setCell w ⟨b, i, none⟩ u a.block h)
theorem Acs.off {w : World} {A : Option Addr} {n c : Nat} {l : List Ac} (h : Acs w (.slice A n c) l) {b i : Nat} {u : Value} (hA : ∀ ad, A = some ad → ad.block ≠ b) : Acs (w.setCell ⟨b, i, none⟩ u) (.slice A n c) l := by
 rcases h with h | ⟨ad, c', h1, h2, h3⟩
 ·exact .inl h
 ·have hb : ad.block ≠ b := hA ad (by simp only [Value.slice.injEq] at h1; exact h1.1)
  refine .inr ⟨ad, c', h1, h2, fun j x hj => ?_⟩
  obtain ⟨k0, k1, k2⟩ := h3 j x hj
  have e := add_block ad (j * 3)
  exact ⟨(cell_off (by rw [e]; exact hb)).trans k0, (cell_off (by show (ad.add (j * 3)).block ≠ b; rw [e]; exact hb)).trans k1, (cell_off (by show (ad.add (j * 3)).block ≠ b; rw [e]; exact hb)).trans k2⟩
theorem own3_at' {w : World} {B e n : Nat} {v : Value} {xs : List Value} (h : w.ownsRow B e 3 v n xs) : ∃ A c, v = .slice A n c ∧ ∀ ad, A = some ad → ∃ g, ad = ⟨g, 0, none⟩ ∧ ∃ cs, Bx w g e cs := by
 rcases h.2 with ⟨rfl, h0⟩ | ⟨g, cap, cur, rfl, _, hg, _⟩
 ·exact ⟨none, 0, by rw [h0], fun ad h => by cases h⟩
 ·exact ⟨_, cap, rfl, fun ad h => by cases h; exact ⟨g, rfl, cur, hg⟩⟩
theorem rvA_len (l : List Ac) : (rvA l).length = l.length := by simp [rvA]
theorem srtA_len (l : List Ac) : (srtA l).length = l.length := (srtA_perm l).length_eq
theorem bx_sl {w : World} {g S : Nat} {l : List Bool} (h : Bx w g 4 (l.map bl).toArray) (hl : l.length = S) : Sl bl w (.slice (some ⟨g, 0, none⟩) S S) l := by
 refine .inr ⟨⟨g, 0, none⟩, S, by rw [hl], by omega, fun j x hj => ?_⟩
 rw [addr00, h.cell j]
 simp [hj]
theorem info_nfa : (Tryd.prog.info? 32).map (fun i => (i.zero, i.size, i.bytes)) = some (some (.agg #[.int .i64 0, .slice none 0 0, .slice none 0 0, .slice none 0 0]), 4, 80) := by kernel_rfl
theorem set4 {w : World} {b q : Nat} {u0 u1 u2 u3 : Value} (h : q ≠ b) : ((((w.setCell ⟨b, 0, none⟩ u0).setCell ⟨b, 1, none⟩ u1).setCell ⟨b, 2, none⟩ u2).setCell ⟨b, 3, none⟩ u3).heap[q]? = w.heap[q]? :=
 (((Below.heap_setCell _ _ _ _ h).trans (Below.heap_setCell _ _ _ _ h)).trans (Below.heap_setCell _ _ _ _ h)).trans (Below.heap_setCell _ _ _ _ h)
theorem own_ge {w : World} {B e sz n m c : Nat} {A : Option Addr} {xs : List Value} (h : w.ownsRow B e sz (.slice A n c) m xs) : ∀ ad, A = some ad → B ≤ ad.block := fun ad hA => by
 subst hA
 rcases h.2 with ⟨h1, _⟩ | ⟨q, cap, cur, h1, h2, _⟩
 ·cases h1
 ·cases h1
  exact h2
theorem Sl.off {α : Type} {f : α → Value} {w : World} {A : Option Addr} {n c : Nat} {l : List α} (h : Sl f w (.slice A n c) l) {b i : Nat} {u : Value} (hA : ∀ ad, A = some ad → ad.block ≠ b) : Sl f (w.setCell ⟨b, i, none⟩ u) (.slice A n c) l := by
 rcases h with h | ⟨ad, c', h1, h2, h3⟩
 ·exact .inl h
 ·have hb : ad.block ≠ b := hA ad (by simp only [Value.slice.injEq] at h1; exact h1.1)
  exact .inr ⟨ad, c', h1, h2, fun j x hj => (cell_off (by rw [add_block]; exact hb)).trans (h3 j x hj)⟩
def RevP (S : Nat) (st : List Int) (fin : List Bool) (ar : List Ac) (w : World) (e : Ending) (w' : World) : Prop :=
 ∃ A1 c1 A2 c2 A3 c3, e = .returned (.agg #[.int .i64 (S : Int), .slice A1 st.length c1, .slice A2 fin.length c2, .slice A3 ar.length c3]) ∧ Sl iv w' (.slice A1 st.length c1) st ∧ Sl bl w' (.slice A2 fin.length c2) fin ∧ Acs w' (.slice A3 ar.length c3) ar ∧ Below w.heap.size w w' ∧ (∀ ad, A1 = some ad → w.heap.size ≤ ad.block) ∧ (∀ ad, A2 = some ad → w.heap.size ≤ ad.block) ∧ (∀ ad, A3 = some ad → w.heap.size ≤ ad.block)
set_option maxRecDepth 100000 in
set_option maxHeartbeats 4000000 in
theorem reversed_any (S : Nat) (st : List Int) (fin : List Bool) (ar : List Ac) (sv fv v : Value) (w : World) (h : VN S st fin ar) (hs : Sl iv w sv st) (hf : Sl bl w fv fin) (ha : Acs w v ar) :
  Calls Tryd.prog 51 #[.agg #[.int .i64 (S : Int), sv, fv, v]] w (RevP S (rvS fin S) (rvF S st) (srtA (rvA ar)) w) := by
 obtain ⟨As, cs, rfl⟩ := hs.shape
 obtain ⟨Af, cf, rfl⟩ := hf.shape
 obtain ⟨Aa, ca, rfl⟩ := ha.shape
 have Hn := Lib.hid h; have Hs := Lib.hid hs; have Hf := Lib.hid hf; have Ha := Lib.hid ha
 have hS := h.few
 have HFL := Lib.hid h.fins
 clear h hs hf ha
 have hmk : ∀ w : World, (Instr.makeSlice 23 (.int .i64 (S : Int)) (.int .i64 (S : Int))).run Tryd.prog w = .ok (.slice (some ⟨w.heap.size, 0, none⟩) S S) (w.alloc (.cells (madeCells #[.bool false] S) 4)) := fun w => by
  obtain ⟨i0, hi, hz0, hz1, hz2⟩ := info_parts info_bool1
  have := run_makeSlice (w := w) 23 4 i0 (.bool false) (by kernel_rfl) hi hz0 .i64 .i64 (S : Int) (S : Int) (by omega) (Int.le_refl _) (by rw [hz1]; simp; omega) (by rw [hz2]; omega) (by omega)
  rw [hz1] at this
  simpa [Value.cells] using this
 obtain ⟨W, hW⟩ : ∃ W, W = (w.alloc (.cells #[.int .i64 (S : Int), .slice As st.length cs, .slice Af fin.length cf, .slice Aa ar.length ca] 32)).alloc (.cells #[.int .i64 0, .slice none 0 0, .slice none 0 0, .slice none 0 0] 32) := ⟨_, rfl⟩
 have hbw : Below w.heap.size w W := by rw [hW]; exact al2 w _ _
 have hWx : Bx W w.heap.size 32 #[.int .i64 (S : Int), .slice As st.length cs, .slice Af fin.length cf, .slice Aa ar.length ca] := by rw [hW]; exact heap_alloc_2 w _ _
 have hWr : Bx W (w.heap.size + 1) 32 #[.int .i64 0, .slice none 0 0, .slice none 0 0, .slice none 0 0] := by rw [hW]; exact heap_alloc_2' w _ _
 have HW := Lib.hid hW; have HWx := Lib.hid hWx; have HWr := Lib.hid hWr; have Hbw := Lib.hid hbw
 have Hbws := Lib.hid hbw.size
 clear hbw hWx hWr hW
 go_enter Tryd.func51, Tryd.ntmps51
 go_wp2_with fail
 rw [← HW.out]
 refine region_inv (n := 68) (RvI W w.heap.size S) (by kernel_rfl) (by kernel_rfl) rfl ?_ (allOps_spec ?_) ?_
 ·intro vs
  exact RvI.start
 ·refine ⟨?_, ?_, ?_, ?_, ?_, ?_, ?_, ?_, trivial⟩
  ·intro L vs ac w6 hB hL hd hI
   have b1 : ac.tmps[1]?.getD undef = .pointer (some ⟨w.heap.size, 0, none⟩) := hB.at 1 (by kernel_rfl)
   exact stepI_run (v := .pointer (some ⟨w.heap.size, 0, none⟩)) rfl (by simp [execOp, go_sem, Act.eval, b1]) hI.t0
  ·intro L vs ac w6 hB hL hd hI
   have b1 : ac.tmps[10]?.getD undef = .pointer (some ⟨w.heap.size, 0, none⟩) := (hB.val 0 (hd ⟨0, .data⟩ (by simp) rfl) 10 rfl).trans (hI.q0 (hd ⟨0, .data⟩ (by simp) rfl))
   have kc := (HWx.out.below hI.bel).cell 0
   exact stepI_run (v := .int .i64 (S : Int)) rfl (by simp [execOp, go_sem, Act.eval, b1, kc]) hI.t1
  ·intro L vs ac w6 hB hL hd hI
   have b1 : ac.tmps[1]?.getD undef = .pointer (some ⟨w.heap.size, 0, none⟩) := hB.at 1 (by kernel_rfl)
   exact stepI_run (v := .pointer (some ⟨w.heap.size, 0, none⟩)) rfl (by simp [execOp, go_sem, Act.eval, b1]) hI.t2
  ·intro L vs ac w6 hB hL hd hI
   have b1 : ac.tmps[12]?.getD undef = .pointer (some ⟨w.heap.size, 0, none⟩) := (hB.val 2 (hd ⟨2, .data⟩ (by simp) rfl) 12 rfl).trans (hI.q2 (hd ⟨2, .data⟩ (by simp) rfl))
   have kc := (HWx.out.below hI.bel).cell 0
   exact stepI_run (v := .int .i64 (S : Int)) rfl (by simp [execOp, go_sem, Act.eval, b1, kc]) hI.t3
  ·intro L vs ac w6 hB hL hd hI
   have b1 : ac.tmps[13]?.getD undef = .int .i64 (S : Int) := (hB.val 3 (hd ⟨3, .data⟩ (by simp) rfl) 13 rfl).trans (hI.q3 (hd ⟨3, .data⟩ (by simp) rfl))
   have h5 : L 5 = false := hB.wait 4 5 hL (by kernel_rfl)
   have h7 : L 7 = false := hB.wait 5 7 h5 (by kernel_rfl)
   exact stepI_run (v := .slice (some ⟨w6.heap.size, 0, none⟩) S S) (w' := w6.alloc (.cells (madeCells #[.bool false] S) 4)) rfl (by simp [execOp, go_sem, Act.eval, b1, hmk w6]) (hI.t4 h5 h7)
  ·intro L vs ac w6 hB hL hd hI
   have h4 : L 4 = true := hd ⟨4, .data⟩ (by simp) rfl
   have b1 : ac.tmps[11]?.getD undef = .int .i64 (S : Int) := (hB.val 1 (hd ⟨1, .data⟩ (by simp) rfl) 11 rfl).trans (hI.q1 (hd ⟨1, .data⟩ (by simp) rfl))
   obtain ⟨g, e9, -, -⟩ := hI.q4 h4
   have b2 : ac.tmps[14]?.getD undef = .slice (some ⟨g, 0, none⟩) S S := (hB.val 4 h4 14 rfl).trans e9
   exact stepI_run (v := .agg #[.int .i64 (S : Int), .slice none 0 0, vs 4, .slice none 0 0]) rfl (by simp [execOp, go_sem, Act.eval, b1, b2, e9]) (hI.t5 h4)
  ·intro L vs ac w6 hB hL hd hI
   have h7 : L 7 = false := hB.wait 6 7 hL (by kernel_rfl)
   exact stepI_run (v := .pointer (some ⟨w6.heap.size, 0, none⟩)) (w' := w6.alloc (.cells #[.int .i64 0, .slice none 0 0, .slice none 0 0, .slice none 0 0] 32)) rfl (exec_alloc 32 rfl info_nfa) (hI.t6 h7)
  ·intro L vs ac w6 hB hL hd hI
   have h5 : L 5 = true := hd ⟨5, .data⟩ (by simp) rfl
   have h6 : L 6 = true := hd ⟨6, .data⟩ (by simp) rfl
   obtain ⟨h4, e5⟩ := hI.q5 h5
   obtain ⟨g, e9, -, -⟩ := hI.q4 h4
   obtain ⟨nb, hv, -, hx⟩ := hI.q6 h6
   rw [hL, if_neg Bool.false_ne_true] at hx
   have bp : ac.tmps[3]?.getD undef = .pointer (some ⟨nb, 0, none⟩) := (hB.val 6 h6 3 rfl).trans hv
   have bq : ac.tmps[15]?.getD undef = .agg #[.int .i64 (S : Int), .slice none 0 0, vs 4, .slice none 0 0] := (hB.val 5 h5 15 rfl).trans e5
   exact stepI_store_row rfl 32 3 15 rfl nb _ bp bq _ hx (by kernel_rfl) rfl (by rw [e9]; simp [Value.oneCell']) (hI.t7 h6 hv)
 ·intro L vs w7 hall hI
  obtain ⟨nb, g, e6, hnb, hg, hx, hgx, hb⟩ := hI.fin fun i hi => hall i hi
  clear hI hall
  simp only [putAll, Act.put, List.setIfInBounds_toArray, List.set_cons_zero, List.set_cons_succ, Nat.zero_add, Nat.reduceAdd, e6]
  clear e6
  rw [rvF_nil] at hgx
  have HX7 := Lib.hid hx; have HG7 := Lib.hid hgx; have HB7 := Lib.hid hb
  have HL1 := Lib.hid hnb; have HL2 := Lib.hid hg; have HLx := Lib.hid hx.lt; have HLg := Lib.hid hgx.lt
  have hgn : g ≠ nb := bx_ne hgx hx (by decide)
  have HP := Lib.hid (show ∀ wr, Below W.heap.size W wr → Bx wr w.heap.size 32 #[.int .i64 (S : Int), .slice As st.length cs, .slice Af fin.length cf, .slice Aa ar.length ca] ∧ Bx wr (w.heap.size + 1) 32 #[.int .i64 0, .slice none 0 0, .slice none 0 0, .slice none 0 0] ∧ Below w.heap.size w wr from fun wr h => ⟨HWx.out.below h, HWr.out.below h, below_ext2 Hbw.out h⟩)
  have HSZ := Lib.hid hb.size
  clear hx hgx hb hnb hg HWx HWr Hbw
  obtain ⟨B, hB⟩ : ∃ B, B = w7.heap.size := ⟨_, rfl⟩
  rw [← hB] at HLx HLg HSZ
  have HBs := Lib.hid (show B ≤ w7.heap.size by omega)
  clear hB
  have p2 := (HP.out w7 HB7.out).1.cell 2
  have hR0 : w7.ownsRow B 3 1 (.slice none 0 0) (rvS fin 0).length ((rvS fin 0).map iv) := World.ownsRow_nil _ _ _ _
  have HR0 := Lib.hid hR0
  clear hR0
  go_wp2_with fail
  clear p2
  go_loopw [19] (fun j wr => ∃ (k : Nat) (vst : Value), k ≤ fin.length ∧ j = .int .i64 (k : Int) ∧ Hid (wr.ownsRow B 3 1 vst (rvS fin k).length ((rvS fin k).map iv)) ∧ Hid (Bx wr nb 32 #[.int .i64 (S : Int), vst, .slice (some ⟨g, 0, none⟩) S S, .slice none 0 0]) ∧ Hid (Bx wr g 4 ((rvF S []).map bl).toArray) ∧ Hid (Below W.heap.size W wr) ∧ Hid (B ≤ wr.heap.size)) (fun j _ => fin.length - (intOf j).toNat)
  case atStart => exact ⟨0, _, Nat.zero_le _, rfl, HR0, HX7, HG7, HB7, HBs⟩
  case round =>
   clear HR0 HX7 HG7 HB7 HBs
   obtain ⟨k, vst, hk, rfl, HR, HX, HG, HB, HBz⟩ := hrel
   by_cases hlt : k < fin.length
   ·have dk : decide ((k : Int) < (fin.length : Int)) = true := decide_eq_true (by omega)
    have hks : (k : Int) < (fin.length : Int) := by omega
    have hkS : k < 200 := by have := HFL.out; omega
    obtain ⟨ad, c', hsl, _, hcell⟩ := sl_cell (Hf.out.below (HP.out wr HB.out).2.2) k hlt
    simp only [Value.slice.injEq, true_and] at hsl
    obtain ⟨rfl, rfl⟩ := hsl
    have HNX := Lib.hid (rvS_next fin k)
    have hfk : fin[k]?.getD false = fin[k] := by rw [List.getElem?_eq_getElem hlt]; rfl
    rw [hfk] at HNX
    unfold bl at hcell
    have hrl := rvS_len fin k
    cases hb : fin[k] with
    | false =>
     rw [hb] at hcell
     have HR2 := Lib.hid (show wr.ownsRow B 3 1 vst (rvS fin (k + 1)).length ((rvS fin (k + 1)).map iv) from by rw [HNX.out, hb]; simpa using HR.out)
     clear hb hfk HNX HR
     go_wp2_with fail
     clear hcell
     go_roundw
     case rel => exact ⟨k + 1, vst, by omega, by go_num, HR2, HX, HG, HB, HBz⟩
     case measure => simp [intOf]; omega
    | true =>
     rw [hb] at hcell
     have hown := HR.out
     have hsz := HBz.out
     have b1 := HX.out.cell 1
     have HNE := Lib.hid (show rvS fin (k + 1) = rvS fin k ++ [(k : Int)] from by rw [HNX.out, hb]; rfl)
     clear hb hfk HNX
     go_wp2_with (at_builtin; refine app1S rfl _ _ 22 rfl 3 (.int .i64 0) 8 info_int rfl (by kernel_rfl) B _ _ _ rfl hown (.int .i64 (k : Int)) rfl rfl (by omega) (by omega) hsz ?_; intro v' w' hown2 hfr; obtain ⟨A9, c9, rfl⟩ := own_shapeG hown2; have HX2 : Bx w' nb 32 #[.int .i64 (S : Int), vst, .slice (some ⟨g, 0, none⟩) S S, .slice none 0 0] := hfr.keeps HX.out (by decide); have f1 := HX2.free 1; have f2 := HX2.cell 1)
     have HG2 : Bx w' g 4 ((rvF S []).map bl).toArray := hfr.keeps HG.out (by decide)
     have HR2 := Lib.hid (show (w'.setCell ⟨nb, 1, none⟩ (.slice A9 ((rvS fin k).length + 1) c9)).ownsRow B 3 1 (.slice A9 ((rvS fin k).length + 1) c9) (rvS fin (k + 1)).length ((rvS fin (k + 1)).map iv) from by
      rw [HNE.out, List.length_append, List.map_append]
      exact own_keepG hown2 fun q cs hq => Below.heap_setCell _ _ _ _ (show q ≠ nb from bx_ne hq HX2 (by decide)))
     have HX3 := Lib.hid (HX2.set 1 (.slice A9 ((rvS fin k).length + 1) c9))
     have HG3 := Lib.hid (HG2.other (c := nb) (i := 1) (u := .slice A9 ((rvS fin k).length + 1) c9) hgn)
     have HB3 := Lib.hid ((HB.out.trans ((hfr.below hsz).mono HSZ.out)).setCell (p := ⟨nb, 1, none⟩) (by show W.heap.size ≤ nb; exact HL1.out) (.slice A9 ((rvS fin k).length + 1) c9))
     have HBz3 := Lib.hid (show B ≤ (w'.setCell ⟨nb, 1, none⟩ (.slice A9 ((rvS fin k).length + 1) c9)).heap.size by rw [size_set]; have := hfr.size; omega)
     clear HX2 HG2 f1 f2 hown hown2 hfr hcell b1 HR HX HG HB HBz
     go_wp2_with fail
     go_roundw
     case rel => exact ⟨k + 1, _, by omega, by go_num, HR2, HX3, HG3, HB3, HBz3⟩
     case measure => simp [intOf]; omega
   ·obtain rfl : k = fin.length := by omega
    have hR := HR.out
    rw [HFL.out] at hR
    obtain ⟨A1, c1, rfl⟩ := own_shapeG hR
    have hn1 : (rvS fin S).length ≤ S := rvS_len fin S
    obtain ⟨n1, hN1⟩ : ∃ n1, n1 = (rvS fin S).length := ⟨_, rfl⟩
    have HN1 := Lib.hid hN1
    rw [← hN1] at HX
    rw [← hN1] at hR
    have HR2 := Lib.hid hR
    have p1 := (HP.out wr HB.out).1.cell 1
    clear hR HR hN1 hn1
    go_wp2_with fail
    clear p1
    go_loopw [35] (fun j wr => ∃ k : Nat, k ≤ st.length ∧ j = .int .i64 (k : Int) ∧ Hid (wr.ownsRow B 3 1 (.slice A1 n1 c1) n1 ((rvS fin S).map iv)) ∧ Hid (Bx wr nb 32 #[.int .i64 (S : Int), .slice A1 n1 c1, .slice (some ⟨g, 0, none⟩) S S, .slice none 0 0]) ∧ Hid (Bx wr g 4 ((rvF S (st.take k)).map bl).toArray) ∧ Hid (Below W.heap.size W wr) ∧ Hid (B ≤ wr.heap.size)) (fun j _ => st.length - (intOf j).toNat)
    case atStart => exact ⟨0, Nat.zero_le _, rfl, HR2, HX, HG, HB, HBz⟩
    case round =>
     clear HR2 HX HG HB HBz
     obtain ⟨k, hk, rfl, HR, HX, HG, HB, HBz⟩ := hrel
     by_cases hlt : k < st.length
     ·have dk : decide ((k : Int) < (st.length : Int)) = true := decide_eq_true (by omega)
      have hks : (k : Int) < (st.length : Int) := by omega
      have hsl := Hn.out.stl
      obtain ⟨ad, c', hs, _, hcell⟩ := sl_cell (Hs.out.below (HP.out wr HB.out).2.2) k hlt
      simp only [Value.slice.injEq, true_and] at hs
      obtain ⟨rfl, rfl⟩ := hs
      have hbd := Hn.out.bds _ (List.getElem_mem hlt)
      obtain ⟨n, hn⟩ : ∃ n : Nat, st[k] = (n : Int) := ⟨st[k].toNat, by omega⟩
      unfold iv at hcell
      rw [hn] at hcell hbd
      have HS := Lib.hid (rvF_set S st k hlt n hn)
      have hns : (n : Int) < (S : Int) := hbd.2
      have hfn := HG.out.free n
      have hcn : wr.cell? ⟨g, n, none⟩ = some (.bool (decide ((n : Int) ∈ st.take k))) := by
       rw [HG.out.cell n]
       have : n < S := by omega
       simp [rvF, bl, this]
      have x2 := HX.out.cell 2
      have ha0 := addr00 g n
      have HR3 := Lib.hid (show (wr.setCell ⟨g, n, none⟩ (.bool true)).ownsRow B 3 1 (.slice A1 n1 c1) n1 ((rvS fin S).map iv) from own_keepG HR.out fun q cs hq => Below.heap_setCell _ _ _ _ (show q ≠ g from bx_ne hq HG.out (by decide)))
      have HX3 := Lib.hid (HX.out.other (c := g) (i := n) (u := .bool true) (Ne.symm hgn))
      have HG3 := Lib.hid (show Bx (wr.setCell ⟨g, n, none⟩ (.bool true)) g 4 ((rvF S (st.take (k + 1))).map bl).toArray from by rw [← HS.out]; exact HG.out.set n (.bool true))
      have HB3 := Lib.hid (HB.out.setCell (p := ⟨g, n, none⟩) (by show W.heap.size ≤ g; exact HL2.out) (.bool true))
      have HBz3 := Lib.hid (show B ≤ (wr.setCell ⟨g, n, none⟩ (.bool true)).heap.size by rw [size_set]; exact HBz.out)
      generalize decide ((n : Int) ∈ st.take k) = bb at *
      clear hn hbd HS HR HX HG HB HBz
      go_wp2_with fail
      clear hfn hcn x2 ha0 hcell
      go_roundw
      case rel => exact ⟨k + 1, by omega, by go_num, HR3, HX3, HG3, HB3, HBz3⟩
      case measure => simp [intOf]; omega
     ·obtain rfl : k = st.length := by omega
      rw [List.take_length] at HG
      have hal := Hn.out.va.few
      have p3 := (HP.out wr HB.out).1.cell 3
      have HA0 := Lib.hid (show wr.ownsRow B 52 3 (.slice none 0 0) 0 ((rvA (ar.take 0)).flatMap acells) from World.ownsRow_nil _ _ _ _)
      go_wp2_with fail
      clear p3
      go_loopw [47] (fun j wr => ∃ (k : Nat) (vA : Value), k ≤ ar.length ∧ j = .int .i64 (k : Int) ∧ Hid (wr.ownsRow B 52 3 vA k ((rvA (ar.take k)).flatMap acells)) ∧ Hid (wr.ownsRow B 3 1 (.slice A1 n1 c1) n1 ((rvS fin S).map iv)) ∧ Hid (Bx wr nb 32 #[.int .i64 (S : Int), .slice A1 n1 c1, .slice (some ⟨g, 0, none⟩) S S, vA]) ∧ Hid (Bx wr g 4 ((rvF S st).map bl).toArray) ∧ Hid (Below W.heap.size W wr) ∧ Hid (B ≤ wr.heap.size)) (fun j _ => ar.length - (intOf j).toNat)
      case atStart => exact ⟨0, _, Nat.zero_le _, rfl, HA0, HR, HX, HG, HB, HBz⟩
      case round =>
       clear HA0 HR HX HG HB HBz
       obtain ⟨k, vA, hk, rfl, HA, HR, HX, HG, HB, HBz⟩ := hrel
       by_cases hlt : k < ar.length
       ·have dk : decide ((k : Int) < (ar.length : Int)) = true := decide_eq_true (by omega)
        have hks : (k : Int) < (ar.length : Int) := by omega
        obtain ⟨ad, had, _, hcap, y0, y1, y2⟩ := (Ha.out.below (HP.out wr HB.out).2.2).at k hlt
        subst had
        obtain ⟨x, hx⟩ : ∃ x, x = ar[k] := ⟨_, rfl⟩
        have HXE := Lib.hid hx
        rw [← hx] at y0 y1 y2
        clear hx
        obtain ⟨x0, x1, x2⟩ := x
        dsimp only at y0 y1 y2
        have HTK := Lib.hid (show rvA (ar.take (k + 1)) = rvA (ar.take k) ++ [(x2, x1, x0)] from by rw [List.take_succ_eq_append_getElem hlt, ← HXE.out]; simp [rvA])
        have hown : (wr.alloc (.cells #[.int .i64 x0, .int .i64 x1, .int .i64 x2] 52)).ownsRow B 52 3 vA k ((rvA (ar.take k)).flatMap acells) := own_keepG HA.out fun q cs hq => Below.heap_alloc _ _ q (lt_of_some hq)
        have hsz : B ≤ (wr.alloc (.cells #[.int .i64 x0, .int .i64 x1, .int .i64 x2] 52)).heap.size := by have := HBz.out; simp; omega
        have HXa := Lib.hid (HX.out.alloc (.cells #[.int .i64 x0, .int .i64 x1, .int .i64 x2] 52))
        have z3 := HXa.out.cell 3
        have HGa := Lib.hid (HG.out.alloc (.cells #[.int .i64 x0, .int .i64 x1, .int .i64 x2] 52))
        have HBa := Lib.hid (HB.out.trans ((al1 wr (.cells #[.int .i64 x0, .int .i64 x1, .int .i64 x2] 52)).mono HB.out.size))
        have HRa := Lib.hid (show (wr.alloc (.cells #[.int .i64 x0, .int .i64 x1, .int .i64 x2] 52)).ownsRow B 3 1 (.slice A1 n1 c1) n1 ((rvS fin S).map iv) from own_keepG HR.out fun q cs hq => Below.heap_alloc _ _ q (lt_of_some hq))
        go_wp2_with (at_builtin; refine app1A rfl _ _ 30 rfl 52 (.agg #[.int .i64 0, .int .i64 0, .int .i64 0]) 24 info_arc rfl (by kernel_rfl) B _ _ _ rfl hown (.int .i64 x2) (.int .i64 x1) (.int .i64 x0) (by simp [go_sem, Act.eval]) (by simp [Value.oneCell']) (by omega) (by omega) hsz ?_; intro v' w' hown2 hfr; obtain ⟨A9, c9, rfl⟩ := own_shapeG hown2; have HX2 : Bx w' nb 32 #[.int .i64 (S : Int), .slice A1 n1 c1, .slice (some ⟨g, 0, none⟩) S S, vA] := hfr.keeps HXa.out (by decide); have f1 := HX2.free 3; have f2 := HX2.cell 3)
        have HG2 : Bx w' g 4 ((rvF S st).map bl).toArray := hfr.keeps HGa.out (by decide)
        have HA2 := Lib.hid (show (w'.setCell ⟨nb, 3, none⟩ (.slice A9 (k + 1) c9)).ownsRow B 52 3 (.slice A9 (k + 1) c9) (k + 1) ((rvA (ar.take (k + 1))).flatMap acells) from by
         rw [HTK.out, List.flatMap_append]
         exact own_keepG hown2 fun q cs hq => Below.heap_setCell _ _ _ _ (show q ≠ nb from bx_ne hq HX2 (by decide)))
        have HR2 := Lib.hid (show (w'.setCell ⟨nb, 3, none⟩ (.slice A9 (k + 1) c9)).ownsRow B 3 1 (.slice A1 n1 c1) n1 ((rvS fin S).map iv) from by
         have h1 : w'.ownsRow B 3 1 (.slice A1 n1 c1) n1 ((rvS fin S).map iv) := own_keepG HRa.out fun q cs hq => hfr.block q (lt_of_some hq) (.inr fun cs2 fr2 h2 => by rw [hq] at h2; cases h2)
         exact own_keepG h1 fun q cs hq => Below.heap_setCell _ _ _ _ (show q ≠ nb from bx_ne hq HX2 (by decide)))
        have HX3 := Lib.hid (HX2.set 3 (.slice A9 (k + 1) c9))
        have HG3 := Lib.hid (HG2.other (c := nb) (i := 3) (u := .slice A9 (k + 1) c9) hgn)
        have HB3 := Lib.hid ((HBa.out.trans ((hfr.below hsz).mono HSZ.out)).setCell (p := ⟨nb, 3, none⟩) (by show W.heap.size ≤ nb; exact HL1.out) (.slice A9 (k + 1) c9))
        have HBz3 := Lib.hid (show B ≤ (w'.setCell ⟨nb, 3, none⟩ (.slice A9 (k + 1) c9)).heap.size by rw [size_set]; have := hfr.size; omega)
        clear HX2 HG2 f1 f2 hown hown2 hfr z3 y0 y1 y2 HTK HXE HXa HGa HBa HRa HA HR HX HG HB HBz hsz
        go_wp2_with fail
        go_roundw
        case rel => exact ⟨k + 1, _, by omega, by go_num, HA2, HR2, HX3, HG3, HB3, HBz3⟩
        case measure => simp [intOf]; omega
       ·obtain rfl : k = ar.length := by omega
        have hA := HA.out
        rw [List.take_length] at hA
        have hA2 : wr.ownsRow B 52 3 vA (rvA ar).length ((rvA ar).flatMap acells) := by rw [rvA_len]; exact hA
        obtain ⟨A3, c3, hv3, hga⟩ := own3_at' hA
        subst hv3
        have x3 := HX.out.cell 3
        go_wp2_with fail
        refine (sorta_any hA2 (by rw [rvA_len]; omega)).mono ?_
        rintro e w9 ⟨rfl, hacs, hgr⟩
        obtain ⟨-, hr2, hbw⟩ := HP.out wr HB.out
        have HX9 : Bx w9 nb 32 #[.int .i64 (S : Int), .slice A1 n1 c1, .slice (some ⟨g, 0, none⟩) S S, .slice A3 ar.length c3] := (hgr.block nb HX.out.lt (own_off hA HX.out (by decide))).trans HX.out
        have HR9 : Bx w9 (w.heap.size + 1) 32 #[.int .i64 0, .slice none 0 0, .slice none 0 0, .slice none 0 0] := (hgr.block _ hr2.lt (own_off hA hr2 (by decide))).trans hr2
        have HG9 : Bx w9 g 4 ((rvF S st).map bl).toArray := (hgr.block g HG.out.lt (own_off hA HG.out (by decide))).trans HG.out
        have HI9 : w9.ownsRow B 3 1 (.slice A1 n1 c1) n1 ((rvS fin S).map iv) := own_keepG HR.out fun q cs hq => hgr.block q (lt_of_some hq) (own_off hA (show Bx wr q 3 cs from hq) (by decide))
        have HB9 : Below w.heap.size w w9 := hbw.trans ((Frm.below (Frm.grownG hA hgr) HBz.out).mono (by have := HSZ.out; have := Hbws.out; omega))
        have Hge := Lib.hid (own_ge hA)
        have hne1 : w.heap.size + 1 ≠ g := bx_ne HR9 HG9 (by decide)
        have Hoff := Lib.hid (show ∀ ad, A3 = some ad → ad.block ≠ w.heap.size + 1 from fun ad h => by
         obtain ⟨q, rfl, cs9, hq⟩ := hga ad h
         exact bx_ne hq hr2 (by decide))
        have n0 := HX9.cell 0; have n1' := HX9.cell 1; have n2 := HX9.cell 2; have n3 := HX9.cell 3
        have r0 := HR9.cell 0; have r1 := HR9.cell 1; have r2 := HR9.cell 2; have r3 := HR9.cell 3
        have g0 := HR9.free 0; have g1 := HR9.free 1; have g2 := HR9.free 2; have g3 := HR9.free 3
        have HR10 := Lib.hid HR9; have HG10 := Lib.hid HG9; have HI10 := Lib.hid HI9; have HB10 := Lib.hid HB9; have HC10 := Lib.hid hacs
        clear HR9 HG9 HI9 HB9 hacs HX9 hgr hA hA2 hga hr2 hbw x3 HA HR HX HG HB HBz
        go_wp2_with fail
        refine bodyPost_ret (v := .agg #[.int .i64 (S : Int), .slice A1 n1 c1, .slice (some ⟨g, 0, none⟩) S S, .slice A3 ar.length c3]) (bx_ret ((((HR10.out.set 0 _).set 1 _).set 2 _).set 3 _) Tryd.results51 _ rfl Tryd.underlying32 rfl (by kernel_rfl)) rfl ?_
        refine ⟨A1, c1, some ⟨g, 0, none⟩, S, A3, c3, ?_, ?_, ?_, ?_, ?_, fun ad h => ?_, fun ad h => ?_, fun ad h => ?_⟩
        ·rw [← HN1.out, rvF_len, srtA_len, rvA_len]
        ·rw [← HN1.out]
         have hz := HN1.out
         subst hz
         exact Sl.of_own (own_keepG HI10.out fun q cs hq => set4 (bx_ne hq HR10.out (by decide)))
        ·rw [rvF_len]
         exact bx_sl ((set4 (Ne.symm hne1)).trans HG10.out) (rvF_len S st)
        ·rw [srtA_len, rvA_len]
         exact (((HC10.out.off Hoff.out).off Hoff.out).off Hoff.out).off Hoff.out
        ·have hq : w.heap.size ≤ w.heap.size + 1 := by omega
         exact (((HB10.out.setCell (p := ⟨w.heap.size + 1, 0, none⟩) hq _).setCell (p := ⟨w.heap.size + 1, 1, none⟩) hq _).setCell (p := ⟨w.heap.size + 1, 2, none⟩) hq _).setCell (p := ⟨w.heap.size + 1, 3, none⟩) hq _
        ·have := own_ge HI10.out ad h
         have := HSZ.out; have := Hbws.out; omega
        ·cases h
         have := HL2.out; have := Hbws.out
         show w.heap.size ≤ g
         omega
        ·have := Hge.out ad h
         have := HSZ.out; have := Hbws.out; omega
end Go.Proofs.YtockgbilbnheaaaDoor
