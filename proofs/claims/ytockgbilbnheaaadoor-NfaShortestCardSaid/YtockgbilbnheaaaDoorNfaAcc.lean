/- nfa's check, Closure, Step, Accepts at a valid automaton. -/
import Derived.Test.YtockgbilbnheaaaDoorNfaValid
namespace Go.Proofs.YtockgbilbnheaaaDoor
open Go.RowKit

set_option maxRecDepth 100000 in
set_option maxHeartbeats 1000000 in
theorem check_ok (S : Nat) (st : List Int) (fin : List Bool) (ar : List Ac) (sv fv v : Value) (A : Option Addr) (c : Nat) (l : List Int) (w : World) (h : VN S st fin ar) (hs : Sl iv w sv st) (hf : Sl bl w fv fin) (ha : Acs w v ar) (hl : Sl iv w (.slice A l.length c) l) (hll : l.length ≤ 1000000) (hb : ∀ x ∈ l, 0 ≤ x ∧ x < (S : Int)) :
  Calls Tryd.prog 22 #[.agg #[.int .i64 (S : Int), sv, fv, v], .slice A l.length c] w fun e w' => e = .returned (.int .i64 0) ∧ Below w.heap.size w w' := by
 have hbw : Below w.heap.size w (w.alloc (.cells #[.int .i64 (S : Int), sv, fv, v] 32)) := (Below.refl _ w).alloc (Nat.le_refl _) _
 have hval := valid_ok S st fin ar sv fv v (w.alloc (.cells #[.int .i64 (S : Int), sv, fv, v] 32)) h (hs.below hbw) (hf.below hbw) (ha.below hbw)
 obtain ⟨W, hW⟩ : ∃ W, W = w.alloc (.cells #[.int .i64 (S : Int), sv, fv, v] 32) := ⟨_, rfl⟩
 have hWb : W.heap[w.heap.size]? = some (.cells #[.int .i64 (S : Int), sv, fv, v] 32 (0, 0)) := by rw [hW]; exact heap_alloc_new w _
 rw [← hW] at hbw
 have KB := Lib.hid (show ∀ w', Below W.heap.size W w' → Below w.heap.size w w' from fun w' h => below_ext2 hbw h)
 have KX := Lib.hid (show ∀ w', Below W.heap.size W w' → w'.cell? ⟨w.heap.size, 0, none⟩ = some (.int .i64 (S : Int)) ∧ w'.cell? ⟨w.heap.size, 1, none⟩ = some sv ∧ w'.cell? ⟨w.heap.size, 2, none⟩ = some fv ∧ w'.cell? ⟨w.heap.size, 3, none⟩ = some v from fun w' h => by
  have g1 := (h.block _ (lt_of_some hWb)).trans hWb
  exact ⟨cell_of_row _ _ 0 _ _ _ g1, cell_of_row _ _ 1 _ _ _ g1, cell_of_row _ _ 2 _ _ _ g1, cell_of_row _ _ 3 _ _ _ g1⟩)
 have Hval := Lib.hid hval; have Hl := Lib.hid hl; have Hb := Lib.hid hb; have HW := Lib.hid hW
 clear h hs hf ha hl hb hbw hval hW hWb
 go_enter Tryd.func22, Tryd.ntmps22
 go_wp2_with fail
 refine Hval.out.mono ?_
 rintro e w1 ⟨rfl, hb1⟩
 rw [← HW.out] at hb1
 have B1 := Lib.hid hb1; clear hb1
 go_wp2_with fail
 go_loopw [12] (fun i wr => ∃ k : Nat, k ≤ l.length ∧ i = .int .i64 k ∧ Below W.heap.size W wr) (fun i _ => l.length - (intOf i).toNat)
 case atStart => exact ⟨0, Nat.zero_le _, rfl, B1.out⟩
 case round =>
  obtain ⟨k, hk, rfl, hb⟩ := hrel
  have HB := Lib.hid hb; clear hb
  by_cases hlt : k < l.length
  ·obtain ⟨ad, c', hs, hcap, hcell⟩ := sl_cell (Hl.out.below (KB.out _ HB.out)) k hlt
   simp only [Value.slice.injEq, true_and] at hs
   obtain ⟨rfl, rfl⟩ := hs
   obtain ⟨x0, x1, x2, x3⟩ := KX.out _ HB.out
   have hn0 := Hb.out _ (List.getElem_mem hlt)
   obtain ⟨n, hn⟩ : ∃ n, n = l[k] := ⟨_, rfl⟩
   rw [← hn] at hcell hn0
   clear hn
   unfold iv at hcell
   have hst := isstate_any (S : Int) n sv fv v wr
   rw [show decide (0 ≤ n ∧ n < (S : Int)) = true from decide_eq_true hn0] at hst
   have Hst := Lib.hid hst; clear hst
   go_wp2_with fail
   refine Hst.out.mono ?_
   rintro e w5 ⟨rfl, hb5⟩
   have B5 := Lib.hid (below_ext2 HB.out hb5); clear hb5 x0 x1 x2 x3
   go_wp2
   go_roundw
   case rel => exact ⟨k + 1, by omega, by go_num, B5.out⟩
   case measure => simp [intOf]; omega
  ·go_wp2
   go_ret
   exact ⟨rfl, KB.out _ HB.out⟩
/-- A run of an automaton: the states behind a word. -/
def Run (ar : List Ac) (Q : Int → Prop) (word : List Int) : Int → Prop := word.foldl (Sp ar) Q
def AccP (st : List Int) (fin : List Bool) (ar : List Ac) (word : List Int) : Prop := ∃ n : Nat, Run ar (Cl ar (fun x => x ∈ st)) word n ∧ fin[n]?.getD false = true
theorem Cl.bd {S : Nat} {ar : List Ac} {Q : Int → Prop} (hv : VA S ar) (hQ : ∀ n, Q n → 0 ≤ n ∧ n < (S : Int)) {n : Int} (h : Cl ar Q n) : 0 ≤ n ∧ n < (S : Int) := by
 induction h with
 | base h => exact hQ _ h
 | step _ ha _ => exact hv.to _ ha
theorem Sp.bd {S : Nat} {ar : List Ac} {Q : Int → Prop} {c : Int} (hv : VA S ar) {n : Int} (h : Sp ar Q c n) : 0 ≤ n ∧ n < (S : Int) :=
 Cl.bd hv (fun _ ⟨_, _, _, _, ha⟩ => hv.to _ ha) h
theorem Sp.congr {ar : List Ac} {Q R : Int → Prop} {c : Int} (h : ∀ n, Q n ↔ R n) {n : Int} : Sp ar Q c n ↔ Sp ar R c n :=
 Cl.congr fun _ => ⟨fun ⟨h1, h2, m, h3, h4⟩ => ⟨h1, h2, m, (h m).1 h3, h4⟩, fun ⟨h1, h2, m, h3, h4⟩ => ⟨h1, h2, m, (h m).2 h3, h4⟩⟩
theorem Run.snoc {ar : List Ac} {Q : Int → Prop} {word : List Int} {c : Int} : Run ar Q (word ++ [c]) = Sp ar (Run ar Q word) c := by
 unfold Run; rw [List.foldl_append]; rfl
theorem Run.bd {S : Nat} {ar : List Ac} {Q : Int → Prop} (hv : VA S ar) (hQ : ∀ n, Q n → 0 ≤ n ∧ n < (S : Int)) (word : List Int) : ∀ n, Run ar Q word n → 0 ≤ n ∧ n < (S : Int) := by
 induction word generalizing Q with
 | nil => exact hQ
 | cons c l ih => exact ih (Q := Sp ar Q c) fun n h => Sp.bd hv h
/-- A set's elements are what its predicate says, where that says naturals alone. -/
theorem SetIs.els {w : World} {v : Value} {ws : List Nat} {P : Int → Prop} (h : SetIs w v ws (fun n => P n)) (hP : ∀ n, P n → 0 ≤ n) (x : Int) : Els ws x ↔ P x := by
 constructor
 ·rintro ⟨k, rfl, hk⟩; exact (h.has k).1 hk
 ·intro hx
  have h0 := hP x hx
  obtain ⟨k, rfl⟩ : ∃ k : Nat, x = k := ⟨x.toNat, by omega⟩
  exact ⟨k, rfl, (h.has k).2 hx⟩
theorem SetIs.below {w w' : World} {v : Value} {ws : List Nat} {P : Nat → Prop} (h : SetIs w v ws P) (hb : Below w.heap.size w w') : SetIs w' v ws P := ⟨h.st.below hb, h.can, h.wds, h.len, h.has⟩
def AccR (w : World) (P : Prop) (e : Ending) (w' : World) : Prop := ∃ b : Bool, e = .returned (.tuple #[.bool b, .int .i64 0]) ∧ (b = true ↔ P) ∧ Below w.heap.size w w'
def Lpa (W : World) (ar : List Ac) (st word : List Int) (u7 i : Value) (wr : World) : Prop :=
 ∃ (k : Nat) (ws : List Nat), k ≤ word.length ∧ i = .int .i64 k ∧ SetIs wr u7 ws (fun n => Run ar (Cl ar (fun x => x ∈ st)) (word.take k) n) ∧ Below W.heap.size W wr
set_option maxRecDepth 100000 in
set_option maxHeartbeats 2000000 in
theorem accepts_ok (S : Nat) (st : List Int) (fin : List Bool) (ar : List Ac) (sv fv v : Value) (A : Option Addr) (c : Nat) (l : List Int) (w : World) (h : VN S st fin ar) (hs : Sl iv w sv st) (hf : Sl bl w fv fin) (ha : Acs w v ar) (hl : Sl iv w (.slice A l.length c) l) (hll : l.length ≤ 1000000) (hT : Tab w) :
  Calls Tryd.prog 17 #[.agg #[.int .i64 (S : Int), sv, fv, v], .slice A l.length c] w (AccR w (AccP st fin ar l)) := by
 obtain ⟨As, cs, rfl⟩ := hs.shape
 have hbw : Below w.heap.size w (w.alloc (.cells #[.int .i64 (S : Int), .slice As st.length cs, fv, v] 32)) := (Below.refl _ w).alloc (Nat.le_refl _) _
 obtain ⟨W, hW⟩ : ∃ W, W = w.alloc (.cells #[.int .i64 (S : Int), .slice As st.length cs, fv, v] 32) := ⟨_, rfl⟩
 have hWb : W.heap[w.heap.size]? = some (.cells #[.int .i64 (S : Int), .slice As st.length cs, fv, v] 32 (0, 0)) := by rw [hW]; exact heap_alloc_new w _
 rw [← hW] at hbw
 have KB := Lib.hid (show ∀ w', Below W.heap.size W w' → Below w.heap.size w w' from fun w' h => below_ext2 hbw h)
 have KX := Lib.hid (show ∀ w', Below W.heap.size W w' → w'.cell? ⟨w.heap.size, 0, none⟩ = some (.int .i64 (S : Int)) ∧ w'.cell? ⟨w.heap.size, 1, none⟩ = some (.slice As st.length cs) ∧ w'.cell? ⟨w.heap.size, 2, none⟩ = some fv ∧ w'.cell? ⟨w.heap.size, 3, none⟩ = some v from fun w' h => by
  have g1 := (h.block _ (lt_of_some hWb)).trans hWb
  exact ⟨cell_of_row _ _ 0 _ _ _ g1, cell_of_row _ _ 1 _ _ _ g1, cell_of_row _ _ 2 _ _ _ g1, cell_of_row _ _ 3 _ _ _ g1⟩)
 have Hv := Lib.hid h; have Hs := Lib.hid hs; have Hf := Lib.hid hf; have Ha := Lib.hid ha; have Hl := Lib.hid hl; have HT := Lib.hid hT; have HW := Lib.hid hW
 have hT0 := hT.size
 have Hck := Lib.hid (check_ok S st fin ar (.slice As st.length cs) fv v none 0 [] W h (hs.below hbw) (hf.below hbw) (ha.below hbw) Sl.nil (by simp) (by simp))
 clear h hs hf ha hl hbw hW hWb hT
 obtain ⟨x0, x1, x2, x3⟩ := KX.out _ (Below.refl _ _)
 rw [HW.out] at x0 x1 x2 x3
 go_enter Tryd.func17, Tryd.ntmps17
 go_wp2_with fail
 rw [← HW.out]
 refine Hck.out.mono ?_
 rintro e w1 ⟨rfl, hb1⟩
 have B1 := Lib.hid hb1; clear hb1 x0 x1 x2 x3
 obtain ⟨x0, x1, x2, x3⟩ := KX.out _ B1.out
 go_wp2_with fail
 refine (closure_any S (.slice As st.length cs) fv v ar As cs st w1 (Ha.out.below (KB.out _ B1.out)) Hv.out.va Hv.out.few (Hs.out.below (KB.out _ B1.out)) (by have := Hv.out.stl; omega) Hv.out.bds).mono ?_
 rintro e w2 ⟨v2, ws2, rfl, h2, hb2⟩
 have H2 := Lib.hid (show SetIs w2 v2 ws2 (fun n => Run ar (Cl ar (fun x => x ∈ st)) [] n) from ⟨h2.st, h2.can, h2.wds, h2.len, fun n => (h2.has n).trans rc_cl⟩)
 have B2 := Lib.hid (below_ext2 B1.out hb2); clear h2 hb2 x0 x1 x2 x3
 go_wp2_with fail
 go_loopw [7, 21] (fun u7 i wr => Lpa W ar st l u7 i wr) (fun _ i _ => l.length - (intOf i).toNat)
 case atStart => exact ⟨0, ws2, Nat.zero_le _, rfl, H2.out, B2.out⟩
 case round =>
  obtain ⟨k, ws, hk, rfl, hset, hb⟩ := hrel
  have HS := Lib.hid hset; have HB := Lib.hid hb; clear hset hb
  obtain ⟨x0, x1, x2, x3⟩ := KX.out _ HB.out
  by_cases hlt : k < l.length
  ·obtain ⟨ad, c', hs, hcap, hcell⟩ := sl_cell (Hl.out.below (KB.out _ HB.out)) k hlt
   simp only [Value.slice.injEq, true_and] at hs
   obtain ⟨rfl, rfl⟩ := hs
   have htk : l.take (k + 1) = l.take k ++ [l[k]] := List.take_succ_eq_append_getElem hlt
   obtain ⟨n, hn⟩ : ∃ n, n = l[k] := ⟨_, rfl⟩
   rw [← hn] at hcell htk
   have Htk := Lib.hid htk; clear hn htk
   unfold iv at hcell
   go_wp2_with fail
   refine (step_any S (.slice As st.length cs) fv v u7 ar ws n wr (Ha.out.below (KB.out _ HB.out)) Hv.out.va Hv.out.few HS.out.st.sl HS.out.wds HS.out.len (HT.out.below (KB.out _ HB.out) hT0)).mono ?_
   rintro e w5 ⟨v5, ws5, rfl, h5, hb5⟩
   have H5 := Lib.hid h5; have B5 := Lib.hid (below_ext2 HB.out hb5); clear h5 hb5 x0 x1 x2 x3
   go_wp2
   go_roundw
   case rel =>
    refine ⟨k + 1, ws5, by omega, by go_num, ⟨H5.out.st, H5.out.can, H5.out.wds, H5.out.len, fun m => (H5.out.has m).trans ?_⟩, B5.out⟩
    rw [Htk.out, Run.snoc]
    exact Sp.congr (HS.out.els fun n hn => (Run.bd Hv.out.va (fun n hn => Cl.bd Hv.out.va (fun n hn => Hv.out.bds n hn) hn) _ n hn).1)
   case measure => simp [intOf]; omega
  ·have hE := fun x => HS.out.els (P := Run ar (Cl ar (fun x => x ∈ st)) (l.take k)) (fun n hn => (Run.bd Hv.out.va (fun n hn => Cl.bd Hv.out.va (fun n hn => Hv.out.bds n hn) hn) _ n hn).1) x
   rw [List.take_of_length_le (by omega)] at hE
   have HE := Lib.hid hE; clear hE
   have hlt2 : ∀ n, has ws n = true → n < fin.length := fun n hn => by
    have h1 := (HE.out n).1 ⟨n, rfl, hn⟩
    have h2 := Run.bd Hv.out.va (fun n hn => Cl.bd Hv.out.va (fun n hn => Hv.out.bds n hn) hn) _ _ h1
    have := Hv.out.fins
    omega
   have Hfin := Lib.hid (show FinB fin ws = true ↔ AccP st fin ar l from by
    unfold FinB AccP
    rw [List.any_eq_true]
    constructor
    ·rintro ⟨n, h1, h2⟩; exact ⟨n, (HE.out n).1 ⟨n, rfl, (mem_els ws n).1 h1⟩, h2⟩
    ·rintro ⟨n, h1, h2⟩
     obtain ⟨k, h3, h4⟩ := (HE.out n).2 h1
     have : n = k := by omega
     subst this
     exact ⟨n, (mem_els ws n).2 h4, h2⟩)
   have Hlt2 := Lib.hid hlt2; clear hlt2
   go_wp2_with fail
   refine (hasfinal_any (S : Int) (.slice As st.length cs) fv v u7 fin ws wr (Hf.out.below (KB.out _ HB.out)) HS.out.st.sl HS.out.wds HS.out.len (HT.out.below (KB.out _ HB.out) hT0) Hlt2.out).mono ?_
   rintro e w6 ⟨rfl, hb6⟩
   have B6 := Lib.hid (KB.out _ (below_ext2 HB.out hb6)); clear hb6 x0 x1 x2 x3
   go_wp2
   go_ret2
   exact ⟨_, rfl, Hfin.out, B6.out⟩
end Go.Proofs.YtockgbilbnheaaaDoor
