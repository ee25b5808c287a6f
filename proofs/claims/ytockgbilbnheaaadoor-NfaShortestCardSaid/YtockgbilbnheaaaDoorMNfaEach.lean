/- nfa's closureOfEach. -/
import Derived.Test.YtockgbilbnheaaaDoorNfaAcc
namespace Go.Proofs.YtockgbilbnheaaaDoor
/- nfa's closureOfEach. -/
open Go.RowKit

theorem info_set : (Tryd.prog.info? 35).map (fun i => (i.zero, i.size, i.bytes)) = some (some (.slice none 0 0), 1, 24) := by kernel_rfl
theorem Wst.shape {w : World} {v : Value} {ws : List Nat} (h : Wst w v ws) : ∃ A c, v = .slice A ws.length c := by
 rcases h with ⟨rfl, rfl⟩ | ⟨g, c, cs, fr, rfl, _⟩
 ·exact ⟨none, 0, rfl⟩
 ·exact ⟨_, c, rfl⟩
theorem SetIs.keep {w w' : World} {v : Value} {ws : List Nat} {P : Nat → Prop} (h : SetIs w v ws P) (h2 : Wst w' v ws) : SetIs w' v ws P := ⟨h2, h.can, h.wds, h.len, h.has⟩
/-- Block g holds k closures, one of each state, of the first k. -/
structure CE (w : World) (g S k : Nat) (ar : List Ac) (vals : List Value) : Prop where
 row : w.heap[g]? = some (.cells vals.toArray 35 (0, 0))
 len : vals.length = S
 set : ∀ (j : Nat) (v : Value), j < k → vals[j]? = some v → ∃ ws, SetIs w v ws (fun n => Rc ar [(j : Int)] n)
theorem CE.keep {w w' : World} {g S k : Nat} {ar : List Ac} {vals : List Value} (h : CE w g S k ar vals) (hb : Below w.heap.size w w') : CE w' g S k ar vals :=
 ⟨(hb.block g (lt_of_some h.row)).trans h.row, h.len, fun j v hj hv => let ⟨ws, hs⟩ := h.set j v hj hv; ⟨ws, hs.below hb⟩⟩
def EachP (S : Nat) (ar : List Ac) (w : World) (e : Ending) (w' : World) : Prop := ∃ g vals, e = .returned (.slice (some ⟨g, 0, none⟩) S S) ∧ w.heap.size ≤ g ∧ CE w' g S S ar vals ∧ Below w.heap.size w w'
set_option maxRecDepth 100000 in
set_option maxHeartbeats 2000000 in
theorem each_any (S : Nat) (st fi v : Value) (ar : List Ac) (w : World) (ha : Acs w v ar) (hv : VA S ar) (hS : S ≤ 200) :
  Calls Tryd.prog 38 #[.agg #[.int .i64 (S : Int), st, fi, v]] w (EachP S ar w) := by
 have Ha := Lib.hid ha; have Hv := Lib.hid hv
 clear ha hv
 obtain ⟨i0, hi, hz0, hz1, hz2⟩ := info_parts info_set
 have hbw : Below w.heap.size w (w.alloc (.cells #[.int .i64 (S : Int), st, fi, v] 32)) := (Below.refl _ w).alloc (Nat.le_refl _) _
 have hWb : (w.alloc (.cells #[.int .i64 (S : Int), st, fi, v] 32)).heap[w.heap.size]? = some (.cells #[.int .i64 (S : Int), st, fi, v] 32 (0, 0)) := heap_alloc_new w _
 have hsz0 : (w.alloc (.cells #[.int .i64 (S : Int), st, fi, v] 32)).heap.size = w.heap.size + 1 := by simp
 have Hbw := Lib.hid hbw; have HWb := Lib.hid hWb; have Hsz0 := Lib.hid hsz0
 clear hbw hWb hsz0
 go_enter Tryd.func38, Tryd.ntmps38
 go_wp2_with (at_make; refine wpList_make_full _ rfl _ _ _ rfl w.heap.size 35 i0 _ 1 (by kernel_rfl) hi hz0 hz1 _ _ _ _ S rfl rfl rfl rfl (by rw [hz2]; omega) (by unfold maxLen; omega) (by rw [Hsz0.out]; omega) ?_; intro w1 hown hgr; rw [Hsz0.out] at hown)
 have hb1 : Below (w.heap.size + 1) (w.alloc (.cells #[.int .i64 (S : Int), st, fi, v] 32)) w1 := ⟨hgr.os, hgr.tape, hgr.output, hgr.size, fun k hk => hgr.block k (by rw [Hsz0.out]; omega) (by simp)⟩
 have hrow : w1.heap[w.heap.size + 1]? = some (.cells (List.replicate S (.slice none 0 0)).toArray 35 (0, 0)) := by
  have hm := toList_madeCells_one (.slice none 0 0) S
  rcases hown.2 with ⟨h0, _⟩ | ⟨g2, cap, cur, h0, _, hcur, _, _, h3, h4⟩
  ·cases h0
  ·simp only [Value.slice.injEq, Option.some.injEq, Addr.mk.injEq, and_true, true_and] at h0
   obtain ⟨rfl, rfl⟩ := h0
   rw [Nat.mul_one] at h3 h4
   rw [List.take_of_length_le (by rw [Array.length_toList, h3]; exact Nat.le_refl _)] at h4
   rw [hcur]
   congr 2
   apply Array.toList_inj.1
   rw [h4, List.toList_toArray, ← hm]
   simp [Value.cells]
 have Hb1 := Lib.hid hb1; have Hrow := Lib.hid hrow
 have KX := Lib.hid (show ∀ w', Below (w.heap.size + 1) w1 w' → (w'.cell? ⟨w.heap.size, 0, none⟩ = some (.int .i64 (S : Int)) ∧ w'.cell? ⟨w.heap.size, 1, none⟩ = some st ∧ w'.cell? ⟨w.heap.size, 2, none⟩ = some fi ∧ w'.cell? ⟨w.heap.size, 3, none⟩ = some v) ∧ Below w.heap.size w w' from fun w' h => by
  have g1 := (h.block _ (by omega)).trans ((hb1.block _ (by omega)).trans HWb.out)
  exact ⟨⟨cell_of_row _ _ 0 _ _ _ g1, cell_of_row _ _ 1 _ _ _ g1, cell_of_row _ _ 2 _ _ _ g1, cell_of_row _ _ 3 _ _ _ g1⟩, Hbw.out.trans ((hb1.trans h).mono (by omega))⟩)
 have hs1 : w.heap.size + 2 ≤ w1.heap.size := by have := lt_of_some hrow; omega
 clear hown hgr hb1 hrow hz0 hz1 hz2 hi
 go_loopw [10] (fun i wr => ∃ (k : Nat) (vals : List Value), k ≤ S ∧ i = .int .i64 k ∧ CE wr (w.heap.size + 1) S k ar vals ∧ Below (w.heap.size + 1) w1 wr ∧ w.heap.size + 2 ≤ wr.heap.size) (fun i _ => S - (intOf i).toNat)
 case atStart => exact ⟨0, _, Nat.zero_le _, rfl, ⟨Hrow.out, by simp, fun j v hj => by omega⟩, Below.refl _ _, hs1⟩
 case round =>
  obtain ⟨k, vals, hk, rfl, hce, hb, hsz⟩ := hrel
  have HC := Lib.hid hce; have HB := Lib.hid hb; clear hce hb
  by_cases hlt : k < S
  ·obtain ⟨⟨x0, x1, x2, x3⟩, hbb⟩ := KX.out _ HB.out
   have Hbb := Lib.hid hbb; clear hbb
   have hcl := closure_any S st fi v ar (some ⟨wr.heap.size, 0, none⟩) 1 [(k : Int)] (wr.alloc (.cells #[.int .i64 (k : Int)] 3)) (Ha.out.below (Hbb.out.alloc (by omega) _)) Hv.out hS (Sl.of_own (B := wr.heap.size) (own_litS wr 3 #[.int .i64 (k : Int)] 1 wr.heap.size [.int .i64 (k : Int)] rfl rfl (by decide) rfl)) (by simp) (by intro x hx; rw [List.mem_singleton.1 hx]; omega)
   have Hcl := Lib.hid hcl; clear hcl
   have h0 : (0 : Int) ≤ (k : Int) := by omega
   have h1 : (k : Int) < (S : Int) := by omega
   go_wp2_with fail
   refine Hcl.out.mono ?_
   rintro e w5 ⟨v5, ws5, rfl, h5, hb5⟩
   obtain ⟨A5, c5, rfl⟩ := h5.st.shape
   have hb6 : Below wr.heap.size wr w5 := ((Below.refl _ wr).alloc (Nat.le_refl _) _).trans (hb5.mono (by simp))
   have C5 := HC.out.keep hb6
   have H5 := Lib.hid h5; have B5 := Lib.hid (HB.out.trans (hb6.mono (by omega))); have HC5 := Lib.hid C5
   have hs5 : w.heap.size + 2 ≤ w5.heap.size := Nat.le_trans hsz hb6.size
   have hfz := frozen_of C5.row k
   have hcs : (w5.cell? ⟨w.heap.size + 1, k, none⟩).isSome = true := by
    rw [cell_of_row _ _ k _ _ _ C5.row, List.getElem?_toArray, List.getElem?_eq_getElem (by rw [C5.len]; exact hlt)]; rfl
   obtain ⟨ux, hux⟩ := Option.isSome_iff_exists.1 hcs
   clear h5 hb5 hb6 C5 x0 x1 x2 x3 hcs
   go_wp2
   go_roundw
   case rel =>
    have hrow' := heap_setCell_same w5 (w.heap.size + 1) k _ _ (.slice A5 ws5.length c5) HC5.out.row
    rw [List.setIfInBounds_toArray] at hrow'
    refine ⟨k + 1, _, by omega, by go_num, ⟨hrow', by rw [List.length_set]; exact HC5.out.len, fun j v hj hv => ?_⟩, B5.out.setCell (Nat.le_refl _) _, by simp; omega⟩
    by_cases hjk : k = j
    ·subst hjk
     rw [List.getElem?_set_self (by rw [HC5.out.len]; exact hlt)] at hv
     cases hv
     exact ⟨ws5, H5.out.keep (H5.out.st.set HC5.out.row (by decide))⟩
    ·rw [List.getElem?_set_ne hjk] at hv
     obtain ⟨ws, hs⟩ := HC5.out.set j v (by omega) hv
     exact ⟨ws, hs.keep (hs.st.set HC5.out.row (by decide))⟩
   case measure => simp [intOf]; omega
  ·obtain rfl : k = S := by omega
   go_wp2
   go_ret
   exact ⟨w.heap.size + 1, vals, rfl, by omega, HC.out, (KX.out _ HB.out).2⟩
/- nfa's key: the bytes of a set's words. -/
open Go.RowKit

def byt (x j : Nat) : Nat := x / 2 ^ (8 * j) % 256
def le8 (x : Nat) : List Nat := (List.range 8).map (byt x)
def keyB (ws : List Nat) : List Nat := ws.flatMap le8
theorem le8_len (x : Nat) : (le8 x).length = 8 := by simp [le8]
theorem keyB_len : ∀ ws : List Nat, (keyB ws).length = 8 * ws.length
 | [] => rfl
 | x :: l => by
  have := keyB_len l
  unfold keyB at *
  rw [List.flatMap_cons, List.length_append, le8_len, this, List.length_cons]; omega
theorem keyB_byt (ws : List Nat) : Byt (keyB ws) := by
 intro c hc
 obtain ⟨x, _, h2⟩ := List.mem_flatMap.1 hc
 obtain ⟨j, _, rfl⟩ := List.mem_map.1 h2
 exact Nat.mod_lt _ (by decide)
theorem le8_inj {x y : Nat} (hx : U64 x) (hy : U64 y) (h : le8 x = le8 y) : x = y := by
 have hj : ∀ j, j < 8 → byt x j = byt y j := fun j hj => by
  have := congrArg (fun l => l[j]?) h
  simpa [le8, hj] using this
 have h0 := hj 0 (by decide); have h1 := hj 1 (by decide); have h2 := hj 2 (by decide); have h3 := hj 3 (by decide)
 have h4 := hj 4 (by decide); have h5 := hj 5 (by decide); have h6 := hj 6 (by decide); have h7 := hj 7 (by decide)
 unfold byt at h0 h1 h2 h3 h4 h5 h6 h7
 unfold U64 at hx hy
 simp only [Nat.mul_zero, Nat.pow_zero, Nat.div_one, Nat.mul_one, Nat.reduceMul, Nat.reducePow] at h0 h1 h2 h3 h4 h5 h6 h7
 omega
theorem keyB_inj : ∀ {a b : List Nat}, Wds a → Wds b → keyB a = keyB b → a = b
 | [], [], _, _, _ => rfl
 | [], y :: b, _, _, h => by have := congrArg List.length h; rw [keyB_len, keyB_len] at this; simp at this
 | x :: a, [], _, _, h => by have := congrArg List.length h; rw [keyB_len, keyB_len] at this; simp at this
 | x :: a, y :: b, ha, hb, h => by
  unfold keyB at h
  rw [List.flatMap_cons, List.flatMap_cons] at h
  have h1 := List.append_inj h (by rw [le8_len, le8_len])
  rw [le8_inj (ha x (by simp)) (hb y (by simp)) h1.1, keyB_inj (fun z hz => ha z (by simp [hz])) (fun z hz => hb z (by simp [hz])) h1.2]
theorem key_inj {a b : List Nat} (ha : Wds a) (hb : Wds b) (h : strOf (keyB a) = strOf (keyB b)) : a = b := keyB_inj ha hb (strOf_inj (keyB_byt a) (keyB_byt b) h)
theorem shr_byt8 (x j : Nat) : (x : Int) / 2 ^ (8 * j) % 256 = ((byt x j : Nat) : Int) := by
 have e : ((x : Int) / 2 ^ (8 * j)) = ((x / 2 ^ (8 * j) : Nat) : Int) := by rw [Int.natCast_ediv, Int.natCast_pow]; rfl
 rw [e]
 unfold byt
 omega
def Lk1 (w : World) (B : Nat) (ws : List Nat) (b i : Value) (wr : World) : Prop :=
 ∃ k : Nat, k ≤ ws.length ∧ i = .int .i64 k ∧ wr.ownsRow B 5 1 b (keyB (ws.take k)).length ((keyB (ws.take k)).map bv) ∧ Frm 5 B w wr
def Lk2 (w : World) (B : Nat) (pre : List Nat) (x : Nat) (b i : Value) (wr : World) : Prop :=
 ∃ j : Nat, j ≤ 8 ∧ i = .int .i64 (8 * (j : Int)) ∧ wr.ownsRow B 5 1 b (pre ++ (List.range j).map (byt x)).length ((pre ++ (List.range j).map (byt x)).map bv) ∧ Frm 5 B w wr
set_option maxRecDepth 100000 in
set_option maxHeartbeats 2000000 in
theorem key_any (vs : Value) (ws : List Nat) (w : World) (hs : Sl uv w vs ws) (hws : Wds ws) (hwl : ws.length ≤ 64) :
  Calls Tryd.prog 39 #[vs] w fun e w' => e = .returned (.string (strOf (keyB ws))) ∧ Below w.heap.size w w' := by
 obtain ⟨A, c, rfl⟩ := hs.shape
 have Hs := Lib.hid hs; have Hws := Lib.hid hws
 clear hs hws
 obtain ⟨i0, hi, hz0, hz1, hz2⟩ := info_parts info_u8
 go_enter Tryd.func39, Tryd.ntmps39
 go_wp2_with (at_make; refine wpList_make_own _ rfl _ _ _ rfl w.heap.size 5 i0 _ 1 (by kernel_rfl) hi hz0 hz1 _ _ _ (8 * ws.length) rfl rfl (by omega) (by rw [hz2]; omega) (by unfold maxLen; omega) (Nat.le_refl _) ?_; intro w1 hown hgr)
 have HO1 := Lib.hid hown; have HF1 := Lib.hid (Frm.grown0 (e := 5) (B := w.heap.size) hgr)
 clear hown hgr hi hz0 hz1 hz2
 go_loopw [3, 13] (fun b i wr => Lk1 w w.heap.size ws b i wr) (fun _ i _ => ws.length - (intOf i).toNat)
 case atStart => exact ⟨0, Nat.zero_le _, rfl, HO1.out, HF1.out⟩
 case round =>
  obtain ⟨k, hk, rfl, hown, hf⟩ := hrel
  have HO := Lib.hid hown; have HF := Lib.hid hf; clear hown hf
  by_cases hlt : k < ws.length
  ·obtain ⟨ad, c', hs, hcap, hcell⟩ := sl_cell (Hs.out.below (HF.out.below (Nat.le_refl _))) k hlt
   simp only [Value.slice.injEq, true_and] at hs
   obtain ⟨rfl, rfl⟩ := hs
   have hxu := Hws.out _ (List.getElem_mem hlt)
   have htk : keyB (ws.take (k + 1)) = keyB (ws.take k) ++ le8 ws[k] := by
    unfold keyB
    rw [List.take_succ_eq_append_getElem hlt, List.flatMap_append]; simp
   have hpl : (keyB (ws.take k)).length ≤ 512 := by rw [keyB_len, List.length_take]; omega
   obtain ⟨x, hx⟩ : ∃ x, x = ws[k] := ⟨_, rfl⟩
   rw [← hx] at hcell hxu htk
   obtain ⟨pre, hpre⟩ : ∃ pre, pre = keyB (ws.take k) := ⟨_, rfl⟩
   rw [← hpre] at HO htk hpl
   have Htk := Lib.hid htk; have Hxu := Lib.hid hxu
   clear hx htk hpre hxu
   unfold uv at hcell
   go_wp2_with fail
   go_loopw [3, 6] (fun b i wr => Lk2 w w.heap.size pre x b i wr) (fun _ i _ => 64 - (intOf i).toNat)
   case atStart => exact ⟨0, Nat.zero_le _, rfl, by simpa using HO.out, HF.out⟩
   case round =>
    obtain ⟨j, hj, rfl, hown, hf⟩ := hrel
    have HO2 := Lib.hid hown; have HF2 := Lib.hid hf; clear hown hf
    have hfs := HF2.out.size
    by_cases hlt2 : j < 8
    ·have t0 : decide (8 * (j : Int) < 64) = true := decide_eq_true (by omega)
     have hl2 : (pre ++ (List.range j).map (byt x)).length ≤ 600 := by rw [List.length_append, List.length_map, List.length_range]; omega
     go_wp2_with (at_builtin; refine app1 rfl _ _ 27 rfl 5 (.int .u8 0) info_u8 Tryd.underlying27 rfl w.heap.size _ _ _ rfl HO2.out _ rfl rfl (by unfold Room2; omega) hfs ?_; intro v' w2 hown2 hf2; have O3 := Lib.hid hown2; have F3 := Lib.hid (HF2.out.trans hf2); clear hown2 hf2)
     go_roundw
     case rel =>
      refine ⟨j + 1, by omega, by go_num, ?_, F3.out⟩
      have h := O3.out
      rw [shr_byt8] at h
      have e : pre ++ (List.range (j + 1)).map (byt x) = pre ++ (List.range j).map (byt x) ++ [byt x j] := by rw [List.range_succ, List.map_append, ← List.append_assoc]; rfl
      rw [e, List.length_append, List.map_append]
      exact h
     case measure => simp [intOf]; omega
    ·obtain rfl : j = 8 := by omega
     have t0 : decide (8 * ((8 : Nat) : Int) < 64) = false := by decide
     go_wp2_with fail
     go_roundw
     case rel => exact ⟨k + 1, by omega, by go_num, by rw [Htk.out]; exact HO2.out, HF2.out⟩
     case measure => simp [intOf]; omega
  ·have h := HO.out
   rw [List.take_of_length_le (by omega)] at h
   have hrs := fun W => run_str (P := Tryd.prog) W 27 5 9 Tryd.underlying27 Tryd.underlying5 Tryd.underlying9 u3 (keyB ws)
   have hrs2 := hrs wr (Bsl.of_own h)
   clear hrs h HO
   go_wp2
   go_ret
   exact ⟨rfl, HF.out.below (Nat.le_refl _)⟩
end Go.Proofs.YtockgbilbnheaaaDoor
