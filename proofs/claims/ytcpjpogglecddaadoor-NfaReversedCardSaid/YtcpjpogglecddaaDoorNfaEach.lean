/- nfa's closureOfEach. -/
import Derived.Test.YtcpjpogglecddaaDoorNfaAcc
namespace Go.Proofs.YtcpjpogglecddaaDoor
open Go.RowKit

theorem info_set : (Tryd.prog.info? 35).map (fun i => (i.zero, i.size, i.bytes)) = some (some (.slice none 0 0), 1, 24) := by kernel_rfl
theorem Wst.shape {w : World} {v : Value} {ws : List Nat} (h : Wst w v ws) : ∃ A c, v = .slice A ws.length c := by
  rcases h with ⟨rfl, rfl⟩ | ⟨g, c, cs, fr, rfl, _⟩
  · exact ⟨none, 0, rfl⟩
  · exact ⟨_, c, rfl⟩
theorem SetIs.keep {w w' : World} {v : Value} {ws : List Nat} {P : Nat → Prop} (h : SetIs w v ws P) (h2 : Wst w' v ws) : SetIs w' v ws P := ⟨h2, h.can, h.wds, h.len, h.has⟩
/-- Block g holds k closures, one of each state, of the first k. -/
structure CE (w : World) (g S k : Nat) (ar : List Ac) (vals : List Value) : Prop where
  row : w.heap[g]? = some (.cells vals.toArray 35 (0, 0))
  len : vals.length = S
  set : ∀ (j : Nat) (v : Value), j < k → vals[j]? = some v → ∃ ws, SetIs w v ws (fun n => Rc ar [(j : Int)] n)
theorem CE.keep {w w' : World} {g S k : Nat} {ar : List Ac} {vals : List Value} (h : CE w g S k ar vals) (hb : Below w.heap.size w w') : CE w' g S k ar vals :=
  ⟨(hb.block g (lt_of_some h.row)).trans h.row, h.len, fun j v hj hv => let ⟨ws, hs⟩ := h.set j v hj hv; ⟨ws, hs.below hb⟩⟩
def EachP (S : Nat) (ar : List Ac) (w : World) (e : Ending) (w' : World) : Prop := ∃ g vals, e = .returned (.slice (some ⟨g, 0, none⟩) S S) ∧ w.heap.size ≤ g ∧ CE w' g S S ar vals ∧ Below w.heap.size w w'
set_option maxRecDepth 100000 in
set_option maxHeartbeats 2000000 in
theorem each_any (S : Nat) (st fi v : Value) (ar : List Ac) (w : World) (ha : Acs w v ar) (hv : VA S ar) (hS : S ≤ 200) :
    Calls Tryd.prog 42 #[.agg #[.int .i64 (S : Int), st, fi, v]] w (EachP S ar w) := by
  have Ha := Lib.hid ha; have Hv := Lib.hid hv
  clear ha hv
  obtain ⟨i0, hi, hz0, hz1, hz2⟩ := info_parts info_set
  have hbw : Below w.heap.size w (w.alloc (.cells #[.int .i64 (S : Int), st, fi, v] 32)) := (Below.refl _ w).alloc (Nat.le_refl _) _
  have hWb : (w.alloc (.cells #[.int .i64 (S : Int), st, fi, v] 32)).heap[w.heap.size]? = some (.cells #[.int .i64 (S : Int), st, fi, v] 32 (0, 0)) := heap_alloc_new w _
  have hsz0 : (w.alloc (.cells #[.int .i64 (S : Int), st, fi, v] 32)).heap.size = w.heap.size + 1 := by simp
  have Hbw := Lib.hid hbw; have HWb := Lib.hid hWb; have Hsz0 := Lib.hid hsz0
  clear hbw hWb hsz0
  go_enter Tryd.func42, Tryd.ntmps42
  go_wp2_with (at_make; refine wpList_make_full _ rfl _ _ _ rfl w.heap.size 35 i0 _ 1 (by kernel_rfl) hi hz0 hz1 _ _ _ _ S rfl rfl rfl rfl (by rw [hz2]; omega) (by unfold maxLen; omega) (by rw [Hsz0.out]; omega) ?_; intro w1 hown hgr; rw [Hsz0.out] at hown)
  have hb1 : Below (w.heap.size + 1) (w.alloc (.cells #[.int .i64 (S : Int), st, fi, v] 32)) w1 := ⟨hgr.os, hgr.tape, hgr.output, hgr.size, fun k hk => hgr.block k (by rw [Hsz0.out]; omega) (by simp)⟩
  have hrow : w1.heap[w.heap.size + 1]? = some (.cells (List.replicate S (.slice none 0 0)).toArray 35 (0, 0)) := by
    have hm := toList_madeCells_one (.slice none 0 0) S
    rcases hown.2 with ⟨h0, _⟩ | ⟨g2, cap, cur, h0, _, hcur, _, _, h3, h4⟩
    · cases h0
    · simp only [Value.slice.injEq, Option.some.injEq, Addr.mk.injEq, and_true, true_and] at h0
      obtain ⟨rfl, rfl⟩ := h0
      rw [Nat.mul_one] at h3 h4
      rw [List.take_of_length_le (by rw [Array.length_toList, h3]; exact Nat.le_refl _)] at h4
      rw [hcur]
      congr 2
      apply Array.toList_inj.1
      rw [h4, List.toList_toArray, ← hm]
      simp [Value.cells]
  have Hb1 := Lib.hid hb1; have Hrow := Lib.hid hrow
  have KX := Lib.hid (show ∀ w', Below (w.heap.size + 1) w1 w' → (w'.cell? ⟨w.heap.size, 0, none⟩ = some (.int .i64 (S : Int)) ∧ w'.cell? ⟨w.heap.size, 1, none⟩ = some st ∧ w'.cell? ⟨w.heap.size, 2, none⟩ = some fi ∧ w'.cell? ⟨w.heap.size, 3, none⟩ = some v) ∧ Below w.heap.size w w' from fun w' h => by
    have g1 := (h.block _ (by omega)).trans ((hb1.block _ (by omega)).trans HWb.out)
    exact ⟨⟨cell_of_row _ _ 0 _ _ _ g1, cell_of_row _ _ 1 _ _ _ g1, cell_of_row _ _ 2 _ _ _ g1, cell_of_row _ _ 3 _ _ _ g1⟩, Hbw.out.trans ((hb1.trans h).mono (by omega))⟩)
  have hs1 : w.heap.size + 2 ≤ w1.heap.size := by have := lt_of_some hrow; omega
  clear hown hgr hb1 hrow hz0 hz1 hz2 hi
  go_loopw [10] (fun i wr => ∃ (k : Nat) (vals : List Value), k ≤ S ∧ i = .int .i64 k ∧ CE wr (w.heap.size + 1) S k ar vals ∧ Below (w.heap.size + 1) w1 wr ∧ w.heap.size + 2 ≤ wr.heap.size) (fun i _ => S - (intOf i).toNat)
  case atStart => exact ⟨0, _, Nat.zero_le _, rfl, ⟨Hrow.out, by simp, fun j v hj => by omega⟩, Below.refl _ _, hs1⟩
  case round =>
    obtain ⟨k, vals, hk, rfl, hce, hb, hsz⟩ := hrel
    have HC := Lib.hid hce; have HB := Lib.hid hb; clear hce hb
    by_cases hlt : k < S
    · obtain ⟨⟨x0, x1, x2, x3⟩, hbb⟩ := KX.out _ HB.out
      have Hbb := Lib.hid hbb; clear hbb
      have hcl := closure_any S st fi v ar (some ⟨wr.heap.size, 0, none⟩) 1 [(k : Int)] (wr.alloc (.cells #[.int .i64 (k : Int)] 3)) (Ha.out.below (Hbb.out.alloc (by omega) _)) Hv.out hS (Sl.of_own (B := wr.heap.size) (own_litS wr 3 #[.int .i64 (k : Int)] 1 wr.heap.size [.int .i64 (k : Int)] rfl rfl (by decide) rfl)) (by simp) (by intro x hx; rw [List.mem_singleton.1 hx]; omega)
      have Hcl := Lib.hid hcl; clear hcl
      have h0 : (0 : Int) ≤ (k : Int) := by omega
      have h1 : (k : Int) < (S : Int) := by omega
      go_wp2_with fail
      refine Hcl.out.mono ?_
      rintro e w5 ⟨v5, ws5, rfl, h5, hb5⟩
      obtain ⟨A5, c5, rfl⟩ := h5.st.shape
      have hb6 : Below wr.heap.size wr w5 := ((Below.refl _ wr).alloc (Nat.le_refl _) _).trans (hb5.mono (by simp))
      have C5 := HC.out.keep hb6
      have H5 := Lib.hid h5; have B5 := Lib.hid (HB.out.trans (hb6.mono (by omega))); have HC5 := Lib.hid C5
      have hs5 : w.heap.size + 2 ≤ w5.heap.size := Nat.le_trans hsz hb6.size
      have hfz := frozen_of C5.row k
      have hcs : (w5.cell? ⟨w.heap.size + 1, k, none⟩).isSome = true := by
        rw [cell_of_row _ _ k _ _ _ C5.row, List.getElem?_toArray, List.getElem?_eq_getElem (by rw [C5.len]; exact hlt)]; rfl
      obtain ⟨ux, hux⟩ := Option.isSome_iff_exists.1 hcs
      clear h5 hb5 hb6 C5 x0 x1 x2 x3 hcs
      go_wp2
      go_roundw
      case rel =>
        have hrow' := heap_setCell_same w5 (w.heap.size + 1) k _ _ (.slice A5 ws5.length c5) HC5.out.row
        rw [List.setIfInBounds_toArray] at hrow'
        refine ⟨k + 1, _, by omega, by go_num, ⟨hrow', by rw [List.length_set]; exact HC5.out.len, fun j v hj hv => ?_⟩, B5.out.setCell (Nat.le_refl _) _, by simp; omega⟩
        by_cases hjk : k = j
        · subst hjk
          rw [List.getElem?_set_self (by rw [HC5.out.len]; exact hlt)] at hv
          cases hv
          exact ⟨ws5, H5.out.keep (H5.out.st.set HC5.out.row (by decide))⟩
        · rw [List.getElem?_set_ne hjk] at hv
          obtain ⟨ws, hs⟩ := HC5.out.set j v (by omega) hv
          exact ⟨ws, hs.keep (hs.st.set HC5.out.row (by decide))⟩
      case measure => simp [intOf]; omega
    · obtain rfl : k = S := by omega
      go_wp2
      go_ret
      exact ⟨w.heap.size + 1, vals, rfl, by omega, HC.out, (KX.out _ HB.out).2⟩
end Go.Proofs.YtcpjpogglecddaaDoor
