/- The reference's Valid (tools/nrv_gen.py). -/
import Derived.Test.YtockgbilbnheaaaDoorNfaFw
namespace Go.Proofs.YtockgbilbnheaaaDoor
open Go.RowKit

set_option maxRecDepth 100000 in
set_option maxHeartbeats 8000000 in
theorem rvalid_any (S : Int) (st : List Int) (fin : List Bool) (ar : List Ac) (sv fv v : Value) (w : World) (hs : Sl iv w sv st) (hf : Sl bl w fv fin) (ha : Acs w v ar) (hsl : st.length ≤ 1000) (hal : ar.length ≤ 10000) :
  Calls Tryd.prog 7 #[.agg #[.int .i64 S, sv, fv, v]] w (RvP S st fin ar w) := by
 obtain ⟨As, cs, rfl⟩ := hs.shape
 obtain ⟨Af, cf, rfl⟩ := hf.shape
 obtain ⟨Aa, ca, rfl⟩ := ha.shape
 have hbw : Below w.heap.size w (w.alloc (.cells #[.int .i64 S, .slice As st.length cs, .slice Af fin.length cf, .slice Aa ar.length ca] 26)) := (Below.refl _ w).alloc (Nat.le_refl _) _
 obtain ⟨W, hW⟩ : ∃ W, W = w.alloc (.cells #[.int .i64 S, .slice As st.length cs, .slice Af fin.length cf, .slice Aa ar.length ca] 26) := ⟨_, rfl⟩
 have hWs : W.heap.size = w.heap.size + 1 := by rw [hW]; simp
 have hWb : W.heap[w.heap.size]? = some (.cells #[.int .i64 S, .slice As st.length cs, .slice Af fin.length cf, .slice Aa ar.length ca] 26 (0, 0)) := by rw [hW]; exact heap_alloc_new w _
 rw [← hW] at hbw
 have KB := Lib.hid (show ∀ w', Below W.heap.size W w' → Below w.heap.size w w' from fun w' h => below_ext2 hbw h)
 have KX := Lib.hid (show ∀ w', Below W.heap.size W w' → w'.cell? ⟨w.heap.size, 0, none⟩ = some (.int .i64 S) ∧ w'.cell? ⟨w.heap.size, 1, none⟩ = some (.slice As st.length cs) ∧ w'.cell? ⟨w.heap.size, 2, none⟩ = some (.slice Af fin.length cf) ∧ w'.cell? ⟨w.heap.size, 3, none⟩ = some (.slice Aa ar.length ca) from fun w' h => by
  have g1 := (h.block _ (by omega)).trans hWb
  exact ⟨cell_of_row _ _ 0 _ _ _ g1, cell_of_row _ _ 1 _ _ _ g1, cell_of_row _ _ 2 _ _ _ g1, cell_of_row _ _ 3 _ _ _ g1⟩)
 have Hs := Lib.hid hs; have Ha := Lib.hid ha; have HW := Lib.hid hW; have HWs := Lib.hid hWs
 clear hs ha hf hbw hWb hWs hW
 by_cases c1 : S < 0
 ·have Hno := Lib.hid (show ¬ VI S st fin ar from fun h => by have := h.1.1; omega)
  go_enter Tryd.func7, Tryd.ntmps7
  go_wp2
  go_ret
  rw [← HW.out]
  exact RvP.no Hno.out rfl (KB.out _ (Below.refl _ _))
 by_cases c2 : 200 < S
 ·have Hno := Lib.hid (show ¬ VI S st fin ar from fun h => by have := h.1.2; omega)
  go_enter Tryd.func7, Tryd.ntmps7
  go_wp2
  go_ret
  rw [← HW.out]
  exact RvP.no Hno.out rfl (KB.out _ (Below.refl _ _))
 by_cases c3 : (fin.length : Int) = S
 case neg =>
  have Hno := Lib.hid (show ¬ VI S st fin ar from fun h => c3 h.2.1)
  have e3 : ((fin.length : Int) != S) = true := by rw [bne_iff_ne]; exact c3
  clear c3
  go_enter Tryd.func7, Tryd.ntmps7
  go_wp2
  go_ret
  rw [← HW.out]
  exact RvP.no Hno.out rfl (KB.out _ (Below.refl _ _))
 have e3 : ((fin.length : Int) != S) = false := by rw [bne_eq_false_iff_eq]; exact c3
 have C3 := Lib.hid c3
 clear c3
 by_cases c4 : 2000 < ar.length
 ·have Hno := Lib.hid (show ¬ VI S st fin ar from fun h => by have := h.2.2.1; omega)
  go_enter Tryd.func7, Tryd.ntmps7
  go_wp2
  go_ret
  rw [← HW.out]
  exact RvP.no Hno.out rfl (KB.out _ (Below.refl _ _))
 have Hhead := Lib.hid (show (∀ i, i < st.length → OkS S st i) → (∀ i, i < ar.length → OkA S ar i) → VI S st fin ar from fun h1 h2 => ⟨⟨by omega, by omega⟩, C3.out, by omega, h1, h2⟩)
 go_enter Tryd.func7, Tryd.ntmps7
 go_wp2_with fail
 rw [← HW.out]
 clear e3
 go_loopw [3] (fun i wr => ∃ k : Nat, k ≤ st.length ∧ i = .int .i64 k ∧ (∀ i, i < k → OkS S st i) ∧ Below W.heap.size W wr) (fun i _ => st.length - (intOf i).toNat)
 case atStart => exact ⟨0, Nat.zero_le _, rfl, (by intro i hi; omega), Below.refl _ _⟩
 case round =>
  obtain ⟨k, hk, rfl, hok, hb⟩ := hrel
  have HB := Lib.hid hb; have Hok := Lib.hid hok; clear hb hok
  obtain ⟨x0, x1, x2, x3⟩ := KX.out _ HB.out
  by_cases hlt : k < st.length
  ·obtain ⟨ad, c', hs, hcap, hcell⟩ := sl_cell (Hs.out.below (KB.out _ HB.out)) k hlt
   simp only [Value.slice.injEq, true_and] at hs
   obtain ⟨rfl, rfl⟩ := hs
   have ex : st.getD k 0 = st[k] := by rw [List.getD_eq_getElem?_getD, List.getElem?_eq_getElem hlt]; rfl
   have Hk := Lib.hid (show OkS S st k ↔ 0 ≤ st[k] ∧ st[k] < S ∧ (0 < k → st.getD (k - 1) 0 < st[k]) from by unfold OkS; rw [ex])
   clear ex
   have Hvi := Lib.hid (show ¬ OkS S st k → ¬ VI S st fin ar from fun h1 h2 => h1 (h2.2.2.2.1 k hlt))
   obtain ⟨x, hx⟩ : ∃ x, x = st[k] := ⟨_, rfl⟩
   rw [← hx] at hcell Hk
   clear hx
   unfold iv at hcell
   have i0 : (0 : Int) ≤ (k : Int) := by omega
   have i1 : (k : Int) < (st.length : Int) := by omega
   by_cases d1 : x < 0
   ·have q1 : decide (x < 0) = true := decide_eq_true d1
    have Hno := Lib.hid (Hvi.out (fun h => by have := Hk.out.1 h; omega))
    go_wp2_with fail
    go_quiet (fail)
    go_wp2
    go_ret
    exact RvP.no Hno.out rfl (KB.out _ (Below.drewN' HB.out _))
   have q1 : decide (x < 0) = false := decide_eq_false d1
   by_cases d2 : S ≤ x
   ·have q2 : decide (S ≤ x) = true := decide_eq_true d2
    have Hno := Lib.hid (Hvi.out (fun h => by have := Hk.out.1 h; omega))
    go_wp2_with fail
    go_quiet (fail)
    go_wp2
    go_ret
    exact RvP.no Hno.out rfl (KB.out _ (Below.drewN' HB.out _))
   have q2 : decide (S ≤ x) = false := decide_eq_false d2
   by_cases hk0 : k = 0
   ·have Hyes := Lib.hid (ok_succ Hok.out (Hk.out.2 ⟨by omega, by omega, fun h => by omega⟩))
    have t5 : decide ((0 : Int) < (k : Int)) = false := decide_eq_false (by omega)
    have t5' : decide (0 < k) = false := decide_eq_false (by omega)
    clear hk0
    go_wp2_with fail
    go_quiet (fail)
    go_wp2
    go_roundw
    case rel => exact ⟨k + 1, by omega, by go_num, Hyes.out, Below.drewN' HB.out _⟩
    case measure => simp [intOf]; omega
   ·obtain ⟨j, hj⟩ : ∃ j : Nat, j + 1 = k := ⟨k - 1, by omega⟩
    have hjl : j < st.length := by omega
    obtain ⟨ad', c', hs2, _, hcell2⟩ := sl_cell (Hs.out.below (KB.out _ HB.out)) j hjl
    simp only [Value.slice.injEq, true_and, Option.some.injEq] at hs2
    obtain ⟨rfl, rfl⟩ := hs2
    have ey : st.getD (k - 1) 0 = st[j] := by rw [show k - 1 = j by omega, List.getD_eq_getElem?_getD, List.getElem?_eq_getElem hjl]; rfl
    obtain ⟨y, hy⟩ : ∃ y, y = st[j] := ⟨_, rfl⟩
    rw [← hy] at hcell2 ey
    have Ey := Lib.hid ey
    clear hy ey
    unfold iv at hcell2
    have e1 : IntKind.i64.wrap ((k : Int) - 1) = (j : Int) := by rw [IntKind.wrap_i64]; omega
    have g0 : (0 : Int) ≤ (j : Int) := by omega
    have g1 : (j : Int) < (st.length : Int) := by omega
    have t5 : decide ((0 : Int) < (k : Int)) = true := decide_eq_true (by omega)
    have hkp : 0 < k := by omega
    by_cases d3 : x ≤ y
    ·have Hno := Lib.hid (Hvi.out (fun h => by have := (Hk.out.1 h).2.2 hkp; have := Ey.out; omega))
     have t6 : decide (x ≤ y) = true := decide_eq_true d3
     clear hj hk0
     go_wp2_with fail
     go_quiet (fail)
     go_wp2
     go_ret
     exact RvP.no Hno.out rfl (KB.out _ (Below.drewN' HB.out _))
    ·have Hyes := Lib.hid (ok_succ Hok.out (Hk.out.2 ⟨by omega, by omega, fun h => by have := Ey.out; omega⟩))
     have t6 : decide (x ≤ y) = false := decide_eq_false d3
     clear hj hk0
     go_wp2_with fail
     go_quiet (fail)
     go_wp2
     go_roundw
     case rel => exact ⟨k + 1, by omega, by go_num, Hyes.out, Below.drewN' HB.out _⟩
     case measure => simp [intOf]; omega
  ·have Hst := Lib.hid (show ∀ i, i < st.length → OkS S st i from fun i hi => Hok.out i (by omega))
   have HB0 := Lib.hid HB.out
   go_wp2_with fail
   clear hlt hk x0 x1 x2 x3 HB Hok
   go_loopw [4] (fun i wr => ∃ k : Nat, k ≤ ar.length ∧ i = .int .i64 k ∧ (∀ i, i < k → OkA S ar i) ∧ Below W.heap.size W wr) (fun i _ => ar.length - (intOf i).toNat)
   case atStart => exact ⟨0, Nat.zero_le _, rfl, (by intro i hi; omega), HB0.out⟩
   case round =>
    obtain ⟨k, hk, rfl, hok, hb⟩ := hrel
    have HB := Lib.hid hb; have Hok := Lib.hid hok; clear hb hok
    obtain ⟨x0, x1, x2, x3⟩ := KX.out _ HB.out
    by_cases hlt : k < ar.length
    ·obtain ⟨ad, rfl, _, hcap, y0, y1, y2⟩ := (Ha.out.below (KB.out _ HB.out)).at k hlt
     have ex : ar.getD k (0, 0, 0) = ar[k] := by rw [List.getD_eq_getElem?_getD, List.getElem?_eq_getElem hlt]; rfl
     have Hk := Lib.hid (show OkA S ar k ↔ (0 ≤ ar[k].1 ∧ ar[k].1 < S) ∧ (0 ≤ ar[k].2.2 ∧ ar[k].2.2 < S) ∧ (0 ≤ ar[k].2.1 ∧ ar[k].2.1 ≤ 10000) ∧ (0 < k → LtA (ar.getD (k - 1) (0, 0, 0)) ar[k]) from by unfold OkA; rw [ex])
     clear ex
     have Hvi := Lib.hid (show ¬ OkA S ar k → ¬ VI S st fin ar from fun h1 h2 => h1 (h2.2.2.2.2 k hlt))
     obtain ⟨⟨z0, z1, z2⟩, hz⟩ : ∃ z, z = ar[k] := ⟨_, rfl⟩
     rw [← hz] at y0 y1 y2 Hk
     dsimp only at y0 y1 y2 Hk
     clear hz
     have g0 : (0 : Int) ≤ (k : Int) := by omega
     have g1 : (k : Int) < (ar.length : Int) := by omega
     have hbal := HB.out.alloc HB.out.size (.cells #[.int .i64 z0, .int .i64 z1, .int .i64 z2] 59)
     have Hbal := Lib.hid hbal
     clear hbal
     have hlw : w.heap.size < wr.heap.size := by have := HB.out.size; have := HWs.out; omega
     go_wp2_with fail
     obtain ⟨V, hV⟩ : ∃ V, V = wr.alloc (.cells #[.int .i64 z0, .int .i64 z1, .int .i64 z2] 59) := ⟨_, rfl⟩
     have hVb : V.heap[wr.heap.size]? = some (.cells #[.int .i64 z0, .int .i64 z1, .int .i64 z2] 59 (0, 0)) := by rw [hV]; exact heap_alloc_new wr _
     have hbal := Hbal.out
     rw [← hV] at hbal
     rw [← hV]
     have HbV := Lib.hid hbal
     have KV := Lib.hid (show ∀ w', Below V.heap.size V w' → (w'.cell? ⟨w.heap.size, 0, none⟩ = some (.int .i64 S) ∧ w'.cell? ⟨w.heap.size, 1, none⟩ = some (.slice As st.length cs) ∧ w'.cell? ⟨w.heap.size, 2, none⟩ = some (.slice Af fin.length cf) ∧ w'.cell? ⟨w.heap.size, 3, none⟩ = some (.slice (some ad) ar.length ca)) ∧ w'.cell? ⟨wr.heap.size, 0, none⟩ = some (.int .i64 z0) ∧ w'.cell? ⟨wr.heap.size, 1, none⟩ = some (.int .i64 z1) ∧ w'.cell? ⟨wr.heap.size, 2, none⟩ = some (.int .i64 z2) from fun w' h => by
      have g1 := (h.block _ (lt_of_some hVb)).trans hVb
      exact ⟨KX.out _ (below_ext2 hbal h), cell_of_row _ _ 0 _ _ _ g1, cell_of_row _ _ 1 _ _ _ g1, cell_of_row _ _ 2 _ _ _ g1⟩)
     clear hV hVb hbal Hbal x0 x1 x2 x3 y0 y1 y2
     obtain ⟨⟨x0, x1, x2, x3⟩, y0, y1, y2⟩ := KV.out _ (Below.refl _ _)
     by_cases f1 : z0 < 0
     ·have qf1 : decide (z0 < 0) = true := decide_eq_true f1
      have Hno := Lib.hid (Hvi.out (fun h => by have := Hk.out.1 h; omega))
      go_quiet (fail)
      go_wp2
      go_ret
      exact RvP.no Hno.out rfl (KB.out _ (Below.drewN' HbV.out _))
     have qf1 : decide (z0 < 0) = false := decide_eq_false f1
     by_cases f2 : S ≤ z0
     ·have qf2 : decide (S ≤ z0) = true := decide_eq_true f2
      have Hno := Lib.hid (Hvi.out (fun h => by have := Hk.out.1 h; omega))
      go_quiet (fail)
      go_wp2
      go_ret
      exact RvP.no Hno.out rfl (KB.out _ (Below.drewN' HbV.out _))
     have qf2 : decide (S ≤ z0) = false := decide_eq_false f2
     by_cases f3 : z2 < 0
     ·have qf3 : decide (z2 < 0) = true := decide_eq_true f3
      have Hno := Lib.hid (Hvi.out (fun h => by have := Hk.out.1 h; omega))
      go_quiet (fail)
      go_wp2
      go_ret
      exact RvP.no Hno.out rfl (KB.out _ (Below.drewN' HbV.out _))
     have qf3 : decide (z2 < 0) = false := decide_eq_false f3
     by_cases f4 : S ≤ z2
     ·have qf4 : decide (S ≤ z2) = true := decide_eq_true f4
      have Hno := Lib.hid (Hvi.out (fun h => by have := Hk.out.1 h; omega))
      go_quiet (fail)
      go_wp2
      go_ret
      exact RvP.no Hno.out rfl (KB.out _ (Below.drewN' HbV.out _))
     have qf4 : decide (S ≤ z2) = false := decide_eq_false f4
     by_cases f5 : z1 < 0
     ·have qf5 : decide (z1 < 0) = true := decide_eq_true f5
      have Hno := Lib.hid (Hvi.out (fun h => by have := Hk.out.1 h; omega))
      go_quiet (fail)
      go_wp2
      go_ret
      exact RvP.no Hno.out rfl (KB.out _ (Below.drewN' HbV.out _))
     have qf5 : decide (z1 < 0) = false := decide_eq_false f5
     by_cases f6 : 10000 < z1
     ·have qf6 : decide (10000 < z1) = true := decide_eq_true f6
      have Hno := Lib.hid (Hvi.out (fun h => by have := Hk.out.1 h; omega))
      go_quiet (fail)
      go_wp2
      go_ret
      exact RvP.no Hno.out rfl (KB.out _ (Below.drewN' HbV.out _))
     have qf6 : decide (10000 < z1) = false := decide_eq_false f6
     by_cases hk0 : k = 0
     ·have Hyes := Lib.hid (ok_succ Hok.out (Hk.out.2 ⟨by omega, by omega, by omega, fun h => by omega⟩))
      have t5 : decide ((0 : Int) < (k : Int)) = false := decide_eq_false (by omega)
      have t5' : decide (0 < k) = false := decide_eq_false (by omega)
      clear hk0
      go_quiet (fail)
      go_wp2
      go_roundw
      case rel => exact ⟨k + 1, by omega, by go_num, Hyes.out, Below.drewN' HbV.out _⟩
      case measure => simp [intOf]; omega
     ·obtain ⟨j, hj⟩ : ∃ j : Nat, j + 1 = k := ⟨k - 1, by omega⟩
      have hjl : j < ar.length := by omega
      obtain ⟨ad', e0, _, _, p0, p1, p2⟩ := (Ha.out.below (KB.out _ HbV.out)).at j hjl
      cases e0
      have ey : ar.getD (k - 1) (0, 0, 0) = ar[j] := by rw [show k - 1 = j by omega, List.getD_eq_getElem?_getD, List.getElem?_eq_getElem hjl]; rfl
      obtain ⟨⟨c0, c1, c2⟩, hc⟩ : ∃ z, z = ar[j] := ⟨_, rfl⟩
      rw [← hc] at p0 p1 p2 ey
      dsimp only at p0 p1 p2
      have Ey := Lib.hid ey
      have hbf := fun W2 : World => rbefore_any c0 c1 c2 z0 z1 z2 W2
      obtain ⟨r, hr⟩ : ∃ r, r = decide (LtA (c0, c1, c2) (z0, z1, z2)) := ⟨_, rfl⟩
      rw [← hr] at hbf
      have Hbf := Lib.hid hbf; have Hr := Lib.hid hr
      have KP := Lib.hid (show ∀ w', Below V.heap.size V w' → w'.cell? ⟨w.heap.size, 0, none⟩ = some (.int .i64 S) ∧ w'.cell? ⟨w.heap.size, 3, none⟩ = some (.slice (some ad) ar.length ca) ∧ w'.cell? (ad.add (j * 3)) = some (.int .i64 c0) ∧ w'.cell? ⟨(ad.add (j * 3)).block, (ad.add (j * 3)).off + 1, none⟩ = some (.int .i64 c1) ∧ w'.cell? ⟨(ad.add (j * 3)).block, (ad.add (j * 3)).off + 2, none⟩ = some (.int .i64 c2) ∧ w'.cell? ⟨wr.heap.size, 0, none⟩ = some (.int .i64 z0) ∧ w'.cell? ⟨wr.heap.size, 1, none⟩ = some (.int .i64 z1) ∧ w'.cell? ⟨wr.heap.size, 2, none⟩ = some (.int .i64 z2) from fun w' h => by
       obtain ⟨⟨k0, _, _, k3⟩, k4, k5, k6⟩ := KV.out _ h
       have hb := fun (a : Addr) (u : Value) (h2 : V.cell? a = some u) => (h.cell (World.block_lt_of_cell? _ _ h2)).trans h2
       exact ⟨k0, k3, hb _ _ p0, hb _ _ p1, hb _ _ p2, k4, k5, k6⟩)
      clear hc ey hbf hr x0 x1 x2 x3 y0 y1 y2 p0 p1 p2
      obtain ⟨x0, x3, p0, p1, p2, y0, y1, y2⟩ := KP.out _ (Below.refl _ _)
      have e1 : IntKind.i64.wrap ((k : Int) - 1) = (j : Int) := by rw [IntKind.wrap_i64]; omega
      have m0 : (0 : Int) ≤ (j : Int) := by omega
      have m1 : (j : Int) < (ar.length : Int) := by omega
      have t5 : decide ((0 : Int) < (k : Int)) = true := decide_eq_true (by omega)
      have hkp : 0 < k := by omega
      have Hyes := Lib.hid (show r = true → ∀ i, i < k + 1 → OkA S ar i from fun h => ok_succ Hok.out (Hk.out.2 ⟨by omega, by omega, by omega, fun _ => by rw [Ey.out]; have h2 := Hr.out; rw [h] at h2; exact of_decide_eq_true h2.symm⟩))
      have Hno := Lib.hid (show r = false → ¬ VI S st fin ar from fun h => Hvi.out (fun h3 => by have h4 := (Hk.out.1 h3).2.2.2 hkp; rw [Ey.out] at h4; have h2 := Hr.out; rw [h] at h2; exact of_decide_eq_false h2.symm h4))
      clear hj hk0
      cases r with
      | true =>
       go_region_held3 (fun w' => w'.cell? ⟨w.heap.size, 0, none⟩ = some (.int .i64 S) ∧ w'.cell? ⟨w.heap.size, 3, none⟩ = some (.slice (some ad) ar.length ca) ∧ w'.cell? (ad.add (j * 3)) = some (.int .i64 c0) ∧ w'.cell? ⟨(ad.add (j * 3)).block, (ad.add (j * 3)).off + 1, none⟩ = some (.int .i64 c1) ∧ w'.cell? ⟨(ad.add (j * 3)).block, (ad.add (j * 3)).off + 2, none⟩ = some (.int .i64 c2) ∧ w'.cell? ⟨wr.heap.size, 0, none⟩ = some (.int .i64 z0) ∧ w'.cell? ⟨wr.heap.size, 1, none⟩ = some (.int .i64 z1) ∧ w'.cell? ⟨wr.heap.size, 2, none⟩ = some (.int .i64 z2))
        (first | (exact ⟨x0, x3, p0, p1, p2, y0, y1, y2⟩) | (exact KP.out _ hb7))
        (first
         | (go_at_call 21; refine (Hbf.out _).mono ?_; rintro e w7 ⟨rfl, hb7'⟩; have hb7 : Below V.heap.size V w7 := ⟨hb7'.os, hb7'.tape, hb7'.output, hb7'.size, hb7'.block⟩))
       have B7 := Lib.hid (below_ext2 HbV.out hb7)
       clear hb7 hb7'
       go_wp2
       go_roundw
       case rel => exact ⟨k + 1, by omega, by go_num, Hyes.out (by trivial), B7.out⟩
       case measure => simp [intOf]; omega
      | false =>
       go_region_held3 (fun w' => w'.cell? ⟨w.heap.size, 0, none⟩ = some (.int .i64 S) ∧ w'.cell? ⟨w.heap.size, 3, none⟩ = some (.slice (some ad) ar.length ca) ∧ w'.cell? (ad.add (j * 3)) = some (.int .i64 c0) ∧ w'.cell? ⟨(ad.add (j * 3)).block, (ad.add (j * 3)).off + 1, none⟩ = some (.int .i64 c1) ∧ w'.cell? ⟨(ad.add (j * 3)).block, (ad.add (j * 3)).off + 2, none⟩ = some (.int .i64 c2) ∧ w'.cell? ⟨wr.heap.size, 0, none⟩ = some (.int .i64 z0) ∧ w'.cell? ⟨wr.heap.size, 1, none⟩ = some (.int .i64 z1) ∧ w'.cell? ⟨wr.heap.size, 2, none⟩ = some (.int .i64 z2))
        (first | (exact ⟨x0, x3, p0, p1, p2, y0, y1, y2⟩) | (exact KP.out _ hb7))
        (first
         | (go_at_call 21; refine (Hbf.out _).mono ?_; rintro e w7 ⟨rfl, hb7'⟩; have hb7 : Below V.heap.size V w7 := ⟨hb7'.os, hb7'.tape, hb7'.output, hb7'.size, hb7'.block⟩))
       have B7 := Lib.hid (below_ext2 HbV.out hb7)
       clear hb7 hb7'
       go_wp2
       go_ret
       exact RvP.no (Hno.out (by trivial)) rfl (KB.out _ B7.out)
    ·have Hyes := Lib.hid (Hhead.out Hst.out (fun i hi => Hok.out i (by omega)))
     go_wp2
     go_ret
     exact RvP.yes Hyes.out rfl (KB.out _ HB.out)
end Go.Proofs.YtockgbilbnheaaaDoor
