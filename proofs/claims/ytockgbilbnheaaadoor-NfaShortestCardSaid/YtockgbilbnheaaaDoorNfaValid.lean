/- nfa's Valid and check at a valid automaton. -/
import Derived.Test.YtockgbilbnheaaaDoorNfaFin
namespace Go.Proofs.YtockgbilbnheaaaDoor
open Go.RowKit

/-- A valid automaton. -/
structure VN (S : Nat) (st : List Int) (fin : List Bool) (ar : List Ac) : Prop where
 few : S ≤ 200
 fins : fin.length = S
 va : VA S ar
 bds : ∀ x ∈ st, 0 ≤ x ∧ x < (S : Int)
 asc : st.Pairwise (· < ·)
theorem VN.stl {S : Nat} {st : List Int} {fin : List Bool} {ar : List Ac} (h : VN S st fin ar) : st.length ≤ 200 :=
 Nat.le_trans (nodup_len (h.asc.imp fun h => by omega) h.bds) h.few
/-- An automaton in memory. -/
structure Nv (w : World) (v : Value) (S : Nat) (st : List Int) (fin : List Bool) (ar : List Ac) (sv fv av : Value) : Prop where
 eq : v = .agg #[.int .i64 (S : Int), sv, fv, av]
 st : Sl iv w sv st
 fin : Sl bl w fv fin
 ar : Acs w av ar
theorem Nv.below {w w' : World} {v sv fv av : Value} {S : Nat} {st : List Int} {fin : List Bool} {ar : List Ac} (h : Nv w v S st fin ar sv fv av) (hb : Below w.heap.size w w') : Nv w' v S st fin ar sv fv av := ⟨h.eq, h.st.below hb, h.fin.below hb, h.ar.below hb⟩
set_option maxRecDepth 100000 in
set_option maxHeartbeats 4000000 in
theorem valid_ok (S : Nat) (st : List Int) (fin : List Bool) (ar : List Ac) (sv fv v : Value) (w : World) (h : VN S st fin ar) (hs : Sl iv w sv st) (hf : Sl bl w fv fin) (ha : Acs w v ar) :
  Calls Tryd.prog 20 #[.agg #[.int .i64 (S : Int), sv, fv, v]] w fun e w' => e = .returned (.bool true) ∧ Below w.heap.size w w' := by
 obtain ⟨As, cs, rfl⟩ := hs.shape
 obtain ⟨Af, cf, rfl⟩ := hf.shape
 obtain ⟨Aa, ca, rfl⟩ := ha.shape
 have hbw : Below w.heap.size w (w.alloc (.cells #[.int .i64 (S : Int), .slice As st.length cs, .slice Af fin.length cf, .slice Aa ar.length ca] 32)) := (Below.refl _ w).alloc (Nat.le_refl _) _
 obtain ⟨W, hW⟩ : ∃ W, W = w.alloc (.cells #[.int .i64 (S : Int), .slice As st.length cs, .slice Af fin.length cf, .slice Aa ar.length ca] 32) := ⟨_, rfl⟩
 have hWs : W.heap.size = w.heap.size + 1 := by rw [hW]; simp
 have hWb : W.heap[w.heap.size]? = some (.cells #[.int .i64 (S : Int), .slice As st.length cs, .slice Af fin.length cf, .slice Aa ar.length ca] 32 (0, 0)) := by rw [hW]; exact heap_alloc_new w _
 rw [← hW] at hbw
 have KB := Lib.hid (show ∀ w', Below W.heap.size W w' → Below w.heap.size w w' from fun w' h => below_ext2 hbw h)
 have KX := Lib.hid (show ∀ w', Below W.heap.size W w' → w'.cell? ⟨w.heap.size, 0, none⟩ = some (.int .i64 (S : Int)) ∧ w'.cell? ⟨w.heap.size, 1, none⟩ = some (.slice As st.length cs) ∧ w'.cell? ⟨w.heap.size, 2, none⟩ = some (.slice Af fin.length cf) ∧ w'.cell? ⟨w.heap.size, 3, none⟩ = some (.slice Aa ar.length ca) from fun w' h => by
  have g1 := (h.block _ (by omega)).trans hWb
  exact ⟨cell_of_row _ _ 0 _ _ _ g1, cell_of_row _ _ 1 _ _ _ g1, cell_of_row _ _ 2 _ _ _ g1, cell_of_row _ _ 3 _ _ _ g1⟩)
 have hfl : fin.length = S := h.fins
 have hal := h.va.few
 have hsl := h.stl
 have hS := h.few
 have t0 : decide ((200 : Int) < (S : Int)) = false := decide_eq_false (by omega)
 have t1 : ((fin.length : Int) != (S : Int)) = false := by rw [hfl]; simp
 have t2 : decide ((2000 : Int) < (ar.length : Int)) = false := decide_eq_false (by omega)
 have Hv := Lib.hid h; have Hs := Lib.hid hs; have Ha := Lib.hid ha; have Hfl := Lib.hid hfl; have HW := Lib.hid hW; have HWs := Lib.hid hWs
 clear h hs ha hf hbw hWb hWs hfl hW
 go_enter Tryd.func20, Tryd.ntmps20
 go_wp2_with fail
 rw [← HW.out]
 go_loopw [27] (fun i wr => ∃ k : Nat, k ≤ st.length ∧ i = .int .i64 k ∧ Below W.heap.size W wr) (fun i _ => st.length - (intOf i).toNat)
 case atStart => exact ⟨0, Nat.zero_le _, rfl, Below.refl _ _⟩
 case round =>
  obtain ⟨k, hk, rfl, hb⟩ := hrel
  have HB := Lib.hid hb; clear hb
  by_cases hlt : k < st.length
  ·obtain ⟨ad, c', hs, hcap, hcell⟩ := sl_cell (Hs.out.below (KB.out _ HB.out)) k hlt
   simp only [Value.slice.injEq, true_and] at hs
   obtain ⟨rfl, rfl⟩ := hs
   obtain ⟨x0, x1, x2, x3⟩ := KX.out _ HB.out
   have hn0 := Hv.out.bds _ (List.getElem_mem hlt)
   obtain ⟨n, hn⟩ : ∃ n, n = st[k] := ⟨_, rfl⟩
   rw [← hn] at hcell hn0
   have Hn := Lib.hid hn; clear hn
   unfold iv at hcell
   have hst := fun W2 => isstate_any (S : Int) n (.slice (some ad) st.length cs) (.slice Af fin.length cf) (.slice Aa ar.length ca) W2
   rw [show decide (0 ≤ n ∧ n < (S : Int)) = true from decide_eq_true hn0] at hst
   have Hst := Lib.hid hst; clear hst
   go_wp2_with fail
   refine (Hst.out wr).mono ?_
   rintro e w5 ⟨rfl, hb5⟩
   have HB5 := Lib.hid (below_ext2 HB.out hb5)
   have KC := Lib.hid (show ∀ (j : Nat) (u : Value), wr.cell? (ad.add j) = some u → w5.cell? (ad.add j) = some u from fun j u h => by rw [hb5.cell (World.block_lt_of_cell? _ _ h)]; exact h)
   have hc5 := KC.out k _ hcell
   clear x0 x1 x2 x3 hcell hb5
   obtain ⟨x0, x1, x2, x3⟩ := KX.out _ HB5.out
   by_cases hk0 : k = 0
   ·subst hk0
    go_wp2
    go_roundw
    case rel => exact ⟨1, by omega, by go_num, HB5.out⟩
    case measure => simp [intOf]; omega
   ·obtain ⟨j, hj⟩ : ∃ j : Nat, j + 1 = k := ⟨k - 1, by omega⟩
    have hjl : j < st.length := by omega
    obtain ⟨ad', c', hs2, _, hcell2⟩ := sl_cell (Hs.out.below (KB.out _ HB.out)) j hjl
    simp only [Value.slice.injEq, true_and, Option.some.injEq] at hs2
    obtain ⟨rfl, rfl⟩ := hs2
    have hd5 := KC.out j _ hcell2
    have hlt3 : st[j] < n := by
     rw [Hn.out]
     exact List.pairwise_iff_getElem.1 Hv.out.asc j k hjl hlt (by omega)
    obtain ⟨m, hm⟩ : ∃ m, m = st[j] := ⟨_, rfl⟩
    rw [← hm] at hd5 hlt3
    clear hm hcell2
    unfold iv at hd5
    have e1 : (k : Int) - 1 = (j : Int) := by omega
    have g0 : (0 : Int) ≤ (j : Int) := by omega
    have g1 : (j : Int) < (st.length : Int) := by omega
    have t5 : decide ((0 : Int) < (k : Int)) = true := decide_eq_true (by omega)
    have t6 : decide (n ≤ m) = false := decide_eq_false (by omega)
    have hkp : 0 < k := by omega
    clear hj hk0
    go_wp2
    go_roundw
    case rel => exact ⟨k + 1, by omega, by go_num, HB5.out⟩
    case measure => simp [intOf]; omega
  ·obtain ⟨x0, x1, x2, x3⟩ := KX.out _ HB.out
   go_wp2_with fail
   clear hlt hk x0 x1 x2 x3
   have HB0 := Lib.hid HB.out
   clear HB
   go_loopw [54] (fun i wr => ∃ k : Nat, k ≤ ar.length ∧ i = .int .i64 k ∧ Below W.heap.size W wr) (fun i _ => ar.length - (intOf i).toNat)
   case atStart => exact ⟨0, Nat.zero_le _, rfl, HB0.out⟩
   case round =>
    obtain ⟨k, hk, rfl, hb⟩ := hrel
    have HB := Lib.hid hb; clear hb
    by_cases hlt : k < ar.length
    ·obtain ⟨ad, rfl, _, hcap, y0, y1, y2⟩ := (Ha.out.below (KB.out _ HB.out)).at k hlt
     have hfr := Hv.out.va.fr _ (List.getElem_mem hlt)
     have hle := Hv.out.va.lt _ (List.getElem_mem hlt)
     have hto := Hv.out.va.to _ (List.getElem_mem hlt)
     obtain ⟨⟨z0, z1, z2⟩, hz⟩ : ∃ z, z = ar[k] := ⟨_, rfl⟩
     rw [← hz] at y0 y1 y2 hfr hle hto
     dsimp only at y0 y1 y2 hfr hle hto
     have Hz := Lib.hid hz; clear hz
     have g0 : (0 : Int) ≤ (k : Int) := by omega
     have g1 : (k : Int) < (ar.length : Int) := by omega
     obtain ⟨x0, x1, x2, x3⟩ := KX.out _ HB.out
     have hsa := fun W2 => isstate_any (S : Int) z0 (.slice As st.length cs) (.slice Af fin.length cf) (.slice (some ad) ar.length ca) W2
     have hsb := fun W2 => isstate_any (S : Int) z2 (.slice As st.length cs) (.slice Af fin.length cf) (.slice (some ad) ar.length ca) W2
     rw [show decide (0 ≤ z0 ∧ z0 < (S : Int)) = true from decide_eq_true hfr] at hsa
     rw [show decide (0 ≤ z2 ∧ z2 < (S : Int)) = true from decide_eq_true hto] at hsb
     have Hsa := Lib.hid hsa; have Hsb := Lib.hid hsb
     have hbal := HB.out.alloc HB.out.size (.cells #[.int .i64 z0, .int .i64 z1, .int .i64 z2] 52)
     have Hbal := Lib.hid hbal
     clear hsa hsb hbal
     have hlw : w.heap.size < wr.heap.size := by have := HB.out.size; have := HWs.out; omega
     go_wp2_with fail
     obtain ⟨V, hV⟩ : ∃ V, V = wr.alloc (.cells #[.int .i64 z0, .int .i64 z1, .int .i64 z2] 52) := ⟨_, rfl⟩
     have hVb : V.heap[wr.heap.size]? = some (.cells #[.int .i64 z0, .int .i64 z1, .int .i64 z2] 52 (0, 0)) := by rw [hV]; exact heap_alloc_new wr _
     have hbal := Hbal.out
     rw [← hV] at hbal
     rw [← hV]
     have HbV := Lib.hid hbal
     have KV := Lib.hid (show ∀ w', Below V.heap.size V w' → (w'.cell? ⟨w.heap.size, 0, none⟩ = some (.int .i64 (S : Int)) ∧ w'.cell? ⟨w.heap.size, 1, none⟩ = some (.slice As st.length cs) ∧ w'.cell? ⟨w.heap.size, 2, none⟩ = some (.slice Af fin.length cf) ∧ w'.cell? ⟨w.heap.size, 3, none⟩ = some (.slice (some ad) ar.length ca)) ∧ w'.cell? ⟨wr.heap.size, 0, none⟩ = some (.int .i64 z0) ∧ w'.cell? ⟨wr.heap.size, 1, none⟩ = some (.int .i64 z1) ∧ w'.cell? ⟨wr.heap.size, 2, none⟩ = some (.int .i64 z2) from fun w' h => by
      have g1 := (h.block _ (lt_of_some hVb)).trans hVb
      exact ⟨KX.out _ (below_ext2 hbal h), cell_of_row _ _ 0 _ _ _ g1, cell_of_row _ _ 1 _ _ _ g1, cell_of_row _ _ 2 _ _ _ g1⟩)
     clear hV hVb hbal Hbal x0 x1 x2 x3 y0 y1 y2
     refine (Hsa.out V).mono ?_
     rintro e w5 ⟨rfl, hb5⟩
     have B5 := Lib.hid hb5; clear hb5
     obtain ⟨⟨x0, x1, x2, x3⟩, y0, y1, y2⟩ := KV.out _ B5.out
     go_wp2_with fail
     refine (Hsb.out w5).mono ?_
     rintro e w6 ⟨rfl, hb6⟩
     have B6 := Lib.hid (below_ext2 B5.out hb6); clear hb6 x0 x1 x2 x3 y0 y1 y2
     obtain ⟨⟨x0, x1, x2, x3⟩, y0, y1, y2⟩ := KV.out _ B6.out
     -- what follows the test
     have hcmp : ∀ j (hj : j < ar.length), j + 1 = k → cmpA ar[j] (z0, z1, z2) < 0 := fun j hj hjk => by
      rw [Hz.out]; exact Hv.out.va.srt.lt (by omega) hlt
     have Hcm := Lib.hid hcmp; clear hcmp
     have Hl := Lib.hid (isletter_any z1 w6)
     by_cases hz1 : z1 = 0
     ·have u0 : (z1 != 0) = false := by rw [hz1]; rfl
      clear hz1
      go_wp2_with fail
      by_cases hk0 : k = 0
      ·subst hk0
       have t5 : decide ((0 : Int) < ((0 : Nat) : Int)) = false := by simp
       go_quiet (fail)
       go_wp2
       go_roundw
       case rel => exact ⟨1, by omega, by go_num, Below.drewN' (below_ext2 HbV.out B6.out) _⟩
       case measure => simp [intOf]; omega
      ·obtain ⟨j, hj⟩ : ∃ j : Nat, j + 1 = k := ⟨k - 1, by omega⟩
       have hjl : j < ar.length := by omega
       have hcm := Hcm.out j hjl hj
       obtain ⟨ad', e0, _, _, p0, p1, p2⟩ := (Ha.out.below (KB.out _ (below_ext2 HbV.out B6.out))).at j hjl
       cases e0
       obtain ⟨⟨c0, c1, c2⟩, hc⟩ : ∃ z, z = ar[j] := ⟨_, rfl⟩
       rw [← hc] at p0 p1 p2 hcm
       dsimp only at p0 p1 p2
       obtain ⟨r, hr⟩ : ∃ r, r = cmpA (c0, c1, c2) (z0, z1, z2) := ⟨_, rfl⟩
       rw [← hr] at hcm
       have hcmp := fun W2 : World => compare_any (c0, c1, c2) (z0, z1, z2) W2
       rw [← hr] at hcmp
       unfold av at hcmp
       dsimp only at hcmp
       have Hcmp := Lib.hid hcmp
       have KP := Lib.hid (show ∀ w', Below w6.heap.size w6 w' → w'.cell? ⟨w.heap.size, 3, none⟩ = some (.slice (some ad) ar.length ca) ∧ w'.cell? (ad.add (j * 3)) = some (.int .i64 c0) ∧ w'.cell? ⟨(ad.add (j * 3)).block, (ad.add (j * 3)).off + 1, none⟩ = some (.int .i64 c1) ∧ w'.cell? ⟨(ad.add (j * 3)).block, (ad.add (j * 3)).off + 2, none⟩ = some (.int .i64 c2) ∧ w'.cell? ⟨wr.heap.size, 0, none⟩ = some (.int .i64 z0) ∧ w'.cell? ⟨wr.heap.size, 1, none⟩ = some (.int .i64 z1) ∧ w'.cell? ⟨wr.heap.size, 2, none⟩ = some (.int .i64 z2) from fun w' h => by
        obtain ⟨⟨_, _, _, k3⟩, k4, k5, k6⟩ := KV.out _ (below_ext2 B6.out h)
        have hb := fun (a : Addr) (u : Value) (h2 : w6.cell? a = some u) => (h.cell (World.block_lt_of_cell? _ _ h2)).trans h2
        exact ⟨k3, hb _ _ p0, hb _ _ p1, hb _ _ p2, k4, k5, k6⟩)
       clear hc hr hcmp x0 x1 x2 x3 y0 y1 y2 p0 p1 p2
       obtain ⟨x3, p0, p1, p2, y0, y1, y2⟩ := KP.out _ (Below.refl _ _)
       have e1 : IntKind.i64.wrap ((k : Int) - 1) = (j : Int) := by rw [IntKind.wrap_i64]; omega
       have m0 : (0 : Int) ≤ (j : Int) := by omega
       have m1 : (j : Int) < (ar.length : Int) := by omega
       have t5 : decide ((0 : Int) < (k : Int)) = true := decide_eq_true (by omega)
       have t6 : decide (0 ≤ r) = false := decide_eq_false (by omega)
       have hkp : 0 < k := by omega
       clear hj hk0
       go_region_held3 (fun w' => w'.cell? ⟨w.heap.size, 3, none⟩ = some (.slice (some ad) ar.length ca) ∧ w'.cell? (ad.add (j * 3)) = some (.int .i64 c0) ∧ w'.cell? ⟨(ad.add (j * 3)).block, (ad.add (j * 3)).off + 1, none⟩ = some (.int .i64 c1) ∧ w'.cell? ⟨(ad.add (j * 3)).block, (ad.add (j * 3)).off + 2, none⟩ = some (.int .i64 c2) ∧ w'.cell? ⟨wr.heap.size, 0, none⟩ = some (.int .i64 z0) ∧ w'.cell? ⟨wr.heap.size, 1, none⟩ = some (.int .i64 z1) ∧ w'.cell? ⟨wr.heap.size, 2, none⟩ = some (.int .i64 z2))
        (first | (exact ⟨x3, p0, p1, p2, y0, y1, y2⟩) | (exact KP.out _ hb7))
        (first
         | (go_at_call 45; refine (Hcmp.out _).mono ?_; rintro e w7 ⟨rfl, hb7'⟩; have hb7 : Below w6.heap.size w6 w7 := ⟨hb7'.os, hb7'.tape, hb7'.output, hb7'.size, hb7'.block⟩))
       have B7 := Lib.hid (below_ext2 B6.out hb7)
       clear hb7 hb7'
       go_wp2
       go_roundw
       case rel => exact ⟨k + 1, by omega, by go_num, below_ext2 HbV.out B7.out⟩
       case measure => simp [intOf]; omega
     ·have u0 : (z1 != 0) = true := by simpa using hz1
      have hl1 := Hl.out
      rw [show decide (1 ≤ z1 ∧ z1 ≤ 10000) = true from decide_eq_true (by omega)] at hl1
      clear hz1
      have Hl1 := Lib.hid hl1; clear hl1
      go_wp2_with fail
      refine Hl1.out.mono ?_
      rintro e w9 ⟨rfl, rfl⟩
      go_wp2_with fail
      by_cases hk0 : k = 0
      ·subst hk0
       have t5 : decide ((0 : Int) < ((0 : Nat) : Int)) = false := by simp
       go_quiet (fail)
       go_wp2
       go_roundw
       case rel => exact ⟨1, by omega, by go_num, Below.drewN' (below_ext2 HbV.out B6.out) _⟩
       case measure => simp [intOf]; omega
      ·obtain ⟨j, hj⟩ : ∃ j : Nat, j + 1 = k := ⟨k - 1, by omega⟩
       have hjl : j < ar.length := by omega
       have hcm := Hcm.out j hjl hj
       obtain ⟨ad', e0, _, _, p0, p1, p2⟩ := (Ha.out.below (KB.out _ (below_ext2 HbV.out B6.out))).at j hjl
       cases e0
       obtain ⟨⟨c0, c1, c2⟩, hc⟩ : ∃ z, z = ar[j] := ⟨_, rfl⟩
       rw [← hc] at p0 p1 p2 hcm
       dsimp only at p0 p1 p2
       obtain ⟨r, hr⟩ : ∃ r, r = cmpA (c0, c1, c2) (z0, z1, z2) := ⟨_, rfl⟩
       rw [← hr] at hcm
       have hcmp := fun W2 : World => compare_any (c0, c1, c2) (z0, z1, z2) W2
       rw [← hr] at hcmp
       unfold av at hcmp
       dsimp only at hcmp
       have Hcmp := Lib.hid hcmp
       have KP := Lib.hid (show ∀ w', Below w6.heap.size w6 w' → w'.cell? ⟨w.heap.size, 3, none⟩ = some (.slice (some ad) ar.length ca) ∧ w'.cell? (ad.add (j * 3)) = some (.int .i64 c0) ∧ w'.cell? ⟨(ad.add (j * 3)).block, (ad.add (j * 3)).off + 1, none⟩ = some (.int .i64 c1) ∧ w'.cell? ⟨(ad.add (j * 3)).block, (ad.add (j * 3)).off + 2, none⟩ = some (.int .i64 c2) ∧ w'.cell? ⟨wr.heap.size, 0, none⟩ = some (.int .i64 z0) ∧ w'.cell? ⟨wr.heap.size, 1, none⟩ = some (.int .i64 z1) ∧ w'.cell? ⟨wr.heap.size, 2, none⟩ = some (.int .i64 z2) from fun w' h => by
        obtain ⟨⟨_, _, _, k3⟩, k4, k5, k6⟩ := KV.out _ (below_ext2 B6.out h)
        have hb := fun (a : Addr) (u : Value) (h2 : w6.cell? a = some u) => (h.cell (World.block_lt_of_cell? _ _ h2)).trans h2
        exact ⟨k3, hb _ _ p0, hb _ _ p1, hb _ _ p2, k4, k5, k6⟩)
       clear hc hr hcmp x0 x1 x2 x3 y0 y1 y2 p0 p1 p2
       obtain ⟨x3, p0, p1, p2, y0, y1, y2⟩ := KP.out _ (Below.refl _ _)
       have e1 : IntKind.i64.wrap ((k : Int) - 1) = (j : Int) := by rw [IntKind.wrap_i64]; omega
       have m0 : (0 : Int) ≤ (j : Int) := by omega
       have m1 : (j : Int) < (ar.length : Int) := by omega
       have t5 : decide ((0 : Int) < (k : Int)) = true := decide_eq_true (by omega)
       have t6 : decide (0 ≤ r) = false := decide_eq_false (by omega)
       have hkp : 0 < k := by omega
       clear hj hk0
       go_region_held3 (fun w' => w'.cell? ⟨w.heap.size, 3, none⟩ = some (.slice (some ad) ar.length ca) ∧ w'.cell? (ad.add (j * 3)) = some (.int .i64 c0) ∧ w'.cell? ⟨(ad.add (j * 3)).block, (ad.add (j * 3)).off + 1, none⟩ = some (.int .i64 c1) ∧ w'.cell? ⟨(ad.add (j * 3)).block, (ad.add (j * 3)).off + 2, none⟩ = some (.int .i64 c2) ∧ w'.cell? ⟨wr.heap.size, 0, none⟩ = some (.int .i64 z0) ∧ w'.cell? ⟨wr.heap.size, 1, none⟩ = some (.int .i64 z1) ∧ w'.cell? ⟨wr.heap.size, 2, none⟩ = some (.int .i64 z2))
        (first | (exact ⟨x3, p0, p1, p2, y0, y1, y2⟩) | (exact KP.out _ hb7))
        (first
         | (go_at_call 45; refine (Hcmp.out _).mono ?_; rintro e w7 ⟨rfl, hb7'⟩; have hb7 : Below w6.heap.size w6 w7 := ⟨hb7'.os, hb7'.tape, hb7'.output, hb7'.size, hb7'.block⟩))
       have B7 := Lib.hid (below_ext2 B6.out hb7)
       clear hb7 hb7'
       go_wp2
       go_roundw
       case rel => exact ⟨k + 1, by omega, by go_num, below_ext2 HbV.out B7.out⟩
       case measure => simp [intOf]; omega
    ·go_wp2
     go_ret
     exact ⟨rfl, KB.out _ HB.out⟩
end Go.Proofs.YtockgbilbnheaaaDoor
