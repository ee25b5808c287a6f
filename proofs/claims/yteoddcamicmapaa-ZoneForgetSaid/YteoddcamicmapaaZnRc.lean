/- Layer 13: the reference's full and Close (tools/gen_zc.py). -/
import Derived.Test.YteoddcamicmapaaZnRp
namespace Go.Proofs.Yteoddcamicmapaa
open Go.RowKit

theorem info_Zr : (Try.prog.info? 24).map (fun i => (i.zero, i.size, i.bytes)) = some (some (.agg #[.int .i64 0, .slice none 0 0]), 2, 32) := by kernel_rfl
theorem rfull_any (i j : Nat) (w : World) (hi : i ≤ 1000) (hj : j ≤ 1000) : Calls Try.prog 48 #[.int .i64 (i : Int), .int .i64 (j : Int)] w (Tells w (.int .i64 (fuB i j))) := by
  unfold fuB
  by_cases h1 : i = j
  · subst h1
    rw [if_pos rfl]
    go_enter Try.func48, Try.ntmps48
    go_wp2
    go_ret
    exact Tells.of (below_drewN _ 0)
  · rw [if_neg h1]
    have h1' : ((i : Int) == (j : Int)) = false := by rw [beq_eq_false_iff_ne]; omega
    by_cases h2 : i = 0 ∨ j = 0
    · rw [if_pos h2]
      rcases h2 with rfl | rfl
      · go_enter Try.func48, Try.ntmps48
        go_wp2
        go_ret
        exact Tells.of (below_drewN _ 0)
      · have h3 : ((i : Int) == 0) = false := by rw [beq_eq_false_iff_ne]; omega
        go_enter Try.func48, Try.ntmps48
        go_wp2
        go_ret
        exact Tells.of (below_drewN _ 0)
    · rw [if_neg h2]
      have h3 : ((i : Int) == 0) = false := by rw [beq_eq_false_iff_ne]; omega
      have h4 : ((j : Int) == 0) = false := by rw [beq_eq_false_iff_ne]; omega
      go_enter Try.func48, Try.ntmps48
      go_wp2
      go_ret
      exact Tells.of (below_drewN _ 0)
/-- An entry of a row of the call's own, wherever the world has grown. -/
theorem own_gt {w : World} {B g n c i j : Nat} {l : List Int} (h : Own w B (.slice (some ⟨g, 0, none⟩) (n * n) c) (n * n) l) (hl : l.length = n * n) (hi : i < n) (hj : j < n) :
    ∀ w6, Below w.heap.size w w6 → w6.cell? ⟨g, i * n + j, none⟩ = some (.int .i64 (gt n l i j)) := fun w6 hx => by
  have hp : i * n + j < l.length := by rw [hl]; exact sq_lt hi hj
  rw [own_at (h.keep hx) _ hp, gt_at hp]
theorem own_upd {w w6 : World} {B g n c p : Nat} {l : List Int} {x : Int} (h : Own w B (.slice (some ⟨g, 0, none⟩) (n * n) c) (n * n) l) (hx : Below w.heap.size w w6) : Own (w6.setCell ⟨g, p, none⟩ (.int .i64 x)) B (.slice (some ⟨g, 0, none⟩) (n * n) c) (n * n) (l.set p x) := own_put (h.keep hx) p x
set_option maxRecDepth 20000 in
set_option maxHeartbeats 1000000 in
theorem rclose_any (N : Int) (v : Value) (b : List Int) (w : World) (h : Sl iv w v b) (hl : b.length ≤ 9223372036854775807) : Calls Try.prog 26 #[.agg #[.int .i64 N, v]] w (ZP w (closeZ N b)) := by
  obtain ⟨A, c, rfl⟩ := h.shape
  have H := Lib.hid h
  clear h
  cases hp : zvB N b with
  | false =>
    have HR := Lib.hid (closeZ_none (closeR_bad hp))
    have Hp := Lib.hid hp
    clear hp
    go_enter Try.func26, Try.ntmps26
    go_wp2_with fail
    refine (rvalid_any N _ b _ (H.out.below (al2 w _ _)) hl).mono ?_; rintro e w1 ⟨rfl, hb⟩; rw [Hp.out]
    have HX2 := Lib.hid (Bx.two' rfl hb)
    have HB := Lib.hid ((al2 w (.cells #[.int .i64 N, .slice A b.length c] 24) (.cells #[.int .i64 0, .slice none 0 0] 24)).trans (hb.mono (by simp; omega)))
    obtain ⟨x0, x1⟩ := HX2.out.k2
    obtain ⟨f0, f1⟩ := HX2.out.f2
    clear hb
    go_wp2_with fail
    refine bodyPost_ret (v := .tuple #[.agg #[.int .i64 0, .slice none 0 0], .bool false]) (bx_ret2 ((HX2.out.set 0 _).set 1 _) Try.results26 _ rfl Try.underlying24 rfl (by kernel_rfl)) rfl ?_
    exact zp_zero HR.out (by omega) HB.out
  | true =>
    obtain ⟨m, rfl, hm, hlen, hz⟩ := zv_nat hp
    have HZ := Lib.hid hz
    have HL := Lib.hid hlen
    have Hp := Lib.hid hp
    have hb0 : 0 < b.length := by rw [hlen]; exact Nat.mul_pos (by omega) (by omega)
    have hb1 : b.length ≤ 1000000000 := by rw [hlen]; exact Nat.le_trans (Nat.mul_le_mul (by omega : m + 1 ≤ 25) (by omega : m + 1 ≤ 25)) (by decide)
    clear hp hz hlen
    go_enter Try.func26, Try.ntmps26
    go_wp2_with fail
    refine (rvalid_any (m : Int) _ b _ (H.out.below (al2 w _ _)) hl).mono ?_; rintro e w1 ⟨rfl, hb⟩; rw [Hp.out]
    have HX := Lib.hid (Bx.two rfl hb)
    have HR0 := Lib.hid (Bx.two' rfl hb)
    have HB := Lib.hid ((al2 w (.cells #[.int .i64 (m : Int), .slice A b.length c] 24) (.cells #[.int .i64 0, .slice none 0 0] 24)).trans (hb.mono (by simp; omega)))
    have HS1 := Lib.hid (show w.heap.size + 2 ≤ w1.heap.size from by have := hb.size; simp at this; omega)
    obtain ⟨x0, x1⟩ := HX.out.k2
    clear hb
    go_wp2_with fail
    clear x0 x1
    refine region_inv (n := 127) (CpI (w1) 24 (w.heap.size) (.int .i64 (m : Int)) (.slice A b.length c) (b)) (by kernel_rfl) (by kernel_rfl) rfl ?_ (allOps_spec ?_) ?_
    · intro vs
      exact CpI.start
    · refine ⟨?_, ?_, ?_, ?_, ?_, ?_, ?_, ?_, ?_, trivial⟩
      · intro L vs a w6 hB hL hd hI
        have b0 : a.tmps[1]?.getD undef = .pointer (some ⟨w.heap.size, 0, none⟩) := hB.at 1 (by kernel_rfl)
        exact stepI_run (v := .pointer (some ⟨w.heap.size, 0, none⟩)) rfl (by simp [execOp, go_sem, Act.eval, b0]) hI.t0
      · intro L vs a w6 hB hL hd hI
        have b0 : a.tmps[19]?.getD undef = .pointer (some ⟨w.heap.size, 0, none⟩) := (hB.val 0 (hd ⟨0, .data⟩ (by simp) rfl) 19 rfl).trans (hI.q0 (hd ⟨0, .data⟩ (by simp) rfl))
        have q0 := (Bx.below HX.out hI.bel).cell 0
        exact stepI_run (v := .int .i64 (m : Int)) rfl (by simp [execOp, go_sem, Act.eval, b0, q0]) hI.t1
      · intro L vs a w6 hB hL hd hI
        have h5 : L 5 = false := hB.wait 2 5 hL (by kernel_rfl)
        exact stepI_run (v := .slice (some ⟨w6.heap.size, 0, none⟩) 0 0) rfl (by simp [execOp, go_sem, Act.eval]) (hI.t2 h5)
      · intro L vs a w6 hB hL hd hI
        have b0 : a.tmps[1]?.getD undef = .pointer (some ⟨w.heap.size, 0, none⟩) := hB.at 1 (by kernel_rfl)
        exact stepI_run (v := .pointer (some ⟨w.heap.size, 1, none⟩)) rfl (by simp [execOp, go_sem, Act.eval, b0]) hI.t3
      · intro L vs a w6 hB hL hd hI
        have b0 : a.tmps[22]?.getD undef = .pointer (some ⟨w.heap.size, 1, none⟩) := (hB.val 3 (hd ⟨3, .data⟩ (by simp) rfl) 22 rfl).trans (hI.q3 (hd ⟨3, .data⟩ (by simp) rfl))
        have q1 := (Bx.below HX.out hI.bel).cell 1
        exact stepI_run (v := .slice A b.length c) rfl (by simp [execOp, go_sem, Act.eval, b0, q1]) hI.t4
      · intro L vs a w6 hB hL hd hI
        have h2 : L 2 = true := hd ⟨2, .data⟩ (by simp) rfl
        have b0 : a.tmps[21]?.getD undef = vs 2 := hB.val 2 h2 21 rfl
        have b1 : a.tmps[23]?.getD undef = .slice A b.length c := (hB.val 4 (hd ⟨4, .data⟩ (by simp) rfl) 23 rfl).trans (hI.q4 (hd ⟨4, .data⟩ (by simp) rfl))
        have h6 : L 6 = false := hB.wait 5 6 hL (by kernel_rfl)
        have h8 : L 8 = false := hB.wait 6 8 h6 (by kernel_rfl)
        exact stepI_cp hI (by kernel_rfl) info_int rfl rfl b0 b1 (H.out.below HB.out) hb0 hb1 h2 hL h6 h8
      · intro L vs a w6 hB hL hd hI
        have h5 : L 5 = true := hd ⟨5, .data⟩ (by simp) rfl
        have b0 : a.tmps[20]?.getD undef = .int .i64 (m : Int) := (hB.val 1 (hd ⟨1, .data⟩ (by simp) rfl) 20 rfl).trans (hI.q1 (hd ⟨1, .data⟩ (by simp) rfl))
        obtain ⟨A9, c9, e9, -⟩ := hI.q5 h5
        have b1 : a.tmps[24]?.getD undef = .slice A9 (b).length c9 := (hB.val 5 h5 24 rfl).trans e9
        exact stepI_run (v := .agg #[.int .i64 (m : Int), vs 5]) rfl (by simp [execOp, go_sem, Act.eval, b0, b1, e9]) (hI.t6 h5)
      · intro L vs a w6 hB hL hd hI
        have h8 : L 8 = false := hB.wait 7 8 hL (by kernel_rfl)
        exact stepI_run (v := .pointer (some ⟨w6.heap.size, 0, none⟩)) (w' := w6.alloc (.cells #[.int .i64 0, .slice none 0 0] 24)) rfl (exec_alloc 24 rfl info_Zr) (hI.t7 h8)
      · intro L vs a w6 hB hL hd hI
        have h6 : L 6 = true := hd ⟨6, .data⟩ (by simp) rfl
        have h7 : L 7 = true := hd ⟨7, .data⟩ (by simp) rfl
        obtain ⟨h5, e6⟩ := hI.q6 h6
        obtain ⟨nb, h8v, hnb, hx, -⟩ := hI.q7 h7
        obtain ⟨A9, c9, e9, -⟩ := hI.q5 h5
        rw [hL, if_neg Bool.false_ne_true] at hx
        have b6 : a.tmps[5]?.getD undef = .pointer (some ⟨nb, 0, none⟩) := (hB.val 7 h7 5 rfl).trans h8v
        have b22 : a.tmps[25]?.getD undef = .agg #[.int .i64 (m : Int), vs 5] := (hB.val 6 h6 25 rfl).trans e6
        exact stepI_store_row rfl 24 5 25 rfl nb _ b6 b22 _ hx (by kernel_rfl) rfl (by rw [e9]; simp [Value.oneCell']) (hI.t8 h7 h5 h8v)
    · intro L vs w3 hall hI
      obtain ⟨nb, A4, c4, e6, hnb, hx4, ho4, hne4, hb4⟩ := hI.fin fun i hi => hall i hi
      clear hI hall
      simp only [putAll, Act.put, List.setIfInBounds_toArray, List.set_cons_zero, List.set_cons_succ, Nat.zero_add, Nat.reduceAdd, e6]
      clear e6
      obtain ⟨g, cap, hg, hg1, hg2, -⟩ := own_shape ho4 hb0
      simp only [Value.slice.injEq] at hg
      obtain ⟨rfl, -, rfl⟩ := hg
      have hgn : g ≠ nb := fun e => hne4 (by rw [e]; rfl)
      rw [HL.out] at ho4 hx4
      have HO0 := Lib.hid (show Own w3 w1.heap.size (.slice (some ⟨g, 0, none⟩) ((m + 1) * (m + 1)) c4) ((m + 1) * (m + 1)) (mixL (m + 1) (dm (m + 1) b) (gt (m + 1) b) (0 * (m + 1))) from by rw [Nat.zero_mul, mix_zero, flat_gt HL.out]; exact ho4)
      have HB3 := Lib.hid (HB.out.trans (hb4.mono HB.out.size))
      have HR3 := Lib.hid (HR0.out.below hb4)
      have HNB0 := Lib.hid hx4
      have hs1 := HS1.out
      clear hx4 ho4 hne4 hb4 HX HR0 HB
      go_wp2_with fail
      go_loopw [6] (fun iv wr => ∃ i : Nat, i ≤ m + 1 ∧ iv = .int .i64 (i : Int) ∧ Hid (Own wr w1.heap.size (.slice (some ⟨g, 0, none⟩) ((m + 1) * (m + 1)) c4) ((m + 1) * (m + 1)) (mixL (m + 1) (dm (m + 1) b) (gt (m + 1) b) (i * (m + 1)))) ∧ Hid (Below w.heap.size w wr) ∧ Hid (Bx wr (w.heap.size + 1) 24 #[.int .i64 0, .slice none 0 0]) ∧ Bx wr nb 24 #[.int .i64 (m : Int), .slice (some ⟨g, 0, none⟩) ((m + 1) * (m + 1)) c4]) (fun i _ => m + 1 - (intOf i).toNat)
      case atStart => exact ⟨0, Nat.zero_le _, rfl, HO0, HB3, HR3, HNB0.out⟩
      case round =>
        clear HO0 HB3 HR3 HNB0
        obtain ⟨i, hi, rfl, HO, HBE, HRB, hx⟩ := hrel
        by_cases hil : i < m + 1
        · have di : decide ((i : Int) < (m : Int) + 1) = true := decide_eq_true (by omega)
          have HX := Lib.hid hx
          clear hx
          go_wp2_with fail
          go_loopw [7] (fun jv wr => ∃ j : Nat, j ≤ m + 1 ∧ jv = .int .i64 (j : Int) ∧ Hid (Own wr w1.heap.size (.slice (some ⟨g, 0, none⟩) ((m + 1) * (m + 1)) c4) ((m + 1) * (m + 1)) (mixL (m + 1) (dm (m + 1) b) (gt (m + 1) b) (i * (m + 1) + j))) ∧ Hid (Below w.heap.size w wr) ∧ Hid (Bx wr (w.heap.size + 1) 24 #[.int .i64 0, .slice none 0 0]) ∧ Bx wr nb 24 #[.int .i64 (m : Int), .slice (some ⟨g, 0, none⟩) ((m + 1) * (m + 1)) c4]) (fun i _ => m + 1 - (intOf i).toNat)
          case atStart => exact ⟨0, Nat.zero_le _, rfl, HO, HBE, HRB, HX.out⟩
          case round =>
            clear HO HBE HRB HX
            obtain ⟨j, hj, rfl, HO, HBE, HRB, hx⟩ := hrel
            by_cases hjl : j < m + 1
            · have HNB := Lib.hid hx
              have dj : decide ((j : Int) < (m : Int) + 1) = true := decide_eq_true (by omega)
              have hsq := sq_lt hil hjl
              have hmf := mul_few hm (show i ≤ m by omega)
              have HSET := Lib.hid (mix_set (dm (m + 1) b) (gt (m + 1) b) hil hjl)
              have hc := own_gt HO.out (mix_len _ _ _ _) hil hjl
              rw [mix_new _ _ hil hjl] at hc
              have hdm : dm (m + 1) b i j = min (gt (m + 1) b i j) (fuB i j) := rfl
              have HFU := Lib.hid (fun w6 => rfull_any i j w6 (by omega) (by omega))
              generalize gt (m + 1) b i j = y at *
              generalize fuB i j = f at *
              generalize dm (m + 1) b i j = x at *
              have hp1 : ((i * (m + 1) + j : Nat) : Int) < ((((m + 1) * (m + 1)) : Nat) : Int) := by omega
              have hrm : (i : Int) * ((m : Int) + 1) = ((i * (m + 1) : Nat) : Int) := by push_cast; rfl
              generalize hrr : i * (m + 1) = r at *
              have hpa : (r : Int) + (j : Int) = ((r + j : Nat) : Int) := by push_cast; rfl
              generalize hpp : r + j = p at *
              have hp2 : ¬ (((m : Int) + 1) * ((m : Int) + 1) ≤ (p : Int)) := by push_cast at hp1; omega
              have HRM := Lib.hid hrm
              have HRW := Lib.hid (show IntKind.i64.wrap (r : Int) = (r : Int) from by rw [IntKind.wrap_i64]; omega)
              have HPA := Lib.hid hpa
              have HPB := Lib.hid (show IntKind.i64.wrap (p : Int) = (p : Int) from by rw [IntKind.wrap_i64]; omega)
              have HC := Lib.hid hc
              clear hx hc hsq hp1 hrm hpa
              go_wp2_with fail
              refine region_inv (n := 127) (RdG (fun zz => match zz with | 0 => .pointer (some ⟨nb, 1, none⟩) | 1 => .slice (some ⟨g, 0, none⟩) ((m + 1) * (m + 1)) c4 | 2 => .int .i64 (i : Int) | 3 => .int .i64 ((m : Int) + 1) | 4 => .int .i64 (r : Int) | 5 => .int .i64 (j : Int) | 6 => .int .i64 (p : Int) | 7 => .pointer (some ⟨nb, 1, none⟩) | 8 => .slice (some ⟨g, 0, none⟩) ((m + 1) * (m + 1)) c4 | 9 => .int .i64 (i : Int) | 10 => .int .i64 ((m : Int) + 1) | 11 => .int .i64 (r : Int) | 12 => .int .i64 (j : Int) | 13 => .int .i64 (p : Int) | 14 => .pointer (some ⟨g, p, none⟩) | 15 => .int .i64 y | 16 => .int .i64 (i : Int) | 17 => .int .i64 (j : Int) | 18 => .int .i64 f | 19 => .int .i64 x | 20 => .pointer (some ⟨g, p, none⟩) | _ => undef) 21 (wr) (⟨g, p, none⟩) (.int .i64 x)) (by kernel_rfl) (by kernel_rfl) rfl ?_ (allOps_spec ?_) ?_
              · intro vs
                exact RdG.start
              · refine ⟨?_, ?_, ?_, ?_, ?_, ?_, ?_, ?_, ?_, ?_, ?_, ?_, ?_, ?_, ?_, ?_, ?_, ?_, ?_, ?_, ?_, ?_, trivial⟩
                · intro L vs a w6 hB hL hd hI
                  have b5 : a.tmps[5]?.getD undef = .pointer (some ⟨nb, 0, none⟩) := hB.at 5 (by kernel_rfl)
                  have hx : Below (wr).heap.size (wr) w6 := hI.ext (hB.wait 0 21 hL (by kernel_rfl))
                  exact stepI_run (v := .pointer (some ⟨nb, 1, none⟩)) rfl (by simp [execOp, go_sem, Act.eval, b5]) (hI.step 0 (by decide) rfl)
                · intro L vs a w6 hB hL hd hI
                  have b36 : a.tmps[36]?.getD undef = .pointer (some ⟨nb, 1, none⟩) := (hB.val 0 (hd ⟨0, .data⟩ (by simp) rfl) 36 rfl).trans (hI.1 0 (by decide) (hd ⟨0, .data⟩ (by simp) rfl))
                  have hx : Below (wr).heap.size (wr) w6 := hI.ext (hB.wait 1 21 hL (by kernel_rfl))
                  have q1 := (HNB.out.below hx).cell 1
                  exact stepI_run (v := .slice (some ⟨g, 0, none⟩) ((m + 1) * (m + 1)) c4) rfl (by simp [execOp, go_sem, Act.eval, b36, q1]) (hI.step 1 (by decide) rfl)
                · intro L vs a w6 hB hL hd hI
                  have b6 : a.tmps[6]?.getD undef = .int .i64 (i : Int) := hB.at 6 (by kernel_rfl)
                  have hx : Below (wr).heap.size (wr) w6 := hI.ext (hB.wait 2 21 hL (by kernel_rfl))
                  exact stepI_run (v := .int .i64 (i : Int)) rfl (by simp [execOp, go_sem, Act.eval, b6]) (hI.step 2 (by decide) rfl)
                · intro L vs a w6 hB hL hd hI
                  have b4 : a.tmps[4]?.getD undef = .int .i64 ((m : Int) + 1) := hB.at 4 (by kernel_rfl)
                  have hx : Below (wr).heap.size (wr) w6 := hI.ext (hB.wait 3 21 hL (by kernel_rfl))
                  exact stepI_run (v := .int .i64 ((m : Int) + 1)) rfl (by simp [execOp, go_sem, Act.eval, b4]) (hI.step 3 (by decide) rfl)
                · intro L vs a w6 hB hL hd hI
                  have b38 : a.tmps[38]?.getD undef = .int .i64 (i : Int) := (hB.val 2 (hd ⟨2, .data⟩ (by simp) rfl) 38 rfl).trans (hI.1 2 (by decide) (hd ⟨2, .data⟩ (by simp) rfl))
                  have b39 : a.tmps[39]?.getD undef = .int .i64 ((m : Int) + 1) := (hB.val 3 (hd ⟨3, .data⟩ (by simp) rfl) 39 rfl).trans (hI.1 3 (by decide) (hd ⟨3, .data⟩ (by simp) rfl))
                  have hx : Below (wr).heap.size (wr) w6 := hI.ext (hB.wait 4 21 hL (by kernel_rfl))
                  exact stepI_run (v := .int .i64 (r : Int)) rfl (by simp [execOp, go_sem, Act.eval, b38, b39, HRM.out, HRW.out]) (hI.step 4 (by decide) rfl)
                · intro L vs a w6 hB hL hd hI
                  have b7 : a.tmps[7]?.getD undef = .int .i64 (j : Int) := hB.at 7 (by kernel_rfl)
                  have hx : Below (wr).heap.size (wr) w6 := hI.ext (hB.wait 5 21 hL (by kernel_rfl))
                  exact stepI_run (v := .int .i64 (j : Int)) rfl (by simp [execOp, go_sem, Act.eval, b7]) (hI.step 5 (by decide) rfl)
                · intro L vs a w6 hB hL hd hI
                  have b40 : a.tmps[40]?.getD undef = .int .i64 (r : Int) := (hB.val 4 (hd ⟨4, .data⟩ (by simp) rfl) 40 rfl).trans (hI.1 4 (by decide) (hd ⟨4, .data⟩ (by simp) rfl))
                  have b41 : a.tmps[41]?.getD undef = .int .i64 (j : Int) := (hB.val 5 (hd ⟨5, .data⟩ (by simp) rfl) 41 rfl).trans (hI.1 5 (by decide) (hd ⟨5, .data⟩ (by simp) rfl))
                  have hx : Below (wr).heap.size (wr) w6 := hI.ext (hB.wait 6 21 hL (by kernel_rfl))
                  exact stepI_run (v := .int .i64 (p : Int)) rfl (by simp [execOp, go_sem, Act.eval, b40, b41, HPA.out, HPB.out]) (hI.step 6 (by decide) rfl)
                · intro L vs a w6 hB hL hd hI
                  have b5 : a.tmps[5]?.getD undef = .pointer (some ⟨nb, 0, none⟩) := hB.at 5 (by kernel_rfl)
                  have hx : Below (wr).heap.size (wr) w6 := hI.ext (hB.wait 7 21 hL (by kernel_rfl))
                  exact stepI_run (v := .pointer (some ⟨nb, 1, none⟩)) rfl (by simp [execOp, go_sem, Act.eval, b5]) (hI.step 7 (by decide) rfl)
                · intro L vs a w6 hB hL hd hI
                  have b43 : a.tmps[43]?.getD undef = .pointer (some ⟨nb, 1, none⟩) := (hB.val 7 (hd ⟨7, .data⟩ (by simp) rfl) 43 rfl).trans (hI.1 7 (by decide) (hd ⟨7, .data⟩ (by simp) rfl))
                  have hx : Below (wr).heap.size (wr) w6 := hI.ext (hB.wait 8 21 hL (by kernel_rfl))
                  have q1 := (HNB.out.below hx).cell 1
                  exact stepI_run (v := .slice (some ⟨g, 0, none⟩) ((m + 1) * (m + 1)) c4) rfl (by simp [execOp, go_sem, Act.eval, b43, q1]) (hI.step 8 (by decide) rfl)
                · intro L vs a w6 hB hL hd hI
                  have b6 : a.tmps[6]?.getD undef = .int .i64 (i : Int) := hB.at 6 (by kernel_rfl)
                  have hx : Below (wr).heap.size (wr) w6 := hI.ext (hB.wait 9 21 hL (by kernel_rfl))
                  exact stepI_run (v := .int .i64 (i : Int)) rfl (by simp [execOp, go_sem, Act.eval, b6]) (hI.step 9 (by decide) rfl)
                · intro L vs a w6 hB hL hd hI
                  have b4 : a.tmps[4]?.getD undef = .int .i64 ((m : Int) + 1) := hB.at 4 (by kernel_rfl)
                  have hx : Below (wr).heap.size (wr) w6 := hI.ext (hB.wait 10 21 hL (by kernel_rfl))
                  exact stepI_run (v := .int .i64 ((m : Int) + 1)) rfl (by simp [execOp, go_sem, Act.eval, b4]) (hI.step 10 (by decide) rfl)
                · intro L vs a w6 hB hL hd hI
                  have b45 : a.tmps[45]?.getD undef = .int .i64 (i : Int) := (hB.val 9 (hd ⟨9, .data⟩ (by simp) rfl) 45 rfl).trans (hI.1 9 (by decide) (hd ⟨9, .data⟩ (by simp) rfl))
                  have b46 : a.tmps[46]?.getD undef = .int .i64 ((m : Int) + 1) := (hB.val 10 (hd ⟨10, .data⟩ (by simp) rfl) 46 rfl).trans (hI.1 10 (by decide) (hd ⟨10, .data⟩ (by simp) rfl))
                  have hx : Below (wr).heap.size (wr) w6 := hI.ext (hB.wait 11 21 hL (by kernel_rfl))
                  exact stepI_run (v := .int .i64 (r : Int)) rfl (by simp [execOp, go_sem, Act.eval, b45, b46, HRM.out, HRW.out]) (hI.step 11 (by decide) rfl)
                · intro L vs a w6 hB hL hd hI
                  have b7 : a.tmps[7]?.getD undef = .int .i64 (j : Int) := hB.at 7 (by kernel_rfl)
                  have hx : Below (wr).heap.size (wr) w6 := hI.ext (hB.wait 12 21 hL (by kernel_rfl))
                  exact stepI_run (v := .int .i64 (j : Int)) rfl (by simp [execOp, go_sem, Act.eval, b7]) (hI.step 12 (by decide) rfl)
                · intro L vs a w6 hB hL hd hI
                  have b47 : a.tmps[47]?.getD undef = .int .i64 (r : Int) := (hB.val 11 (hd ⟨11, .data⟩ (by simp) rfl) 47 rfl).trans (hI.1 11 (by decide) (hd ⟨11, .data⟩ (by simp) rfl))
                  have b48 : a.tmps[48]?.getD undef = .int .i64 (j : Int) := (hB.val 12 (hd ⟨12, .data⟩ (by simp) rfl) 48 rfl).trans (hI.1 12 (by decide) (hd ⟨12, .data⟩ (by simp) rfl))
                  have hx : Below (wr).heap.size (wr) w6 := hI.ext (hB.wait 13 21 hL (by kernel_rfl))
                  exact stepI_run (v := .int .i64 (p : Int)) rfl (by simp [execOp, go_sem, Act.eval, b47, b48, HPA.out, HPB.out]) (hI.step 13 (by decide) rfl)
                · intro L vs a w6 hB hL hd hI
                  have b44 : a.tmps[44]?.getD undef = .slice (some ⟨g, 0, none⟩) ((m + 1) * (m + 1)) c4 := (hB.val 8 (hd ⟨8, .data⟩ (by simp) rfl) 44 rfl).trans (hI.1 8 (by decide) (hd ⟨8, .data⟩ (by simp) rfl))
                  have b49 : a.tmps[49]?.getD undef = .int .i64 (p : Int) := (hB.val 13 (hd ⟨13, .data⟩ (by simp) rfl) 49 rfl).trans (hI.1 13 (by decide) (hd ⟨13, .data⟩ (by simp) rfl))
                  have hx : Below (wr).heap.size (wr) w6 := hI.ext (hB.wait 14 21 hL (by kernel_rfl))
                  exact stepI_run (v := .pointer (some ⟨g, p, none⟩)) rfl (by simp [execOp, go_sem, Act.eval, b44, b49, hp2, addr_lit0]) (hI.step 14 (by decide) rfl)
                · intro L vs a w6 hB hL hd hI
                  have b50 : a.tmps[50]?.getD undef = .pointer (some ⟨g, p, none⟩) := (hB.val 14 (hd ⟨14, .data⟩ (by simp) rfl) 50 rfl).trans (hI.1 14 (by decide) (hd ⟨14, .data⟩ (by simp) rfl))
                  have hx : Below (wr).heap.size (wr) w6 := hI.ext (hB.wait 15 21 hL (by kernel_rfl))
                  have qc := HC.out w6 hx
                  exact stepI_run (v := .int .i64 y) rfl (by simp [execOp, go_sem, Act.eval, b50, qc]) (hI.step 15 (by decide) rfl)
                · intro L vs a w6 hB hL hd hI
                  have b6 : a.tmps[6]?.getD undef = .int .i64 (i : Int) := hB.at 6 (by kernel_rfl)
                  have hx : Below (wr).heap.size (wr) w6 := hI.ext (hB.wait 16 21 hL (by kernel_rfl))
                  exact stepI_run (v := .int .i64 (i : Int)) rfl (by simp [execOp, go_sem, Act.eval, b6]) (hI.step 16 (by decide) rfl)
                · intro L vs a w6 hB hL hd hI
                  have b7 : a.tmps[7]?.getD undef = .int .i64 (j : Int) := hB.at 7 (by kernel_rfl)
                  have hx : Below (wr).heap.size (wr) w6 := hI.ext (hB.wait 17 21 hL (by kernel_rfl))
                  exact stepI_run (v := .int .i64 (j : Int)) rfl (by simp [execOp, go_sem, Act.eval, b7]) (hI.step 17 (by decide) rfl)
                · intro L vs a w6 hB hL hd hI
                  have b52 : a.tmps[52]?.getD undef = .int .i64 (i : Int) := (hB.val 16 (hd ⟨16, .data⟩ (by simp) rfl) 52 rfl).trans (hI.1 16 (by decide) (hd ⟨16, .data⟩ (by simp) rfl))
                  have b53 : a.tmps[53]?.getD undef = .int .i64 (j : Int) := (hB.val 17 (hd ⟨17, .data⟩ (by simp) rfl) 53 rfl).trans (hI.1 17 (by decide) (hd ⟨17, .data⟩ (by simp) rfl))
                  have hx : Below (wr).heap.size (wr) w6 := hI.ext (hB.wait 18 21 hL (by kernel_rfl))
                  refine stepI_call (f := 48) (args := #[.int .i64 (i : Int), .int .i64 (j : Int)]) rfl (by simp [go_sem, b52, b53]) ?_
                  refine (HFU.out w6).mono ?_
                  rintro e w9 ⟨rfl, h9⟩
                  exact ⟨_, rfl, hI.grow (hB.wait 18 21 hL (by kernel_rfl)) 18 (by decide) h9 rfl⟩
                · intro L vs a w6 hB hL hd hI
                  have b51 : a.tmps[51]?.getD undef = .int .i64 y := (hB.val 15 (hd ⟨15, .data⟩ (by simp) rfl) 51 rfl).trans (hI.1 15 (by decide) (hd ⟨15, .data⟩ (by simp) rfl))
                  have b54 : a.tmps[54]?.getD undef = .int .i64 f := (hB.val 18 (hd ⟨18, .data⟩ (by simp) rfl) 54 rfl).trans (hI.1 18 (by decide) (hd ⟨18, .data⟩ (by simp) rfl))
                  have hx : Below (wr).heap.size (wr) w6 := hI.ext (hB.wait 19 21 hL (by kernel_rfl))
                  exact stepI_run (v := .int .i64 x) rfl (by simp [go_sem, Act.eval, b51, b54]; split <;> omega) (hI.step 19 (by decide) rfl)
                · intro L vs a w6 hB hL hd hI
                  have b37 : a.tmps[37]?.getD undef = .slice (some ⟨g, 0, none⟩) ((m + 1) * (m + 1)) c4 := (hB.val 1 (hd ⟨1, .data⟩ (by simp) rfl) 37 rfl).trans (hI.1 1 (by decide) (hd ⟨1, .data⟩ (by simp) rfl))
                  have b42 : a.tmps[42]?.getD undef = .int .i64 (p : Int) := (hB.val 6 (hd ⟨6, .data⟩ (by simp) rfl) 42 rfl).trans (hI.1 6 (by decide) (hd ⟨6, .data⟩ (by simp) rfl))
                  have hx : Below (wr).heap.size (wr) w6 := hI.ext (hB.wait 20 21 hL (by kernel_rfl))
                  exact stepI_run (v := .pointer (some ⟨g, p, none⟩)) rfl (by simp [execOp, go_sem, Act.eval, b37, b42, hp2, addr_lit0]) (hI.step 20 (by decide) rfl)
                · intro L vs a w6 hB hL hd hI
                  have b56 : a.tmps[56]?.getD undef = .pointer (some ⟨g, p, none⟩) := (hB.val 20 (hd ⟨20, .data⟩ (by simp) rfl) 56 rfl).trans (hI.1 20 (by decide) (hd ⟨20, .data⟩ (by simp) rfl))
                  have b55 : a.tmps[55]?.getD undef = .int .i64 x := (hB.val 19 (hd ⟨19, .data⟩ (by simp) rfl) 55 rfl).trans (hI.1 19 (by decide) (hd ⟨19, .data⟩ (by simp) rfl))
                  have hx : Below (wr).heap.size (wr) w6 := hI.ext hL
                  have f1 := (HO.out.keep hx).frozenAt p
                  have q1 := HC.out w6 hx
                  exact stepI_skip (w' := w6.setCell (⟨g, p, none⟩) (.int .i64 x)) rfl (by simp [execOp, go_sem, Act.eval, b56, b55, f1, q1]) (hI.put hL)
              · intro L vs w7 hall hI
                obtain ⟨w6, HEXT, hw7⟩ := hI.fin (hall 21 (by decide))
                subst hw7
                clear hI hall
                simp only [putAll, Act.put, List.setIfInBounds_toArray, List.set_cons_zero, List.set_cons_succ, Nat.zero_add, Nat.reduceAdd]
                have HO2 := Lib.hid (show Own (w6.setCell ⟨g, p, none⟩ (.int .i64 x)) w1.heap.size (.slice (some ⟨g, 0, none⟩) ((m + 1) * (m + 1)) c4) ((m + 1) * (m + 1)) (mixL (m + 1) (dm (m + 1) b) (gt (m + 1) b) (r + (j + 1))) from by
                  have h1 := own_upd (p := p) (x := x) HO.out HEXT.out
                  rw [HSET.out] at h1
                  rw [show r + (j + 1) = p + 1 by omega]
                  exact h1)
                have HBE2 := Lib.hid ((HBE.out.trans (HEXT.out.mono HBE.out.size)).setCell (p := ⟨g, p, none⟩) (by show w.heap.size ≤ g; omega) (.int .i64 x))
                have HRB2 := Lib.hid ((HRB.out.below HEXT.out).other (c := g) (i := p) (u := .int .i64 x) (by omega))
                have HX2 := Lib.hid ((HNB.out.below HEXT.out).other (c := g) (i := p) (u := .int .i64 x) (by omega))
                clear HEXT HO HBE HNB HRB HSET HFU HC HRM HRW HPA HPB hdm hp2
                go_wp2_with fail
                go_roundw
                case rel => exact ⟨j + 1, by omega, by go_num, HO2, HBE2, HRB2, HX2.out⟩
                case measure => simp [intOf]; omega
            · obtain rfl : j = m + 1 := by omega
              have HO2 := Lib.hid (show Own wr w1.heap.size (.slice (some ⟨g, 0, none⟩) ((m + 1) * (m + 1)) c4) ((m + 1) * (m + 1)) (mixL (m + 1) (dm (m + 1) b) (gt (m + 1) b) ((i + 1) * (m + 1))) from by rw [show (i + 1) * (m + 1) = i * (m + 1) + (m + 1) from Nat.succ_mul _ _]; exact HO.out)
              have HX2 := Lib.hid hx
              clear hx HO
              go_wp2_with fail
              go_roundw
              case rel => exact ⟨i + 1, by omega, by go_num, HO2, HBE, HRB, HX2.out⟩
              case measure => simp [intOf]; omega
        · have him : i = m + 1 := by omega
          have di : decide ((i : Int) < (m : Int) + 1) = false := decide_eq_false (by omega)
          have HO2 := Lib.hid (show Own wr w1.heap.size (.slice (some ⟨g, 0, none⟩) ((m + 1) * (m + 1)) c4) ((m + 1) * (m + 1)) (flat (m + 1) (dm (m + 1) b)) from by rw [← mix_all]; have h9 := HO.out; rwa [him] at h9)
          have HRP := Lib.hid (RP.start HZ.out.dok)
          have HX2 := Lib.hid hx
          clear hx HO him
          go_wp2_with fail
          go_loopw [8] (fun kv wr => ∃ (k : Nat) (l : List Int), k ≤ m + 1 ∧ kv = .int .i64 (k : Int) ∧ Hid (RP (m + 1) (dm (m + 1) b) k 0 l) ∧ Hid (Own wr w1.heap.size (.slice (some ⟨g, 0, none⟩) ((m + 1) * (m + 1)) c4) ((m + 1) * (m + 1)) (l)) ∧ Hid (Below w.heap.size w wr) ∧ Hid (Bx wr (w.heap.size + 1) 24 #[.int .i64 0, .slice none 0 0]) ∧ Bx wr nb 24 #[.int .i64 (m : Int), .slice (some ⟨g, 0, none⟩) ((m + 1) * (m + 1)) c4]) (fun i _ => m + 1 - (intOf i).toNat)
          case atStart => exact ⟨0, _, Nat.zero_le _, rfl, HRP, HO2, HBE, HRB, HX2.out⟩
          case round =>
            clear HO2 HBE HRB HX2 HRP
            obtain ⟨k, l, hk, rfl, HRP, HO, HBE, HRB, hx⟩ := hrel
            by_cases hkl : k < m + 1
            · have dk : decide ((k : Int) < (m : Int) + 1) = true := decide_eq_true (by omega)
              have HX := Lib.hid hx
              have HRP0 := Lib.hid (show RP (m + 1) (dm (m + 1) b) k (0 * (m + 1)) l from by rw [Nat.zero_mul]; exact HRP.out)
              clear hx HRP
              go_wp2_with fail
              go_loopw [9] (fun iv wr => ∃ (i : Nat) (l : List Int), i ≤ m + 1 ∧ iv = .int .i64 (i : Int) ∧ Hid (RP (m + 1) (dm (m + 1) b) k (i * (m + 1)) l) ∧ Hid (Own wr w1.heap.size (.slice (some ⟨g, 0, none⟩) ((m + 1) * (m + 1)) c4) ((m + 1) * (m + 1)) (l)) ∧ Hid (Below w.heap.size w wr) ∧ Hid (Bx wr (w.heap.size + 1) 24 #[.int .i64 0, .slice none 0 0]) ∧ Bx wr nb 24 #[.int .i64 (m : Int), .slice (some ⟨g, 0, none⟩) ((m + 1) * (m + 1)) c4]) (fun i _ => m + 1 - (intOf i).toNat)
              case atStart => exact ⟨0, _, Nat.zero_le _, rfl, HRP0, HO, HBE, HRB, HX.out⟩
              case round =>
                clear HO HBE HRB HX HRP0
                obtain ⟨i, l, hi, rfl, HRP, HO, HBE, HRB, hx⟩ := hrel
                by_cases hil : i < m + 1
                · have di : decide ((i : Int) < (m : Int) + 1) = true := decide_eq_true (by omega)
                  have HX := Lib.hid hx
                  have HRP0 := Lib.hid (show RP (m + 1) (dm (m + 1) b) k (i * (m + 1) + 0) l from HRP.out)
                  clear hx HRP
                  go_wp2_with fail
                  go_loopw [10] (fun jv wr => ∃ (j : Nat) (l : List Int), j ≤ m + 1 ∧ jv = .int .i64 (j : Int) ∧ Hid (RP (m + 1) (dm (m + 1) b) k (i * (m + 1) + j) l) ∧ Hid (Own wr w1.heap.size (.slice (some ⟨g, 0, none⟩) ((m + 1) * (m + 1)) c4) ((m + 1) * (m + 1)) (l)) ∧ Hid (Below w.heap.size w wr) ∧ Hid (Bx wr (w.heap.size + 1) 24 #[.int .i64 0, .slice none 0 0]) ∧ Bx wr nb 24 #[.int .i64 (m : Int), .slice (some ⟨g, 0, none⟩) ((m + 1) * (m + 1)) c4]) (fun i _ => m + 1 - (intOf i).toNat)
                  case atStart => exact ⟨0, _, Nat.zero_le _, rfl, HRP0, HO, HBE, HRB, HX.out⟩
                  case round =>
                    clear HO HBE HRB HX HRP0
                    obtain ⟨j, l, hj, rfl, HRP, HO, HBE, HRB, hx⟩ := hrel
                    by_cases hjl : j < m + 1
                    · have HNB := Lib.hid hx
                      have dj : decide ((j : Int) < (m : Int) + 1) = true := decide_eq_true (by omega)
                      have hsq := sq_lt hil hjl
                      have hsq2 := sq_lt hil hkl
                      have hsq3 := sq_lt hkl hjl
                      have hmf := mul_few hm (show i ≤ m by omega)
                      have hmf3 := mul_few hm (show k ≤ m by omega)
                      have HST := Lib.hid (RP.step hkl hil hjl HRP.out)
                      have hgl := HRP.out.1
                      have hc1 := own_gt HO.out hgl.len hil hjl
                      have hc2 := own_gt HO.out hgl.len hil hkl
                      have hc3 := own_gt HO.out hgl.len hkl hjl
                      have l2 := hgl.lo i k hil hkl
                      have l3 := hgl.lo k j hkl hjl
                      have u2 := Int.le_trans (hgl.le i k hil hkl) (HZ.out.dok.hi i k hil hkl)
                      have u3 := Int.le_trans (hgl.le k j hkl hjl) (HZ.out.dok.hi k j hkl hjl)
                      have hxx : upR (m + 1) l k i j = min (gt (m + 1) l i j) (max (-20001) (gt (m + 1) l i k + gt (m + 1) l k j)) := rfl
                      clear hgl
                      generalize gt (m + 1) l i j = a1 at *
                      generalize gt (m + 1) l i k = a2 at *
                      generalize gt (m + 1) l k j = a3 at *
                      generalize upR (m + 1) l k i j = x at *
                      have hp1 : ((i * (m + 1) + j : Nat) : Int) < ((((m + 1) * (m + 1)) : Nat) : Int) := by omega
                      have hp1b : ((i * (m + 1) + k : Nat) : Int) < ((((m + 1) * (m + 1)) : Nat) : Int) := by omega
                      have hp1c : ((k * (m + 1) + j : Nat) : Int) < ((((m + 1) * (m + 1)) : Nat) : Int) := by omega
                      have hrm : (i : Int) * ((m : Int) + 1) = ((i * (m + 1) : Nat) : Int) := by push_cast; rfl
                      have hsm : (k : Int) * ((m : Int) + 1) = ((k * (m + 1) : Nat) : Int) := by push_cast; rfl
                      obtain ⟨r, hrr⟩ : ∃ r, i * (m + 1) = r := ⟨_, rfl⟩
                      obtain ⟨r3, hr3⟩ : ∃ r, k * (m + 1) = r := ⟨_, rfl⟩
                      rw [hrr] at hc1 hc2 hp1 hp1b hrm HST hmf
                      rw [hr3] at hc3 hp1c hsm hmf3
                      have hpa : (r : Int) + (j : Int) = ((r + j : Nat) : Int) := by push_cast; rfl
                      have hqa : (r : Int) + (k : Int) = ((r + k : Nat) : Int) := by push_cast; rfl
                      have hta : (r3 : Int) + (j : Int) = ((r3 + j : Nat) : Int) := by push_cast; rfl
                      obtain ⟨p, hpp⟩ : ∃ p, r + j = p := ⟨_, rfl⟩
                      obtain ⟨p2, hpp2⟩ : ∃ p, r + k = p := ⟨_, rfl⟩
                      obtain ⟨p3, hpp3⟩ : ∃ p, r3 + j = p := ⟨_, rfl⟩
                      rw [hpp] at hc1 hp1 hpa HST
                      rw [hpp2] at hc2 hp1b hqa
                      rw [hpp3] at hc3 hp1c hta
                      have hp2 : ¬ (((m : Int) + 1) * ((m : Int) + 1) ≤ (p : Int)) := by push_cast at hp1; omega
                      have hp3 : ¬ (((m : Int) + 1) * ((m : Int) + 1) ≤ (p2 : Int)) := by push_cast at hp1b; omega
                      have hp4 : ¬ (((m : Int) + 1) * ((m : Int) + 1) ≤ (p3 : Int)) := by push_cast at hp1c; omega
                      have HRM := Lib.hid hrm
                      have HSM := Lib.hid hsm
                      have HRW := Lib.hid (show IntKind.i64.wrap (r : Int) = (r : Int) from by rw [IntKind.wrap_i64]; omega)
                      have HSW := Lib.hid (show IntKind.i64.wrap (r3 : Int) = (r3 : Int) from by rw [IntKind.wrap_i64]; omega)
                      have HPA := Lib.hid hpa
                      have HQA := Lib.hid hqa
                      have HTA := Lib.hid hta
                      have HPB := Lib.hid (show IntKind.i64.wrap (p : Int) = (p : Int) from by rw [IntKind.wrap_i64]; omega)
                      have HQB := Lib.hid (show IntKind.i64.wrap (p2 : Int) = (p2 : Int) from by rw [IntKind.wrap_i64]; omega)
                      have HTB := Lib.hid (show IntKind.i64.wrap (p3 : Int) = (p3 : Int) from by rw [IntKind.wrap_i64]; omega)
                      have HW := Lib.hid (show IntKind.i64.wrap (a2 + a3) = a2 + a3 from by rw [IntKind.wrap_i64]; omega)
                      have HC1 := Lib.hid hc1
                      have HC2 := Lib.hid hc2
                      have HC3 := Lib.hid hc3
                      have HRR := Lib.hid hrr
                      have HPP := Lib.hid (show i * (m + 1) + (j + 1) = p + 1 by omega)
                      clear hx hc1 hc2 hc3 hsq hsq2 hsq3 hp1 hp1b hp1c hrm hsm hpa hqa hta hpp hpp2 hpp3 hrr hr3 HRP l2 l3 u2 u3 hmf hmf3
                      go_wp2_with fail
                      refine region_inv (n := 127) (RdG (fun zz => match zz with | 0 => .pointer (some ⟨nb, 1, none⟩) | 1 => .slice (some ⟨g, 0, none⟩) ((m + 1) * (m + 1)) c4 | 2 => .int .i64 (i : Int) | 3 => .int .i64 ((m : Int) + 1) | 4 => .int .i64 (r : Int) | 5 => .int .i64 (j : Int) | 6 => .int .i64 (p : Int) | 7 => .pointer (some ⟨nb, 1, none⟩) | 8 => .slice (some ⟨g, 0, none⟩) ((m + 1) * (m + 1)) c4 | 9 => .int .i64 (i : Int) | 10 => .int .i64 ((m : Int) + 1) | 11 => .int .i64 (r : Int) | 12 => .int .i64 (j : Int) | 13 => .int .i64 (p : Int) | 14 => .pointer (some ⟨g, p, none⟩) | 15 => .int .i64 a1 | 16 => .pointer (some ⟨nb, 1, none⟩) | 17 => .slice (some ⟨g, 0, none⟩) ((m + 1) * (m + 1)) c4 | 18 => .int .i64 (i : Int) | 19 => .int .i64 ((m : Int) + 1) | 20 => .int .i64 (r : Int) | 21 => .int .i64 (k : Int) | 22 => .int .i64 (p2 : Int) | 23 => .pointer (some ⟨g, p2, none⟩) | 24 => .int .i64 a2 | 25 => .pointer (some ⟨nb, 1, none⟩) | 26 => .slice (some ⟨g, 0, none⟩) ((m + 1) * (m + 1)) c4 | 27 => .int .i64 (k : Int) | 28 => .int .i64 ((m : Int) + 1) | 29 => .int .i64 (r3 : Int) | 30 => .int .i64 (j : Int) | 31 => .int .i64 (p3 : Int) | 32 => .pointer (some ⟨g, p3, none⟩) | 33 => .int .i64 a3 | 34 => .int .i64 (a2 + a3) | 35 => .int .i64 (max (-20001) (a2 + a3)) | 36 => .int .i64 x | 37 => .pointer (some ⟨g, p, none⟩) | _ => undef) 38 (wr) (⟨g, p, none⟩) (.int .i64 x)) (by kernel_rfl) (by kernel_rfl) rfl ?_ (allOps_spec ?_) ?_
                      · intro vs
                        exact RdG.start
                      · refine ⟨?_, ?_, ?_, ?_, ?_, ?_, ?_, ?_, ?_, ?_, ?_, ?_, ?_, ?_, ?_, ?_, ?_, ?_, ?_, ?_, ?_, ?_, ?_, ?_, ?_, ?_, ?_, ?_, ?_, ?_, ?_, ?_, ?_, ?_, ?_, ?_, ?_, ?_, ?_, trivial⟩
                        · intro L vs a w6 hB hL hd hI
                          have b5 : a.tmps[5]?.getD undef = .pointer (some ⟨nb, 0, none⟩) := hB.at 5 (by kernel_rfl)
                          have hx : Below (wr).heap.size (wr) w6 := hI.ext (hB.wait 0 38 hL (by kernel_rfl))
                          exact stepI_run (v := .pointer (some ⟨nb, 1, none⟩)) rfl (by simp [execOp, go_sem, Act.eval, b5]) (hI.step 0 (by decide) rfl)
                        · intro L vs a w6 hB hL hd hI
                          have b72 : a.tmps[72]?.getD undef = .pointer (some ⟨nb, 1, none⟩) := (hB.val 0 (hd ⟨0, .data⟩ (by simp) rfl) 72 rfl).trans (hI.1 0 (by decide) (hd ⟨0, .data⟩ (by simp) rfl))
                          have hx : Below (wr).heap.size (wr) w6 := hI.ext (hB.wait 1 38 hL (by kernel_rfl))
                          have q1 := (HNB.out.below hx).cell 1
                          exact stepI_run (v := .slice (some ⟨g, 0, none⟩) ((m + 1) * (m + 1)) c4) rfl (by simp [execOp, go_sem, Act.eval, b72, q1]) (hI.step 1 (by decide) rfl)
                        · intro L vs a w6 hB hL hd hI
                          have b9 : a.tmps[9]?.getD undef = .int .i64 (i : Int) := hB.at 9 (by kernel_rfl)
                          have hx : Below (wr).heap.size (wr) w6 := hI.ext (hB.wait 2 38 hL (by kernel_rfl))
                          exact stepI_run (v := .int .i64 (i : Int)) rfl (by simp [execOp, go_sem, Act.eval, b9]) (hI.step 2 (by decide) rfl)
                        · intro L vs a w6 hB hL hd hI
                          have b4 : a.tmps[4]?.getD undef = .int .i64 ((m : Int) + 1) := hB.at 4 (by kernel_rfl)
                          have hx : Below (wr).heap.size (wr) w6 := hI.ext (hB.wait 3 38 hL (by kernel_rfl))
                          exact stepI_run (v := .int .i64 ((m : Int) + 1)) rfl (by simp [execOp, go_sem, Act.eval, b4]) (hI.step 3 (by decide) rfl)
                        · intro L vs a w6 hB hL hd hI
                          have b74 : a.tmps[74]?.getD undef = .int .i64 (i : Int) := (hB.val 2 (hd ⟨2, .data⟩ (by simp) rfl) 74 rfl).trans (hI.1 2 (by decide) (hd ⟨2, .data⟩ (by simp) rfl))
                          have b75 : a.tmps[75]?.getD undef = .int .i64 ((m : Int) + 1) := (hB.val 3 (hd ⟨3, .data⟩ (by simp) rfl) 75 rfl).trans (hI.1 3 (by decide) (hd ⟨3, .data⟩ (by simp) rfl))
                          have hx : Below (wr).heap.size (wr) w6 := hI.ext (hB.wait 4 38 hL (by kernel_rfl))
                          exact stepI_run (v := .int .i64 (r : Int)) rfl (by simp [execOp, go_sem, Act.eval, b74, b75, HRM.out, HRW.out]) (hI.step 4 (by decide) rfl)
                        · intro L vs a w6 hB hL hd hI
                          have b10 : a.tmps[10]?.getD undef = .int .i64 (j : Int) := hB.at 10 (by kernel_rfl)
                          have hx : Below (wr).heap.size (wr) w6 := hI.ext (hB.wait 5 38 hL (by kernel_rfl))
                          exact stepI_run (v := .int .i64 (j : Int)) rfl (by simp [execOp, go_sem, Act.eval, b10]) (hI.step 5 (by decide) rfl)
                        · intro L vs a w6 hB hL hd hI
                          have b76 : a.tmps[76]?.getD undef = .int .i64 (r : Int) := (hB.val 4 (hd ⟨4, .data⟩ (by simp) rfl) 76 rfl).trans (hI.1 4 (by decide) (hd ⟨4, .data⟩ (by simp) rfl))
                          have b77 : a.tmps[77]?.getD undef = .int .i64 (j : Int) := (hB.val 5 (hd ⟨5, .data⟩ (by simp) rfl) 77 rfl).trans (hI.1 5 (by decide) (hd ⟨5, .data⟩ (by simp) rfl))
                          have hx : Below (wr).heap.size (wr) w6 := hI.ext (hB.wait 6 38 hL (by kernel_rfl))
                          exact stepI_run (v := .int .i64 (p : Int)) rfl (by simp [execOp, go_sem, Act.eval, b76, b77, HPA.out, HPB.out]) (hI.step 6 (by decide) rfl)
                        · intro L vs a w6 hB hL hd hI
                          have b5 : a.tmps[5]?.getD undef = .pointer (some ⟨nb, 0, none⟩) := hB.at 5 (by kernel_rfl)
                          have hx : Below (wr).heap.size (wr) w6 := hI.ext (hB.wait 7 38 hL (by kernel_rfl))
                          exact stepI_run (v := .pointer (some ⟨nb, 1, none⟩)) rfl (by simp [execOp, go_sem, Act.eval, b5]) (hI.step 7 (by decide) rfl)
                        · intro L vs a w6 hB hL hd hI
                          have b79 : a.tmps[79]?.getD undef = .pointer (some ⟨nb, 1, none⟩) := (hB.val 7 (hd ⟨7, .data⟩ (by simp) rfl) 79 rfl).trans (hI.1 7 (by decide) (hd ⟨7, .data⟩ (by simp) rfl))
                          have hx : Below (wr).heap.size (wr) w6 := hI.ext (hB.wait 8 38 hL (by kernel_rfl))
                          have q1 := (HNB.out.below hx).cell 1
                          exact stepI_run (v := .slice (some ⟨g, 0, none⟩) ((m + 1) * (m + 1)) c4) rfl (by simp [execOp, go_sem, Act.eval, b79, q1]) (hI.step 8 (by decide) rfl)
                        · intro L vs a w6 hB hL hd hI
                          have b9 : a.tmps[9]?.getD undef = .int .i64 (i : Int) := hB.at 9 (by kernel_rfl)
                          have hx : Below (wr).heap.size (wr) w6 := hI.ext (hB.wait 9 38 hL (by kernel_rfl))
                          exact stepI_run (v := .int .i64 (i : Int)) rfl (by simp [execOp, go_sem, Act.eval, b9]) (hI.step 9 (by decide) rfl)
                        · intro L vs a w6 hB hL hd hI
                          have b4 : a.tmps[4]?.getD undef = .int .i64 ((m : Int) + 1) := hB.at 4 (by kernel_rfl)
                          have hx : Below (wr).heap.size (wr) w6 := hI.ext (hB.wait 10 38 hL (by kernel_rfl))
                          exact stepI_run (v := .int .i64 ((m : Int) + 1)) rfl (by simp [execOp, go_sem, Act.eval, b4]) (hI.step 10 (by decide) rfl)
                        · intro L vs a w6 hB hL hd hI
                          have b81 : a.tmps[81]?.getD undef = .int .i64 (i : Int) := (hB.val 9 (hd ⟨9, .data⟩ (by simp) rfl) 81 rfl).trans (hI.1 9 (by decide) (hd ⟨9, .data⟩ (by simp) rfl))
                          have b82 : a.tmps[82]?.getD undef = .int .i64 ((m : Int) + 1) := (hB.val 10 (hd ⟨10, .data⟩ (by simp) rfl) 82 rfl).trans (hI.1 10 (by decide) (hd ⟨10, .data⟩ (by simp) rfl))
                          have hx : Below (wr).heap.size (wr) w6 := hI.ext (hB.wait 11 38 hL (by kernel_rfl))
                          exact stepI_run (v := .int .i64 (r : Int)) rfl (by simp [execOp, go_sem, Act.eval, b81, b82, HRM.out, HRW.out]) (hI.step 11 (by decide) rfl)
                        · intro L vs a w6 hB hL hd hI
                          have b10 : a.tmps[10]?.getD undef = .int .i64 (j : Int) := hB.at 10 (by kernel_rfl)
                          have hx : Below (wr).heap.size (wr) w6 := hI.ext (hB.wait 12 38 hL (by kernel_rfl))
                          exact stepI_run (v := .int .i64 (j : Int)) rfl (by simp [execOp, go_sem, Act.eval, b10]) (hI.step 12 (by decide) rfl)
                        · intro L vs a w6 hB hL hd hI
                          have b83 : a.tmps[83]?.getD undef = .int .i64 (r : Int) := (hB.val 11 (hd ⟨11, .data⟩ (by simp) rfl) 83 rfl).trans (hI.1 11 (by decide) (hd ⟨11, .data⟩ (by simp) rfl))
                          have b84 : a.tmps[84]?.getD undef = .int .i64 (j : Int) := (hB.val 12 (hd ⟨12, .data⟩ (by simp) rfl) 84 rfl).trans (hI.1 12 (by decide) (hd ⟨12, .data⟩ (by simp) rfl))
                          have hx : Below (wr).heap.size (wr) w6 := hI.ext (hB.wait 13 38 hL (by kernel_rfl))
                          exact stepI_run (v := .int .i64 (p : Int)) rfl (by simp [execOp, go_sem, Act.eval, b83, b84, HPA.out, HPB.out]) (hI.step 13 (by decide) rfl)
                        · intro L vs a w6 hB hL hd hI
                          have b80 : a.tmps[80]?.getD undef = .slice (some ⟨g, 0, none⟩) ((m + 1) * (m + 1)) c4 := (hB.val 8 (hd ⟨8, .data⟩ (by simp) rfl) 80 rfl).trans (hI.1 8 (by decide) (hd ⟨8, .data⟩ (by simp) rfl))
                          have b85 : a.tmps[85]?.getD undef = .int .i64 (p : Int) := (hB.val 13 (hd ⟨13, .data⟩ (by simp) rfl) 85 rfl).trans (hI.1 13 (by decide) (hd ⟨13, .data⟩ (by simp) rfl))
                          have hx : Below (wr).heap.size (wr) w6 := hI.ext (hB.wait 14 38 hL (by kernel_rfl))
                          exact stepI_run (v := .pointer (some ⟨g, p, none⟩)) rfl (by simp [execOp, go_sem, Act.eval, b80, b85, hp2, addr_lit0]) (hI.step 14 (by decide) rfl)
                        · intro L vs a w6 hB hL hd hI
                          have b86 : a.tmps[86]?.getD undef = .pointer (some ⟨g, p, none⟩) := (hB.val 14 (hd ⟨14, .data⟩ (by simp) rfl) 86 rfl).trans (hI.1 14 (by decide) (hd ⟨14, .data⟩ (by simp) rfl))
                          have hx : Below (wr).heap.size (wr) w6 := hI.ext (hB.wait 15 38 hL (by kernel_rfl))
                          have qc := HC1.out w6 hx
                          exact stepI_run (v := .int .i64 a1) rfl (by simp [execOp, go_sem, Act.eval, b86, qc]) (hI.step 15 (by decide) rfl)
                        · intro L vs a w6 hB hL hd hI
                          have b5 : a.tmps[5]?.getD undef = .pointer (some ⟨nb, 0, none⟩) := hB.at 5 (by kernel_rfl)
                          have hx : Below (wr).heap.size (wr) w6 := hI.ext (hB.wait 16 38 hL (by kernel_rfl))
                          exact stepI_run (v := .pointer (some ⟨nb, 1, none⟩)) rfl (by simp [execOp, go_sem, Act.eval, b5]) (hI.step 16 (by decide) rfl)
                        · intro L vs a w6 hB hL hd hI
                          have b88 : a.tmps[88]?.getD undef = .pointer (some ⟨nb, 1, none⟩) := (hB.val 16 (hd ⟨16, .data⟩ (by simp) rfl) 88 rfl).trans (hI.1 16 (by decide) (hd ⟨16, .data⟩ (by simp) rfl))
                          have hx : Below (wr).heap.size (wr) w6 := hI.ext (hB.wait 17 38 hL (by kernel_rfl))
                          have q1 := (HNB.out.below hx).cell 1
                          exact stepI_run (v := .slice (some ⟨g, 0, none⟩) ((m + 1) * (m + 1)) c4) rfl (by simp [execOp, go_sem, Act.eval, b88, q1]) (hI.step 17 (by decide) rfl)
                        · intro L vs a w6 hB hL hd hI
                          have b9 : a.tmps[9]?.getD undef = .int .i64 (i : Int) := hB.at 9 (by kernel_rfl)
                          have hx : Below (wr).heap.size (wr) w6 := hI.ext (hB.wait 18 38 hL (by kernel_rfl))
                          exact stepI_run (v := .int .i64 (i : Int)) rfl (by simp [execOp, go_sem, Act.eval, b9]) (hI.step 18 (by decide) rfl)
                        · intro L vs a w6 hB hL hd hI
                          have b4 : a.tmps[4]?.getD undef = .int .i64 ((m : Int) + 1) := hB.at 4 (by kernel_rfl)
                          have hx : Below (wr).heap.size (wr) w6 := hI.ext (hB.wait 19 38 hL (by kernel_rfl))
                          exact stepI_run (v := .int .i64 ((m : Int) + 1)) rfl (by simp [execOp, go_sem, Act.eval, b4]) (hI.step 19 (by decide) rfl)
                        · intro L vs a w6 hB hL hd hI
                          have b90 : a.tmps[90]?.getD undef = .int .i64 (i : Int) := (hB.val 18 (hd ⟨18, .data⟩ (by simp) rfl) 90 rfl).trans (hI.1 18 (by decide) (hd ⟨18, .data⟩ (by simp) rfl))
                          have b91 : a.tmps[91]?.getD undef = .int .i64 ((m : Int) + 1) := (hB.val 19 (hd ⟨19, .data⟩ (by simp) rfl) 91 rfl).trans (hI.1 19 (by decide) (hd ⟨19, .data⟩ (by simp) rfl))
                          have hx : Below (wr).heap.size (wr) w6 := hI.ext (hB.wait 20 38 hL (by kernel_rfl))
                          exact stepI_run (v := .int .i64 (r : Int)) rfl (by simp [execOp, go_sem, Act.eval, b90, b91, HRM.out, HRW.out]) (hI.step 20 (by decide) rfl)
                        · intro L vs a w6 hB hL hd hI
                          have b8 : a.tmps[8]?.getD undef = .int .i64 (k : Int) := hB.at 8 (by kernel_rfl)
                          have hx : Below (wr).heap.size (wr) w6 := hI.ext (hB.wait 21 38 hL (by kernel_rfl))
                          exact stepI_run (v := .int .i64 (k : Int)) rfl (by simp [execOp, go_sem, Act.eval, b8]) (hI.step 21 (by decide) rfl)
                        · intro L vs a w6 hB hL hd hI
                          have b92 : a.tmps[92]?.getD undef = .int .i64 (r : Int) := (hB.val 20 (hd ⟨20, .data⟩ (by simp) rfl) 92 rfl).trans (hI.1 20 (by decide) (hd ⟨20, .data⟩ (by simp) rfl))
                          have b93 : a.tmps[93]?.getD undef = .int .i64 (k : Int) := (hB.val 21 (hd ⟨21, .data⟩ (by simp) rfl) 93 rfl).trans (hI.1 21 (by decide) (hd ⟨21, .data⟩ (by simp) rfl))
                          have hx : Below (wr).heap.size (wr) w6 := hI.ext (hB.wait 22 38 hL (by kernel_rfl))
                          exact stepI_run (v := .int .i64 (p2 : Int)) rfl (by simp [execOp, go_sem, Act.eval, b92, b93, HQA.out, HQB.out]) (hI.step 22 (by decide) rfl)
                        · intro L vs a w6 hB hL hd hI
                          have b89 : a.tmps[89]?.getD undef = .slice (some ⟨g, 0, none⟩) ((m + 1) * (m + 1)) c4 := (hB.val 17 (hd ⟨17, .data⟩ (by simp) rfl) 89 rfl).trans (hI.1 17 (by decide) (hd ⟨17, .data⟩ (by simp) rfl))
                          have b94 : a.tmps[94]?.getD undef = .int .i64 (p2 : Int) := (hB.val 22 (hd ⟨22, .data⟩ (by simp) rfl) 94 rfl).trans (hI.1 22 (by decide) (hd ⟨22, .data⟩ (by simp) rfl))
                          have hx : Below (wr).heap.size (wr) w6 := hI.ext (hB.wait 23 38 hL (by kernel_rfl))
                          exact stepI_run (v := .pointer (some ⟨g, p2, none⟩)) rfl (by simp [execOp, go_sem, Act.eval, b89, b94, hp3, addr_lit0]) (hI.step 23 (by decide) rfl)
                        · intro L vs a w6 hB hL hd hI
                          have b95 : a.tmps[95]?.getD undef = .pointer (some ⟨g, p2, none⟩) := (hB.val 23 (hd ⟨23, .data⟩ (by simp) rfl) 95 rfl).trans (hI.1 23 (by decide) (hd ⟨23, .data⟩ (by simp) rfl))
                          have hx : Below (wr).heap.size (wr) w6 := hI.ext (hB.wait 24 38 hL (by kernel_rfl))
                          have qc := HC2.out w6 hx
                          exact stepI_run (v := .int .i64 a2) rfl (by simp [execOp, go_sem, Act.eval, b95, qc]) (hI.step 24 (by decide) rfl)
                        · intro L vs a w6 hB hL hd hI
                          have b5 : a.tmps[5]?.getD undef = .pointer (some ⟨nb, 0, none⟩) := hB.at 5 (by kernel_rfl)
                          have hx : Below (wr).heap.size (wr) w6 := hI.ext (hB.wait 25 38 hL (by kernel_rfl))
                          exact stepI_run (v := .pointer (some ⟨nb, 1, none⟩)) rfl (by simp [execOp, go_sem, Act.eval, b5]) (hI.step 25 (by decide) rfl)
                        · intro L vs a w6 hB hL hd hI
                          have b97 : a.tmps[97]?.getD undef = .pointer (some ⟨nb, 1, none⟩) := (hB.val 25 (hd ⟨25, .data⟩ (by simp) rfl) 97 rfl).trans (hI.1 25 (by decide) (hd ⟨25, .data⟩ (by simp) rfl))
                          have hx : Below (wr).heap.size (wr) w6 := hI.ext (hB.wait 26 38 hL (by kernel_rfl))
                          have q1 := (HNB.out.below hx).cell 1
                          exact stepI_run (v := .slice (some ⟨g, 0, none⟩) ((m + 1) * (m + 1)) c4) rfl (by simp [execOp, go_sem, Act.eval, b97, q1]) (hI.step 26 (by decide) rfl)
                        · intro L vs a w6 hB hL hd hI
                          have b8 : a.tmps[8]?.getD undef = .int .i64 (k : Int) := hB.at 8 (by kernel_rfl)
                          have hx : Below (wr).heap.size (wr) w6 := hI.ext (hB.wait 27 38 hL (by kernel_rfl))
                          exact stepI_run (v := .int .i64 (k : Int)) rfl (by simp [execOp, go_sem, Act.eval, b8]) (hI.step 27 (by decide) rfl)
                        · intro L vs a w6 hB hL hd hI
                          have b4 : a.tmps[4]?.getD undef = .int .i64 ((m : Int) + 1) := hB.at 4 (by kernel_rfl)
                          have hx : Below (wr).heap.size (wr) w6 := hI.ext (hB.wait 28 38 hL (by kernel_rfl))
                          exact stepI_run (v := .int .i64 ((m : Int) + 1)) rfl (by simp [execOp, go_sem, Act.eval, b4]) (hI.step 28 (by decide) rfl)
                        · intro L vs a w6 hB hL hd hI
                          have b99 : a.tmps[99]?.getD undef = .int .i64 (k : Int) := (hB.val 27 (hd ⟨27, .data⟩ (by simp) rfl) 99 rfl).trans (hI.1 27 (by decide) (hd ⟨27, .data⟩ (by simp) rfl))
                          have b100 : a.tmps[100]?.getD undef = .int .i64 ((m : Int) + 1) := (hB.val 28 (hd ⟨28, .data⟩ (by simp) rfl) 100 rfl).trans (hI.1 28 (by decide) (hd ⟨28, .data⟩ (by simp) rfl))
                          have hx : Below (wr).heap.size (wr) w6 := hI.ext (hB.wait 29 38 hL (by kernel_rfl))
                          exact stepI_run (v := .int .i64 (r3 : Int)) rfl (by simp [execOp, go_sem, Act.eval, b99, b100, HSM.out, HSW.out]) (hI.step 29 (by decide) rfl)
                        · intro L vs a w6 hB hL hd hI
                          have b10 : a.tmps[10]?.getD undef = .int .i64 (j : Int) := hB.at 10 (by kernel_rfl)
                          have hx : Below (wr).heap.size (wr) w6 := hI.ext (hB.wait 30 38 hL (by kernel_rfl))
                          exact stepI_run (v := .int .i64 (j : Int)) rfl (by simp [execOp, go_sem, Act.eval, b10]) (hI.step 30 (by decide) rfl)
                        · intro L vs a w6 hB hL hd hI
                          have b101 : a.tmps[101]?.getD undef = .int .i64 (r3 : Int) := (hB.val 29 (hd ⟨29, .data⟩ (by simp) rfl) 101 rfl).trans (hI.1 29 (by decide) (hd ⟨29, .data⟩ (by simp) rfl))
                          have b102 : a.tmps[102]?.getD undef = .int .i64 (j : Int) := (hB.val 30 (hd ⟨30, .data⟩ (by simp) rfl) 102 rfl).trans (hI.1 30 (by decide) (hd ⟨30, .data⟩ (by simp) rfl))
                          have hx : Below (wr).heap.size (wr) w6 := hI.ext (hB.wait 31 38 hL (by kernel_rfl))
                          exact stepI_run (v := .int .i64 (p3 : Int)) rfl (by simp [execOp, go_sem, Act.eval, b101, b102, HTA.out, HTB.out]) (hI.step 31 (by decide) rfl)
                        · intro L vs a w6 hB hL hd hI
                          have b98 : a.tmps[98]?.getD undef = .slice (some ⟨g, 0, none⟩) ((m + 1) * (m + 1)) c4 := (hB.val 26 (hd ⟨26, .data⟩ (by simp) rfl) 98 rfl).trans (hI.1 26 (by decide) (hd ⟨26, .data⟩ (by simp) rfl))
                          have b103 : a.tmps[103]?.getD undef = .int .i64 (p3 : Int) := (hB.val 31 (hd ⟨31, .data⟩ (by simp) rfl) 103 rfl).trans (hI.1 31 (by decide) (hd ⟨31, .data⟩ (by simp) rfl))
                          have hx : Below (wr).heap.size (wr) w6 := hI.ext (hB.wait 32 38 hL (by kernel_rfl))
                          exact stepI_run (v := .pointer (some ⟨g, p3, none⟩)) rfl (by simp [execOp, go_sem, Act.eval, b98, b103, hp4, addr_lit0]) (hI.step 32 (by decide) rfl)
                        · intro L vs a w6 hB hL hd hI
                          have b104 : a.tmps[104]?.getD undef = .pointer (some ⟨g, p3, none⟩) := (hB.val 32 (hd ⟨32, .data⟩ (by simp) rfl) 104 rfl).trans (hI.1 32 (by decide) (hd ⟨32, .data⟩ (by simp) rfl))
                          have hx : Below (wr).heap.size (wr) w6 := hI.ext (hB.wait 33 38 hL (by kernel_rfl))
                          have qc := HC3.out w6 hx
                          exact stepI_run (v := .int .i64 a3) rfl (by simp [execOp, go_sem, Act.eval, b104, qc]) (hI.step 33 (by decide) rfl)
                        · intro L vs a w6 hB hL hd hI
                          have b96 : a.tmps[96]?.getD undef = .int .i64 a2 := (hB.val 24 (hd ⟨24, .data⟩ (by simp) rfl) 96 rfl).trans (hI.1 24 (by decide) (hd ⟨24, .data⟩ (by simp) rfl))
                          have b105 : a.tmps[105]?.getD undef = .int .i64 a3 := (hB.val 33 (hd ⟨33, .data⟩ (by simp) rfl) 105 rfl).trans (hI.1 33 (by decide) (hd ⟨33, .data⟩ (by simp) rfl))
                          have hx : Below (wr).heap.size (wr) w6 := hI.ext (hB.wait 34 38 hL (by kernel_rfl))
                          exact stepI_run (v := .int .i64 (a2 + a3)) rfl (by simp [execOp, go_sem, Act.eval, b96, b105, HW.out]) (hI.step 34 (by decide) rfl)
                        · intro L vs a w6 hB hL hd hI
                          have b106 : a.tmps[106]?.getD undef = .int .i64 (a2 + a3) := (hB.val 34 (hd ⟨34, .data⟩ (by simp) rfl) 106 rfl).trans (hI.1 34 (by decide) (hd ⟨34, .data⟩ (by simp) rfl))
                          have hx : Below (wr).heap.size (wr) w6 := hI.ext (hB.wait 35 38 hL (by kernel_rfl))
                          exact stepI_run (v := .int .i64 (max (-20001) (a2 + a3))) rfl (by simp [go_sem, Act.eval, b106]; split <;> omega) (hI.step 35 (by decide) rfl)
                        · intro L vs a w6 hB hL hd hI
                          have b87 : a.tmps[87]?.getD undef = .int .i64 a1 := (hB.val 15 (hd ⟨15, .data⟩ (by simp) rfl) 87 rfl).trans (hI.1 15 (by decide) (hd ⟨15, .data⟩ (by simp) rfl))
                          have b107 : a.tmps[107]?.getD undef = .int .i64 (max (-20001) (a2 + a3)) := (hB.val 35 (hd ⟨35, .data⟩ (by simp) rfl) 107 rfl).trans (hI.1 35 (by decide) (hd ⟨35, .data⟩ (by simp) rfl))
                          have hx : Below (wr).heap.size (wr) w6 := hI.ext (hB.wait 36 38 hL (by kernel_rfl))
                          exact stepI_run (v := .int .i64 x) rfl (by simp [go_sem, Act.eval, b87, b107]; split <;> omega) (hI.step 36 (by decide) rfl)
                        · intro L vs a w6 hB hL hd hI
                          have b73 : a.tmps[73]?.getD undef = .slice (some ⟨g, 0, none⟩) ((m + 1) * (m + 1)) c4 := (hB.val 1 (hd ⟨1, .data⟩ (by simp) rfl) 73 rfl).trans (hI.1 1 (by decide) (hd ⟨1, .data⟩ (by simp) rfl))
                          have b78 : a.tmps[78]?.getD undef = .int .i64 (p : Int) := (hB.val 6 (hd ⟨6, .data⟩ (by simp) rfl) 78 rfl).trans (hI.1 6 (by decide) (hd ⟨6, .data⟩ (by simp) rfl))
                          have hx : Below (wr).heap.size (wr) w6 := hI.ext (hB.wait 37 38 hL (by kernel_rfl))
                          exact stepI_run (v := .pointer (some ⟨g, p, none⟩)) rfl (by simp [execOp, go_sem, Act.eval, b73, b78, hp2, addr_lit0]) (hI.step 37 (by decide) rfl)
                        · intro L vs a w6 hB hL hd hI
                          have b109 : a.tmps[109]?.getD undef = .pointer (some ⟨g, p, none⟩) := (hB.val 37 (hd ⟨37, .data⟩ (by simp) rfl) 109 rfl).trans (hI.1 37 (by decide) (hd ⟨37, .data⟩ (by simp) rfl))
                          have b108 : a.tmps[108]?.getD undef = .int .i64 x := (hB.val 36 (hd ⟨36, .data⟩ (by simp) rfl) 108 rfl).trans (hI.1 36 (by decide) (hd ⟨36, .data⟩ (by simp) rfl))
                          have hx : Below (wr).heap.size (wr) w6 := hI.ext hL
                          have f1 := (HO.out.keep hx).frozenAt p
                          have q1 := HC1.out w6 hx
                          exact stepI_skip (w' := w6.setCell (⟨g, p, none⟩) (.int .i64 x)) rfl (by simp [execOp, go_sem, Act.eval, b109, b108, f1, q1]) (hI.put hL)
                      · intro L vs w7 hall hI
                        obtain ⟨w6, HEXT, hw7⟩ := hI.fin (hall 38 (by decide))
                        subst hw7
                        clear hI hall
                        simp only [putAll, Act.put, List.setIfInBounds_toArray, List.set_cons_zero, List.set_cons_succ, Nat.zero_add, Nat.reduceAdd]
                        have HO2 := Lib.hid (own_upd (p := p) (x := x) HO.out HEXT.out)
                        have HST2 := Lib.hid (show RP (m + 1) (dm (m + 1) b) k (i * (m + 1) + (j + 1)) (l.set p x) from by rw [HPP.out]; exact HST.out)
                        have HBE2 := Lib.hid ((HBE.out.trans (HEXT.out.mono HBE.out.size)).setCell (p := ⟨g, p, none⟩) (by show w.heap.size ≤ g; omega) (.int .i64 x))
                        have HRB2 := Lib.hid ((HRB.out.below HEXT.out).other (c := g) (i := p) (u := .int .i64 x) (by omega))
                        have HX2 := Lib.hid ((HNB.out.below HEXT.out).other (c := g) (i := p) (u := .int .i64 x) (by omega))
                        clear HEXT HO HBE HNB HRB HST HC1 HC2 HC3 HRM HRW HSM HSW HPA HPB HQA HQB HTA HTB HW hxx hp2 hp3 hp4
                        go_wp2_with fail
                        go_roundw
                        case rel => exact ⟨j + 1, _, by omega, by go_num, HST2, HO2, HBE2, HRB2, HX2.out⟩
                        case measure => simp [intOf]; omega
                    · obtain rfl : j = m + 1 := by omega
                      have HRP2 := Lib.hid (show RP (m + 1) (dm (m + 1) b) k ((i + 1) * (m + 1)) l from by rw [show (i + 1) * (m + 1) = i * (m + 1) + (m + 1) from Nat.succ_mul _ _]; exact HRP.out)
                      have HX2 := Lib.hid hx
                      clear hx HRP
                      go_wp2_with fail
                      go_roundw
                      case rel => exact ⟨i + 1, _, by omega, by go_num, HRP2, HO, HBE, HRB, HX2.out⟩
                      case measure => simp [intOf]; omega
                · obtain rfl : i = m + 1 := by omega
                  have HRP2 := Lib.hid (RP.next HZ.out.dok hkl HRP.out)
                  have HX2 := Lib.hid hx
                  clear hx HRP
                  go_wp2_with fail
                  go_roundw
                  case rel => exact ⟨k + 1, _, by omega, by go_num, HRP2, HO, HBE, HRB, HX2.out⟩
                  case measure => simp [intOf]; omega
            · have hkm : k = m + 1 := by omega
              have dk : decide ((k : Int) < (m : Int) + 1) = false := decide_eq_false (by omega)
              have HRP := Lib.hid (show RP (m + 1) (dm (m + 1) b) (m + 1) 0 l from by have h9 := HRP.out; rwa [hkm] at h9)
              have hgl := HRP.out.1
              have HX2 := Lib.hid hx
              have HGL := Lib.hid hgl
              have HNG := Lib.hid (fun (q : Nat) (hq : q < m + 1) (hneg : gt (m + 1) l q q < 0) => closeZ_none ((closeR_nat HZ.out).trans (RP.neg HZ.out HRP.out hq hneg)))
              have HFN := Lib.hid (fun hd => closeZ_some ((closeR_nat HZ.out).trans (RP.fin HZ.out HRP.out hd)))
              have HAL0 := Lib.hid (show ∀ q, q < 0 → 0 ≤ gt (m + 1) l q q from by intro q hq; omega)
              clear hx HRP hgl hkm
              go_wp2_with fail
              go_loopw [11] (fun xv wr' => ∃ q : Nat, q ≤ m + 1 ∧ xv = .int .i64 (q : Int) ∧ Hid (∀ x, x < q → 0 ≤ gt (m + 1) l x x) ∧ Hid (wr' = wr)) (fun i _ => m + 1 - (intOf i).toNat)
              case atStart => exact ⟨0, Nat.zero_le _, rfl, HAL0, by first | trivial | exact Lib.hid rfl⟩
              case round =>
                clear HAL0
                obtain ⟨q, hq, rfl, HAL, HWR⟩ := hrel
                obtain rfl := HWR.out
                obtain ⟨y0, y1⟩ := HX2.out.k2
                obtain ⟨z0, z1⟩ := HRB.out.k2
                obtain ⟨f0, f1⟩ := HRB.out.f2
                by_cases hql : q < m + 1
                · have dq : decide ((q : Int) < (m : Int) + 1) = true := decide_eq_true (by omega)
                  have hsq := sq_lt hql hql
                  have hmf := mul_few hm (show q ≤ m by omega)
                  have hc := own_gt HO.out HGL.out.len hql hql _ (Below.refl _ _)
                  have HNG1 := Lib.hid (HNG.out q hql)
                  have HAL1 := Lib.hid (show 0 ≤ gt (m + 1) l q q → ∀ x, x < q + 1 → 0 ≤ gt (m + 1) l x x from fun h x hx => by
                    by_cases e : x = q
                    · subst e; exact h
                    · exact HAL.out x (by omega))
                  generalize gt (m + 1) l q q = y at *
                  have hp1 : ((q * (m + 1) + q : Nat) : Int) < ((((m + 1) * (m + 1)) : Nat) : Int) := by omega
                  have hrm : (q : Int) * ((m : Int) + 1) = ((q * (m + 1) : Nat) : Int) := by push_cast; rfl
                  generalize hrr : q * (m + 1) = r at *
                  have hpa : (r : Int) + (q : Int) = ((r + q : Nat) : Int) := by push_cast; rfl
                  generalize hpp : r + q = p at *
                  have hp2 : ¬ (((m : Int) + 1) * ((m : Int) + 1) ≤ (p : Int)) := by push_cast at hp1; omega
                  have hpl := addr_lit0 g p
                  by_cases hneg : y < 0
                  · have HR := Lib.hid (HNG1.out hneg)
                    clear HNG1 HAL1 HNG HFN HAL hsq
                    go_wp2_with fail
                    refine bodyPost_ret (v := .tuple #[.agg #[.int .i64 0, .slice none 0 0], .bool false]) (bx_ret2 ((HRB.out.set 0 _).set 1 _) Try.results26 _ rfl Try.underlying24 rfl (by kernel_rfl)) rfl ?_
                    exact zp_zero HR.out (by omega) HBE.out
                  · have HAL2 := Lib.hid (HAL1.out (by omega))
                    have hnn : decide (y < 0) = false := decide_eq_false hneg
                    clear HNG1 HAL1 hsq
                    go_wp2_with fail
                    go_roundw
                    case rel => exact ⟨q + 1, by omega, by go_num, HAL2, by first | trivial | exact Lib.hid rfl⟩
                    case measure => simp [intOf]; omega
                · obtain rfl : q = m + 1 := by omega
                  have HR := Lib.hid (HFN.out HAL.out)
                  clear HNG HFN HAL
                  go_wp2_with fail
                  refine bodyPost_ret (v := .tuple #[.agg #[.int .i64 (m : Int), .slice (some ⟨g, 0, none⟩) ((m + 1) * (m + 1)) c4], .bool true]) (bx_ret2 ((HRB.out.set 0 _).set 1 _) Try.results26 _ rfl Try.underlying24 rfl (by kernel_rfl)) rfl ?_
                  exact zp_fin HR.out (by omega) HBE.out (by omega) HO.out (by
                    intro e
                    have e2 : g = w.heap.size + 1 := by simpa [Value.ownBlock] using e
                    omega)
end Go.Proofs.Yteoddcamicmapaa
