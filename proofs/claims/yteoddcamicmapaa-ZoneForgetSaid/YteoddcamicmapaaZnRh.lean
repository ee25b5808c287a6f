/- Layer 13: the reference's number and Holds (tools/gen_zq.py). -/
import Derived.Test.YteoddcamicmapaaZnHo
namespace Go.Proofs.Yteoddcamicmapaa
open Go.RowKit

set_option maxHeartbeats 400000 in
theorem rnumber_any (i : Nat) (A : Option Addr) (c : Nat) (vs : List Int) (w : World) (h : Sl iv w (.slice A vs.length c) vs) (hi : i ≤ vs.length) (hl : vs.length ≤ 1000) :
    Calls Try.prog 61 #[.slice A vs.length c, .int .i64 (i : Int)] w (Tells w (.int .i64 (nmB vs i))) := by
  cases i with
  | zero =>
    go_enter Try.func61, Try.ntmps61
    go_wp2
    go_ret
    exact Tells.of (Below.refl _ _)
  | succ k =>
    obtain ⟨ad, c', hs, -, hc⟩ := sl_cell h k (by omega)
    simp only [Value.slice.injEq, true_and] at hs
    obtain ⟨rfl, rfl⟩ := hs
    have e : nmB vs (k + 1) = vs[k] := by unfold nmB; rw [List.getD_eq_getElem?_getD, List.getElem?_cons_succ, List.getElem?_eq_getElem (by omega)]; rfl
    rw [e]
    generalize vs[k] = x at *
    unfold iv at hc
    have h0 : (((k + 1 : Nat) : Int) == 0) = false := by rw [beq_eq_false_iff_ne]; omega
    have hk1 : ((k + 1 : Nat) : Int) - 1 = (k : Int) := by omega
    have hk0 : (0 : Int) ≤ (k : Int) := by omega
    have hk2 : (k : Int) < (vs.length : Int) := by omega
    clear h e
    go_enter Try.func61, Try.ntmps61
    go_wp2
    go_ret
    exact Tells.of (Below.refl _ _)
set_option maxRecDepth 20000 in
set_option maxHeartbeats 1000000 in
theorem rholds_any (N : Int) (v u : Value) (b vs : List Int) (w : World) (h : Sl iv w v b) (hl : b.length ≤ 9223372036854775807) (h2 : Sl iv w u vs) (hl2 : vs.length ≤ 9223372036854775807) :
    Calls Try.prog 40 #[.agg #[.int .i64 N, v], u] w (Tells w (.bool (holdsR N b vs))) := by
  obtain ⟨A, c, rfl⟩ := h.shape
  obtain ⟨A2, c2, rfl⟩ := h2.shape
  have H := Lib.hid h
  have H2 := Lib.hid h2
  clear h h2
  obtain ⟨R, hR⟩ : ∃ R, R = holdsR N b vs := ⟨_, rfl⟩
  rw [← hR]
  unfold holdsR at hR
  have HX := Lib.hid (Bx.new w 24 #[.int .i64 N, .slice A b.length c])
  cases hp : zvB N b with
  | false =>
    rw [hp, Bool.false_and, Bool.false_and] at hR
    subst hR
    have Hp := Lib.hid hp
    clear hp HX
    go_enter Try.func40, Try.ntmps40
    go_wp2_with fail
    refine (rvalid_any N _ b _ (H.out.below (al1 w _)) hl).mono ?_; rintro e w1 ⟨rfl, hb⟩; rw [Hp.out]
    have HB := Lib.hid ((al1 w (.cells #[.int .i64 N, .slice A b.length c] 24)).trans (hb.mono (by simp)))
    clear hb
    go_wp2
    go_ret
    exact Tells.of HB.out
  | true =>
    obtain ⟨m, rfl, hm, hlen, hz⟩ := zv_nat hp
    have HZL := Lib.hid hlen
    rw [hp, Bool.true_and] at hR
    have Hp := Lib.hid hp
    clear hp hz hlen
    by_cases hvl : (vs.length : Int) = (m : Int)
    rotate_left
    · rw [decide_eq_false hvl, Bool.false_and] at hR
      subst hR
      have hne : ((vs.length : Int) != (m : Int)) = true := by rw [bne_iff_ne]; exact hvl
      clear hvl
      go_enter Try.func40, Try.ntmps40
      go_wp2_with fail
      refine (rvalid_any m _ b _ (H.out.below (al1 w _)) hl).mono ?_; rintro e w1 ⟨rfl, hb⟩; rw [Hp.out]
      have HB := Lib.hid ((al1 w (.cells #[.int .i64 (m : Int), .slice A b.length c] 24)).trans (hb.mono (by simp)))
      obtain ⟨x0, x1⟩ := (HX.out.below hb).k2
      clear hb HX
      go_wp2
      go_ret
      exact Tells.of HB.out
    rw [decide_eq_true hvl, Bool.true_and] at hR
    obtain rfl : vs.length = m := by omega
    rw [show ((vs.length : Int) + 1).toNat = vs.length + 1 by omega] at hR
    have HR := Lib.hid hR
    have hne : ((vs.length : Int) != (vs.length : Int)) = false := by rw [bne_eq_false_iff_eq]
    clear hvl hR
    go_enter Try.func40, Try.ntmps40
    go_wp2_with fail
    refine (rvalid_any (vs.length : Int) _ b _ (H.out.below (al1 w _)) hl).mono ?_; rintro e w1 ⟨rfl, hb⟩; rw [Hp.out]
    have HB := Lib.hid ((al1 w (.cells #[.int .i64 (vs.length : Int), .slice A b.length c] 24)).trans (hb.mono (by simp)))
    have HX1 := Lib.hid (HX.out.below hb)
    obtain ⟨x0, x1⟩ := HX1.out.k2
    clear hb HX
    go_wp2_with fail
    clear hne x0 x1
    go_loopw [5] (fun i wr => ∃ k : Nat, k ≤ vs.length ∧ i = .int .i64 k ∧ Hid (∀ x ∈ vs.take k, InV x) ∧ Hid (wr = w1)) (fun i _ => vs.length - (intOf i).toNat)
    case atStart => exact ⟨0, Nat.zero_le _, rfl, Lib.hid (by intro x hx; simp at hx), by first | trivial | exact Lib.hid rfl⟩
    case round =>
      obtain ⟨k, hk, rfl, Hall, HWR⟩ := hrel
      obtain rfl := HWR.out
      by_cases hlt : k < vs.length
      · obtain ⟨ad, c', hs, hcap, hcell⟩ := sl_cell (H2.out.below HB.out) k hlt
        simp only [Value.slice.injEq, true_and] at hs
        obtain ⟨rfl, rfl⟩ := hs
        have Hn := Lib.hid (fun h => take_ok hlt Hall.out h)
        have Hb := Lib.hid (show ¬ InV vs[k] → R = false from fun h => by
          rw [HR.out, decide_eq_false (p := ∀ x ∈ vs, InV x) (fun h2 => h (h2 _ (List.getElem_mem hlt))), Bool.false_and])
        generalize vs[k] = x at *
        unfold iv at hcell
        by_cases hx : InV x
        · have Hn2 := Lib.hid (Hn.out hx)
          unfold InV at hx
          obtain ⟨h0, h1⟩ := hx
          clear Hn Hb
          go_wp2
          go_roundw
          case rel => exact ⟨k + 1, by omega, by go_num, Hn2, by first | trivial | exact Lib.hid rfl⟩
          case measure => simp [intOf]; omega
        · have hr := Hb.out hx
          subst hr
          unfold InV at hx
          by_cases h0 : x < -10000
          · clear hx Hn Hb
            go_wp2
            go_ret
            exact Tells.of HB.out
          · have h1 : ¬ x ≤ 10000 := fun h => hx ⟨by omega, h⟩
            clear hx Hn Hb
            go_wp2
            go_ret
            exact Tells.of HB.out
      · have hall : ∀ x ∈ vs, InV x := by have := Hall.out; rwa [List.take_of_length_le (by omega)] at this
        have HA := Lib.hid hall
        have HR2 := Lib.hid (show R = perB (vs.length + 1) (dfB vs) b from by rw [HR.out, decide_eq_true hall, Bool.true_and])
        clear hall Hall
        go_wp2_with fail
        go_loopw [6] (fun i wr => ∃ k : Nat, k ≤ vs.length + 1 ∧ i = .int .i64 (k : Int) ∧ Hid (∀ i j, i < k → j < vs.length + 1 → dfB vs i j ≤ gt (vs.length + 1) b i j) ∧ Hid (Below w.heap.size w wr) ∧ Bx wr w.heap.size 24 #[.int .i64 (vs.length : Int), .slice A b.length c]) (fun i _ => vs.length + 1 - (intOf i).toNat)
        case atStart => exact ⟨0, Nat.zero_le _, rfl, Lib.hid (by intro i j hi; omega), HB, HX1.out⟩
        case round =>
          obtain ⟨i, hi, rfl, HAL, HBE, hx⟩ := hrel
          obtain ⟨x0, x1⟩ := hx.k2
          by_cases hil : i < vs.length + 1
          · have HX := Lib.hid hx
            have di : decide ((i : Int) ≤ (vs.length : Int)) = true := decide_eq_true (by omega)
            have hi1 : (i : Int) ≤ (vs.length : Int) := by omega
            clear hx
            go_wp2_with fail
            clear x0 x1
            go_loopw [7] (fun jv wr => ∃ j : Nat, j ≤ vs.length + 1 ∧ jv = .int .i64 (j : Int) ∧ Hid (∀ l, l < j → dfB vs i l ≤ gt (vs.length + 1) b i l) ∧ Hid (Below w.heap.size w wr) ∧ Bx wr w.heap.size 24 #[.int .i64 (vs.length : Int), .slice A b.length c]) (fun jv _ => vs.length + 1 - (intOf jv).toNat)
            case atStart => exact ⟨0, Nat.zero_le _, rfl, Lib.hid (by intro l hl; omega), HBE, HX.out⟩
            case round =>
              clear HBE HX
              obtain ⟨j, hj, rfl, HAL2, HBE, hx⟩ := hrel
              obtain ⟨x0, x1⟩ := hx.k2
              by_cases hjl : j < vs.length + 1
              · have HX := Lib.hid hx
                have hj1 : (j : Int) ≤ (vs.length : Int) := by omega
                have hsq := sq_lt hil hjl
                obtain ⟨ad, c', hs, -, hcell⟩ := sl_cell (H.out.below HBE.out) (i * (vs.length + 1) + j) (by rw [HZL.out]; exact hsq)
                simp only [Value.slice.injEq, true_and] at hs
                obtain ⟨rfl, rfl⟩ := hs
                rw [gt_at (n := vs.length + 1)] at hcell
                have hs2 : Sl iv wr (.slice A2 vs.length c2) vs := H2.out.below HBE.out
                have HNI := Lib.hid (fun w' (hw : Below wr.heap.size wr w') => rnumber_any i A2 c2 vs w' (hs2.below hw) (by omega) (by omega))
                have HNJ := Lib.hid (fun w' (hw : Below wr.heap.size wr w') => rnumber_any j A2 c2 vs w' (hs2.below hw) (by omega) (by omega))
                have b1 := nm_in HA.out i
                have b2 := nm_in HA.out j
                unfold InV at b1 b2
                have HDF := Lib.hid (show dfB vs i j = nmB vs i - nmB vs j from rfl)
                have HGT := Lib.hid (show gt (vs.length + 1) b i j = gt (vs.length + 1) b i j from rfl)
                obtain ⟨x, hxx⟩ : ∃ x, x = gt (vs.length + 1) b i j := ⟨_, rfl⟩
                have HXX := Lib.hid hxx
                rw [← hxx] at hcell
                obtain ⟨yi, hyi⟩ : ∃ y, y = nmB vs i := ⟨_, rfl⟩
                obtain ⟨yj, hyj⟩ : ∃ y, y = nmB vs j := ⟨_, rfl⟩
                rw [← hyi] at HNI HDF b1
                rw [← hyj] at HNJ HDF b2
                have hbl : i * (vs.length + 1) + j < b.length := by rw [HZL.out]; exact hsq
                have hmf := mul_few hm (show i ≤ vs.length by omega)
                have HM0 : (i : Int) * ((vs.length : Int) + 1) = ((i * (vs.length + 1) : Nat) : Int) := by push_cast; rfl
                generalize hr : i * (vs.length + 1) = r at *
                have HM := Lib.hid HM0
                have HP := Lib.hid (show (r : Int) + (j : Int) = ((r + j : Nat) : Int) from by push_cast; rfl)
                generalize hpp : r + j = p at *
                have HLT : (p : Int) < (b.length : Int) := by omega
                have HW := Lib.hid (show IntKind.i64.wrap (yi - yj) = yi - yj from by rw [IntKind.wrap_i64]; omega)
                have HW1 := Lib.hid (show IntKind.i64.wrap ((vs.length : Int) + 1) = (vs.length : Int) + 1 from by rw [IntKind.wrap_i64]; omega)
                have HW2 := Lib.hid (show IntKind.i64.wrap (r : Int) = (r : Int) from by rw [IntKind.wrap_i64]; omega)
                have HW3 := Lib.hid (show IntKind.i64.wrap (p : Int) = (p : Int) from by rw [IntKind.wrap_i64]; omega)
                unfold iv at hcell
                have HC := Lib.hid hcell
                clear hx hxx hyi hyj hcell hs2 hbl hmf HM0 b1 b2 hsq
                go_wp2_with fail
                clear x0 x1
                refine region_phi (n := 67) (Wd [(false, .slice A2 vs.length c2),
                    (false, .int .i64 (i : Int)),
                    (false, .int .i64 yi),
                    (false, .slice A2 vs.length c2),
                    (false, .int .i64 (j : Int)),
                    (false, .int .i64 yj),
                    (false, .int .i64 (yi - yj)),
                    (false, .pointer (some ⟨w.heap.size, 1, none⟩)),
                    (false, .slice (some ad) b.length c),
                    (false, .int .i64 (i : Int)),
                    (false, .pointer (some ⟨w.heap.size, 0, none⟩)),
                    (false, .int .i64 (vs.length : Int)),
                    (false, .int .i64 ((vs.length : Int) + 1)),
                    (false, .int .i64 (r : Int)),
                    (false, .int .i64 (j : Int)),
                    (false, .int .i64 (p : Int)),
                    (false, .pointer (some (ad.add p))),
                    (false, .int .i64 x),
                    (false, .bool (decide (x < yi - yj)))]) (by kernel_rfl) (by kernel_rfl) rfl (fun _ _ _ _ h _ => h) (allOps_spec ?_) ?_
                · refine ⟨?_, ?_, ?_, ?_, ?_, ?_, ?_, ?_, ?_, ?_, ?_, ?_, ?_, ?_, ?_, ?_, ?_, ?_, ?_, trivial⟩
                  · intro ac w' hb hp
                    have b1 : ac.tmps[1]?.getD undef = .slice A2 vs.length c2 := hb.at 1 (by kernel_rfl)
                    exact wd_run rfl rfl (by simp [execOp, go_sem, Act.eval, b1])
                  · intro ac w' hb hp
                    have b6 : ac.tmps[6]?.getD undef = .int .i64 (i : Int) := hb.at 6 (by kernel_rfl)
                    exact wd_run rfl rfl (by simp [execOp, go_sem, Act.eval, b6])
                  · intro ac w' hb hp
                    refine step_call (f := 61) (args := #[.slice A2 vs.length c2, .int .i64 (i : Int)]) rfl (by simp [go_sem, wd_get (hp ⟨0, .data⟩ (by simp) rfl _ rfl) rfl rfl, wd_get (hp ⟨1, .data⟩ (by simp) rfl _ rfl) rfl rfl]) ?_
                    exact (HNI.out w' hb.ext).mono fun e w9 h9 => ⟨_, h9.1, h9.2, wd_mk rfl fun _ => rfl⟩
                  · intro ac w' hb hp
                    have b1 : ac.tmps[1]?.getD undef = .slice A2 vs.length c2 := hb.at 1 (by kernel_rfl)
                    exact wd_run rfl rfl (by simp [execOp, go_sem, Act.eval, b1])
                  · intro ac w' hb hp
                    have b7 : ac.tmps[7]?.getD undef = .int .i64 (j : Int) := hb.at 7 (by kernel_rfl)
                    exact wd_run rfl rfl (by simp [execOp, go_sem, Act.eval, b7])
                  · intro ac w' hb hp
                    refine step_call (f := 61) (args := #[.slice A2 vs.length c2, .int .i64 (j : Int)]) rfl (by simp [go_sem, wd_get (hp ⟨3, .data⟩ (by simp) rfl _ rfl) rfl rfl, wd_get (hp ⟨4, .data⟩ (by simp) rfl _ rfl) rfl rfl]) ?_
                    exact (HNJ.out w' hb.ext).mono fun e w9 h9 => ⟨_, h9.1, h9.2, wd_mk rfl fun _ => rfl⟩
                  · exact fun ac w' hb hp => wd_run rfl rfl (by simp [execOp, go_sem, Act.eval, wd_get (hp ⟨2, .data⟩ (by simp) rfl _ rfl) rfl rfl, wd_get (hp ⟨5, .data⟩ (by simp) rfl _ rfl) rfl rfl, HW.out])
                  · intro ac w' hb hp
                    have b2 : ac.tmps[2]?.getD undef = .pointer (some ⟨w.heap.size, 0, none⟩) := hb.at 2 (by kernel_rfl)
                    exact wd_run rfl rfl (by simp [execOp, go_sem, Act.eval, b2])
                  · intro ac w' hb hp
                    have q1 := (HX.out.below hb.ext).cell 1
                    exact wd_run rfl rfl (by simp [execOp, go_sem, Act.eval, wd_get (hp ⟨7, .data⟩ (by simp) rfl _ rfl) rfl rfl, q1])
                  · intro ac w' hb hp
                    have b6 : ac.tmps[6]?.getD undef = .int .i64 (i : Int) := hb.at 6 (by kernel_rfl)
                    exact wd_run rfl rfl (by simp [execOp, go_sem, Act.eval, b6])
                  · intro ac w' hb hp
                    have b2 : ac.tmps[2]?.getD undef = .pointer (some ⟨w.heap.size, 0, none⟩) := hb.at 2 (by kernel_rfl)
                    exact wd_run rfl rfl (by simp [execOp, go_sem, Act.eval, b2])
                  · intro ac w' hb hp
                    have q0 := (HX.out.below hb.ext).cell 0
                    exact wd_run rfl rfl (by simp [execOp, go_sem, Act.eval, wd_get (hp ⟨10, .data⟩ (by simp) rfl _ rfl) rfl rfl, q0])
                  · exact fun ac w' hb hp => wd_run rfl rfl (by simp [execOp, go_sem, Act.eval, wd_get (hp ⟨11, .data⟩ (by simp) rfl _ rfl) rfl rfl, HW1.out])
                  · exact fun ac w' hb hp => wd_run rfl rfl (by simp [execOp, go_sem, Act.eval, wd_get (hp ⟨9, .data⟩ (by simp) rfl _ rfl) rfl rfl, wd_get (hp ⟨12, .data⟩ (by simp) rfl _ rfl) rfl rfl, HM.out, HW2.out])
                  · intro ac w' hb hp
                    have b7 : ac.tmps[7]?.getD undef = .int .i64 (j : Int) := hb.at 7 (by kernel_rfl)
                    exact wd_run rfl rfl (by simp [execOp, go_sem, Act.eval, b7])
                  · exact fun ac w' hb hp => wd_run rfl rfl (by simp [execOp, go_sem, Act.eval, wd_get (hp ⟨13, .data⟩ (by simp) rfl _ rfl) rfl rfl, wd_get (hp ⟨14, .data⟩ (by simp) rfl _ rfl) rfl rfl, HP.out, HW3.out])
                  · exact fun ac w' hb hp => wd_run rfl rfl (by simp [execOp, go_sem, Act.eval, wd_get (hp ⟨8, .data⟩ (by simp) rfl _ rfl) rfl rfl, wd_get (hp ⟨15, .data⟩ (by simp) rfl _ rfl) rfl rfl, HLT])
                  · intro ac w' hb hp
                    have qc := (hb.ext.cell (World.block_lt_of_cell? _ _ HC.out)).trans HC.out
                    exact wd_run rfl rfl (by simp [execOp, go_sem, Act.eval, wd_get (hp ⟨16, .data⟩ (by simp) rfl _ rfl) rfl rfl, qc])
                  · exact fun ac w' hb hp => wd_run rfl rfl (by simp [execOp, go_sem, Act.eval, wd_get (hp ⟨6, .data⟩ (by simp) rfl _ rfl) rfl rfl, wd_get (hp ⟨17, .data⟩ (by simp) rfl _ rfl) rfl rfl])
                · intro vz w7 hext hall
                  have HEXT := Lib.hid hext
                  have e18 : vz 18 = .bool (decide (x < yi - yj)) := hall 18 (by decide) rfl
                  clear hext hall
                  simp only [putAll, Act.put, List.setIfInBounds_toArray, List.set_cons_zero, List.set_cons_succ, Nat.zero_add, Nat.reduceAdd, e18]
                  clear e18
                  have HB2 := Lib.hid (HBE.out.trans (HEXT.out.mono HBE.out.size))
                  have HX2 := Lib.hid (HX.out.below HEXT.out)
                  by_cases hc : x < yi - yj
                  · have hr : R = false := HR2.out.trans (perB_bad hil hjl (by rw [HDF.out, ← HXX.out]; exact hc))
                    subst hr
                    rw [decide_eq_true hc]
                    clear hc
                    go_wp2_with fail
                    go_ret
                    exact Tells.of HB2.out
                  · rw [decide_eq_false hc]
                    have HA3 := Lib.hid (show ∀ l, l < j + 1 → dfB vs i l ≤ gt (vs.length + 1) b i l from fun l hl2 => by
                      by_cases e : l = j
                      · subst e; rw [HDF.out, ← HXX.out]; omega
                      · exact HAL2.out l (by omega))
                    clear hc
                    go_wp2_with fail
                    go_roundw
                    case rel => exact ⟨j + 1, by omega, by go_num, HA3, HB2, HX2.out⟩
                    case measure => simp [intOf]; omega
              · obtain rfl : j = vs.length + 1 := by omega
                have HA3 := Lib.hid (show ∀ a q, a < i + 1 → q < vs.length + 1 → dfB vs a q ≤ gt (vs.length + 1) b a q from fun a q ha hq => by
                  by_cases e : a = i
                  · subst e; exact HAL2.out q hq
                  · exact HAL.out a q (by omega) hq)
                have HX := Lib.hid hx
                clear hx
                go_wp2_with fail
                go_roundw
                case rel => exact ⟨i + 1, by omega, by go_num, HA3, HBE, HX.out⟩
                case measure => simp [intOf]; omega
          · have hr : R = true := HR2.out.trans (perB_iff.2 fun i j hi hj => HAL.out i j (by omega) hj)
            subst hr
            obtain rfl : i = vs.length + 1 := by omega
            clear hx
            go_wp2_with fail
            go_ret
            exact Tells.of HBE.out
end Go.Proofs.Yteoddcamicmapaa
