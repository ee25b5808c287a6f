/- Layer 13: ZoneForget, the walk (tools/gen_zfl.py). -/
import Derived.Test.YteoddcamicmapaaZnRf
import Derived.Test.YteoddcamicmapaaZnCw
namespace Go.Proofs.Yteoddcamicmapaa
open Go.RowKit

theorem zv_len9 {m : Nat} {l : List Int} (h : Zv (m + 1) l) : l.length ≤ 1000 := by rw [h.len]; have := h.few; exact Nat.le_trans (Nat.mul_le_mul (by omega : m + 1 ≤ 25) (by omega : m + 1 ≤ 25)) (by decide)
theorem frg_rows (N : Int) (z : List Int) (X : Int) : ∃ n1 l1 e1, frgZ N z X = ((n1, l1), .int .i64 e1) ∧ l1.length ≤ 1000 ∧ (e1 = 0 → ∃ m x : Nat, N = m ∧ X = x ∧ x < m ∧ m ≤ 24 ∧ n1 = m ∧ Zv (m + 1) z ∧ Zv (m + 1) l1) := by
  cases hp : zvB N z with
  | false => exact ⟨_, _, _, frgZ_bad hp, by simp, fun h => by omega⟩
  | true =>
    by_cases hx : 0 ≤ X ∧ X < N
    · obtain ⟨m, rfl, hm, -, hz⟩ := zv_nat hp
      obtain ⟨x, rfl⟩ : ∃ q : Nat, X = q := ⟨X.toNat, by omega⟩
      obtain ⟨l, h1, h2⟩ := frg_zv (x := x) hz (by omega)
      exact ⟨_, _, _, h1, zv_len9 h2, fun _ => ⟨m, x, rfl, rfl, by omega, hm, rfl, hz, h2⟩⟩
    · exact ⟨_, _, _, frgZ_out hp hx, by simp, fun h => by omega⟩
theorem add_at {m i : Nat} {f : List Int} {v : Int} (h : Zv (m + 1) f) (hi : i < m) : addZ (m : Int) f (i : Int) (-1) v = (((m : Int), addL (m + 1) f (i + 1) 0 v), .int .i64 0) := by
  have h1 := addZ_in (m := m) (b := f) (i := i + 1) (j := 0) (C := v) (zv_val h) (by unfold knB; simp; omega)
  rw [show (((i + 1 : Nat) : Int) - 1) = (i : Int) by omega, show (((0 : Nat) : Int) - 1) = -1 by omega] at h1
  exact h1
theorem add_at2 {m i : Nat} {f : List Int} {v : Int} (h : Zv (m + 1) f) (hi : i < m) : addZ (m : Int) f (-1) (i : Int) v = (((m : Int), addL (m + 1) f 0 (i + 1) v), .int .i64 0) := by
  have h1 := addZ_in (m := m) (b := f) (i := 0) (j := i + 1) (C := v) (zv_val h) (by unfold knB; simp; omega)
  rw [show (((i + 1 : Nat) : Int) - 1) = (i : Int) by omega, show (((0 : Nat) : Int) - 1) = -1 by omega] at h1
  exact h1
theorem all_inv {m x : Nat} {vs : List Int} (hn : vs.length = m) (h : ∀ k, k < m → k ≠ x → InV (vs.getD k 0)) (hx : InV (vs.getD x 0)) : ∀ y ∈ vs, InV y := fun y hy => by
  obtain ⟨k, hk, rfl⟩ := List.mem_iff_getElem.1 hy
  have e : vs.getD k 0 = vs[k] := by rw [List.getD_eq_getElem?_getD, List.getElem?_eq_getElem hk]; rfl
  rw [← e]
  by_cases e2 : k = x
  · subst e2; exact hx
  · exact h k (by omega) e2
set_option maxRecDepth 20000 in
set_option maxHeartbeats 2000000 in
theorem zoneforget_walk (N : Int) (A1 : Option Addr) (c1 : Nat) (z : List Int) (A2 : Option Addr) (c2 : Nat) (vs : List Int) (X : Int) (w : World)
    (h1 : Sl iv w (.slice A1 z.length c1) z) (hl1 : z.length ≤ 9223372036854775807) (h2 : Sl iv w (.slice A2 vs.length c2) vs) (hl2 : vs.length ≤ 9223372036854775807) :
    Calls Try.prog 6 #[.agg #[.int .i64 N, .slice A1 z.length c1], .slice A2 vs.length c2, .int .i64 X] w (Tells w (.bool true)) := by
  have H1 := Lib.hid h1
  have HL1 := Lib.hid hl1
  have H2 := Lib.hid h2
  have HL2 := Lib.hid hl2
  clear h1 hl1 h2 hl2
  go_enter Try.func6, Try.ntmps6
  go_wp2_with fail
  refine (awake_any _).mono ?_; rintro e w1 ⟨rfl, hb1⟩
  have HX1 := Lib.hid ((Bx.new w 24 #[.int .i64 N, .slice A1 z.length c1]).below hb1)
  have HB1 := Lib.hid ((al1 w (.cells #[.int .i64 N, .slice A1 z.length c1] 24)).trans (hb1.mono (by simp)))
  obtain ⟨x0, x1⟩ := HX1.out.k2
  clear hb1
  go_wp2_with fail
  refine (few_any N A1 c1 z _ HL1.out).mono ?_; rintro e w4 ⟨rfl, hb2⟩
  have HB4 := Lib.hid (HB1.out.trans (hb2.mono HB1.out.size))
  have HXA4 := Lib.hid (HX1.out.below hb2)
  have HSA4 := Lib.hid (H1.out.below HB4.out)
  clear hb2 x0 x1 HB1 HX1
  cases hfa : fewB N z with
  | false =>
    clear hfa HXA4 HSA4
    go_wp2_with fail
    refine (awake_any _).mono ?_; rintro e w9 ⟨rfl, hb⟩
    have HBZ := Lib.hid (HB4.out.trans (hb.mono HB4.out.size))
    clear hb
    go_wp2_with fail
    go_ret
    exact Tells.of HBZ.out
  | true =>
  clear hfa
  have hvl := HL2.out
  by_cases hv8 : vs.length ≤ 8
  case neg =>
    have d8 : decide ((8 : Int) < (vs.length : Int)) = true := decide_eq_true (by omega)
    clear HXA4 HSA4
    go_wp2_with fail
    refine (awake_any _).mono ?_; rintro e w9 ⟨rfl, hb⟩
    have HBZ := Lib.hid (HB4.out.trans (hb.mono HB4.out.size))
    clear hb
    go_wp2_with fail
    go_ret
    exact Tells.of HBZ.out
  have d8 : decide ((8 : Int) < (vs.length : Int)) = false := decide_eq_false (by omega)
  obtain ⟨n1, l1, e1, hE1, hQ1, hG⟩ := frg_rows N z X
  have HE1 := Lib.hid hE1
  have HQ1 := Lib.hid hQ1
  have HG := Lib.hid hG
  clear hE1 hQ1 hG
  obtain ⟨x0, x1⟩ := HXA4.out.k2
  go_wp2_with fail
  refine (own_any N A1 z.length c1 _).mono ?_; rintro e wo ⟨rfl, hbo⟩
  have HB5o := Lib.hid (HB4.out.trans (hbo.mono HB4.out.size))
  have HXA5o := Lib.hid (HXA4.out.below hbo)
  have HSA5o := Lib.hid (HSA4.out.below hbo)
  clear HB4 HXA4 HSA4
  clear x0 x1 hbo
  go_wp2_with fail
  refine (forget_any N X _ z _ HSA5o.out HL1.out).mono ?_; rintro e w5 ⟨v5, rfl, ho, hb⟩; rw [HE1.out] at ho ⊢
  dsimp only at ho ⊢
  obtain ⟨A5, c5, rfl⟩ := own_shapeG ho
  have hba := hb.trans ((al1 w5 (.cells #[.int .i64 n1, .slice A5 l1.length c5] 29)).mono hb.size)
  have HB5 := Lib.hid (HB5o.out.trans (hba.mono HB5o.out.size))
  have HXA5 := Lib.hid (HXA5o.out.below hba)
  have HSA5 := Lib.hid (HSA5o.out.below hba)
  clear HB5o HXA5o HSA5o
  have HX55 := Lib.hid (Bx.new w5 29 #[.int .i64 n1, .slice A5 l1.length c5])
  have HS55 := Lib.hid ((Own.sl (show Own w5 _ _ _ l1 from ho)).below (al1 w5 (.cells #[.int .i64 n1, .slice A5 l1.length c5] 29)))
  clear hb ho hba
  obtain ⟨x0, x1⟩ := HXA5.out.k2
  go_wp2_with fail
  refine (rforget_any N X _ z _ HSA5.out HL1.out).mono ?_; rintro e w6 ⟨v6, rfl, ho, hb⟩; rw [HE1.out] at ho ⊢
  dsimp only at ho ⊢
  obtain ⟨A6, c6, rfl⟩ := own_shapeG ho
  have hba := hb.trans ((al1 w6 (.cells #[.int .i64 n1, .slice A6 l1.length c6] 24)).mono hb.size)
  have HB6 := Lib.hid (HB5.out.trans (hba.mono HB5.out.size))
  have HXA6 := Lib.hid (HXA5.out.below hba)
  have HSA6 := Lib.hid (HSA5.out.below hba)
  have HX56 := Lib.hid (HX55.out.below hba)
  have HS56 := Lib.hid (HS55.out.below hba)
  clear HB5 HXA5 HSA5 HX55 HS55
  have HX66 := Lib.hid (Bx.new w6 24 #[.int .i64 n1, .slice A6 l1.length c6])
  have HS66 := Lib.hid ((Own.sl (show Own w6 _ _ _ l1 from ho)).below (al1 w6 (.cells #[.int .i64 n1, .slice A6 l1.length c6] 24)))
  clear x0 x1 hb ho hba
  obtain ⟨x0, x1⟩ := HXA6.out.k2
  go_wp2_with fail
  generalize hww : (w6.alloc (.cells #[.int .i64 n1, .slice A6 l1.length c6] 24)) = ww at *
  have HSM1 := Lib.hid (show ∀ w6, Below ww.heap.size ww w6 → Calls Try.prog 19 #[.agg #[.int .i64 n1, .slice A5 l1.length c5], .agg #[.int .i64 n1, .slice A6 l1.length c6]] w6 (Tells w6 (.bool true)) from
    fun w6 h6 => by
      have h9 := rsame_any n1 n1 _ _ l1 l1 w6 (HS56.out.below h6) (by have := HQ1.out; omega) (HS66.out.below h6)
      rwa [decide_eq_true (show n1 = n1 ∧ l1 = l1 from ⟨rfl, rfl⟩)] at h9)
  clear x0 x1 hww
  refine region_phi (n := 125) (Wd [(false, .int .i64 e1),
      (false, .int .i64 e1),
      (false, .bool false),
      (false, .bool false),
      (false, .agg #[.int .i64 n1, .slice A5 l1.length c5]),
      (false, .agg #[.int .i64 n1, .slice A5 l1.length c5]),
      (false, .agg #[.int .i64 n1, .slice A6 l1.length c6]),
      (false, .bool true),
      (false, .bool false),
      (false, .bool false)]) (by kernel_rfl) (by kernel_rfl) rfl (fun _ _ _ _ h _ => h) (allOps_spec ?_) ?_
  · refine ⟨?_, ?_, ?_, ?_, ?_, ?_, ?_, ?_, ?_, ?_, trivial⟩
    · intro ac w' hb hp
      have b8 : ac.tmps[8]?.getD undef = .int .i64 e1 := hb.at 8 (by kernel_rfl)
      exact wd_run rfl rfl (by simp [execOp, go_sem, Act.eval, b8])
    · intro ac w' hb hp
      have b10 : ac.tmps[10]?.getD undef = .int .i64 e1 := hb.at 10 (by kernel_rfl)
      exact wd_run rfl rfl (by simp [execOp, go_sem, Act.eval, b10])
    · exact fun ac w' hb hp => wd_run rfl rfl (by simp [execOp, go_sem, Act.eval, wd_get (hp ⟨0, .data⟩ (by simp) rfl _ rfl) rfl rfl, wd_get (hp ⟨1, .data⟩ (by simp) rfl _ rfl) rfl rfl])
    · exact fun ac w' hb hp => wd_run rfl rfl (by simp [execOp, go_sem, Act.eval, wd_get (hp ⟨2, .data⟩ (by simp) rfl _ rfl) rfl rfl])
    · intro ac w' hb hp
      have gg := wd_get (hp ⟨3, .guard⟩ (by simp) rfl _ rfl) rfl rfl
      have b7 : ac.tmps[7]?.getD undef = .pointer (some ⟨w5.heap.size, 0, none⟩) := hb.at 7 (by kernel_rfl)
      have q0 := (HX56.out.below hb.ext).cell 0
      have q1 := (HX56.out.below hb.ext).cell 1
      exact wd_run rfl (by simp [Region.wanted, yielded, bool_at gg]) (by simp [execOp, go_sem, Act.eval, b7, q0, q1])
    · intro ac w' hb hp
      have gg := wd_get (hp ⟨3, .guard⟩ (by simp) rfl _ rfl) rfl rfl
      refine step_call (f := 20) (args := #[.agg #[.int .i64 n1, .slice A5 l1.length c5]]) (by simp [Region.wanted, yielded, bool_at gg]) (by simp [go_sem, wd_get (hp ⟨4, .data⟩ (by simp) rfl _ rfl) rfl rfl]) ?_
      exact (theirs_any n1 A5 l1.length c5 w').mono fun e w9 h9 => ⟨_, h9.1, h9.2, wd_mk rfl fun _ => rfl⟩
    · intro ac w' hb hp
      have gg := wd_get (hp ⟨3, .guard⟩ (by simp) rfl _ rfl) rfl rfl
      have b9 : ac.tmps[9]?.getD undef = .pointer (some ⟨w6.heap.size, 0, none⟩) := hb.at 9 (by kernel_rfl)
      have q0 := (HX66.out.below hb.ext).cell 0
      have q1 := (HX66.out.below hb.ext).cell 1
      exact wd_run rfl (by simp [Region.wanted, yielded, bool_at gg]) (by simp [execOp, go_sem, Act.eval, b9, q0, q1])
    · intro ac w' hb hp
      have gg := wd_get (hp ⟨3, .guard⟩ (by simp) rfl _ rfl) rfl rfl
      refine step_call (f := 19) (args := #[.agg #[.int .i64 n1, .slice A5 l1.length c5], .agg #[.int .i64 n1, .slice A6 l1.length c6]]) (by simp [Region.wanted, yielded, bool_at gg]) (by simp [go_sem, wd_get (hp ⟨5, .data⟩ (by simp) rfl _ rfl) rfl rfl, wd_get (hp ⟨6, .data⟩ (by simp) rfl _ rfl) rfl rfl]) ?_
      exact (HSM1.out w' hb.ext).mono fun e w9 h9 => ⟨_, h9.1, h9.2, wd_mk rfl fun _ => rfl⟩
    · intro ac w' hb hp
      have gg := wd_get (hp ⟨3, .guard⟩ (by simp) rfl _ rfl) rfl rfl
      exact wd_run rfl (by simp [Region.wanted, yielded, bool_at gg]) (by simp [execOp, go_sem, Act.eval, wd_get (hp ⟨7, .data⟩ (by simp) rfl _ rfl) rfl rfl])
    · exact fun ac w' hb hp => wd_run rfl rfl (by simp [execOp, go_sem, Act.eval, wd_get (hp ⟨3, .data⟩ (by simp) rfl _ rfl) rfl rfl, wd_get (hp ⟨8, .data⟩ (by simp) rfl _ rfl) rfl rfl])
  · intro vz w7 hext hall
    have HEXT := Lib.hid hext
    have e9 : vz 9 = .bool false := hall 9 (by decide) rfl
    clear hext hall
    simp only [putAll, Act.put, List.setIfInBounds_toArray, List.set_cons_zero, List.set_cons_succ, Nat.zero_add, Nat.reduceAdd, e9]
    clear e9
    have HB7 := Lib.hid (HB6.out.trans (HEXT.out.mono HB6.out.size))
    have HXA7 := Lib.hid (HXA6.out.below HEXT.out)
    have HSA7 := Lib.hid (HSA6.out.below HEXT.out)
    have HX57 := Lib.hid (HX56.out.below HEXT.out)
    have HS57 := Lib.hid (HS56.out.below HEXT.out)
    clear HB6 HXA6 HSA6 HX56 HS56 HX66 HS66 HSM1 HEXT
    obtain ⟨x0, x1⟩ := HXA7.out.k2
    by_cases he : e1 = 0
    case neg =>
      have d1 : (e1 == 0) = false := beq_eq_false_iff_ne.2 he
      go_wp2_with fail
      go_ret
      exact Tells.of HB7.out
    subst he
    obtain ⟨m, x, rfl, rfl, hxm, hm, rfl, hz, hzl⟩ := HG.out rfl
    have HZ := Lib.hid hz
    have HZL := Lib.hid hzl
    clear hz hzl HG
    generalize hvq : vs.length = q at *
    have HN := Lib.hid hvq
    clear hvq
    by_cases hn : q = m
    case neg =>
      have d1 : ((q : Int) == (m : Int)) = false := by rw [beq_eq_false_iff_ne]; omega
      go_wp2_with fail
      go_ret
      exact Tells.of HB7.out
    have hn := hn.symm
    subst hn
    obtain ⟨ad, rfl, hcx⟩ := (H2.out.below HB7.out).at x (by have := HN.out; omega)
    have hgx : vs[x]'(by have := HN.out; omega) = vs.getD x 0 := by rw [List.getD_eq_getElem?_getD, List.getElem?_eq_getElem (by have := HN.out; omega : x < vs.length)]; rfl
    rw [hgx] at hcx
    clear hgx
    have hxv : (x : Int) < (m : Int) := by omega
    by_cases hlo : vs.getD x 0 < -10000
    · have d2 : decide (vs.getD x 0 < -10000) = true := decide_eq_true hlo
      generalize vs.getD x 0 = vx at *
      go_wp2_with fail
      go_ret
      exact Tells.of HB7.out
    have d2 : decide (vs.getD x 0 < -10000) = false := decide_eq_false hlo
    by_cases hhi : 10000 < vs.getD x 0
    · have d3 : decide (10000 < vs.getD x 0) = true := decide_eq_true hhi
      generalize vs.getD x 0 = vx at *
      go_wp2_with fail
      go_ret
      exact Tells.of HB7.out
    have d3 : decide (10000 < vs.getD x 0) = false := decide_eq_false hhi
    have HVX := Lib.hid (show InV (vs.getD x 0) from ⟨by omega, by omega⟩)
    clear hlo hhi
    obtain ⟨vx, hvx⟩ : ∃ vx, vx = vs.getD x 0 := ⟨_, rfl⟩
    rw [← hvx] at hcx d2 d3
    clear hvx
    go_wp2_with fail
    refine (own_any (m : Int) A1 z.length c1 _).mono ?_; rintro e w8 ⟨rfl, hb⟩
    have HB8 := Lib.hid (HB7.out.trans (hb.mono HB7.out.size))
    have HSA8 := Lib.hid (HSA7.out.below hb)
    have HX58 := Lib.hid (HX57.out.below hb)
    have HS58 := Lib.hid (HS57.out.below hb)
    clear HB7 HSA7 HX57 HS57 HXA7 hb x0 x1 hcx d2 d3 hxv
    have HXF := Lib.hid (Bx.new w8 29 #[.int .i64 (m : Int), .slice A1 z.length c1])
    have HSF := Lib.hid (HSA8.out.below (al1 w8 (.cells #[.int .i64 (m : Int), .slice A1 z.length c1] 29)))
    have HBF := Lib.hid (al1 w8 (.cells #[.int .i64 (m : Int), .slice A1 z.length c1] 29))
    have HF0 := Lib.hid (FxI.start (vs := vs) (x := x) HZ.out)
    go_wp2_with fail
    go_loopw [79] (fun j wr => ∃ (i : Nat) (f : List Int) (vB : Value), i ≤ m ∧ j = .int .i64 (i : Int) ∧ Hid (FxI m z vs x i f) ∧ Hid (∀ k, k < i → k ≠ x → InV (vs.getD k 0)) ∧ Hid (Bx wr w8.heap.size 29 #[.int .i64 (m : Int), vB]) ∧ Hid (Sl iv wr vB f) ∧ Hid (Below w8.heap.size w8 wr)) (fun j _ => m - (intOf j).toNat)
    case atStart => exact ⟨0, z, _, Nat.zero_le _, rfl, HF0, Lib.hid (fun k hk => by omega), HXF, HSF, HBF⟩
    case round =>
      clear HXF HSF HBF HF0
      obtain ⟨i, f, vB, hi, rfl, HF, HIN, HX, HS, HBW⟩ := hrel
      have HB9 := Lib.hid (HB8.out.trans (HBW.out.mono HB8.out.size))
      by_cases hlt : i < m
      · have hiv : (i : Int) < (m : Int) := by omega
        have dk : decide ((i : Int) < (m : Int)) = true := decide_eq_true hiv
        obtain ⟨ad2, had, hcx⟩ := (H2.out.below HB9.out).at i (by have := HN.out; omega)
        cases had
        have hgx : vs[i]'(by have := HN.out; omega) = vs.getD i 0 := by rw [List.getD_eq_getElem?_getD, List.getElem?_eq_getElem (by have := HN.out; omega : i < vs.length)]; rfl
        rw [hgx] at hcx
        clear hgx
        by_cases hix : i = x
        · subst hix
          have dx : ((i : Int) == (i : Int)) = true := beq_self_eq_true _
          obtain ⟨vx, hvx⟩ : ∃ vx, vx = vs.getD i 0 := ⟨_, rfl⟩
          rw [← hvx] at hcx
          clear hvx
          have HF2 := Lib.hid (FxI.skip HF.out)
          have HINV := HIN.out
          have HIN2 := Lib.hid (show ∀ k, k < i + 1 → k ≠ i → InV (vs.getD k 0) from fun k hk hne => HINV k (by omega) hne)
          clear HINV HIN HF
          go_wp2_with fail
          clear hcx
          go_roundw
          case rel => exact ⟨i + 1, f, vB, by omega, by go_num, HF2, HIN2, HX, HS, HBW⟩
          case measure => simp [intOf]; omega
        · have dx : ((i : Int) == (x : Int)) = false := by rw [beq_eq_false_iff_ne]; omega
          by_cases hin : InV (vs.getD i 0)
          · have HF2 := Lib.hid (FxI.step HF.out hlt hix)
            have hzf := HF.out.zv
            have hzm := HF.out.mid hlt
            have HINV := HIN.out
            have HIN2 := Lib.hid (show ∀ k, k < i + 1 → k ≠ x → InV (vs.getD k 0) from fun k hk hne => by
              by_cases e : k = i
              · subst e; exact hin
              · exact HINV k (by omega) hne)
            obtain ⟨vi, hvi⟩ : ∃ vi, vi = vs.getD i 0 := ⟨_, rfl⟩
            rw [← hvi] at hcx HF2 hzm hin
            have d2 : decide (vi < -10000) = false := decide_eq_false (by have := hin.1; omega)
            have d3 : decide (10000 < vi) = false := decide_eq_false (by have := hin.2; omega)
            have hW : IntKind.i64.wrap (-vi) = -vi := by have := hin.1; have := hin.2; rw [IntKind.wrap_i64]; omega
            have HA1 := Lib.hid (add_at (v := vi) hzf hlt)
            have HA2 := Lib.hid (add_at2 (v := -vi) hzm hlt)
            have HZM := Lib.hid hzm
            have hlf := zv_len9 hzf
            obtain ⟨A9, c9, hvb⟩ := HS.out.shape
            subst hvb
            obtain ⟨b0, b1⟩ := HX.out.k2
            clear hvi hin HINV HIN HF hzf hzm
            go_wp2_with fail
            refine (add_any m i (-1) vi _ f wr HS.out (by omega)).mono ?_; rintro e w10 ⟨va, rfl, ho, hb⟩
            rw [HA1.out] at ho ⊢
            obtain ⟨A10, c10, rfl⟩ := own_shapeG ho
            dsimp only at ho ⊢
            have hx8 := HX.out.lt
            have HX10 := Lib.hid (HX.out.below hb)
            have HBW10 := Lib.hid (HBW.out.trans (hb.mono HBW.out.size))
            have HS11 := Lib.hid (Own.sl ((Own.other (k := w8.heap.size) (i := 0) (y := .int .i64 (m : Int)) (show Own w10 _ _ _ _ from ho) (ho.lt (.inl hx8))).other (k := w8.heap.size) (i := 1) (y := .slice A10 (addL (m + 1) f (i + 1) 0 vi).length c10) (ho.lt (.inl hx8))))
            have HX11 := Lib.hid ((HX10.out.set 0 (.int .i64 (m : Int))).set 1 (.slice A10 (addL (m + 1) f (i + 1) 0 vi).length c10))
            have HBW11 := Lib.hid ((HBW10.out.setCell (p := ⟨w8.heap.size, 0, none⟩) (Nat.le_refl _) (.int .i64 (m : Int))).setCell (p := ⟨w8.heap.size, 1, none⟩) (Nat.le_refl _) (.slice A10 (addL (m + 1) f (i + 1) 0 vi).length c10))
            obtain ⟨f0, f1⟩ := HX10.out.f2
            obtain ⟨b2, b3⟩ := HX10.out.k2
            obtain ⟨b4, b5⟩ := HX11.out.k2
            have hlf2 := zv_len9 HZM.out
            clear ho hb b0 b1 hcx
            go_wp2_with fail
            clear f0 f1 b2 b3 b4 b5 HX10 HBW10 HX HS HBW
            generalize (w10.setCell ⟨w8.heap.size, 0, none⟩ (.int .i64 (m : Int))).setCell ⟨w8.heap.size, 1, none⟩ (.slice A10 (addL (m + 1) f (i + 1) 0 vi).length c10) = w11 at *
            refine (add_any m (-1) i (-vi) _ _ w11 HS11.out (by omega)).mono ?_; rintro e w12 ⟨vc, rfl, ho, hb⟩
            rw [HA2.out] at ho ⊢
            obtain ⟨A12, c12, rfl⟩ := own_shapeG ho
            dsimp only at ho ⊢
            have hx11 := HX11.out.lt
            have HX12 := Lib.hid (HX11.out.below hb)
            have HBW12 := Lib.hid (HBW11.out.trans (hb.mono HBW11.out.size))
            obtain ⟨nf, hnf⟩ : ∃ nf, nf = addL (m + 1) (addL (m + 1) f (i + 1) 0 vi) 0 (i + 1) (-vi) := ⟨_, rfl⟩
            rw [← hnf] at ho HF2 ⊢
            have HS13 := Lib.hid (Own.sl ((Own.other (k := w8.heap.size) (i := 0) (y := .int .i64 (m : Int)) (show Own w12 _ _ _ _ from ho) (ho.lt (.inl hx11))).other (k := w8.heap.size) (i := 1) (y := .slice A12 nf.length c12) (ho.lt (.inl hx11))))
            have HX13 := Lib.hid ((HX12.out.set 0 (.int .i64 (m : Int))).set 1 (.slice A12 nf.length c12))
            have HBW13 := Lib.hid ((HBW12.out.setCell (p := ⟨w8.heap.size, 0, none⟩) (Nat.le_refl _) (.int .i64 (m : Int))).setCell (p := ⟨w8.heap.size, 1, none⟩) (Nat.le_refl _) (.slice A12 nf.length c12))
            obtain ⟨f0, f1⟩ := HX12.out.f2
            obtain ⟨b2, b3⟩ := HX12.out.k2
            clear ho hb HX11 HS11 HBW11 hnf
            go_wp2_with fail
            clear f0 f1 b2 b3
            go_roundw
            case rel => exact ⟨i + 1, nf, _, by omega, by go_num, HF2, HIN2, HX13, HS13, HBW13⟩
            case measure => simp [intOf]; omega
          · have hmem : vs.getD i 0 ∈ vs := by
              have e : vs.getD i 0 = vs[i]'(by have := HN.out; omega) := by rw [List.getD_eq_getElem?_getD, List.getElem?_eq_getElem (by have := HN.out; omega : i < vs.length)]; rfl
              rw [e]; exact List.getElem_mem _
            have HHO := Lib.hid (holds_out (N := (m : Int)) (b := l1) hmem hin)
            have hor : vs.getD i 0 < -10000 ∨ 10000 < vs.getD i 0 := by unfold InV at hin; omega
            obtain ⟨vi, hvi⟩ : ∃ vi, vi = vs.getD i 0 := ⟨_, rfl⟩
            rw [← hvi] at hcx hor
            clear hvi hin hmem HIN HF HX HS
            have HXL := Lib.hid (HX58.out.below HBW.out)
            have HSL := Lib.hid (HS58.out.below HBW.out)
            have HSV := Lib.hid (H2.out.below HB9.out)
            obtain ⟨b0, b1⟩ := HXL.out.k2
            have hlq := HQ1.out
            rcases hor with hor | hor
            · have d2 : decide (vi < -10000) = true := decide_eq_true hor
              go_wp2_with fail
              refine (holds_any m _ _ l1 vs wr HSL.out (by omega) HSV.out (by have := HN.out; omega)).mono ?_; rintro e w10 ⟨rfl, hb⟩; rw [HHO.out]
              have HBZ := Lib.hid (HB9.out.trans (hb.mono HB9.out.size))
              clear hb b0 b1
              go_wp2_with fail
              go_ret
              exact Tells.of HBZ.out
            · have d2 : decide (vi < -10000) = false := decide_eq_false (by omega)
              have d3 : decide (10000 < vi) = true := decide_eq_true hor
              go_wp2_with fail
              refine (holds_any m _ _ l1 vs wr HSL.out (by omega) HSV.out (by have := HN.out; omega)).mono ?_; rintro e w10 ⟨rfl, hb⟩; rw [HHO.out]
              have HBZ := Lib.hid (HB9.out.trans (hb.mono HB9.out.size))
              clear hb b0 b1
              go_wp2_with fail
              go_ret
              exact Tells.of HBZ.out
      · obtain rfl : i = m := by omega
        have HLW := Lib.hid (frg_law HZ.out hxm HE1.out HN.out (all_inv HN.out HIN.out HVX.out) HF.out)
        have hzf := HF.out.zv
        have hlf := zv_len9 hzf
        have hlq := HQ1.out
        obtain ⟨A9, c9, hvb⟩ := HS.out.shape
        subst hvb
        obtain ⟨b0, b1⟩ := HX.out.k2
        have HXL := Lib.hid (HX58.out.below HBW.out)
        have HSL := Lib.hid (HS58.out.below HBW.out)
        clear HIN HF hzf
        go_wp2_with fail
        refine (model_any i _ f wr HS.out (by omega)).mono ?_; rintro e w10 ⟨v10, rfl, hs, hb⟩
        have HXL10 := Lib.hid (HXL.out.below hb)
        have HSL10 := Lib.hid (HSL.out.below hb)
        have HB10 := Lib.hid (HB9.out.trans (hb.mono HB9.out.size))
        have HSV := Lib.hid (H2.out.below HB10.out)
        obtain ⟨A11, c11, rfl⟩ := hs.shape
        clear b0 b1 hs hb HX HS HBW HXL HSL
        obtain ⟨b0, b1⟩ := HXL10.out.k2
        generalize (modR (i : Int) f).1 = mr at *
        generalize hsm : (modR (i : Int) f).2 = sm at *
        go_wp2_with fail
        refine (holds_any i _ _ l1 vs w10 HSL10.out (by omega) HSV.out (by have := HN.out; omega)).mono ?_; rintro e w12 ⟨rfl, hb⟩; rw [HLW.out]
        have HB12 := Lib.hid (HB10.out.trans (hb.mono HB10.out.size))
        clear hb b0 b1 HB10
        go_wp2_with fail
        go_ret
        exact Tells.of HB12.out
end Go.Proofs.Yteoddcamicmapaa
