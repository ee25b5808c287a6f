/- Layer 13: ZoneClose, the walk (tools/gen_zcl.py). -/
import Derived.Test.YteoddcamicmapaaZnRl
import Derived.Test.YteoddcamicmapaaZnPj
import Derived.Test.YteoddcamicmapaaZnLw
import Derived.Test.YteoddcamicmapaaWd
namespace Go.Proofs.Yteoddcamicmapaa
open Go.RowKit

theorem zv_empty : zvB 0 [] = false := by
  cases h : zvB 0 [] with
  | false => rfl
  | true =>
    obtain ⟨m, -, -, hl, -⟩ := zv_nat h
    have : 0 < (m + 1) * (m + 1) := Nat.mul_pos (by omega) (by omega)
    simp at hl
theorem close_rows (N : Int) (z : List Int) : ∃ n1 l1 ok n2 l2 g, closeZ N z = ((n1, l1), .bool ok) ∧ closeZ n1 l1 = ((n2, l2), .bool g) ∧ l1.length ≤ 1000 ∧ l2.length ≤ 1000 ∧ (ok = true → g = true ∧ n2 = n1 ∧ l2 = l1) := by
  cases hc : closeR N z with
  | none => exact ⟨_, _, _, _, _, _, closeZ_none hc, closeZ_none (closeR_bad zv_empty), by simp, by simp, fun h => by cases h⟩
  | some cl =>
    have hzv : zvB N z = true := by
      cases h : zvB N z with
      | true => rfl
      | false => rw [closeR_bad h] at hc; cases hc
    obtain ⟨m, rfl, hm, -, hz⟩ := zv_nat hzv
    have hcl := (closeR_nat hz).symm.trans hc
    have hv := cls_zv hz hcl
    have hl : cl.length ≤ 1000 := by rw [hv.len]; exact Nat.le_trans (Nat.mul_le_mul (by omega : m + 1 ≤ 25) (by omega : m + 1 ≤ 25)) (by decide)
    exact ⟨_, _, _, _, _, _, closeZ_some hc, closeZ_some ((closeR_nat hv).trans (cls_self hz hcl)), hl, hl, fun _ => ⟨rfl, rfl, rfl⟩⟩
theorem mod_rows (N : Int) (z : List Int) : ∃ r sm, modR N z = (r, sm) ∧ r.length ≤ 1000 := by
  refine ⟨(modR N z).1, (modR N z).2, rfl, ?_⟩
  unfold modR
  cases hc : closeR N z with
  | none => simp
  | some cl =>
    have hzv : zvB N z = true := by
      cases h : zvB N z with
      | true => rfl
      | false => rw [closeR_bad h] at hc; cases hc
    obtain ⟨m, rfl, hm, -, hz⟩ := zv_nat hzv
    dsimp only
    rw [List.length_drop, mdL_len]; omega
theorem Sl.at {w : World} {A : Option Addr} {n c : Nat} {l : List Int} (h : Sl iv w (.slice A n c) l) (i : Nat) (hi : i < l.length) : ∃ ad, A = some ad ∧ w.cell? (ad.add i) = some (.int .i64 l[i]) := by
  rcases h with ⟨_, h0⟩ | ⟨ad, c', h1, _, h3⟩
  · subst h0; simp at hi
  · simp only [Value.slice.injEq] at h1
    exact ⟨ad, h1.1, h3 i _ (List.getElem?_eq_getElem hi)⟩
section
variable {P : Program} {ops : Array Oper} {Q : Exit → Act → World → Prop} {l : List (Bool × Value)} {i : Nat} {o : Oper} {a : Act} {w : World} {c : Bool}
theorem yl_undef {tmps : Array Value} {j t : Nat} (ho : (ops[j]?).bind (·.dst) = some t) (h : tmps[t]?.getD undef = undef) : yielded ops tmps j = none := by
  unfold yielded
  rw [ho]
  simp only [Option.bind_some]
  cases h2 : tmps[t]? with
  | none => rfl
  | some v => rw [h2] at h; simp only [Option.getD_some] at h; rw [h]; rfl
theorem wd_offd (hl : l[i]? = some (c, undef)) (hw : Region.wanted o (yielded ops a.tmps) = false) : StepOk P ops Q (Wd l) i o a w := step_off hw (wd_mk hl fun _ => rfl)
theorem wd_offu {j t : Nat} {want : Bool} (hl : l[i]? = some (c, undef)) (hg : o.guard = some (j, want)) (ho : (ops[j]?).bind (·.dst) = some t) (h : a.tmps[t]?.getD undef = undef) : StepOk P ops Q (Wd l) i o a w :=
  wd_offd hl (by unfold Region.wanted; rw [hg]; show (yielded ops a.tmps j == some want) = false; rw [yl_undef ho h]; rfl)
end
set_option maxRecDepth 20000 in
set_option maxHeartbeats 2000000 in
theorem zoneclose_walk (N : Int) (A1 : Option Addr) (c1 : Nat) (z : List Int) (x : Int) (w : World)
    (h1 : Sl iv w (.slice A1 z.length c1) z) (hl1 : z.length ≤ 9223372036854775807) :
    Calls Try.prog 4 #[.agg #[.int .i64 N, .slice A1 z.length c1], .int .i64 x] w (Tells w (.bool true)) := by
  have H1 := Lib.hid h1
  have HL1 := Lib.hid hl1
  clear h1 hl1
  go_enter Try.func4, Try.ntmps4
  go_wp2_with fail
  refine (awake_any _).mono ?_; rintro e w1 ⟨rfl, hb1⟩
  have HX1 := Lib.hid ((Bx.new w 24 #[.int .i64 N, .slice A1 z.length c1]).below hb1)
  have HB1 := Lib.hid ((al1 w (.cells #[.int .i64 N, .slice A1 z.length c1] 24)).trans (hb1.mono (by simp)))
  obtain ⟨x0, x1⟩ := HX1.out.k2
  clear hb1
  go_wp2_with fail
  refine (few_any N A1 c1 z _ HL1.out).mono ?_; rintro e w4 ⟨rfl, hb2⟩
  have HB4 := Lib.hid (HB1.out.trans (hb2.mono HB1.out.size))
  have HXA4 := Lib.hid (HX1.out.below hb2)
  have HSA4 := Lib.hid (H1.out.below HB4.out)
  clear hb2 x0 x1 HB1 HX1
  cases hfa : fewB N z with
  | false =>
    clear hfa HXA4 HSA4
    go_wp2_with fail
    refine (awake_any _).mono ?_; rintro e w9 ⟨rfl, hb⟩
    have HBZ := Lib.hid (HB4.out.trans (hb.mono HB4.out.size))
    clear hb
    go_wp2_with fail
    go_ret
    exact Tells.of HBZ.out
  | true =>
  clear hfa
  obtain ⟨n1, l1, ok, n2, l2, g2, hE1, hE2, hQ1, hQ2, hG⟩ := close_rows N z
  obtain ⟨r, sm, hM, hQ3⟩ := mod_rows N z
  obtain ⟨lo, hi, inn, hlo, hhi, hin⟩ : ∃ lo hi inn, lo = (rangeR N z x).1 ∧ hi = (rangeR N z x).2.1 ∧ inn = (rangeR N z x).2.2 := ⟨_, _, _, rfl, rfl, rfl⟩
  have HE1 := Lib.hid hE1
  have HE2 := Lib.hid hE2
  have HM := Lib.hid hM
  have HQ1 := Lib.hid hQ1
  have HQ2 := Lib.hid hQ2
  have HQ3 := Lib.hid hQ3
  have HG := Lib.hid hG
  have HLO := Lib.hid hlo
  have HHI := Lib.hid hhi
  have HIN := Lib.hid hin
  clear hE1 hE2 hM hQ1 hQ2 hQ3 hG hlo hhi hin
  obtain ⟨x0, x1⟩ := HXA4.out.k2
  go_wp2_with fail
  refine (own_any N A1 z.length c1 _).mono ?_; rintro e wo ⟨rfl, hbo⟩
  have HB5o := Lib.hid (HB4.out.trans (hbo.mono HB4.out.size))
  have HXA5o := Lib.hid (HXA4.out.below hbo)
  have HSA5o := Lib.hid (HSA4.out.below hbo)
  clear HB4 HXA4 HSA4
  clear x0 x1
  obtain ⟨x0, x1⟩ := HXA5o.out.k2
  go_wp2_with fail
  refine (close_any N _ z _ HSA5o.out HL1.out).mono ?_; rintro e w5 ⟨v5, rfl, ho, hb⟩; rw [HE1.out] at ho ⊢
  dsimp only at ho ⊢
  obtain ⟨A5, c5, rfl⟩ := own_shapeG ho
  have hba := hb.trans ((al1 w5 (.cells #[.int .i64 n1, .slice A5 l1.length c5] 29)).mono hb.size)
  have HB5 := Lib.hid (HB5o.out.trans (hba.mono HB5o.out.size))
  have HXA5 := Lib.hid (HXA5o.out.below hba)
  have HSA5 := Lib.hid (HSA5o.out.below hba)
  clear HB5o HXA5o HSA5o
  have HX55 := Lib.hid (Bx.new w5 29 #[.int .i64 n1, .slice A5 l1.length c5])
  have HS55 := Lib.hid ((Own.sl (show Own w5 _ _ _ l1 from ho)).below (al1 w5 (.cells #[.int .i64 n1, .slice A5 l1.length c5] 29)))
  clear x0 x1 hb ho hba
  obtain ⟨x0, x1⟩ := HXA5.out.k2
  go_wp2_with fail
  refine (rclose_any N _ z _ HSA5.out HL1.out).mono ?_; rintro e w6 ⟨v6, rfl, ho, hb⟩; rw [HE1.out] at ho ⊢
  dsimp only at ho ⊢
  obtain ⟨A6, c6, rfl⟩ := own_shapeG ho
  have hba := hb.trans ((al1 w6 (.cells #[.int .i64 n1, .slice A6 l1.length c6] 24)).mono hb.size)
  have HB6 := Lib.hid (HB5.out.trans (hba.mono HB5.out.size))
  have HXA6 := Lib.hid (HXA5.out.below hba)
  have HSA6 := Lib.hid (HSA5.out.below hba)
  have HX56 := Lib.hid (HX55.out.below hba)
  have HS56 := Lib.hid (HS55.out.below hba)
  clear HB5 HXA5 HSA5 HX55 HS55
  have HX66 := Lib.hid (Bx.new w6 24 #[.int .i64 n1, .slice A6 l1.length c6])
  have HS66 := Lib.hid ((Own.sl (show Own w6 _ _ _ l1 from ho)).below (al1 w6 (.cells #[.int .i64 n1, .slice A6 l1.length c6] 24)))
  clear x0 x1 hb ho hba
  obtain ⟨x0, x1⟩ := HXA6.out.k2
  go_wp2_with fail
  refine (own_any N A1 z.length c1 _).mono ?_; rintro e w7o ⟨rfl, hb⟩
  have HB7o := Lib.hid (HB6.out.trans (hb.mono HB6.out.size))
  have HXA7o := Lib.hid (HXA6.out.below hb)
  have HSA7o := Lib.hid (HSA6.out.below hb)
  have HX57o := Lib.hid (HX56.out.below hb)
  have HS57o := Lib.hid (HS56.out.below hb)
  have HX67o := Lib.hid (HX66.out.below hb)
  have HS67o := Lib.hid (HS66.out.below hb)
  clear HB6 HXA6 HSA6 HX56 HS56 HX66 HS66
  clear x0 x1 hb
  obtain ⟨x0, x1⟩ := HXA7o.out.k2
  go_wp2_with fail
  refine (model_any N _ z _ HSA7o.out HL1.out).mono ?_; rintro e w7 ⟨v7, rfl, hs, hb⟩; rw [HM.out] at hs ⊢
  dsimp only at hs ⊢
  obtain ⟨A7, c7, rfl⟩ := hs.shape
  have HS77 := Lib.hid hs
  clear hs
  have HB7 := Lib.hid (HB7o.out.trans (hb.mono HB7o.out.size))
  have HXA7 := Lib.hid (HXA7o.out.below hb)
  have HSA7 := Lib.hid (HSA7o.out.below hb)
  have HX57 := Lib.hid (HX57o.out.below hb)
  have HS57 := Lib.hid (HS57o.out.below hb)
  have HX67 := Lib.hid (HX67o.out.below hb)
  have HS67 := Lib.hid (HS67o.out.below hb)
  clear HB7o HXA7o HSA7o HX57o HS57o HX67o HS67o
  clear x0 x1 hb
  obtain ⟨x0, x1⟩ := HXA7.out.k2
  go_wp2_with fail
  refine (rmodel_any N _ z _ HSA7.out HL1.out).mono ?_; rintro e w8 ⟨v8, rfl, hs, hb⟩; rw [HM.out] at hs ⊢
  dsimp only at hs ⊢
  obtain ⟨A8, c8, rfl⟩ := hs.shape
  have HS88 := Lib.hid hs
  clear hs
  have HB8 := Lib.hid (HB7.out.trans (hb.mono HB7.out.size))
  have HXA8 := Lib.hid (HXA7.out.below hb)
  have HSA8 := Lib.hid (HSA7.out.below hb)
  have HX58 := Lib.hid (HX57.out.below hb)
  have HS58 := Lib.hid (HS57.out.below hb)
  have HX68 := Lib.hid (HX67.out.below hb)
  have HS68 := Lib.hid (HS67.out.below hb)
  have HS78 := Lib.hid (HS77.out.below hb)
  clear HB7 HXA7 HSA7 HX57 HS57 HX67 HS67 HS77
  clear x0 x1 hb
  obtain ⟨x0, x1⟩ := HXA8.out.k2
  go_wp2_with fail
  refine (own_any N A1 z.length c1 _).mono ?_; rintro e w9o ⟨rfl, hb⟩
  have HB9o := Lib.hid (HB8.out.trans (hb.mono HB8.out.size))
  have HXA9o := Lib.hid (HXA8.out.below hb)
  have HSA9o := Lib.hid (HSA8.out.below hb)
  have HX59o := Lib.hid (HX58.out.below hb)
  have HS59o := Lib.hid (HS58.out.below hb)
  have HX69o := Lib.hid (HX68.out.below hb)
  have HS69o := Lib.hid (HS68.out.below hb)
  have HS79o := Lib.hid (HS78.out.below hb)
  have HS89o := Lib.hid (HS88.out.below hb)
  clear HB8 HXA8 HSA8 HX58 HS58 HX68 HS68 HS78 HS88
  clear x0 x1 hb
  obtain ⟨x0, x1⟩ := HXA9o.out.k2
  go_wp2_with fail
  refine (range_any N x _ z _ HSA9o.out HL1.out).mono ?_; rintro e w9 ⟨rfl, hb⟩
  rw [← HLO.out, ← HHI.out, ← HIN.out]
  have HB9 := Lib.hid (HB9o.out.trans (hb.mono HB9o.out.size))
  have HXA9 := Lib.hid (HXA9o.out.below hb)
  have HSA9 := Lib.hid (HSA9o.out.below hb)
  have HX59 := Lib.hid (HX59o.out.below hb)
  have HS59 := Lib.hid (HS59o.out.below hb)
  have HX69 := Lib.hid (HX69o.out.below hb)
  have HS69 := Lib.hid (HS69o.out.below hb)
  have HS79 := Lib.hid (HS79o.out.below hb)
  have HS89 := Lib.hid (HS89o.out.below hb)
  clear HB9o HXA9o HSA9o HX59o HS59o HX69o HS69o HS79o HS89o
  clear x0 x1 hb
  obtain ⟨x0, x1⟩ := HXA9.out.k2
  go_wp2_with fail
  refine (rrange_any N x _ z _ HSA9.out HL1.out).mono ?_; rintro e w10 ⟨rfl, hb⟩
  rw [← HLO.out, ← HHI.out, ← HIN.out]
  have HB10 := Lib.hid (HB9.out.trans (hb.mono HB9.out.size))
  have HXA10 := Lib.hid (HXA9.out.below hb)
  have HSA10 := Lib.hid (HSA9.out.below hb)
  have HX510 := Lib.hid (HX59.out.below hb)
  have HS510 := Lib.hid (HS59.out.below hb)
  have HX610 := Lib.hid (HX69.out.below hb)
  have HS610 := Lib.hid (HS69.out.below hb)
  have HS710 := Lib.hid (HS79.out.below hb)
  have HS810 := Lib.hid (HS89.out.below hb)
  clear HB9 HXA9 HSA9 HX59 HS59 HX69 HS69 HS79 HS89
  clear x0 x1 hb
  obtain ⟨x0, x1⟩ := HXA10.out.k2
  have HSM1 := Lib.hid (show ∀ w6, Below w10.heap.size w10 w6 → Calls Try.prog 19 #[.agg #[.int .i64 n1, .slice A5 l1.length c5], .agg #[.int .i64 n1, .slice A6 l1.length c6]] w6 (Tells w6 (.bool true)) from
    fun w6 h6 => by
      have h9 := rsame_any n1 n1 _ _ l1 l1 w6 (HS510.out.below h6) (by have := HQ1.out; omega) (HS610.out.below h6)
      rwa [decide_eq_true (show n1 = n1 ∧ l1 = l1 from ⟨rfl, rfl⟩)] at h9)
  clear x0 x1
  go_wp2_with fail
  refine region_phi (n := 136) (Wd [(false, .bool ok),
      (false, .bool ok),
      (false, .bool false),
      (false, .bool false),
      (false, .agg #[.int .i64 n1, .slice A5 l1.length c5]),
      (false, .agg #[.int .i64 n1, .slice A5 l1.length c5]),
      (false, .agg #[.int .i64 n1, .slice A6 l1.length c6]),
      (false, .bool true),
      (false, .bool false),
      (false, .bool false),
      (false, .bool false),
      (false, .bool sm),
      (false, .bool sm),
      (false, .bool false),
      (false, .bool false),
      (false, .bool false),
      (false, .slice A7 r.length c7),
      (false, .int .i64 (r.length : Int)),
      (false, .slice A8 r.length c8),
      (false, .int .i64 (r.length : Int)),
      (false, .bool false),
      (false, .bool false),
      (false, .bool false),
      (false, .int .i64 lo),
      (false, .int .i64 lo),
      (false, .bool false),
      (false, .bool false),
      (false, .bool false),
      (false, .int .i64 hi),
      (false, .int .i64 hi),
      (false, .bool false),
      (false, .bool false),
      (false, .bool false),
      (false, .bool inn),
      (false, .bool inn),
      (false, .bool false),
      (false, .bool false)]) (by kernel_rfl) (by kernel_rfl) rfl (fun _ _ _ _ h _ => h) (allOps_spec ?_) ?_
  · refine ⟨?_, ?_, ?_, ?_, ?_, ?_, ?_, ?_, ?_, ?_, ?_, ?_, ?_, ?_, ?_, ?_, ?_, ?_, ?_, ?_, ?_, ?_, ?_, ?_, ?_, ?_, ?_, ?_, ?_, ?_, ?_, ?_, ?_, ?_, ?_, ?_, ?_, trivial⟩
    · intro ac w' hb hp
      have b6 : ac.tmps[6]?.getD undef = .bool ok := hb.at 6 (by kernel_rfl)
      exact wd_run rfl rfl (by simp [execOp, go_sem, Act.eval, b6])
    · intro ac w' hb hp
      have b8 : ac.tmps[8]?.getD undef = .bool ok := hb.at 8 (by kernel_rfl)
      exact wd_run rfl rfl (by simp [execOp, go_sem, Act.eval, b8])
    · exact fun ac w' hb hp => wd_run rfl rfl (by simp [execOp, go_sem, Act.eval, wd_get (hp ⟨0, .data⟩ (by simp) rfl _ rfl) rfl rfl, wd_get (hp ⟨1, .data⟩ (by simp) rfl _ rfl) rfl rfl])
    · exact fun ac w' hb hp => wd_run rfl rfl (by simp [execOp, go_sem, Act.eval, wd_get (hp ⟨2, .data⟩ (by simp) rfl _ rfl) rfl rfl])
    · intro ac w' hb hp
      have gg := wd_get (hp ⟨3, .guard⟩ (by simp) rfl _ rfl) rfl rfl
      have b5 : ac.tmps[5]?.getD undef = .pointer (some ⟨w5.heap.size, 0, none⟩) := hb.at 5 (by kernel_rfl)
      have q0 := (HX510.out.below hb.ext).cell 0
      have q1 := (HX510.out.below hb.ext).cell 1
      exact wd_run rfl (by simp [Region.wanted, yielded, bool_at gg]) (by simp [execOp, go_sem, Act.eval, b5, q0, q1])
    · intro ac w' hb hp
      have gg := wd_get (hp ⟨3, .guard⟩ (by simp) rfl _ rfl) rfl rfl
      refine step_call (f := 20) (args := #[.agg #[.int .i64 n1, .slice A5 l1.length c5]]) (by simp [Region.wanted, yielded, bool_at gg]) (by simp [go_sem, wd_get (hp ⟨4, .data⟩ (by simp) rfl _ rfl) rfl rfl]) ?_
      exact (theirs_any n1 A5 l1.length c5 w').mono fun e w9 h9 => ⟨_, h9.1, h9.2, wd_mk rfl fun _ => rfl⟩
    · intro ac w' hb hp
      have gg := wd_get (hp ⟨3, .guard⟩ (by simp) rfl _ rfl) rfl rfl
      have b7 : ac.tmps[7]?.getD undef = .pointer (some ⟨w6.heap.size, 0, none⟩) := hb.at 7 (by kernel_rfl)
      have q0 := (HX610.out.below hb.ext).cell 0
      have q1 := (HX610.out.below hb.ext).cell 1
      exact wd_run rfl (by simp [Region.wanted, yielded, bool_at gg]) (by simp [execOp, go_sem, Act.eval, b7, q0, q1])
    · intro ac w' hb hp
      have gg := wd_get (hp ⟨3, .guard⟩ (by simp) rfl _ rfl) rfl rfl
      refine step_call (f := 19) (args := #[.agg #[.int .i64 n1, .slice A5 l1.length c5], .agg #[.int .i64 n1, .slice A6 l1.length c6]]) (by simp [Region.wanted, yielded, bool_at gg]) (by simp [go_sem, wd_get (hp ⟨5, .data⟩ (by simp) rfl _ rfl) rfl rfl, wd_get (hp ⟨6, .data⟩ (by simp) rfl _ rfl) rfl rfl]) ?_
      exact (HSM1.out w' hb.ext).mono fun e w9 h9 => ⟨_, h9.1, h9.2, wd_mk rfl fun _ => rfl⟩
    · intro ac w' hb hp
      have gg := wd_get (hp ⟨3, .guard⟩ (by simp) rfl _ rfl) rfl rfl
      exact wd_run rfl (by simp [Region.wanted, yielded, bool_at gg]) (by simp [execOp, go_sem, Act.eval, wd_get (hp ⟨7, .data⟩ (by simp) rfl _ rfl) rfl rfl])
    · exact fun ac w' hb hp => wd_run rfl rfl (by simp [execOp, go_sem, Act.eval, wd_get (hp ⟨3, .data⟩ (by simp) rfl _ rfl) rfl rfl, wd_get (hp ⟨8, .data⟩ (by simp) rfl _ rfl) rfl rfl])
    · exact fun ac w' hb hp => wd_run rfl rfl (by simp [execOp, go_sem, Act.eval, wd_get (hp ⟨9, .data⟩ (by simp) rfl _ rfl) rfl rfl])
    · intro ac w' hb hp
      have gg := wd_get (hp ⟨10, .guard⟩ (by simp) rfl _ rfl) rfl rfl
      have b10 : ac.tmps[10]?.getD undef = .bool sm := hb.at 10 (by kernel_rfl)
      exact wd_run rfl (by simp [Region.wanted, yielded, bool_at gg]) (by simp [execOp, go_sem, Act.eval, b10])
    · intro ac w' hb hp
      have gg := wd_get (hp ⟨10, .guard⟩ (by simp) rfl _ rfl) rfl rfl
      have b12 : ac.tmps[12]?.getD undef = .bool sm := hb.at 12 (by kernel_rfl)
      exact wd_run rfl (by simp [Region.wanted, yielded, bool_at gg]) (by simp [execOp, go_sem, Act.eval, b12])
    · intro ac w' hb hp
      have gg := wd_get (hp ⟨10, .guard⟩ (by simp) rfl _ rfl) rfl rfl
      exact wd_run rfl (by simp [Region.wanted, yielded, bool_at gg]) (by simp [execOp, go_sem, Act.eval, wd_get (hp ⟨11, .data⟩ (by simp) rfl _ rfl) rfl rfl, wd_get (hp ⟨12, .data⟩ (by simp) rfl _ rfl) rfl rfl])
    · exact fun ac w' hb hp => wd_run rfl rfl (by simp [execOp, go_sem, Act.eval, wd_get (hp ⟨10, .data⟩ (by simp) rfl _ rfl) rfl rfl, wd_get (hp ⟨13, .data⟩ (by simp) rfl _ rfl) rfl rfl])
    · exact fun ac w' hb hp => wd_run rfl rfl (by simp [execOp, go_sem, Act.eval, wd_get (hp ⟨14, .data⟩ (by simp) rfl _ rfl) rfl rfl])
    · intro ac w' hb hp
      have gg := wd_get (hp ⟨15, .guard⟩ (by simp) rfl _ rfl) rfl rfl
      have b9 : ac.tmps[9]?.getD undef = .slice A7 r.length c7 := hb.at 9 (by kernel_rfl)
      exact wd_run rfl (by simp [Region.wanted, yielded, bool_at gg]) (by simp [execOp, go_sem, Act.eval, b9])
    · intro ac w' hb hp
      have gg := wd_get (hp ⟨15, .guard⟩ (by simp) rfl _ rfl) rfl rfl
      exact wd_run rfl (by simp [Region.wanted, yielded, bool_at gg]) (by simp [go_sem, Act.eval, wd_get (hp ⟨16, .data⟩ (by simp) rfl _ rfl) rfl rfl])
    · intro ac w' hb hp
      have gg := wd_get (hp ⟨15, .guard⟩ (by simp) rfl _ rfl) rfl rfl
      have b11 : ac.tmps[11]?.getD undef = .slice A8 r.length c8 := hb.at 11 (by kernel_rfl)
      exact wd_run rfl (by simp [Region.wanted, yielded, bool_at gg]) (by simp [execOp, go_sem, Act.eval, b11])
    · intro ac w' hb hp
      have gg := wd_get (hp ⟨15, .guard⟩ (by simp) rfl _ rfl) rfl rfl
      exact wd_run rfl (by simp [Region.wanted, yielded, bool_at gg]) (by simp [go_sem, Act.eval, wd_get (hp ⟨18, .data⟩ (by simp) rfl _ rfl) rfl rfl])
    · intro ac w' hb hp
      have gg := wd_get (hp ⟨15, .guard⟩ (by simp) rfl _ rfl) rfl rfl
      exact wd_run rfl (by simp [Region.wanted, yielded, bool_at gg]) (by simp [execOp, go_sem, Act.eval, wd_get (hp ⟨17, .data⟩ (by simp) rfl _ rfl) rfl rfl, wd_get (hp ⟨19, .data⟩ (by simp) rfl _ rfl) rfl rfl])
    · exact fun ac w' hb hp => wd_run rfl rfl (by simp [execOp, go_sem, Act.eval, wd_get (hp ⟨15, .data⟩ (by simp) rfl _ rfl) rfl rfl, wd_get (hp ⟨20, .data⟩ (by simp) rfl _ rfl) rfl rfl])
    · exact fun ac w' hb hp => wd_run rfl rfl (by simp [execOp, go_sem, Act.eval, wd_get (hp ⟨21, .data⟩ (by simp) rfl _ rfl) rfl rfl])
    · intro ac w' hb hp
      have gg := wd_get (hp ⟨22, .guard⟩ (by simp) rfl _ rfl) rfl rfl
      have b13 : ac.tmps[13]?.getD undef = .int .i64 lo := hb.at 13 (by kernel_rfl)
      exact wd_run rfl (by simp [Region.wanted, yielded, bool_at gg]) (by simp [execOp, go_sem, Act.eval, b13])
    · intro ac w' hb hp
      have gg := wd_get (hp ⟨22, .guard⟩ (by simp) rfl _ rfl) rfl rfl
      have b16 : ac.tmps[16]?.getD undef = .int .i64 lo := hb.at 16 (by kernel_rfl)
      exact wd_run rfl (by simp [Region.wanted, yielded, bool_at gg]) (by simp [execOp, go_sem, Act.eval, b16])
    · intro ac w' hb hp
      have gg := wd_get (hp ⟨22, .guard⟩ (by simp) rfl _ rfl) rfl rfl
      exact wd_run rfl (by simp [Region.wanted, yielded, bool_at gg]) (by simp [execOp, go_sem, Act.eval, wd_get (hp ⟨23, .data⟩ (by simp) rfl _ rfl) rfl rfl, wd_get (hp ⟨24, .data⟩ (by simp) rfl _ rfl) rfl rfl])
    · exact fun ac w' hb hp => wd_run rfl rfl (by simp [execOp, go_sem, Act.eval, wd_get (hp ⟨22, .data⟩ (by simp) rfl _ rfl) rfl rfl, wd_get (hp ⟨25, .data⟩ (by simp) rfl _ rfl) rfl rfl])
    · exact fun ac w' hb hp => wd_run rfl rfl (by simp [execOp, go_sem, Act.eval, wd_get (hp ⟨26, .data⟩ (by simp) rfl _ rfl) rfl rfl])
    · intro ac w' hb hp
      have gg := wd_get (hp ⟨27, .guard⟩ (by simp) rfl _ rfl) rfl rfl
      have b14 : ac.tmps[14]?.getD undef = .int .i64 hi := hb.at 14 (by kernel_rfl)
      exact wd_run rfl (by simp [Region.wanted, yielded, bool_at gg]) (by simp [execOp, go_sem, Act.eval, b14])
    · intro ac w' hb hp
      have gg := wd_get (hp ⟨27, .guard⟩ (by simp) rfl _ rfl) rfl rfl
      have b17 : ac.tmps[17]?.getD undef = .int .i64 hi := hb.at 17 (by kernel_rfl)
      exact wd_run rfl (by simp [Region.wanted, yielded, bool_at gg]) (by simp [execOp, go_sem, Act.eval, b17])
    · intro ac w' hb hp
      have gg := wd_get (hp ⟨27, .guard⟩ (by simp) rfl _ rfl) rfl rfl
      exact wd_run rfl (by simp [Region.wanted, yielded, bool_at gg]) (by simp [execOp, go_sem, Act.eval, wd_get (hp ⟨28, .data⟩ (by simp) rfl _ rfl) rfl rfl, wd_get (hp ⟨29, .data⟩ (by simp) rfl _ rfl) rfl rfl])
    · exact fun ac w' hb hp => wd_run rfl rfl (by simp [execOp, go_sem, Act.eval, wd_get (hp ⟨27, .data⟩ (by simp) rfl _ rfl) rfl rfl, wd_get (hp ⟨30, .data⟩ (by simp) rfl _ rfl) rfl rfl])
    · exact fun ac w' hb hp => wd_run rfl rfl (by simp [execOp, go_sem, Act.eval, wd_get (hp ⟨31, .data⟩ (by simp) rfl _ rfl) rfl rfl])
    · intro ac w' hb hp
      have gg := wd_get (hp ⟨32, .guard⟩ (by simp) rfl _ rfl) rfl rfl
      have b15 : ac.tmps[15]?.getD undef = .bool inn := hb.at 15 (by kernel_rfl)
      exact wd_run rfl (by simp [Region.wanted, yielded, bool_at gg]) (by simp [execOp, go_sem, Act.eval, b15])
    · intro ac w' hb hp
      have gg := wd_get (hp ⟨32, .guard⟩ (by simp) rfl _ rfl) rfl rfl
      have b18 : ac.tmps[18]?.getD undef = .bool inn := hb.at 18 (by kernel_rfl)
      exact wd_run rfl (by simp [Region.wanted, yielded, bool_at gg]) (by simp [execOp, go_sem, Act.eval, b18])
    · intro ac w' hb hp
      have gg := wd_get (hp ⟨32, .guard⟩ (by simp) rfl _ rfl) rfl rfl
      exact wd_run rfl (by simp [Region.wanted, yielded, bool_at gg]) (by simp [execOp, go_sem, Act.eval, wd_get (hp ⟨33, .data⟩ (by simp) rfl _ rfl) rfl rfl, wd_get (hp ⟨34, .data⟩ (by simp) rfl _ rfl) rfl rfl])
    · exact fun ac w' hb hp => wd_run rfl rfl (by simp [execOp, go_sem, Act.eval, wd_get (hp ⟨32, .data⟩ (by simp) rfl _ rfl) rfl rfl, wd_get (hp ⟨35, .data⟩ (by simp) rfl _ rfl) rfl rfl])
  · intro vz w11 hext hall
    have HEXT := Lib.hid hext
    have e36 : vz 36 = .bool false := hall 36 (by decide) rfl
    clear hext hall
    simp only [putAll, Act.put, List.setIfInBounds_toArray, List.set_cons_zero, List.set_cons_succ, Nat.zero_add, Nat.reduceAdd, e36]
    clear e36
    have HB11 := Lib.hid (HB10.out.trans (HEXT.out.mono HB10.out.size))
    have HX511 := Lib.hid (HX510.out.below HEXT.out)
    have HS511 := Lib.hid (HS510.out.below HEXT.out)
    have HS711 := Lib.hid (HS710.out.below HEXT.out)
    have HS811 := Lib.hid (HS810.out.below HEXT.out)
    have HBW := Lib.hid (Below.refl w11.heap.size w11)
    clear HB10 HXA10 HSA10 HX510 HS510 HX610 HS610 HS710 HS810 HSM1 HEXT hbo
    go_wp2_with fail
    go_loopw [106] (fun j wr => ∃ i : Nat, i ≤ r.length ∧ j = .int .i64 (i : Int) ∧ Hid (Below w11.heap.size w11 wr)) (fun j _ => r.length - (intOf j).toNat)
    case atStart => exact ⟨0, Nat.zero_le _, rfl, HBW⟩
    case round =>
      clear HBW
      obtain ⟨i, hi, rfl, HBW⟩ := hrel
      by_cases hlt : i < r.length
      · have dk : decide ((i : Int) < (r.length : Int)) = true := decide_eq_true (by omega)
        obtain ⟨ad7, rfl, hc7⟩ := (HS711.out.below HBW.out).at i hlt
        obtain ⟨ad8, rfl, hc8⟩ := (HS811.out.below HBW.out).at i hlt
        have hq := HQ3.out
        generalize r[i] = ri at *
        go_wp2_with fail
        go_quiet (fail)
        have HBW2 := Lib.hid (HBW.out.trans ((below_drewN wr nq).mono HBW.out.size))
        clear HBW hc7 hc8
        go_wp2_with fail
        go_roundw
        case rel => exact ⟨i + 1, by omega, by go_num, HBW2⟩
        case measure => simp [intOf]; omega
      · obtain rfl : i = r.length := by omega
        have HB12 := Lib.hid (HB11.out.trans (HBW.out.mono HB11.out.size))
        have HX512 := Lib.hid (HX511.out.below HBW.out)
        have HS512 := Lib.hid (HS511.out.below HBW.out)
        clear HB11 HX511 HS511 HS711 HS811 HBW
        obtain ⟨x0, x1⟩ := HX512.out.k2
        go_wp2_with fail
        refine (close_any n1 _ l1 _ HS512.out (by have := HQ1.out; omega)).mono ?_; rintro e w13 ⟨v13, rfl, ho, hb⟩; rw [HE2.out] at ho ⊢
        dsimp only at ho ⊢
        obtain ⟨A7, c7, rfl⟩ := own_shapeG ho
        have hba := hb.trans ((al1 w13 (.cells #[.int .i64 n2, .slice A7 l2.length c7] 29)).mono hb.size)
        have HB13 := Lib.hid (HB12.out.trans (hba.mono HB12.out.size))
        have HX513 := Lib.hid (HX512.out.below hba)
        have HS513 := Lib.hid (HS512.out.below hba)
        have HX713 := Lib.hid (Bx.new w13 29 #[.int .i64 n2, .slice A7 l2.length c7])
        have HS713 := Lib.hid ((Own.sl (show Own w13 _ _ _ l2 from ho)).below (al1 w13 (.cells #[.int .i64 n2, .slice A7 l2.length c7] 29)))
        clear x0 x1 hb ho hba HB12 HX512 HS512
        cases hok : ok with
        | true =>
          subst hok
          obtain ⟨rfl, rfl, rfl⟩ := HG.out rfl
          go_wp2_with fail
          generalize hww : w13.alloc (.cells #[.int .i64 n2, .slice A7 l2.length c7] 29) = ww at *
          have HSM := Lib.hid (show ∀ w6, Below ww.heap.size ww w6 → Calls Try.prog 19 #[.agg #[.int .i64 n2, .slice A7 l2.length c7], .agg #[.int .i64 n2, .slice A5 l2.length c5]] w6 (Tells w6 (.bool true)) from
            fun w6 h6 => by
              have h9 := rsame_any n2 n2 _ _ l2 l2 w6 (HS713.out.below h6) (by have := HQ1.out; omega) (HS513.out.below h6)
              rwa [decide_eq_true (show n2 = n2 ∧ l2 = l2 from ⟨rfl, rfl⟩)] at h9)
          clear hww
          refine region_phi (n := 136) (Wd [(false, .bool true),
              (false, .bool false),
              (false, .bool false),
              (false, .bool true),
              (false, .bool true),
              (false, .agg #[.int .i64 n2, .slice A7 l2.length c7]),
              (false, .agg #[.int .i64 n2, .slice A7 l2.length c7]),
              (false, .agg #[.int .i64 n2, .slice A5 l2.length c5]),
              (false, .agg #[.int .i64 n2, .slice A5 l2.length c5]),
              (false, .bool true),
              (false, .bool true),
              (false, .bool true),
              (false, .bool true)]) (by kernel_rfl) (by kernel_rfl) rfl (fun _ _ _ _ h _ => h) (allOps_spec ?_) ?_
          · refine ⟨?_, ?_, ?_, ?_, ?_, ?_, ?_, ?_, ?_, ?_, ?_, ?_, ?_, trivial⟩
            · intro ac w' hb hp
              have b6 : ac.tmps[6]?.getD undef = .bool true := hb.at 6 (by kernel_rfl)
              exact wd_run rfl rfl (by simp [execOp, go_sem, Act.eval, b6])
            · exact fun ac w' hb hp => wd_run rfl rfl (by simp [execOp, go_sem, Act.eval, wd_get (hp ⟨0, .data⟩ (by simp) rfl _ rfl) rfl rfl])
            · exact fun ac w' hb hp => wd_run rfl rfl (by simp [execOp, go_sem, Act.eval, wd_get (hp ⟨1, .data⟩ (by simp) rfl _ rfl) rfl rfl])
            · intro ac w' hb hp
              have gg := wd_get (hp ⟨2, .guard⟩ (by simp) rfl _ rfl) rfl rfl
              have b21 : ac.tmps[21]?.getD undef = .bool true := hb.at 21 (by kernel_rfl)
              exact wd_run rfl (by simp [Region.wanted, yielded, bool_at gg]) (by simp [execOp, go_sem, Act.eval, b21])
            · intro ac w' hb hp
              have gg := wd_get (hp ⟨2, .guard⟩ (by simp) rfl _ rfl) rfl rfl
              exact wd_run rfl (by simp [Region.wanted, yielded, bool_at gg]) (by simp [execOp, go_sem, Act.eval, wd_get (hp ⟨3, .data⟩ (by simp) rfl _ rfl) rfl rfl])
            · intro ac w' hb hp
              have gg := wd_get (hp ⟨4, .guard⟩ (by simp) rfl _ rfl) rfl rfl
              have b20 : ac.tmps[20]?.getD undef = .pointer (some ⟨w13.heap.size, 0, none⟩) := hb.at 20 (by kernel_rfl)
              have q0 := (HX713.out.below hb.ext).cell 0
              have q1 := (HX713.out.below hb.ext).cell 1
              exact wd_run rfl (by simp [Region.wanted, yielded, bool_at gg]) (by simp [execOp, go_sem, Act.eval, b20, q0, q1])
            · intro ac w' hb hp
              have gg := wd_get (hp ⟨4, .guard⟩ (by simp) rfl _ rfl) rfl rfl
              refine step_call (f := 20) (args := #[.agg #[.int .i64 n2, .slice A7 l2.length c7]]) (by simp [Region.wanted, yielded, bool_at gg]) (by simp [go_sem, wd_get (hp ⟨5, .data⟩ (by simp) rfl _ rfl) rfl rfl]) ?_
              exact (theirs_any n2 A7 l2.length c7 w').mono fun e w9 h9 => ⟨_, h9.1, h9.2, wd_mk rfl fun _ => rfl⟩
            · intro ac w' hb hp
              have gg := wd_get (hp ⟨4, .guard⟩ (by simp) rfl _ rfl) rfl rfl
              have b5 : ac.tmps[5]?.getD undef = .pointer (some ⟨w5.heap.size, 0, none⟩) := hb.at 5 (by kernel_rfl)
              have q0 := (HX513.out.below hb.ext).cell 0
              have q1 := (HX513.out.below hb.ext).cell 1
              exact wd_run rfl (by simp [Region.wanted, yielded, bool_at gg]) (by simp [execOp, go_sem, Act.eval, b5, q0, q1])
            · intro ac w' hb hp
              have gg := wd_get (hp ⟨4, .guard⟩ (by simp) rfl _ rfl) rfl rfl
              refine step_call (f := 20) (args := #[.agg #[.int .i64 n2, .slice A5 l2.length c5]]) (by simp [Region.wanted, yielded, bool_at gg]) (by simp [go_sem, wd_get (hp ⟨7, .data⟩ (by simp) rfl _ rfl) rfl rfl]) ?_
              exact (theirs_any n2 A5 l2.length c5 w').mono fun e w9 h9 => ⟨_, h9.1, h9.2, wd_mk rfl fun _ => rfl⟩
            · intro ac w' hb hp
              have gg := wd_get (hp ⟨4, .guard⟩ (by simp) rfl _ rfl) rfl rfl
              refine step_call (f := 19) (args := #[.agg #[.int .i64 n2, .slice A7 l2.length c7], .agg #[.int .i64 n2, .slice A5 l2.length c5]]) (by simp [Region.wanted, yielded, bool_at gg]) (by simp [go_sem, wd_get (hp ⟨6, .data⟩ (by simp) rfl _ rfl) rfl rfl, wd_get (hp ⟨8, .data⟩ (by simp) rfl _ rfl) rfl rfl]) ?_
              exact (HSM.out w' hb.ext).mono fun e w9 h9 => ⟨_, h9.1, h9.2, wd_mk rfl fun _ => rfl⟩
            · intro ac w' hb hp
              have gg := wd_get (hp ⟨2, .guard⟩ (by simp) rfl _ rfl) rfl rfl
              exact wd_run rfl (by simp [Region.wanted, yielded, bool_at gg]) (by simp [execOp, go_sem, Act.eval, wd_get (hp ⟨4, .data⟩ (by simp) rfl _ rfl) rfl rfl, wd_get (hp ⟨9, .data⟩ (by simp) rfl _ rfl) rfl rfl])
            · exact fun ac w' hb hp => wd_run rfl rfl (by simp [execOp, go_sem, Act.eval, wd_get (hp ⟨2, .data⟩ (by simp) rfl _ rfl) rfl rfl, wd_get (hp ⟨10, .data⟩ (by simp) rfl _ rfl) rfl rfl])
            · exact fun ac w' hb hp => wd_run rfl rfl (by simp [execOp, go_sem, Act.eval, wd_get (hp ⟨11, .data⟩ (by simp) rfl _ rfl) rfl rfl])
          · intro vz w14 hext hall
            have HEXT := Lib.hid hext
            have e12 : vz 12 = .bool true := hall 12 (by decide) rfl
            clear hext hall
            simp only [putAll, Act.put, List.setIfInBounds_toArray, List.set_cons_zero, List.set_cons_succ, Nat.zero_add, Nat.reduceAdd, e12]
            clear e12
            have HB14 := Lib.hid (HB13.out.trans (HEXT.out.mono HB13.out.size))
            clear HEXT HB13
            go_wp2_with fail
            go_ret
            exact Tells.of HB14.out
        | false =>
          subst hok
          go_wp2_with fail
          generalize hww : w13.alloc (.cells #[.int .i64 n2, .slice A7 l2.length c7] 29) = ww at *
          clear hww
          refine region_phi (n := 136) (Wd [(false, .bool false),
              (false, .bool true),
              (false, .bool true),
              (false, undef),
              (false, undef),
              (false, undef),
              (false, undef),
              (false, undef),
              (false, undef),
              (false, undef),
              (false, undef),
              (false, .bool true),
              (false, .bool true)]) (by kernel_rfl) (by kernel_rfl) rfl (fun _ _ _ _ h _ => h) (allOps_spec ?_) ?_
          · refine ⟨?_, ?_, ?_, ?_, ?_, ?_, ?_, ?_, ?_, ?_, ?_, ?_, ?_, trivial⟩
            · intro ac w' hb hp
              have b6 : ac.tmps[6]?.getD undef = .bool false := hb.at 6 (by kernel_rfl)
              exact wd_run rfl rfl (by simp [execOp, go_sem, Act.eval, b6])
            · exact fun ac w' hb hp => wd_run rfl rfl (by simp [execOp, go_sem, Act.eval, wd_get (hp ⟨0, .data⟩ (by simp) rfl _ rfl) rfl rfl])
            · exact fun ac w' hb hp => wd_run rfl rfl (by simp [execOp, go_sem, Act.eval, wd_get (hp ⟨1, .data⟩ (by simp) rfl _ rfl) rfl rfl])
            · intro ac w' hb hp
              have gg := wd_get (hp ⟨2, .guard⟩ (by simp) rfl _ rfl) rfl rfl
              exact wd_offd rfl (by simp [Region.wanted, yielded, bool_at gg])
            · intro ac w' hb hp
              have gg := wd_get (hp ⟨2, .guard⟩ (by simp) rfl _ rfl) rfl rfl
              exact wd_offd rfl (by simp [Region.wanted, yielded, bool_at gg])
            · intro ac w' hb hp
              have gg := wd_get (hp ⟨4, .guard⟩ (by simp) rfl _ rfl) rfl rfl
              exact wd_offu rfl rfl rfl gg
            · intro ac w' hb hp
              have gg := wd_get (hp ⟨4, .guard⟩ (by simp) rfl _ rfl) rfl rfl
              exact wd_offu rfl rfl rfl gg
            · intro ac w' hb hp
              have gg := wd_get (hp ⟨4, .guard⟩ (by simp) rfl _ rfl) rfl rfl
              exact wd_offu rfl rfl rfl gg
            · intro ac w' hb hp
              have gg := wd_get (hp ⟨4, .guard⟩ (by simp) rfl _ rfl) rfl rfl
              exact wd_offu rfl rfl rfl gg
            · intro ac w' hb hp
              have gg := wd_get (hp ⟨4, .guard⟩ (by simp) rfl _ rfl) rfl rfl
              exact wd_offu rfl rfl rfl gg
            · intro ac w' hb hp
              have gg := wd_get (hp ⟨2, .guard⟩ (by simp) rfl _ rfl) rfl rfl
              exact wd_offd rfl (by simp [Region.wanted, yielded, bool_at gg])
            · exact fun ac w' hb hp => wd_run rfl rfl (by simp [execOp, go_sem, Act.eval, wd_get (hp ⟨2, .data⟩ (by simp) rfl _ rfl) rfl rfl])
            · exact fun ac w' hb hp => wd_run rfl rfl (by simp [execOp, go_sem, Act.eval, wd_get (hp ⟨11, .data⟩ (by simp) rfl _ rfl) rfl rfl])
          · intro vz w14 hext hall
            have HEXT := Lib.hid hext
            have e12 : vz 12 = .bool true := hall 12 (by decide) rfl
            clear hext hall
            simp only [putAll, Act.put, List.setIfInBounds_toArray, List.set_cons_zero, List.set_cons_succ, Nat.zero_add, Nat.reduceAdd, e12]
            clear e12
            have HB14 := Lib.hid (HB13.out.trans (HEXT.out.mono HB13.out.size))
            clear HEXT HB13
            go_wp2_with fail
            go_ret
            exact Tells.of HB14.out
end Go.Proofs.Yteoddcamicmapaa
