/- Layer 13: ZoneModels, the walk (tools/gen_zo.py). -/
import Derived.Test.YtepeeeiekeppjaaZnPi
import Derived.Test.YtepeeeiekeppjaaZnLx
namespace Go.Proofs.Ytepeeeiekeppjaa
open Go.RowKit

/-- Where the law stands: the first q variables have their values. -/
def MoI (m : Nat) (z c : List Int) (q : Nat) (l : List Int) : Prop :=
  Zv (m + 1) l ∧ ∀ u, Sat (m + 1) (dm (m + 1) l) u → Sat (m + 1) (dm (m + 1) z) u ∧ ∀ p, p < q → u (p + 1) - u 0 = mdV (gt (m + 1) c) (p + 1)
theorem MoI.start {m : Nat} {z c : List Int} (hz : Zv (m + 1) z) : MoI m z c 0 z := ⟨hz, fun u hu => ⟨hu, fun p hp => by omega⟩⟩
theorem MoI.step {m q : Nat} {z c l : List Int} (h : MoI m z c q l) (hq : q < m) : MoI m z c (q + 1) (addL (m + 1) (addL (m + 1) l (q + 1) 0 (mdV (gt (m + 1) c) (q + 1))) 0 (q + 1) (-mdV (gt (m + 1) c) (q + 1))) := by
  have h1 := add_zv (C := mdV (gt (m + 1) c) (q + 1)) h.1 (show q + 1 < m + 1 by omega) (show 0 < m + 1 by omega)
  refine ⟨add_zv h1 (by omega) (by omega), fun u hu => ?_⟩
  obtain ⟨a1, a2⟩ := (add_sat h1 (by omega) (by omega) u).1 hu
  obtain ⟨a3, a4⟩ := (add_sat h.1 (by omega) (by omega) u).1 a1
  obtain ⟨a5, a6⟩ := h.2 u a3
  refine ⟨a5, fun p hp => ?_⟩
  by_cases e : p = q
  · subst e; omega
  · exact a6 p (by omega)
theorem MoI.fin {m k : Nat} {z c l : List Int} (hz : Zv (m + 1) z) (hc : cls (m + 1) z = some c) (h : MoI m z c k l) (hk : k < m) : cls (m + 1) (addL (m + 1) l (k + 1) 0 (mdV (gt (m + 1) c) (k + 1) - 1)) = none := by
  have hi := cls_is hz hc
  refine (cls_none (add_zv h.1 (by omega) (by omega))).2 fun u hu => ?_
  obtain ⟨a1, a2⟩ := (add_sat h.1 (by omega) (by omega) u).1 hu
  obtain ⟨a3, a4⟩ := h.2 u a1
  have hs : Sat (m + 1) (gt (m + 1) c) (fun i => u i - u 0) := fun i j h1 h2 => by
    have := hi.so u a3 i j h1 h2
    show u i - u 0 - (u j - u 0) ≤ _
    omega
  have := mdV_least hi hs (by show u 0 - u 0 = 0; omega) (k := k + 1) (by omega) (fun i h1 => by
    cases i with
    | zero => rw [mdV_zero]; show u 0 - u 0 = 0; omega
    | succ p => exact a4 p (by omega))
  show False
  have h5 : mdV (gt (m + 1) c) (k + 1) ≤ u (k + 1) - u 0 := this
  omega
theorem ml_get {C : Nat → Nat → Int} {m q : Nat} (hq : q < ((mdL C m).drop 1).length) : ((mdL C m).drop 1)[q] = mdV C (q + 1) := by
  have hl : ((mdL C m).drop 1).length = m := by rw [List.length_drop, mdL_len]; omega
  rw [← nm_md C (m := m) (k := q + 1) (by omega)]
  unfold nmB
  rw [List.getD_eq_getElem?_getD, List.getElem?_cons_succ, List.getElem?_eq_getElem hq]; rfl
set_option maxRecDepth 20000 in
set_option maxHeartbeats 2000000 in
theorem zonemodels_walk (N : Int) (A1 : Option Addr) (c1 : Nat) (z : List Int) (at_ : Nat) (w : World)
    (h1 : Sl iv w (.slice A1 z.length c1) z) (hl1 : z.length ≤ 9223372036854775807) (hat : at_ < 256) :
    Calls Try.prog 11 #[.agg #[.int .i64 N, .slice A1 z.length c1], .int .u8 (at_ : Int)] w (Tells w (.bool true)) := by
  have H1 := Lib.hid h1
  have HL1 := Lib.hid hl1
  have HX0 := Lib.hid (Bx.new w 24 #[.int .i64 N, .slice A1 z.length c1])
  have HA0 := Lib.hid (al1 w (.cells #[.int .i64 N, .slice A1 z.length c1] 24))
  clear h1 hl1
  go_enter Try.func11, Try.ntmps11
  go_wp2_with fail
  refine (awake_any _).mono ?_; rintro e w1 ⟨rfl, hb1⟩
  have HB1 := Lib.hid (HA0.out.trans (hb1.mono HA0.out.size))
  have HX1 := Lib.hid (HX0.out.below hb1)
  obtain ⟨x0, x1⟩ := HX1.out.k2
  clear hb1 HX0 HA0
  go_wp2_with fail
  refine (few_any N A1 c1 z _ HL1.out).mono ?_; rintro e w2 ⟨rfl, hb2⟩
  have HB2 := Lib.hid (HB1.out.trans (hb2.mono HB1.out.size))
  have HX2 := Lib.hid (HX1.out.below hb2)
  clear hb2 x0 x1 HB1 HX1
  cases hfa : fewB N z with
  | false =>
    clear hfa HX2
    go_wp2_with fail
    refine (awake_any _).mono ?_; rintro e w9 ⟨rfl, hb⟩
    have HBZ := Lib.hid (HB2.out.trans (hb.mono HB2.out.size))
    clear hb
    go_wp2_with fail
    go_ret
    exact Tells.of HBZ.out
  | true =>
  clear hfa
  obtain ⟨x0, x1⟩ := HX2.out.k2
  go_wp2_with fail
  refine (own_any N A1 z.length c1 _).mono ?_; rintro e w3 ⟨rfl, hb3⟩
  have HB3 := Lib.hid (HB2.out.trans (hb3.mono HB2.out.size))
  have HX3 := Lib.hid (HX2.out.below hb3)
  clear hb3 x0 x1 HB2 HX2
  go_wp2_with fail
  refine (valid_any N _ z _ (H1.out.below HB3.out) HL1.out).mono ?_; rintro e w4 ⟨rfl, hb4⟩
  have HB4 := Lib.hid (HB3.out.trans (hb4.mono HB3.out.size))
  have HX4 := Lib.hid (HX3.out.below hb4)
  clear hb4 HB3 HX3
  cases hzv : zvB N z with
  | false =>
    clear hzv HX4
    go_wp2_with fail
    refine (awake_any _).mono ?_; rintro e w9 ⟨rfl, hb⟩
    have HBZ := Lib.hid (HB4.out.trans (hb.mono HB4.out.size))
    clear hb
    go_wp2_with fail
    go_ret
    exact Tells.of HBZ.out
  | true =>
  obtain ⟨m, rfl, hm, -, hz⟩ := zv_nat hzv
  have HZ := Lib.hid hz
  clear hzv hz
  obtain ⟨x0, x1⟩ := HX4.out.k2
  go_wp2_with fail
  refine (own_any (m : Int) A1 z.length c1 _).mono ?_; rintro e w5 ⟨rfl, hb5⟩
  have HB5 := Lib.hid (HB4.out.trans (hb5.mono HB4.out.size))
  have HX5 := Lib.hid (HX4.out.below hb5)
  clear hb5 x0 x1 HB4 HX4
  go_wp2_with fail
  refine (model_any (m : Int) _ z _ (H1.out.below HB5.out) HL1.out).mono ?_; rintro e w6 ⟨v6, rfl, hs6, hb6⟩
  obtain ⟨Aq, cq, rfl⟩ := hs6.shape
  have HB6 := Lib.hid (HB5.out.trans (hb6.mono HB5.out.size))
  have HX6 := Lib.hid (HX5.out.below hb6)
  have HM6 := Lib.hid hs6
  obtain ⟨x0, x1⟩ := HX6.out.k2
  clear hb6 HB5 HX5 hs6
  go_wp2_with fail
  refine (own_any (m : Int) A1 z.length c1 _).mono ?_; rintro e w7 ⟨rfl, hb7⟩
  have HB7 := Lib.hid (HB6.out.trans (hb7.mono HB6.out.size))
  have HX7 := Lib.hid (HX6.out.below hb7)
  have HM7 := Lib.hid (HM6.out.below hb7)
  clear hb7 x0 x1 HB6 HX6 HM6
  go_wp2_with fail
  refine (close_any (m : Int) _ z _ (H1.out.below HB7.out) HL1.out).mono ?_; rintro e w8 ⟨v, rfl, ho, hb8⟩
  obtain ⟨A3, c3, rfl⟩ := own_shapeG ho
  have HB8 := Lib.hid (HB7.out.trans (hb8.mono HB7.out.size))
  have HX8 := Lib.hid (HX7.out.below hb8)
  have HM8 := Lib.hid (HM7.out.below hb8)
  clear hb8 HB7 HX7 HM7 ho
  cases hc : closeR (m : Int) z with
  | none =>
    have hmn := modR_none HZ.out ((closeR_nat HZ.out).symm.trans hc)
    rw [hmn] at HM8 ⊢
    rw [closeZ_none hc]
    have HB9 := Lib.hid (HB8.out.alloc HB8.out.size (.cells #[.int .i64 0, .slice A3 0 c3] 29))
    clear hc hmn HX8 HM8
    simp only [List.length_nil]
    go_wp2_with fail
    go_ret
    exact Tells.of HB9.out
  | some cl =>
    have hcl := (closeR_nat HZ.out).symm.trans hc
    have HMH := Lib.hid (mod_holds HZ.out hcl)
    have hms := modR_some HZ.out hcl
    rw [hms] at HM8 ⊢
    rw [closeZ_some hc]
    have HCL := Lib.hid hcl
    obtain ⟨ml, hml⟩ : ∃ ml, ml = (mdL (gt (m + 1) cl) m).drop 1 := ⟨_, rfl⟩
    rw [← hml] at HM8 HMH ⊢
    have hmlen : ml.length = m := by rw [hml, List.length_drop, mdL_len]; omega
    have HG := Lib.hid (show ∀ q (hq : q < ml.length), ml[q] = mdV (gt (m + 1) cl) (q + 1) from by subst hml; exact fun q hq => ml_get hq)
    have HBD := Lib.hid (show ∀ q, q < m → -10000 ≤ mdV (gt (m + 1) cl) (q + 1) ∧ mdV (gt (m + 1) cl) (q + 1) ≤ 10000 from fun q hq => mdV_bnd (cls_is HZ.out hcl) (by omega))
    have HB9 := Lib.hid (HB8.out.alloc HB8.out.size (.cells #[.int .i64 (m : Int), .slice A3 cl.length c3] 29))
    have HX9 := Lib.hid (HX8.out.alloc (.cells #[.int .i64 (m : Int), .slice A3 cl.length c3] 29))
    have HM9 := Lib.hid (HM8.out.below (al1 w8 (.cells #[.int .i64 (m : Int), .slice A3 cl.length c3] 29)))
    dsimp only at HM9 ⊢
    rw [hmlen] at HM9 ⊢
    have HLM := Lib.hid hmlen
    clear hc hcl hms hml HX8 HB8 HM8 hmlen
    obtain ⟨x0, x1⟩ := HX9.out.k2
    go_wp2_with fail
    refine (own_any (m : Int) A1 z.length c1 _).mono ?_; rintro e w10 ⟨rfl, hb⟩
    have HB10 := Lib.hid (HB9.out.trans (hb.mono HB9.out.size))
    have HX10 := Lib.hid (HX9.out.below hb)
    have HM10 := Lib.hid (show Sl iv w10 (.slice Aq ml.length cq) ml from by rw [HLM.out]; exact HM9.out.below hb)
    clear hb x0 x1 HB9 HX9 HM9
    have HHO := Lib.hid (show Calls Try.prog 39 #[.agg #[.int .i64 (m : Int), .slice A1 z.length c1], .slice Aq m cq] w10 (Tells w10 (.bool true)) from by
      have h := holds_any (m : Int) _ _ z ml w10 (H1.out.below HB10.out) HL1.out HM10.out (by rw [HLM.out]; omega)
      rw [HMH.out, HLM.out] at h
      exact h)
    go_wp2_with fail
    refine HHO.out.mono ?_; rintro e w11 ⟨rfl, hb⟩
    have HB11 := Lib.hid (HB10.out.trans (hb.mono HB10.out.size))
    have HX11 := Lib.hid (HX10.out.below hb)
    have HM11 := Lib.hid (HM10.out.below hb)
    clear hb HB10 HX10 HM10 HHO
    by_cases hm0 : m = 0
    · subst hm0
      clear HX11 HM11
      go_wp2_with fail
      go_ret
      exact Tells.of HB11.out
    have hm1 : ((m : Int) == 0) = false := by rw [beq_eq_false_iff_ne]; omega
    have hm2 : (m : Int) ≠ 0 := by omega
    have hmp : 0 < m := by omega
    have hrem : ((at_ : Int)).tmod (m : Int) = ((at_ % m : Nat) : Int) := by rw [Int.tmod_eq_emod_of_nonneg (by omega)]; rfl
    have hkm := Nat.mod_lt at_ hmp
    generalize at_ % m = k at *
    obtain ⟨x0, x1⟩ := HX11.out.k2
    obtain ⟨ad, cm, hs, -, -⟩ := sl_cell HM11.out 0 (by rw [HLM.out]; exact hmp)
    simp only [Value.slice.injEq, true_and] at hs
    obtain ⟨rfl, rfl⟩ := hs
    clear hm0
    go_wp2_with fail
    refine (own_any (m : Int) A1 z.length c1 _).mono ?_; rintro e w12 ⟨rfl, hb⟩
    have HB12 := Lib.hid (HB11.out.trans (hb.mono HB11.out.size))
    have HM12 := Lib.hid (HM11.out.below hb)
    have HW12 := Lib.hid HB12.out.size
    have HBX0 := Lib.hid (Bx.new w12 29 #[.int .i64 (m : Int), .slice A1 z.length c1])
    have HSL0 := Lib.hid ((H1.out.below HB12.out).below (al1 w12 (.cells #[.int .i64 (m : Int), .slice A1 z.length c1] 29)))
    have HBW0 := Lib.hid (al1 w12 (.cells #[.int .i64 (m : Int), .slice A1 z.length c1] 29))
    clear hb x0 x1 HB11 HX11 HM11 hrem hm2
    go_wp2_with fail
    generalize w12.alloc (.cells #[.int .i64 (m : Int), .slice A1 z.length c1] 29) = w13 at *
    obtain ⟨nbx, hnx⟩ : ∃ nbx, nbx = w12.heap.size := ⟨_, rfl⟩
    rw [← hnx] at HBX0 HBW0 HW12 ⊢
    have HNX := Lib.hid hnx
    clear hnx
    have hll : Hid (∀ l : List Int, Zv (m + 1) l → l.length ≤ 9223372036854775807) := Lib.hid fun l hl => by rw [hl.len]; exact Nat.le_trans (Nat.mul_le_mul (by omega : m + 1 ≤ 25) (by omega : m + 1 ≤ 25)) (by decide)
    go_loopw [71] (fun jv wr => ∃ (q : Nat) (l : List Int) (A5 : Option Addr) (c5 : Nat), q ≤ k ∧ jv = .int .i64 (q : Int) ∧ Hid (MoI m z cl q l) ∧ Hid (Bx wr nbx 29 #[.int .i64 (m : Int), .slice A5 l.length c5]) ∧ Hid (Sl iv wr (.slice A5 l.length c5) l) ∧ Hid (Below nbx w12 wr)) (fun jv _ => k - (intOf jv).toNat)
    case atStart => exact ⟨0, z, A1, c1, Nat.zero_le _, rfl, Lib.hid (MoI.start HZ.out), HBX0, HSL0, HBW0⟩
    case round =>
      clear HBX0 HSL0 HBW0
      obtain ⟨q, l, A5, c5, hqk, rfl, HMI, HBX, HSL, HBW⟩ := hrel
      by_cases hlt : q < k
      · have hqm : q < m := by omega
        obtain ⟨ad', cm', hs, -, hcell⟩ := sl_cell HM12.out q (by rw [HLM.out]; exact hqm)
        simp only [Value.slice.injEq, Option.some.injEq] at hs
        obtain ⟨rfl, -, rfl⟩ := hs
        rw [HG.out q (by rw [HLM.out]; exact hqm)] at hcell
        obtain ⟨hx1, hx2⟩ := HBD.out q hqm
        have HST := Lib.hid (HMI.out.step hqm)
        obtain ⟨x, hx⟩ : ∃ x, x = mdV (gt (m + 1) cl) (q + 1) := ⟨_, rfl⟩
        rw [← hx] at hcell hx1 hx2 HST
        unfold iv at hcell
        have hblt : (ad.add q).block < nbx := by rw [HNX.out]; exact World.block_lt_of_cell? _ _ hcell
        have HCQ := Lib.hid ((HBW.out.cell hblt).trans hcell)
        have HCQ0 := Lib.hid hcell
        have HBLT := Lib.hid hblt
        obtain ⟨la, hla⟩ : ∃ la, la = addL (m + 1) l (q + 1) 0 x := ⟨_, rfl⟩
        obtain ⟨lb, hlb⟩ : ∃ lb, lb = addL (m + 1) la 0 (q + 1) (-x) := ⟨_, rfl⟩
        have hzla : Zv (m + 1) la := by rw [hla]; exact add_zv HMI.out.1 (by omega) (by omega)
        have HE1 := Lib.hid (show addZ (m : Int) l (q : Int) (-1) x = (((m : Int), la), .int .i64 0) from by rw [hla]; exact addZ_lo (zv_val HMI.out.1) hqm)
        have HE2 := Lib.hid (show addZ (m : Int) la (-1) (q : Int) (-x) = (((m : Int), lb), .int .i64 0) from by rw [hlb]; exact addZ_hi (zv_val hzla) hqm)
        rw [← hla, ← hlb] at HST
        have HLL := Lib.hid (hll.out l HMI.out.1)
        have HLA := Lib.hid (hll.out la hzla)
        have hq0 : (0 : Int) ≤ (q : Int) := by omega
        have hq1 : (q : Int) < (m : Int) := by omega
        have HWN := Lib.hid (show IntKind.i64.wrap (-x) = -x from by rw [IntKind.wrap_i64]; omega)
        have HAD1 := Lib.hid (show ∀ w6, Below wr.heap.size wr w6 → Calls Try.prog 14 #[.agg #[.int .i64 (m : Int), .slice A5 l.length c5], .agg #[.int .i64 (q : Int), .int .i64 (-1), .int .i64 x]] w6 (ZP w6 (((m : Int), la), .int .i64 0)) from
          fun w6 h6 => by rw [← HE1.out]; exact add_any (m : Int) _ _ x _ l w6 (HSL.out.below h6) HLL.out)
        clear hx hla hlb hzla hcell hx1 hx2
        go_wp2_with fail
        refine region_invE (n := 117) (LxI (wr) 29 (nbx) #[.int .i64 (m : Int), .slice A5 l.length c5] (fun zz => match zz with | 0 => .agg #[.int .i64 (m : Int), .slice A5 l.length c5] | 1 => .int .i64 (q : Int) | 2 => .slice (some ad) m cq | 3 => .int .i64 (q : Int) | 4 => .pointer (some (ad.add q)) | 5 => .int .i64 x | 6 => .agg #[.int .i64 (q : Int), .int .i64 (-1), .int .i64 x] | _ => undef) 7 ((((m : Int), la), .int .i64 0))) (by kernel_rfl) (by kernel_rfl) rfl ?_ (allOps_spec ?_) ?_
        · intro vs
          exact LxI.start HBX.out
        · refine ⟨?_, ?_, ?_, ?_, ?_, ?_, ?_, ?_, ?_, ?_, ?_, ?_, trivial⟩
          · intro L vs ac w6 hB hL hd hI
            have b10 : ac.tmps[10]?.getD undef = .pointer (some ⟨nbx, 0, none⟩) := hB.at 10 (by kernel_rfl)
            have hlk : L 7 = false := (hB.wait 0 7 hL (by kernel_rfl))
            have hl1 : L 8 = false := hB.wait 7 8 hlk (by kernel_rfl)
            have hl2 : L 9 = false := hB.wait 8 9 hl1 (by kernel_rfl)
            have hl4 : L 11 = false := hB.wait 9 11 hl2 (by kernel_rfl)
            have hx := hI.bel hl4
            have hbox := hI.box
            rw [hl4, if_neg Bool.false_ne_true] at hbox
            have q0 := hbox.cell 0
            have q1 := hbox.cell 1
            exact stepI_run (v := .agg #[.int .i64 (m : Int), .slice A5 l.length c5]) rfl (by simp [execOp, go_sem, Act.eval, b10, q0, q1]) (hI.plain 0 (by decide) hlk hl4 (Below.refl _ _))
          · intro L vs ac w6 hB hL hd hI
            have b11 : ac.tmps[11]?.getD undef = .int .i64 (q : Int) := hB.at 11 (by kernel_rfl)
            have hlk : L 7 = false := (hB.wait 6 7 (hB.wait 1 6 hL (by kernel_rfl)) (by kernel_rfl))
            have hl1 : L 8 = false := hB.wait 7 8 hlk (by kernel_rfl)
            have hl2 : L 9 = false := hB.wait 8 9 hl1 (by kernel_rfl)
            have hl4 : L 11 = false := hB.wait 9 11 hl2 (by kernel_rfl)
            have hx := hI.bel hl4
            have hbox := hI.box
            rw [hl4, if_neg Bool.false_ne_true] at hbox
            exact stepI_run (v := .int .i64 (q : Int)) rfl (by simp [execOp, go_sem, Act.eval, b11]) (hI.plain 1 (by decide) hlk hl4 (Below.refl _ _))
          · intro L vs ac w6 hB hL hd hI
            have b5 : ac.tmps[5]?.getD undef = .slice (some ad) m cq := hB.at 5 (by kernel_rfl)
            have hlk : L 7 = false := (hB.wait 6 7 (hB.wait 5 6 (hB.wait 4 5 (hB.wait 2 4 hL (by kernel_rfl)) (by kernel_rfl)) (by kernel_rfl)) (by kernel_rfl))
            have hl1 : L 8 = false := hB.wait 7 8 hlk (by kernel_rfl)
            have hl2 : L 9 = false := hB.wait 8 9 hl1 (by kernel_rfl)
            have hl4 : L 11 = false := hB.wait 9 11 hl2 (by kernel_rfl)
            have hx := hI.bel hl4
            have hbox := hI.box
            rw [hl4, if_neg Bool.false_ne_true] at hbox
            exact stepI_run (v := .slice (some ad) m cq) rfl (by simp [execOp, go_sem, Act.eval, b5]) (hI.plain 2 (by decide) hlk hl4 (Below.refl _ _))
          · intro L vs ac w6 hB hL hd hI
            have b11 : ac.tmps[11]?.getD undef = .int .i64 (q : Int) := hB.at 11 (by kernel_rfl)
            have hlk : L 7 = false := (hB.wait 6 7 (hB.wait 5 6 (hB.wait 4 5 (hB.wait 3 4 hL (by kernel_rfl)) (by kernel_rfl)) (by kernel_rfl)) (by kernel_rfl))
            have hl1 : L 8 = false := hB.wait 7 8 hlk (by kernel_rfl)
            have hl2 : L 9 = false := hB.wait 8 9 hl1 (by kernel_rfl)
            have hl4 : L 11 = false := hB.wait 9 11 hl2 (by kernel_rfl)
            have hx := hI.bel hl4
            have hbox := hI.box
            rw [hl4, if_neg Bool.false_ne_true] at hbox
            exact stepI_run (v := .int .i64 (q : Int)) rfl (by simp [execOp, go_sem, Act.eval, b11]) (hI.plain 3 (by decide) hlk hl4 (Below.refl _ _))
          · intro L vs ac w6 hB hL hd hI
            have b77 : ac.tmps[77]?.getD undef = .slice (some ad) m cq := (hB.val 2 (hd ⟨2, .data⟩ (by simp) rfl) 77 rfl).trans (hI.v 2 (by decide) (hd ⟨2, .data⟩ (by simp) rfl))
            have b78 : ac.tmps[78]?.getD undef = .int .i64 (q : Int) := (hB.val 3 (hd ⟨3, .data⟩ (by simp) rfl) 78 rfl).trans (hI.v 3 (by decide) (hd ⟨3, .data⟩ (by simp) rfl))
            have hlk : L 7 = false := (hB.wait 6 7 (hB.wait 5 6 (hB.wait 4 5 hL (by kernel_rfl)) (by kernel_rfl)) (by kernel_rfl))
            have hl1 : L 8 = false := hB.wait 7 8 hlk (by kernel_rfl)
            have hl2 : L 9 = false := hB.wait 8 9 hl1 (by kernel_rfl)
            have hl4 : L 11 = false := hB.wait 9 11 hl2 (by kernel_rfl)
            have hx := hI.bel hl4
            have hbox := hI.box
            rw [hl4, if_neg Bool.false_ne_true] at hbox
            exact stepI_run (v := .pointer (some (ad.add q))) rfl (by simp [execOp, go_sem, Act.eval, b77, b78, hq0, hq1]) (hI.plain 4 (by decide) hlk hl4 (Below.refl _ _))
          · intro L vs ac w6 hB hL hd hI
            have b79 : ac.tmps[79]?.getD undef = .pointer (some (ad.add q)) := (hB.val 4 (hd ⟨4, .data⟩ (by simp) rfl) 79 rfl).trans (hI.v 4 (by decide) (hd ⟨4, .data⟩ (by simp) rfl))
            have hlk : L 7 = false := (hB.wait 6 7 (hB.wait 5 6 hL (by kernel_rfl)) (by kernel_rfl))
            have hl1 : L 8 = false := hB.wait 7 8 hlk (by kernel_rfl)
            have hl2 : L 9 = false := hB.wait 8 9 hl1 (by kernel_rfl)
            have hl4 : L 11 = false := hB.wait 9 11 hl2 (by kernel_rfl)
            have hx := hI.bel hl4
            have hbox := hI.box
            rw [hl4, if_neg Bool.false_ne_true] at hbox
            have qc := (hx.cell (World.block_lt_of_cell? _ _ HCQ.out)).trans HCQ.out
            exact stepI_run (v := .int .i64 x) rfl (by simp [execOp, go_sem, Act.eval, b79, qc]) (hI.plain 5 (by decide) hlk hl4 (Below.refl _ _))
          · intro L vs ac w6 hB hL hd hI
            have b76 : ac.tmps[76]?.getD undef = .int .i64 (q : Int) := (hB.val 1 (hd ⟨1, .data⟩ (by simp) rfl) 76 rfl).trans (hI.v 1 (by decide) (hd ⟨1, .data⟩ (by simp) rfl))
            have b80 : ac.tmps[80]?.getD undef = .int .i64 x := (hB.val 5 (hd ⟨5, .data⟩ (by simp) rfl) 80 rfl).trans (hI.v 5 (by decide) (hd ⟨5, .data⟩ (by simp) rfl))
            have hlk : L 7 = false := (hB.wait 6 7 hL (by kernel_rfl))
            have hl1 : L 8 = false := hB.wait 7 8 hlk (by kernel_rfl)
            have hl2 : L 9 = false := hB.wait 8 9 hl1 (by kernel_rfl)
            have hl4 : L 11 = false := hB.wait 9 11 hl2 (by kernel_rfl)
            have hx := hI.bel hl4
            have hbox := hI.box
            rw [hl4, if_neg Bool.false_ne_true] at hbox
            exact stepI_run (v := .agg #[.int .i64 (q : Int), .int .i64 (-1), .int .i64 x]) rfl (by simp [execOp, go_sem, Act.eval, b76, b80]) (hI.plain 6 (by decide) hlk hl4 (Below.refl _ _))
          · intro L vs ac w6 hB hL hd hI
            have b75 : ac.tmps[75]?.getD undef = .agg #[.int .i64 (m : Int), .slice A5 l.length c5] := (hB.val 0 (hd ⟨0, .data⟩ (by simp) rfl) 75 rfl).trans (hI.v 0 (by decide) (hd ⟨0, .data⟩ (by simp) rfl))
            have b81 : ac.tmps[81]?.getD undef = .agg #[.int .i64 (q : Int), .int .i64 (-1), .int .i64 x] := (hB.val 6 (hd ⟨6, .data⟩ (by simp) rfl) 81 rfl).trans (hI.v 6 (by decide) (hd ⟨6, .data⟩ (by simp) rfl))
            have hlk : L 7 = false := hL
            have hl1 : L 8 = false := hB.wait 7 8 hlk (by kernel_rfl)
            have hl2 : L 9 = false := hB.wait 8 9 hl1 (by kernel_rfl)
            have hl4 : L 11 = false := hB.wait 9 11 hl2 (by kernel_rfl)
            have hx := hI.bel hl4
            have hbox := hI.box
            rw [hl4, if_neg Bool.false_ne_true] at hbox
            refine stepI_call (f := 14) (args := #[.agg #[.int .i64 (m : Int), .slice A5 l.length c5], .agg #[.int .i64 (q : Int), .int .i64 (-1), .int .i64 x]]) rfl (by simp [go_sem, b75, b81]) ?_
            exact (HAD1.out w6 hx).mono fun e w9 h9 => hI.call hl1 hl2 hl4 h9
          · intro L vs ac w6 hB hL hd hI
            have hk : L 7 = true := hd ⟨7, .data⟩ (by simp) rfl
            have b : ac.tmps[82]?.getD undef = vs 7 := hB.val 7 hk 82 rfl
            exact stepI_run (v := vs 7) rfl (by simp [execOp, go_sem, Act.eval, b]) (hI.move hk)
          · intro L vs ac w6 hB hL hd hI
            have hm := hI.m (hd ⟨8, .data⟩ (by simp) rfl)
            obtain ⟨A9, c9, ek, -⟩ := hI.c hm.1
            have b : ac.tmps[74]?.getD undef = _ := (hB.val 8 (hd ⟨8, .data⟩ (by simp) rfl) 74 rfl).trans (hm.2.trans ek)
            exact stepI_run (v := fstV (vs 7)) rfl (by simp [execOp, go_sem, Act.eval, b, ek, fstV]) (hI.ext0 hm.1)
          · intro L vs ac w6 hB hL hd hI
            have hm := hI.m (hd ⟨8, .data⟩ (by simp) rfl)
            obtain ⟨A9, c9, ek, -⟩ := hI.c hm.1
            have b : ac.tmps[74]?.getD undef = _ := (hB.val 8 (hd ⟨8, .data⟩ (by simp) rfl) 74 rfl).trans (hm.2.trans ek)
            exact stepI_run (v := ((((m : Int), la), .int .i64 0) : (Int × List Int) × Value).2) rfl (by simp [execOp, go_sem, Act.eval, b]) hI.ext1
          · intro L vs ac w6 hB hL hd hI
            have h2 : L 9 = true := hd ⟨9, .data⟩ (by simp) rfl
            obtain ⟨hk, e2⟩ := hI.e0 h2
            obtain ⟨A9, c9, ek, -⟩ := hI.c hk
            have hx := hI.box
            rw [hL, if_neg Bool.false_ne_true] at hx
            have bp : ac.tmps[10]?.getD undef = .pointer (some ⟨nbx, 0, none⟩) := hB.at 10 (by kernel_rfl)
            have bq : ac.tmps[83]?.getD undef = .agg (cellsV (fstV (vs 7))) := (hB.val 9 h2 83 rfl).trans (e2.trans (by rw [ek]; rfl))
            exact stepI_store_row rfl 29 10 83 rfl (nbx) _ bp bq _ hx (by rw [ek]; kernel_rfl) (by rw [ek]; rfl) (by rw [ek]; simp [cellsV, fstV, Value.oneCell']) (hI.sto hk)
        · intro L vs w6 hall hI
          obtain ⟨A6, c6, hx6, ho6, hb6⟩ := hI.fin fun i hi => hall i hi
          clear hI hall
          simp only [putAll, Act.put, List.setIfInBounds_toArray, List.set_cons_zero, List.set_cons_succ, Nat.zero_add, Nat.reduceAdd]
          dsimp only at hx6 ho6
          have HBW6 := Lib.hid (HBW.out.trans (hb6.low (B := nbx) (by have := HBX.out.lt; omega) (Nat.le_refl _)))
          have HBX6 := Lib.hid hx6
          have HSL6 := Lib.hid (Own.sl ho6)
          have HCQ6 := Lib.hid ((HBW6.out.cell HBLT.out).trans HCQ0.out)
          clear hx6 ho6 hb6 HBX HSL HBW HAD1 HCQ
          have HAD2 := Lib.hid (show ∀ w6', Below w6.heap.size w6 w6' → Calls Try.prog 14 #[.agg #[.int .i64 (m : Int), .slice A6 la.length c6], .agg #[.int .i64 (-1), .int .i64 (q : Int), .int .i64 (-x)]] w6' (ZP w6' (((m : Int), lb), .int .i64 0)) from
            fun w6' h6 => by rw [← HE2.out]; exact add_any (m : Int) _ _ (-x) _ la w6' (HSL6.out.below h6) HLA.out)
          go_wp2_with fail
          refine region_invE (n := 117) (LxI (w6) 29 (nbx) #[.int .i64 (m : Int), .slice A6 la.length c6] (fun zz => match zz with | 0 => .agg #[.int .i64 (m : Int), .slice A6 la.length c6] | 1 => .int .i64 (q : Int) | 2 => .slice (some ad) m cq | 3 => .int .i64 (q : Int) | 4 => .pointer (some (ad.add q)) | 5 => .int .i64 x | 6 => .int .i64 (-x) | 7 => .agg #[.int .i64 (-1), .int .i64 (q : Int), .int .i64 (-x)] | _ => undef) 8 ((((m : Int), lb), .int .i64 0))) (by kernel_rfl) (by kernel_rfl) rfl ?_ (allOps_spec ?_) ?_
          · intro vs
            exact LxI.start HBX6.out
          · refine ⟨?_, ?_, ?_, ?_, ?_, ?_, ?_, ?_, ?_, ?_, ?_, ?_, ?_, trivial⟩
            · intro L vs ac wz hB hL hd hI
              have b10 : ac.tmps[10]?.getD undef = .pointer (some ⟨nbx, 0, none⟩) := hB.at 10 (by kernel_rfl)
              have hlk : L 8 = false := (hB.wait 0 8 hL (by kernel_rfl))
              have hl1 : L 9 = false := hB.wait 8 9 hlk (by kernel_rfl)
              have hl2 : L 10 = false := hB.wait 9 10 hl1 (by kernel_rfl)
              have hl4 : L 12 = false := hB.wait 10 12 hl2 (by kernel_rfl)
              have hx := hI.bel hl4
              have hbox := hI.box
              rw [hl4, if_neg Bool.false_ne_true] at hbox
              have q0 := hbox.cell 0
              have q1 := hbox.cell 1
              exact stepI_run (v := .agg #[.int .i64 (m : Int), .slice A6 la.length c6]) rfl (by simp [execOp, go_sem, Act.eval, b10, q0, q1]) (hI.plain 0 (by decide) hlk hl4 (Below.refl _ _))
            · intro L vs ac wz hB hL hd hI
              have b11 : ac.tmps[11]?.getD undef = .int .i64 (q : Int) := hB.at 11 (by kernel_rfl)
              have hlk : L 8 = false := (hB.wait 7 8 (hB.wait 1 7 hL (by kernel_rfl)) (by kernel_rfl))
              have hl1 : L 9 = false := hB.wait 8 9 hlk (by kernel_rfl)
              have hl2 : L 10 = false := hB.wait 9 10 hl1 (by kernel_rfl)
              have hl4 : L 12 = false := hB.wait 10 12 hl2 (by kernel_rfl)
              have hx := hI.bel hl4
              have hbox := hI.box
              rw [hl4, if_neg Bool.false_ne_true] at hbox
              exact stepI_run (v := .int .i64 (q : Int)) rfl (by simp [execOp, go_sem, Act.eval, b11]) (hI.plain 1 (by decide) hlk hl4 (Below.refl _ _))
            · intro L vs ac wz hB hL hd hI
              have b5 : ac.tmps[5]?.getD undef = .slice (some ad) m cq := hB.at 5 (by kernel_rfl)
              have hlk : L 8 = false := (hB.wait 7 8 (hB.wait 6 7 (hB.wait 5 6 (hB.wait 4 5 (hB.wait 2 4 hL (by kernel_rfl)) (by kernel_rfl)) (by kernel_rfl)) (by kernel_rfl)) (by kernel_rfl))
              have hl1 : L 9 = false := hB.wait 8 9 hlk (by kernel_rfl)
              have hl2 : L 10 = false := hB.wait 9 10 hl1 (by kernel_rfl)
              have hl4 : L 12 = false := hB.wait 10 12 hl2 (by kernel_rfl)
              have hx := hI.bel hl4
              have hbox := hI.box
              rw [hl4, if_neg Bool.false_ne_true] at hbox
              exact stepI_run (v := .slice (some ad) m cq) rfl (by simp [execOp, go_sem, Act.eval, b5]) (hI.plain 2 (by decide) hlk hl4 (Below.refl _ _))
            · intro L vs ac wz hB hL hd hI
              have b11 : ac.tmps[11]?.getD undef = .int .i64 (q : Int) := hB.at 11 (by kernel_rfl)
              have hlk : L 8 = false := (hB.wait 7 8 (hB.wait 6 7 (hB.wait 5 6 (hB.wait 4 5 (hB.wait 3 4 hL (by kernel_rfl)) (by kernel_rfl)) (by kernel_rfl)) (by kernel_rfl)) (by kernel_rfl))
              have hl1 : L 9 = false := hB.wait 8 9 hlk (by kernel_rfl)
              have hl2 : L 10 = false := hB.wait 9 10 hl1 (by kernel_rfl)
              have hl4 : L 12 = false := hB.wait 10 12 hl2 (by kernel_rfl)
              have hx := hI.bel hl4
              have hbox := hI.box
              rw [hl4, if_neg Bool.false_ne_true] at hbox
              exact stepI_run (v := .int .i64 (q : Int)) rfl (by simp [execOp, go_sem, Act.eval, b11]) (hI.plain 3 (by decide) hlk hl4 (Below.refl _ _))
            · intro L vs ac wz hB hL hd hI
              have b88 : ac.tmps[88]?.getD undef = .slice (some ad) m cq := (hB.val 2 (hd ⟨2, .data⟩ (by simp) rfl) 88 rfl).trans (hI.v 2 (by decide) (hd ⟨2, .data⟩ (by simp) rfl))
              have b89 : ac.tmps[89]?.getD undef = .int .i64 (q : Int) := (hB.val 3 (hd ⟨3, .data⟩ (by simp) rfl) 89 rfl).trans (hI.v 3 (by decide) (hd ⟨3, .data⟩ (by simp) rfl))
              have hlk : L 8 = false := (hB.wait 7 8 (hB.wait 6 7 (hB.wait 5 6 (hB.wait 4 5 hL (by kernel_rfl)) (by kernel_rfl)) (by kernel_rfl)) (by kernel_rfl))
              have hl1 : L 9 = false := hB.wait 8 9 hlk (by kernel_rfl)
              have hl2 : L 10 = false := hB.wait 9 10 hl1 (by kernel_rfl)
              have hl4 : L 12 = false := hB.wait 10 12 hl2 (by kernel_rfl)
              have hx := hI.bel hl4
              have hbox := hI.box
              rw [hl4, if_neg Bool.false_ne_true] at hbox
              exact stepI_run (v := .pointer (some (ad.add q))) rfl (by simp [execOp, go_sem, Act.eval, b88, b89, hq0, hq1]) (hI.plain 4 (by decide) hlk hl4 (Below.refl _ _))
            · intro L vs ac wz hB hL hd hI
              have b90 : ac.tmps[90]?.getD undef = .pointer (some (ad.add q)) := (hB.val 4 (hd ⟨4, .data⟩ (by simp) rfl) 90 rfl).trans (hI.v 4 (by decide) (hd ⟨4, .data⟩ (by simp) rfl))
              have hlk : L 8 = false := (hB.wait 7 8 (hB.wait 6 7 (hB.wait 5 6 hL (by kernel_rfl)) (by kernel_rfl)) (by kernel_rfl))
              have hl1 : L 9 = false := hB.wait 8 9 hlk (by kernel_rfl)
              have hl2 : L 10 = false := hB.wait 9 10 hl1 (by kernel_rfl)
              have hl4 : L 12 = false := hB.wait 10 12 hl2 (by kernel_rfl)
              have hx := hI.bel hl4
              have hbox := hI.box
              rw [hl4, if_neg Bool.false_ne_true] at hbox
              have qc := (hx.cell (World.block_lt_of_cell? _ _ HCQ6.out)).trans HCQ6.out
              exact stepI_run (v := .int .i64 x) rfl (by simp [execOp, go_sem, Act.eval, b90, qc]) (hI.plain 5 (by decide) hlk hl4 (Below.refl _ _))
            · intro L vs ac wz hB hL hd hI
              have b91 : ac.tmps[91]?.getD undef = .int .i64 x := (hB.val 5 (hd ⟨5, .data⟩ (by simp) rfl) 91 rfl).trans (hI.v 5 (by decide) (hd ⟨5, .data⟩ (by simp) rfl))
              have hlk : L 8 = false := (hB.wait 7 8 (hB.wait 6 7 hL (by kernel_rfl)) (by kernel_rfl))
              have hl1 : L 9 = false := hB.wait 8 9 hlk (by kernel_rfl)
              have hl2 : L 10 = false := hB.wait 9 10 hl1 (by kernel_rfl)
              have hl4 : L 12 = false := hB.wait 10 12 hl2 (by kernel_rfl)
              have hx := hI.bel hl4
              have hbox := hI.box
              rw [hl4, if_neg Bool.false_ne_true] at hbox
              exact stepI_run (v := .int .i64 (-x)) rfl (by simp [execOp, go_sem, Act.eval, b91, HWN.out]) (hI.plain 6 (by decide) hlk hl4 (Below.refl _ _))
            · intro L vs ac wz hB hL hd hI
              have b87 : ac.tmps[87]?.getD undef = .int .i64 (q : Int) := (hB.val 1 (hd ⟨1, .data⟩ (by simp) rfl) 87 rfl).trans (hI.v 1 (by decide) (hd ⟨1, .data⟩ (by simp) rfl))
              have b92 : ac.tmps[92]?.getD undef = .int .i64 (-x) := (hB.val 6 (hd ⟨6, .data⟩ (by simp) rfl) 92 rfl).trans (hI.v 6 (by decide) (hd ⟨6, .data⟩ (by simp) rfl))
              have hlk : L 8 = false := (hB.wait 7 8 hL (by kernel_rfl))
              have hl1 : L 9 = false := hB.wait 8 9 hlk (by kernel_rfl)
              have hl2 : L 10 = false := hB.wait 9 10 hl1 (by kernel_rfl)
              have hl4 : L 12 = false := hB.wait 10 12 hl2 (by kernel_rfl)
              have hx := hI.bel hl4
              have hbox := hI.box
              rw [hl4, if_neg Bool.false_ne_true] at hbox
              exact stepI_run (v := .agg #[.int .i64 (-1), .int .i64 (q : Int), .int .i64 (-x)]) rfl (by simp [execOp, go_sem, Act.eval, b87, b92]) (hI.plain 7 (by decide) hlk hl4 (Below.refl _ _))
            · intro L vs ac wz hB hL hd hI
              have b86 : ac.tmps[86]?.getD undef = .agg #[.int .i64 (m : Int), .slice A6 la.length c6] := (hB.val 0 (hd ⟨0, .data⟩ (by simp) rfl) 86 rfl).trans (hI.v 0 (by decide) (hd ⟨0, .data⟩ (by simp) rfl))
              have b93 : ac.tmps[93]?.getD undef = .agg #[.int .i64 (-1), .int .i64 (q : Int), .int .i64 (-x)] := (hB.val 7 (hd ⟨7, .data⟩ (by simp) rfl) 93 rfl).trans (hI.v 7 (by decide) (hd ⟨7, .data⟩ (by simp) rfl))
              have hlk : L 8 = false := hL
              have hl1 : L 9 = false := hB.wait 8 9 hlk (by kernel_rfl)
              have hl2 : L 10 = false := hB.wait 9 10 hl1 (by kernel_rfl)
              have hl4 : L 12 = false := hB.wait 10 12 hl2 (by kernel_rfl)
              have hx := hI.bel hl4
              have hbox := hI.box
              rw [hl4, if_neg Bool.false_ne_true] at hbox
              refine stepI_call (f := 14) (args := #[.agg #[.int .i64 (m : Int), .slice A6 la.length c6], .agg #[.int .i64 (-1), .int .i64 (q : Int), .int .i64 (-x)]]) rfl (by simp [go_sem, b86, b93]) ?_
              exact (HAD2.out wz hx).mono fun e w9 h9 => hI.call hl1 hl2 hl4 h9
            · intro L vs ac wz hB hL hd hI
              have hk : L 8 = true := hd ⟨8, .data⟩ (by simp) rfl
              have b : ac.tmps[94]?.getD undef = vs 8 := hB.val 8 hk 94 rfl
              exact stepI_run (v := vs 8) rfl (by simp [execOp, go_sem, Act.eval, b]) (hI.move hk)
            · intro L vs ac wz hB hL hd hI
              have hm := hI.m (hd ⟨9, .data⟩ (by simp) rfl)
              obtain ⟨A9, c9, ek, -⟩ := hI.c hm.1
              have b : ac.tmps[85]?.getD undef = _ := (hB.val 9 (hd ⟨9, .data⟩ (by simp) rfl) 85 rfl).trans (hm.2.trans ek)
              exact stepI_run (v := fstV (vs 8)) rfl (by simp [execOp, go_sem, Act.eval, b, ek, fstV]) (hI.ext0 hm.1)
            · intro L vs ac wz hB hL hd hI
              have hm := hI.m (hd ⟨9, .data⟩ (by simp) rfl)
              obtain ⟨A9, c9, ek, -⟩ := hI.c hm.1
              have b : ac.tmps[85]?.getD undef = _ := (hB.val 9 (hd ⟨9, .data⟩ (by simp) rfl) 85 rfl).trans (hm.2.trans ek)
              exact stepI_run (v := ((((m : Int), lb), .int .i64 0) : (Int × List Int) × Value).2) rfl (by simp [execOp, go_sem, Act.eval, b]) hI.ext1
            · intro L vs ac wz hB hL hd hI
              have h2 : L 10 = true := hd ⟨10, .data⟩ (by simp) rfl
              obtain ⟨hk, e2⟩ := hI.e0 h2
              obtain ⟨A9, c9, ek, -⟩ := hI.c hk
              have hx := hI.box
              rw [hL, if_neg Bool.false_ne_true] at hx
              have bp : ac.tmps[10]?.getD undef = .pointer (some ⟨nbx, 0, none⟩) := hB.at 10 (by kernel_rfl)
              have bq : ac.tmps[95]?.getD undef = .agg (cellsV (fstV (vs 8))) := (hB.val 10 h2 95 rfl).trans (e2.trans (by rw [ek]; rfl))
              exact stepI_store_row rfl 29 10 95 rfl (nbx) _ bp bq _ hx (by rw [ek]; kernel_rfl) (by rw [ek]; rfl) (by rw [ek]; simp [cellsV, fstV, Value.oneCell']) (hI.sto hk)
          · intro L vs w7 hall hI
            obtain ⟨A7, c7, hx7, ho7, hb7⟩ := hI.fin fun i hi => hall i hi
            clear hI hall
            simp only [putAll, Act.put, List.setIfInBounds_toArray, List.set_cons_zero, List.set_cons_succ, Nat.zero_add, Nat.reduceAdd]
            dsimp only at hx7 ho7
            have HBW7 := Lib.hid (HBW6.out.trans (hb7.low (B := nbx) (by have := HBX6.out.lt; omega) (Nat.le_refl _)))
            have HBX7 := Lib.hid hx7
            have HSL7 := Lib.hid (Own.sl ho7)
            clear hx7 ho7 hb7 HBX6 HSL6 HBW6 HAD2 HCQ6
            go_wp2_with fail
            go_roundw
            case rel => exact ⟨q + 1, lb, A7, c7, by omega, by go_num, HST, HBX7, HSL7, HBW7⟩
            case measure => simp [intOf]; omega
      · obtain rfl : q = k := by omega
        obtain ⟨ad', cm', hs, -, hcell⟩ := sl_cell HM12.out q (by rw [HLM.out]; exact hkm)
        simp only [Value.slice.injEq, Option.some.injEq] at hs
        obtain ⟨rfl, -, rfl⟩ := hs
        rw [HG.out q (by rw [HLM.out]; exact hkm)] at hcell
        obtain ⟨hx1, hx2⟩ := HBD.out q hkm
        have hnone := HMI.out.fin HZ.out HCL.out hkm
        obtain ⟨x, hx⟩ : ∃ x, x = mdV (gt (m + 1) cl) (q + 1) := ⟨_, rfl⟩
        rw [← hx] at hcell hx1 hx2 hnone
        unfold iv at hcell
        have hblt : (ad.add q).block < nbx := by rw [HNX.out]; exact World.block_lt_of_cell? _ _ hcell
        have HCQ := Lib.hid ((HBW.out.cell hblt).trans hcell)
        obtain ⟨la, hla⟩ : ∃ la, la = addL (m + 1) l (q + 1) 0 (x - 1) := ⟨_, rfl⟩
        have hzla : Zv (m + 1) la := by rw [hla]; exact add_zv HMI.out.1 (by omega) (by omega)
        have HE1 := Lib.hid (show addZ (m : Int) l (q : Int) (-1) (x - 1) = (((m : Int), la), .int .i64 0) from by rw [hla]; exact addZ_lo (zv_val HMI.out.1) hkm)
        rw [← hla] at hnone
        have HMN := Lib.hid (modR_none hzla hnone)
        have HLL := Lib.hid (hll.out l HMI.out.1)
        have HLA := Lib.hid (hll.out la hzla)
        have hq0 : (0 : Int) ≤ (q : Int) := by omega
        have hq1 : (q : Int) < (m : Int) := by omega
        have HWN := Lib.hid (show IntKind.i64.wrap (x - 1) = x - 1 from by rw [IntKind.wrap_i64]; omega)
        have HAD1 := Lib.hid (show ∀ w6, Below wr.heap.size wr w6 → Calls Try.prog 14 #[.agg #[.int .i64 (m : Int), .slice A5 l.length c5], .agg #[.int .i64 (q : Int), .int .i64 (-1), .int .i64 (x - 1)]] w6 (ZP w6 (((m : Int), la), .int .i64 0)) from
          fun w6 h6 => by rw [← HE1.out]; exact add_any (m : Int) _ _ (x - 1) _ l w6 (HSL.out.below h6) HLL.out)
        clear hx hla hzla hcell hx1 hx2 hnone HMI
        go_wp2_with fail
        refine region_invE (n := 117) (LxI (wr) 29 (nbx) #[.int .i64 (m : Int), .slice A5 l.length c5] (fun zz => match zz with | 0 => .agg #[.int .i64 (m : Int), .slice A5 l.length c5] | 1 => .int .i64 (q : Int) | 2 => .slice (some ad) m cq | 3 => .int .i64 (q : Int) | 4 => .pointer (some (ad.add q)) | 5 => .int .i64 x | 6 => .int .i64 (x - 1) | 7 => .agg #[.int .i64 (q : Int), .int .i64 (-1), .int .i64 (x - 1)] | _ => undef) 8 ((((m : Int), la), .int .i64 0))) (by kernel_rfl) (by kernel_rfl) rfl ?_ (allOps_spec ?_) ?_
        · intro vs
          exact LxI.start HBX.out
        · refine ⟨?_, ?_, ?_, ?_, ?_, ?_, ?_, ?_, ?_, ?_, ?_, ?_, ?_, trivial⟩
          · intro L vs ac w6 hB hL hd hI
            have b10 : ac.tmps[10]?.getD undef = .pointer (some ⟨nbx, 0, none⟩) := hB.at 10 (by kernel_rfl)
            have hlk : L 8 = false := (hB.wait 0 8 hL (by kernel_rfl))
            have hl1 : L 9 = false := hB.wait 8 9 hlk (by kernel_rfl)
            have hl2 : L 10 = false := hB.wait 9 10 hl1 (by kernel_rfl)
            have hl4 : L 12 = false := hB.wait 10 12 hl2 (by kernel_rfl)
            have hx := hI.bel hl4
            have hbox := hI.box
            rw [hl4, if_neg Bool.false_ne_true] at hbox
            have q0 := hbox.cell 0
            have q1 := hbox.cell 1
            exact stepI_run (v := .agg #[.int .i64 (m : Int), .slice A5 l.length c5]) rfl (by simp [execOp, go_sem, Act.eval, b10, q0, q1]) (hI.plain 0 (by decide) hlk hl4 (Below.refl _ _))
          · intro L vs ac w6 hB hL hd hI
            have b9 : ac.tmps[9]?.getD undef = .int .i64 (q : Int) := hB.at 9 (by kernel_rfl)
            have hlk : L 8 = false := (hB.wait 7 8 (hB.wait 1 7 hL (by kernel_rfl)) (by kernel_rfl))
            have hl1 : L 9 = false := hB.wait 8 9 hlk (by kernel_rfl)
            have hl2 : L 10 = false := hB.wait 9 10 hl1 (by kernel_rfl)
            have hl4 : L 12 = false := hB.wait 10 12 hl2 (by kernel_rfl)
            have hx := hI.bel hl4
            have hbox := hI.box
            rw [hl4, if_neg Bool.false_ne_true] at hbox
            exact stepI_run (v := .int .i64 (q : Int)) rfl (by simp [execOp, go_sem, Act.eval, b9]) (hI.plain 1 (by decide) hlk hl4 (Below.refl _ _))
          · intro L vs ac w6 hB hL hd hI
            have b5 : ac.tmps[5]?.getD undef = .slice (some ad) m cq := hB.at 5 (by kernel_rfl)
            have hlk : L 8 = false := (hB.wait 7 8 (hB.wait 6 7 (hB.wait 5 6 (hB.wait 4 5 (hB.wait 2 4 hL (by kernel_rfl)) (by kernel_rfl)) (by kernel_rfl)) (by kernel_rfl)) (by kernel_rfl))
            have hl1 : L 9 = false := hB.wait 8 9 hlk (by kernel_rfl)
            have hl2 : L 10 = false := hB.wait 9 10 hl1 (by kernel_rfl)
            have hl4 : L 12 = false := hB.wait 10 12 hl2 (by kernel_rfl)
            have hx := hI.bel hl4
            have hbox := hI.box
            rw [hl4, if_neg Bool.false_ne_true] at hbox
            exact stepI_run (v := .slice (some ad) m cq) rfl (by simp [execOp, go_sem, Act.eval, b5]) (hI.plain 2 (by decide) hlk hl4 (Below.refl _ _))
          · intro L vs ac w6 hB hL hd hI
            have b9 : ac.tmps[9]?.getD undef = .int .i64 (q : Int) := hB.at 9 (by kernel_rfl)
            have hlk : L 8 = false := (hB.wait 7 8 (hB.wait 6 7 (hB.wait 5 6 (hB.wait 4 5 (hB.wait 3 4 hL (by kernel_rfl)) (by kernel_rfl)) (by kernel_rfl)) (by kernel_rfl)) (by kernel_rfl))
            have hl1 : L 9 = false := hB.wait 8 9 hlk (by kernel_rfl)
            have hl2 : L 10 = false := hB.wait 9 10 hl1 (by kernel_rfl)
            have hl4 : L 12 = false := hB.wait 10 12 hl2 (by kernel_rfl)
            have hx := hI.bel hl4
            have hbox := hI.box
            rw [hl4, if_neg Bool.false_ne_true] at hbox
            exact stepI_run (v := .int .i64 (q : Int)) rfl (by simp [execOp, go_sem, Act.eval, b9]) (hI.plain 3 (by decide) hlk hl4 (Below.refl _ _))
          · intro L vs ac w6 hB hL hd hI
            have b101 : ac.tmps[101]?.getD undef = .slice (some ad) m cq := (hB.val 2 (hd ⟨2, .data⟩ (by simp) rfl) 101 rfl).trans (hI.v 2 (by decide) (hd ⟨2, .data⟩ (by simp) rfl))
            have b102 : ac.tmps[102]?.getD undef = .int .i64 (q : Int) := (hB.val 3 (hd ⟨3, .data⟩ (by simp) rfl) 102 rfl).trans (hI.v 3 (by decide) (hd ⟨3, .data⟩ (by simp) rfl))
            have hlk : L 8 = false := (hB.wait 7 8 (hB.wait 6 7 (hB.wait 5 6 (hB.wait 4 5 hL (by kernel_rfl)) (by kernel_rfl)) (by kernel_rfl)) (by kernel_rfl))
            have hl1 : L 9 = false := hB.wait 8 9 hlk (by kernel_rfl)
            have hl2 : L 10 = false := hB.wait 9 10 hl1 (by kernel_rfl)
            have hl4 : L 12 = false := hB.wait 10 12 hl2 (by kernel_rfl)
            have hx := hI.bel hl4
            have hbox := hI.box
            rw [hl4, if_neg Bool.false_ne_true] at hbox
            exact stepI_run (v := .pointer (some (ad.add q))) rfl (by simp [execOp, go_sem, Act.eval, b101, b102, hq0, hq1]) (hI.plain 4 (by decide) hlk hl4 (Below.refl _ _))
          · intro L vs ac w6 hB hL hd hI
            have b103 : ac.tmps[103]?.getD undef = .pointer (some (ad.add q)) := (hB.val 4 (hd ⟨4, .data⟩ (by simp) rfl) 103 rfl).trans (hI.v 4 (by decide) (hd ⟨4, .data⟩ (by simp) rfl))
            have hlk : L 8 = false := (hB.wait 7 8 (hB.wait 6 7 (hB.wait 5 6 hL (by kernel_rfl)) (by kernel_rfl)) (by kernel_rfl))
            have hl1 : L 9 = false := hB.wait 8 9 hlk (by kernel_rfl)
            have hl2 : L 10 = false := hB.wait 9 10 hl1 (by kernel_rfl)
            have hl4 : L 12 = false := hB.wait 10 12 hl2 (by kernel_rfl)
            have hx := hI.bel hl4
            have hbox := hI.box
            rw [hl4, if_neg Bool.false_ne_true] at hbox
            have qc := (hx.cell (World.block_lt_of_cell? _ _ HCQ.out)).trans HCQ.out
            exact stepI_run (v := .int .i64 x) rfl (by simp [execOp, go_sem, Act.eval, b103, qc]) (hI.plain 5 (by decide) hlk hl4 (Below.refl _ _))
          · intro L vs ac w6 hB hL hd hI
            have b104 : ac.tmps[104]?.getD undef = .int .i64 x := (hB.val 5 (hd ⟨5, .data⟩ (by simp) rfl) 104 rfl).trans (hI.v 5 (by decide) (hd ⟨5, .data⟩ (by simp) rfl))
            have hlk : L 8 = false := (hB.wait 7 8 (hB.wait 6 7 hL (by kernel_rfl)) (by kernel_rfl))
            have hl1 : L 9 = false := hB.wait 8 9 hlk (by kernel_rfl)
            have hl2 : L 10 = false := hB.wait 9 10 hl1 (by kernel_rfl)
            have hl4 : L 12 = false := hB.wait 10 12 hl2 (by kernel_rfl)
            have hx := hI.bel hl4
            have hbox := hI.box
            rw [hl4, if_neg Bool.false_ne_true] at hbox
            exact stepI_run (v := .int .i64 (x - 1)) rfl (by simp [execOp, go_sem, Act.eval, b104, HWN.out]) (hI.plain 6 (by decide) hlk hl4 (Below.refl _ _))
          · intro L vs ac w6 hB hL hd hI
            have b100 : ac.tmps[100]?.getD undef = .int .i64 (q : Int) := (hB.val 1 (hd ⟨1, .data⟩ (by simp) rfl) 100 rfl).trans (hI.v 1 (by decide) (hd ⟨1, .data⟩ (by simp) rfl))
            have b105 : ac.tmps[105]?.getD undef = .int .i64 (x - 1) := (hB.val 6 (hd ⟨6, .data⟩ (by simp) rfl) 105 rfl).trans (hI.v 6 (by decide) (hd ⟨6, .data⟩ (by simp) rfl))
            have hlk : L 8 = false := (hB.wait 7 8 hL (by kernel_rfl))
            have hl1 : L 9 = false := hB.wait 8 9 hlk (by kernel_rfl)
            have hl2 : L 10 = false := hB.wait 9 10 hl1 (by kernel_rfl)
            have hl4 : L 12 = false := hB.wait 10 12 hl2 (by kernel_rfl)
            have hx := hI.bel hl4
            have hbox := hI.box
            rw [hl4, if_neg Bool.false_ne_true] at hbox
            exact stepI_run (v := .agg #[.int .i64 (q : Int), .int .i64 (-1), .int .i64 (x - 1)]) rfl (by simp [execOp, go_sem, Act.eval, b100, b105]) (hI.plain 7 (by decide) hlk hl4 (Below.refl _ _))
          · intro L vs ac w6 hB hL hd hI
            have b99 : ac.tmps[99]?.getD undef = .agg #[.int .i64 (m : Int), .slice A5 l.length c5] := (hB.val 0 (hd ⟨0, .data⟩ (by simp) rfl) 99 rfl).trans (hI.v 0 (by decide) (hd ⟨0, .data⟩ (by simp) rfl))
            have b106 : ac.tmps[106]?.getD undef = .agg #[.int .i64 (q : Int), .int .i64 (-1), .int .i64 (x - 1)] := (hB.val 7 (hd ⟨7, .data⟩ (by simp) rfl) 106 rfl).trans (hI.v 7 (by decide) (hd ⟨7, .data⟩ (by simp) rfl))
            have hlk : L 8 = false := hL
            have hl1 : L 9 = false := hB.wait 8 9 hlk (by kernel_rfl)
            have hl2 : L 10 = false := hB.wait 9 10 hl1 (by kernel_rfl)
            have hl4 : L 12 = false := hB.wait 10 12 hl2 (by kernel_rfl)
            have hx := hI.bel hl4
            have hbox := hI.box
            rw [hl4, if_neg Bool.false_ne_true] at hbox
            refine stepI_call (f := 14) (args := #[.agg #[.int .i64 (m : Int), .slice A5 l.length c5], .agg #[.int .i64 (q : Int), .int .i64 (-1), .int .i64 (x - 1)]]) rfl (by simp [go_sem, b99, b106]) ?_
            exact (HAD1.out w6 hx).mono fun e w9 h9 => hI.call hl1 hl2 hl4 h9
          · intro L vs ac w6 hB hL hd hI
            have hk : L 8 = true := hd ⟨8, .data⟩ (by simp) rfl
            have b : ac.tmps[107]?.getD undef = vs 8 := hB.val 8 hk 107 rfl
            exact stepI_run (v := vs 8) rfl (by simp [execOp, go_sem, Act.eval, b]) (hI.move hk)
          · intro L vs ac w6 hB hL hd hI
            have hm := hI.m (hd ⟨9, .data⟩ (by simp) rfl)
            obtain ⟨A9, c9, ek, -⟩ := hI.c hm.1
            have b : ac.tmps[98]?.getD undef = _ := (hB.val 9 (hd ⟨9, .data⟩ (by simp) rfl) 98 rfl).trans (hm.2.trans ek)
            exact stepI_run (v := fstV (vs 8)) rfl (by simp [execOp, go_sem, Act.eval, b, ek, fstV]) (hI.ext0 hm.1)
          · intro L vs ac w6 hB hL hd hI
            have hm := hI.m (hd ⟨9, .data⟩ (by simp) rfl)
            obtain ⟨A9, c9, ek, -⟩ := hI.c hm.1
            have b : ac.tmps[98]?.getD undef = _ := (hB.val 9 (hd ⟨9, .data⟩ (by simp) rfl) 98 rfl).trans (hm.2.trans ek)
            exact stepI_run (v := ((((m : Int), la), .int .i64 0) : (Int × List Int) × Value).2) rfl (by simp [execOp, go_sem, Act.eval, b]) hI.ext1
          · intro L vs ac w6 hB hL hd hI
            have h2 : L 10 = true := hd ⟨10, .data⟩ (by simp) rfl
            obtain ⟨hk, e2⟩ := hI.e0 h2
            obtain ⟨A9, c9, ek, -⟩ := hI.c hk
            have hx := hI.box
            rw [hL, if_neg Bool.false_ne_true] at hx
            have bp : ac.tmps[10]?.getD undef = .pointer (some ⟨nbx, 0, none⟩) := hB.at 10 (by kernel_rfl)
            have bq : ac.tmps[108]?.getD undef = .agg (cellsV (fstV (vs 8))) := (hB.val 10 h2 108 rfl).trans (e2.trans (by rw [ek]; rfl))
            exact stepI_store_row rfl 29 10 108 rfl (nbx) _ bp bq _ hx (by rw [ek]; kernel_rfl) (by rw [ek]; rfl) (by rw [ek]; simp [cellsV, fstV, Value.oneCell']) (hI.sto hk)
        · intro L vs w6 hall hI
          obtain ⟨A6, c6, hx6, ho6, hb6⟩ := hI.fin fun i hi => hall i hi
          clear hI hall
          simp only [putAll, Act.put, List.setIfInBounds_toArray, List.set_cons_zero, List.set_cons_succ, Nat.zero_add, Nat.reduceAdd]
          dsimp only at hx6 ho6
          have HBB6 := Lib.hid ((show Below w.heap.size w wr from HB12.out.trans (HBW.out.mono HW12.out)).trans (hb6.low (B := w.heap.size) (by have := HBX.out.lt; have := HW12.out; omega) HW12.out))
          have HSL6 := Lib.hid (Own.sl ho6)
          obtain ⟨n0, n1⟩ := hx6.k2
          clear hx6 ho6 hb6 HBX HSL HBW HAD1 HCQ
          go_wp2_with fail
          refine (model_any (m : Int) _ la _ HSL6.out HLA.out).mono ?_; rintro e w8' ⟨v8, rfl, hs8, hb8⟩
          rw [HMN.out] at hs8 ⊢
          have HB9' := Lib.hid (HBB6.out.trans (hb8.mono HBB6.out.size))
          clear hb8 n0 n1
          go_wp2_with fail
          go_ret
          exact Tells.of HB9'.out
end Go.Proofs.Ytepeeeiekeppjaa
