/- GraphClosure: for every input the law returns true. -/
import Derived.Test.YtnhhhnhakpambaaGraphNds
namespace Go.Proofs.Ytnhhhnhakpambaa
open Go.RowKit

set_option maxRecDepth 100000 in
set_option maxHeartbeats 4000000 in
theorem graphclosure_walk (A : Option Addr) (c : Nat) (g : List (List Int)) (A1 : Option Addr) (c1 : Nat) (f : List Nat) (A2 : Option Addr) (c2 : Nat) (m : List Nat) (w : World) (h : Gr iv w (.slice A g.length c) g) (hl : g.length ≤ 17592186044000) (hfs : Bsl w (.slice A1 f.length c1) f) (hfb : Byt f) (hfl : f.length ≤ 140737488351232) (hms : Bsl w (.slice A2 m.length c2) m) (hmb : Byt m) (hml : m.length ≤ 140737488351232) :
    Calls Try.prog 6 #[.slice A g.length c, .slice A1 f.length c1, .slice A2 m.length c2] w (Ok w) := by
  have H := Lib.hid h
  have HB := Lib.hid (Below.refl w.heap.size w)
  clear h
  have Hf := Lib.hid hfs; have Hfb := Lib.hid hfb; have Hm := Lib.hid hms; have Hmb := Lib.hid hmb
  clear hfs hfb hms hmb
  cases hfew : fewb g with
  | false =>
    have Hfew := Lib.hid hfew
    clear hfew
    go_enter Try.func6, Try.ntmps6
    go_wp2_with fail
    refine (awake_any _).mono ?_
    rintro e w1 ⟨rfl, hb⟩
    replace HB := Lib.hid (HB.out.trans (hb.mono HB.out.size))
    replace H := Lib.hid (H.out.below hb)
    clear hb
    go_wp2_with fail
    refine (few_any _ _ _ H.out hl).mono ?_
    rintro e w2 ⟨rfl, rfl⟩
    rw [Hfew.out]
    go_wp2
    go_ret
    exact ⟨rfl, HB.out⟩
  | true =>
    have Hfew := Lib.hid hfew
    have hL := few_lim hfew
    have hn60 := few_len hfew
    have HL := Lib.hid hL
    clear hfew hL
    by_cases hv : VldI g
    · obtain ⟨gn, rfl, hvg⟩ := hv.vg
      have Hvb := Lib.hid (vb_true hv)
      have Hg := Lib.hid hvg
      clear hv hvg
      rw [cst_len] at hl hn60 ⊢
      have Hn : Hid (Gr nv w (.slice A gn.length c) gn) := by have := H.out; rw [cst_len] at this; exact this.uncst
      clear H
      obtain ⟨i0, hi, hz0, hz1, hz2⟩ := info_parts info_int
      go_enter Try.func6, Try.ntmps6
      go_wp2_with fail
      refine (awake_any _).mono ?_
      rintro e w1 ⟨rfl, hb⟩
      replace HB := Lib.hid (HB.out.trans (hb.mono HB.out.size))
      replace Hn := Lib.hid (Hn.out.below hb)
      clear hb
      go_wp2_with fail
      refine (few_any _ _ _ Hn.out.cst (by rw [cst_len]; exact hl)).mono ?_
      rintro e w2 ⟨rfl, rfl⟩
      rw [Hfew.out]
      go_wp2_with fail
      refine (rvalid_any _ _ _ Hn.out.cst HL.out).mono ?_
      rintro e w2 ⟨rfl, hb⟩
      rw [Hvb.out]
      replace HB := Lib.hid (HB.out.trans (hb.mono HB.out.size))
      replace Hn := Lib.hid (Hn.out.below hb)
      clear hb
      replace Hf := Lib.hid (Hf.out.below HB.out)
      replace Hm := Lib.hid (Hm.out.below HB.out)
      by_cases hf : f.length ≤ 10
      · by_cases hm : m.length ≤ 10
        · go_wp2_with fail
          refine (nds_any _ _ _ _ _ Hn.out hn60 Hf.out Hfb.out hf).mono ?_
          rintro e w3 ⟨vl, rfl, hsl, hb⟩
          have hSn := ndsM_lt gn.length f
          have hSl := ndsM_len gn.length f
          have hTn := ndsM_lt gn.length m
          have hTl := ndsM_len gn.length m
          generalize ndsM gn.length f = S at *
          have HSn := Lib.hid hSn
          replace HB := Lib.hid (HB.out.trans (hb.mono HB.out.size))
          replace Hn := Lib.hid (Hn.out.below hb)
          replace Hm := Lib.hid (Hm.out.below hb)
          obtain ⟨Al, cl, rfl⟩ := hsl.shape
          have Hl := Lib.hid hsl
          clear hb hsl hSn Hf Hfb
          go_wp2_with fail
          refine (reach_ok _ _ gn S _ Hn.out Hg.out Hl.out (by omega) HSn.out).mono ?_
          rintro e w4 ⟨D, va, rfl, hD, hsa, hb⟩
          replace HB := Lib.hid (HB.out.trans (hb.mono HB.out.size))
          replace Hn := Lib.hid (Hn.out.below hb)
          replace Hm := Lib.hid (Hm.out.below hb)
          replace Hl := Lib.hid (Hl.out.below hb)
          obtain ⟨Aa, ca, rfl⟩ := hsa.shape
          have Ha := Lib.hid hsa
          have HD := Lib.hid hD
          clear hb hsa hD
          have Hg0 : Hid ((w4.alloc (.cells #[] 3)).ownsRow w4.heap.size 3 1 (.slice (some ⟨w4.heap.size, 0, none⟩) 0 0) 0 ([].map nv)) := Lib.hid (own_litS w4 _ _ 0 _ [] rfl rfl (by decide) rfl)
          go_wp2_with (at_builtin; refine appS rfl _ _ 38 rfl 3 (.int .i64 0) 8 info_int rfl (by kernel_rfl) (fun _ => rfl) w4.heap.size _ 0 _ rfl Hg0.out _ S rfl (Hl.out.below (below_alloc _ _)) (by omega) (by omega) (by simp) ?_; intro v5 w5 hown5 hfr5)
          have hb5 := (below_alloc w4 _).trans (hfr5.below (by simp))
          have Hn5 := Lib.hid (Hn.out.below hb5)
          replace Hm := Lib.hid (Hm.out.below hb5)
          have Hown5 := Lib.hid hown5
          have hs5 := hb5.size
          have Hb45 := Lib.hid hb5
          clear hb5 hown5 hfr5 Hg0
          go_wp2_with fail
          refine (nds_any _ _ _ _ _ Hn5.out hn60 Hm.out Hmb.out hm).mono ?_
          rintro e w6 ⟨vm, rfl, hsl, hb⟩
          generalize ndsM gn.length m = T at *
          have HTn := Lib.hid hTn
          obtain ⟨Am, cm, rfl⟩ := hsl.shape
          have HT := Lib.hid hsl
          have Hg6 := Lib.hid (own_keep Hown5.out hb)
          have hs6 := Nat.le_trans hs5 hb.size
          have Hb46 := Lib.hid (Hb45.out.trans (hb.mono hs5))
          clear hb hsl hTn Hm Hmb Hown5 Hn5 Hb45
          go_wp2_with (at_builtin; refine appS rfl _ _ 38 rfl 3 (.int .i64 0) 8 info_int rfl (by kernel_rfl) (fun _ => rfl) w4.heap.size _ (0 + S.length) _ rfl Hg6.out _ T rfl HT.out (by omega) (by omega) hs6 ?_; intro v7 w7 hown7 hfr7)
          have hb7 := Hb46.out.trans (hfr7.below hs6)
          have HST : Hid (Sl nv w7 v7 (S ++ T)) := Lib.hid (Sl.of_own (by rw [List.map_append]; exact hown7))
          replace HB := Lib.hid (HB.out.trans (hb7.mono HB.out.size))
          replace Hn := Lib.hid (Hn.out.below hb7)
          replace Hl := Lib.hid (Hl.out.below hb7)
          replace Ha := Lib.hid (Ha.out.below hb7)
          have HSTn : Hid (∀ x ∈ S ++ T, x < gn.length) := Lib.hid (fun x hx => (List.mem_append.1 hx).elim (HSn.out x) (HTn.out x))
          have hSTl : (S ++ T).length ≤ 10000 := by rw [List.length_append]; omega
          clear hb7 hown7 hfr7 hs5 hs6 Hb46 Hg6 HT HTn
          go_wp2_with fail
          refine (reach_ok _ _ gn (S ++ T) _ Hn.out Hg.out HST.out hSTl HSTn.out).mono ?_
          rintro e w8 ⟨E, vb, rfl, hE, hsb, hb⟩
          replace HB := Lib.hid (HB.out.trans (hb.mono HB.out.size))
          replace Hn := Lib.hid (Hn.out.below hb)
          replace Hl := Lib.hid (Hl.out.below hb)
          replace Ha := Lib.hid (Ha.out.below hb)
          obtain ⟨Ab, cb, rfl⟩ := hsb.shape
          have Hbv := Lib.hid hsb
          have Hsub := Lib.hid (rch_sub HD.out hE (fun x hx => List.mem_append_left T hx))
          clear hb hsb hE HST HSTn hSTl
          have hlD := rchM_len gn.length D
          have hlE := rchM_len gn.length E
          have HRn : Hid (∀ x ∈ rchM gn.length D, x < gn.length) := Lib.hid (fun x hx => (rchM_mem.1 hx).1)
          go_wp2_with fail
          refine (reach_ok _ _ gn (rchM gn.length D) _ Hn.out Hg.out Ha.out (by omega) HRn.out).mono ?_
          rintro e w9 ⟨F, vc, rfl, hF, hsc, hb⟩
          rw [rch_idem HD.out hF HSn.out] at hsc
          replace HB := Lib.hid (HB.out.trans (hb.mono HB.out.size))
          replace Hn := Lib.hid (Hn.out.below hb)
          replace Hl := Lib.hid (Hl.out.below hb)
          replace Ha := Lib.hid (Ha.out.below hb)
          replace Hbv := Lib.hid (Hbv.out.below hb)
          obtain ⟨Ac, cc, rfl⟩ := hsc.shape
          have Hcv := Lib.hid hsc
          clear hb hsc hF HRn
          go_wp2_with fail
          refine (dist_ok _ _ gn S _ Hn.out Hg.out Hl.out (by omega) HSn.out).mono ?_
          rintro e w10 ⟨D2, db, rfl, hD2, hrow, hb⟩
          obtain rfl := hD2.ext HD.out
          replace HB := Lib.hid (HB.out.trans (hb.mono HB.out.size))
          replace Hn := Lib.hid (Hn.out.below hb)
          replace Hl := Lib.hid (Hl.out.below hb)
          replace Ha := Lib.hid (Ha.out.below hb)
          replace Hbv := Lib.hid (Hbv.out.below hb)
          replace Hcv := Lib.hid (Hcv.out.below hb)
          have HR := Lib.hid hrow
          have hdl : D2.length = gn.length := hD2.len
          have hdb := hrow.lt
          clear hb hrow hD2
          go_wp2_with fail
          refine (rsub_b Hsub.out Ha.out Hbv.out (by omega) (by omega)).mono ?_
          rintro e w11 ⟨rfl, hb⟩
          have hb10 := hb
          replace Hn := Lib.hid (Hn.out.below hb)
          replace Hl := Lib.hid (Hl.out.below hb)
          replace Ha := Lib.hid (Ha.out.below hb)
          replace Hcv := Lib.hid (Hcv.out.below hb)
          clear hb Hbv Hsub
          go_wp2_with fail
          refine (nsame_b Ha.out Hcv.out (by omega) (by omega)).mono ?_
          rintro e w12 ⟨rfl, hb⟩
          rw [decide_eq_true rfl]
          replace hb10 := hb10.trans (hb.mono hb10.size)
          replace HB := Lib.hid (HB.out.trans (hb10.mono HB.out.size))
          replace HR := Lib.hid (HR.out.below hb10 hdb)
          replace hdb := Nat.lt_of_lt_of_le hdb hb10.size
          replace Hn := Lib.hid (Hn.out.below hb)
          replace Hl := Lib.hid (Hl.out.below hb)
          replace Ha := Lib.hid (Ha.out.below hb)
          clear hb hb10 Hcv
          go_wp2
          go_loopw [110] (fun i wr => ∃ n : Nat, n ≤ gn.length ∧ i = .int .i64 n ∧ Below w12.heap.size w12 wr) (fun i _ => gn.length - (intOf i).toNat)
          case atStart => exact ⟨0, Nat.zero_le _, rfl, Below.refl _ _⟩
          case round =>
            obtain ⟨n, hn, rfl, hbel⟩ := hrel
            have Hbel := Lib.hid hbel
            clear hbel
            by_cases hlt : n < gn.length
            · go_wp2
              go_loopw [17, 115] (fun fv i wr => ∃ (k : Nat) (fb : Bool), k ≤ S.length ∧ i = .int .i64 k ∧ fv = .bool fb ∧ Hid (Fnd gn S n k fb) ∧ Below w12.heap.size w12 wr) (fun _ i _ => S.length - (intOf i).toNat)
              case atStart => exact ⟨0, false, Nat.zero_le _, rfl, rfl, Lib.hid (Fnd.start _ _ _), Hbel.out⟩
              case round =>
                clear Hbel
                obtain ⟨k, fb, hk, rfl, rfl, HF, hbel⟩ := hrel
                have Hbel := Lib.hid hbel
                by_cases hltk : k < S.length
                · obtain ⟨adl, cl', hsq, hcapl, hcelll⟩ := sl_cell (Hl.out.below hbel) k hltk
                  simp only [Value.slice.injEq, true_and] at hsq
                  obtain ⟨rfl, rfl⟩ := hsq
                  have hsn := HSn.out _ (List.getElem_mem hltk)
                  have hsk : S[k]? = some S[k] := List.getElem?_eq_getElem hltk
                  generalize S[k] = s at *
                  have Hst := Lib.hid fun L (hL : IsDist (revM gn) [n] L) => HF.out.step Hg.out hsk hsn hL
                  unfold nv at hcelll
                  have hs12 := hbel.size
                  clear hbel hsk HF
                  go_wp2_with fail
                  refine (path_ok _ gn s n _ (Hn.out.below Hbel.out) Hg.out hsn hlt).mono ?_
                  rintro e w13 ⟨L, hL, hp⟩
                  have hst := Hst.out L hL
                  rcases hp with ⟨h1, rfl, hb⟩ | ⟨d, v, h1, rfl, hsl, hb⟩
                  · rw [decide_eq_false (by rw [h1]; simp : ¬ dat L s ≠ -1), Bool.or_false] at hst
                    have HF := Lib.hid hst
                    have Hb := Lib.hid (Hbel.out.trans (hb.mono hs12))
                    clear hb hst Hst hL h1
                    cases fb with
                    | true =>
                      go_wp2
                      go_roundw
                      case rel => exact ⟨k + 1, true, by omega, by go_num, rfl, HF, Hb.out⟩
                      case measure => simp [intOf]; omega
                    | false =>
                      go_wp2
                      go_roundw
                      case rel => exact ⟨k + 1, false, by omega, by go_num, rfl, HF, Hb.out⟩
                      case measure => simp [intOf]; omega
                  · rw [decide_eq_true (by omega : dat L s ≠ -1), Bool.or_true] at hst
                    have HF := Lib.hid hst
                    have Hb := Lib.hid (Hbel.out.trans (hb.mono hs12))
                    obtain ⟨Ap, cp, rfl⟩ := hsl.shape
                    clear hb hst Hst hL h1 hsl
                    generalize (pathM gn L s d).length = pl
                    cases fb with
                    | true =>
                      go_wp2
                      go_roundw
                      case rel => exact ⟨k + 1, true, by omega, by go_num, rfl, HF, Hb.out⟩
                      case measure => simp [intOf]; omega
                    | false =>
                      go_wp2
                      go_roundw
                      case rel => exact ⟨k + 1, true, by omega, by go_num, rfl, HF, Hb.out⟩
                      case measure => simp [intOf]; omega
                · obtain rfl : k = S.length := by omega
                  have hfb := HF.out.all HD.out hlt
                  have hrh := rhas_rch (n := gn.length) (D := D2) (x := n)
                  have hlo := HD.out.lo hlt
                  have hD12 := HR.out.below hbel hdb
                  have hcd := dat_cell hD12 (by rw [hdl]; exact hlt : n < D2.length)
                  obtain ⟨adg, cg, A', cr, hsq, hcap, hcellg, hrowg⟩ := gr_cell (Hn.out.below hbel) n hlt
                  simp only [Value.slice.injEq, true_and] at hsq
                  obtain ⟨rfl, rfl⟩ := hsq
                  have Hrowg := Lib.hid hrowg
                  have hrl := Hg.out.row_len n
                  have hs12 := hbel.size
                  clear hbel HF hD12 hrowg
                  by_cases h1 : dat D2 n = -1
                  · rw [decide_eq_false (by rw [h1]; simp : ¬ dat D2 n ≠ -1)] at hfb
                    rw [decide_eq_false (by rw [h1]; simp : ¬ (n < gn.length ∧ dat D2 n ≠ -1))] at hrh
                    rw [h1] at hcd
                    have Hrh := Lib.hid hrh
                    subst hfb
                    clear hrh h1 hlo
                    go_wp2_with fail
                    refine (rhas_b Hrh.out (Ha.out.below Hbel.out) (by omega)).mono ?_
                    rintro e w13 ⟨rfl, rfl⟩
                    go_wp2
                    go_roundw
                    case rel => exact ⟨n + 1, by omega, by go_num, Hbel.out⟩
                    case measure => simp [intOf]; omega
                  · rw [decide_eq_true h1] at hfb
                    rw [decide_eq_true (⟨hlt, h1⟩ : n < gn.length ∧ dat D2 n ≠ -1)] at hrh
                    have Hrh := Lib.hid hrh
                    have Hnx := Lib.hid (rch_next Hg.out HD.out hlt h1)
                    have h2 : 0 ≤ dat D2 n := by omega
                    subst hfb
                    clear hrh h1 hlo
                    generalize dat D2 n = dn at *
                    go_wp2_with fail
                    refine (rhas_b Hrh.out (Ha.out.below Hbel.out) (by omega)).mono ?_
                    rintro e w13 ⟨rfl, rfl⟩
                    go_wp2_with fail
                    refine (rsub_b Hnx.out Hrowg.out (Ha.out.below Hbel.out) (by omega) (by omega)).mono ?_
                    rintro e w14 ⟨rfl, hb⟩
                    have Hb := Lib.hid (Hbel.out.trans (hb.mono hs12))
                    clear hb
                    go_wp2
                    go_roundw
                    case rel => exact ⟨n + 1, by omega, by go_num, Hb.out⟩
                    case measure => simp [intOf]; omega
            · obtain rfl : n = gn.length := by omega
              go_wp2
              go_ret
              exact ⟨rfl, HB.out.trans (Hbel.out.mono HB.out.size)⟩
        · go_wp2
          go_ret
          exact ⟨rfl, HB.out⟩
      · go_wp2
        go_ret
        exact ⟨rfl, HB.out⟩
    · have Hvb := Lib.hid (vb_false hv)
      clear hv
      go_enter Try.func6, Try.ntmps6
      go_wp2_with fail
      refine (awake_any _).mono ?_
      rintro e w1 ⟨rfl, hb⟩
      replace HB := Lib.hid (HB.out.trans (hb.mono HB.out.size))
      replace H := Lib.hid (H.out.below hb)
      clear hb
      go_wp2_with fail
      refine (few_any _ _ _ H.out hl).mono ?_
      rintro e w2 ⟨rfl, rfl⟩
      rw [Hfew.out]
      go_wp2_with fail
      refine (rvalid_any _ _ _ H.out HL.out).mono ?_
      rintro e w2 ⟨rfl, hb⟩
      rw [Hvb.out]
      replace HB := Lib.hid (HB.out.trans (hb.mono HB.out.size))
      clear hb
      go_wp2
      go_ret
      exact ⟨rfl, HB.out⟩
end Go.Proofs.Ytnhhhnhakpambaa
