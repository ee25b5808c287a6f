/- GraphSteps: for every input the law returns true. -/
import Derived.Test.YtnhhhnhakpambaaGraphStepsM
import Derived.BigRegion
namespace Go.Proofs.Ytnhhhnhakpambaa
open Go.RowKit

set_option maxRecDepth 100000 in
set_option maxHeartbeats 4000000 in
theorem graphsteps_walk (A : Option Addr) (c : Nat) (g : List (List Int)) (a b : Nat) (w : World) (h : Gr iv w (.slice A g.length c) g) (hl : g.length ≤ 17592186044000) (ha : a < 256) (hbb : b < 256) :
    Calls Try.prog 7 #[.slice A g.length c, .int .u8 (a : Int), .int .u8 (b : Int)] w (Ok w) := by
  have H := Lib.hid h
  have HB := Lib.hid (Below.refl w.heap.size w)
  clear h
  cases hfew : fewb g with
  | false =>
    have Hfew := Lib.hid hfew
    clear hfew
    go_enter Try.func7, Try.ntmps7
    go_wp2_with fail
    refine (awake_any _).mono ?_
    rintro e w1 ⟨rfl, hb⟩
    replace HB := Lib.hid (HB.out.trans (hb.mono HB.out.size))
    replace H := Lib.hid (H.out.below hb)
    clear hb
    go_wp2_with fail
    refine (few_any _ _ _ H.out hl).mono ?_
    rintro e w2 ⟨rfl, rfl⟩
    rw [Hfew.out]
    go_wp2
    go_ret
    exact ⟨rfl, HB.out⟩
  | true =>
    have Hfew := Lib.hid hfew
    have hL := few_lim hfew
    have hn60 := few_len hfew
    have HL := Lib.hid hL
    clear hfew hL
    by_cases hv : VldI g
    · obtain ⟨gn, rfl, hvg⟩ := hv.vg
      have Hvb := Lib.hid (vb_true hv)
      have Hg := Lib.hid hvg
      clear hv hvg
      rw [cst_len] at hl hn60 ⊢
      have Hn : Hid (Gr nv w (.slice A gn.length c) gn) := by have := H.out; rw [cst_len] at this; exact this.uncst
      clear H
      obtain ⟨i0, hi, hz0, hz1, hz2⟩ := info_parts info_int
      by_cases hz : gn.length = 0
      · have hz' : gn.length ≤ 0 := by omega
        have hze : ((gn.length : Int) == 0) = true := by rw [beq_iff_eq]; omega
        clear hz hz'
        go_enter Try.func7, Try.ntmps7
        go_wp2_with fail
        refine (awake_any _).mono ?_
        rintro e w1 ⟨rfl, hb⟩
        replace HB := Lib.hid (HB.out.trans (hb.mono HB.out.size))
        replace Hn := Lib.hid (Hn.out.below hb)
        clear hb
        go_wp2_with fail
        refine (few_any _ _ _ Hn.out.cst (by rw [cst_len]; exact hl)).mono ?_
        rintro e w2 ⟨rfl, rfl⟩
        rw [Hfew.out]
        go_wp2_with fail
        refine (rvalid_any _ _ _ Hn.out.cst HL.out).mono ?_
        rintro e w2 ⟨rfl, hb⟩
        rw [Hvb.out]
        replace HB := Lib.hid (HB.out.trans (hb.mono HB.out.size))
        replace Hn := Lib.hid (Hn.out.below hb)
        clear hb
        go_wp2
        go_ret
        exact ⟨rfl, HB.out⟩
      · have hze : ((gn.length : Int) == 0) = false := by rw [beq_eq_false_iff_ne]; omega
        have hpos : 0 < gn.length := by omega
        clear hz
        go_enter Try.func7, Try.ntmps7
        go_wp2_with fail
        refine (awake_any _).mono ?_
        rintro e w1 ⟨rfl, hb⟩
        replace HB := Lib.hid (HB.out.trans (hb.mono HB.out.size))
        replace Hn := Lib.hid (Hn.out.below hb)
        clear hb
        go_wp2_with fail
        refine (few_any _ _ _ Hn.out.cst (by rw [cst_len]; exact hl)).mono ?_
        rintro e w2 ⟨rfl, rfl⟩
        rw [Hfew.out]
        go_wp2_with fail
        refine (rvalid_any _ _ _ Hn.out.cst HL.out).mono ?_
        rintro e w2 ⟨rfl, hb⟩
        rw [Hvb.out]
        replace HB := Lib.hid (HB.out.trans (hb.mono HB.out.size))
        replace Hn := Lib.hid (Hn.out.below hb)
        clear hb
        have e1 := tmod_nat a gn.length
        have e2 := tmod_nat b gn.length
        have hx : a % gn.length < gn.length := Nat.mod_lt _ hpos
        have hy : b % gn.length < gn.length := Nat.mod_lt _ hpos
        generalize a % gn.length = x at *
        generalize b % gn.length = y at *
        obtain ⟨j0, hj, hy0, hy1, hy2⟩ := info_parts info_bool
        go_wp2
        go_quiet (fail)
        clear e1 e2
        go_wp2_with fail
        refine (dist_ok _ _ gn [x] _ ((gr_drewN Hn.out _).below (below_alloc _ _)) Hg.out (lit_sl nv _ _ _ 1 [x] rfl rfl _) (by simp) (by simpa using hx)).mono ?_
        rintro e w3 ⟨D, db, rfl, hD, hrow, hb⟩
        replace hb := (below_alloc (w2.drewN nq) _).trans (hb.mono (by simp))
        replace hb := (Below.drewNs w2 nq).trans (hb.mono (Below.drewNs w2 nq).size)
        replace HB := Lib.hid (HB.out.trans (hb.mono HB.out.size))
        replace Hn := Lib.hid (Hn.out.below hb)
        have HD := Lib.hid hD
        have HR := Lib.hid hrow
        have hdl : D.length = gn.length := hD.len
        have hd0 : dat D x = 0 := (dist_zero hD hx).2 rfl
        have hcx := dat_cell hrow (by rw [hdl]; exact hx : x < D.length)
        rw [hd0] at hcx
        have hdb := hrow.lt
        have hHs := HB.out.size
        clear hb hD hrow hd0
        go_wp2_with (at_make; refine wpList_make_full _ rfl _ _ _ rfl w3.heap.size 4 j0 _ 1 (by kernel_rfl) hj hy0 hy1 _ _ _ _ gn.length rfl rfl rfl rfl (by rw [hy2]; omega) (by unfold maxLen; omega) (Nat.le_refl _) ?_; intro w4 hown hgr; have Hb4 := Lib.hid (made_below hgr); have Hr4 := Lib.hid (made_rowb hown); clear hown hgr)
        have Hrz : Hid (Row w4 w3.heap.size 4 ((List.replicate gn.length false).map Value.bool)) := by show Row _ _ _ _; rw [List.map_replicate]; exact Hr4.out
        clear Hr4 hcx
        go_loopw [72] (fun i wr => ∃ (k : Nat) (B : List Bool), k ≤ gn.length ∧ i = .int .i64 k ∧ Hid (NearI gn D k 0 B) ∧ Row wr w3.heap.size 4 (B.map Value.bool) ∧ Below w3.heap.size w3 wr) (fun i _ => gn.length - (intOf i).toNat)
        case atStart => exact ⟨0, _, Nat.zero_le _, rfl, Lib.hid .start, Hrz.out, Hb4.out⟩
        case round =>
          clear Hrz Hb4
          obtain ⟨k, B, hk, rfl, Hnear, hrow, hbel⟩ := hrel
          have Hrw := Lib.hid hrow; have Hbel := Lib.hid hbel
          by_cases hlt : k < gn.length
          · obtain ⟨ad, c', A', cr, hsq, hcap, hcell0, hrow0⟩ := gr_cell Hn.out k hlt
            simp only [Value.slice.injEq, true_and] at hsq
            obtain ⟨rfl, rfl⟩ := hsq
            have hcell := (hbel.cell (World.block_lt_of_cell? _ _ hcell0)).trans hcell0
            have Hrow0 := Lib.hid hrow0
            have hrl := Hg.out.row_len k
            clear hrow hbel hcell0 hrow0
            obtain ⟨wo, rfl⟩ : ∃ wo : World, wo = wr := ⟨_, rfl⟩
            go_wp2
            go_loopw [80] (fun i wr => ∃ (m : Nat) (B : List Bool), m ≤ (row gn k).length ∧ i = .int .i64 m ∧ Hid (NearI gn D k m B) ∧ Row wr w3.heap.size 4 (B.map Value.bool) ∧ Below w3.heap.size w3 wr) (fun i _ => (row gn k).length - (intOf i).toNat)
            case atStart => exact ⟨0, _, Nat.zero_le _, rfl, Hnear, Hrw.out, Hbel.out⟩
            case round =>
              clear Hrw Hbel Hnear hcell
              obtain ⟨m, B, hm, rfl, Hnear, hrow, hbel⟩ := hrel
              have Hrw := Lib.hid hrow; have Hbel := Lib.hid hbel
              by_cases hltm : m < (row gn k).length
              · obtain ⟨adr, cr', hsr, hcapr, hcellr⟩ := sl_cell (Hrow0.out.below hbel) m hltm
                simp only [Value.slice.injEq, true_and] at hsr
                obtain ⟨rfl, rfl⟩ := hsr
                have hun := Hg.out.node k _ (List.getElem_mem hltm)
                have hum := List.getElem_mem hltm
                have hug : (row gn k)[m]? = some ((row gn k)[m]) := List.getElem?_eq_getElem hltm
                generalize (row gn k)[m] = u at *
                have hDr := HR.out.below hbel hdb
                have hck := dat_cell hDr (by rw [hdl]; exact hlt : k < D.length)
                have hcu := dat_cell hDr (by rw [hdl]; exact hun : u < D.length)
                have hlo := dist_low HD.out hlt
                have hhi := dist_high Hg.out hx HD.out hlt
                have hed := dist_edge Hg.out HD.out hlt hum
                have hlu := dist_low HD.out hun
                have hhu := dist_high Hg.out hx HD.out hun
                obtain ⟨bb, hbb⟩ : ∃ bb, B[u]? = some bb := ⟨_, List.getElem?_eq_getElem (by rw [Hnear.out.1]; exact hun)⟩
                have hcb := b_cell hrow hbb
                have hfr := hrow.free u
                have Hst := Lib.hid fun c => Hnear.out.step (c := c) hug hun
                rw [hbb] at Hst
                have Hr5 := Lib.hid fun c => row_set_b hrow u c
                unfold nv at hcellr
                clear hrow hbel hum hug hDr hbb Hnear
                generalize dat D k = dk at *
                generalize dat D u = du at *
                have i4 : IntKind.i64.wrap (dk + 1) = dk + 1 := IntWalk.i64_in _ (by omega)
                by_cases h0 : 0 ≤ dk
                · obtain ⟨hu0, hu1⟩ := hed h0
                  have d1 : decide (0 ≤ dk) = true := decide_eq_true h0
                  have d2 : decide (du < 0) = false := decide_eq_false (by omega)
                  have d3 : decide (dk + 1 < du) = false := decide_eq_false (by omega)
                  clear hed
                  cases bb with
                  | true =>
                    go_wp2
                    go_quiet (fail)
                    go_wp2
                    obtain ⟨w9, hw9⟩ : ∃ w9 : World, w9 = wr.drewN nq := ⟨_, rfl⟩
                    have hck9 : w9.cell? ⟨db, k, none⟩ = some (.int .i64 dk) := by rw [hw9]; exact hck
                    have hcu9 : w9.cell? ⟨db, u, none⟩ = some (.int .i64 du) := by rw [hw9]; exact hcu
                    have hcb9 : w9.cell? ⟨w3.heap.size, u, none⟩ = some (.bool true) := by rw [hw9]; exact hcb
                    have hfr9 : w9.frozen? ⟨w3.heap.size, u, none⟩ = false := by rw [hw9]; exact hfr
                    have Hr9 : Hid (∀ c, Row (w9.setCell ⟨w3.heap.size, u, none⟩ (.bool c)) w3.heap.size 4 ((B.set u c).map Value.bool)) := fun c => row_set_b (by rw [hw9]; exact Hrw.out) u c
                    have Hbel9 : Hid (Below w3.heap.size w3 w9) := by rw [hw9]; exact below_drew Hbel.out nq
                    rw [← hw9]
                    clear hw9 hck hcu hcb hfr Hr5 Hbel Hrw hcellr
                    go_region
                    go_wp2
                    go_roundw
                    case rel => exact ⟨m + 1, _, by omega, by go_num, Lib.hid (Hst.out true (fun _ => rfl) (fun _ _ => rfl)), Hr9.out true, (Hbel9.out.setCell (p := ⟨w3.heap.size, u, none⟩) (Nat.le_refl _) _).drew⟩
                    case measure => simp [intOf]; omega
                  | false =>
                    by_cases h1 : du = dk + 1
                    · have d4 : (du == dk + 1) = true := by rw [beq_iff_eq]; exact h1
                      clear h1
                      go_wp2
                      go_quiet (fail)
                      go_wp2
                      obtain ⟨w9, hw9⟩ : ∃ w9 : World, w9 = wr.drewN nq := ⟨_, rfl⟩
                      have hck9 : w9.cell? ⟨db, k, none⟩ = some (.int .i64 dk) := by rw [hw9]; exact hck
                      have hcu9 : w9.cell? ⟨db, u, none⟩ = some (.int .i64 du) := by rw [hw9]; exact hcu
                      have hcb9 : w9.cell? ⟨w3.heap.size, u, none⟩ = some (.bool false) := by rw [hw9]; exact hcb
                      have hfr9 : w9.frozen? ⟨w3.heap.size, u, none⟩ = false := by rw [hw9]; exact hfr
                      have Hr9 : Hid (∀ c, Row (w9.setCell ⟨w3.heap.size, u, none⟩ (.bool c)) w3.heap.size 4 ((B.set u c).map Value.bool)) := fun c => row_set_b (by rw [hw9]; exact Hrw.out) u c
                      have Hbel9 : Hid (Below w3.heap.size w3 w9) := by rw [hw9]; exact below_drew Hbel.out nq
                      rw [← hw9]
                      clear hw9 hck hcu hcb hfr Hr5 Hbel Hrw hcellr
                      go_region
                      go_wp2
                      go_roundw
                      case rel => exact ⟨m + 1, _, by omega, by go_num, Lib.hid (Hst.out true (fun _ => rfl) (fun _ _ => rfl)), Hr9.out true, (Hbel9.out.setCell (p := ⟨w3.heap.size, u, none⟩) (Nat.le_refl _) _).drew⟩
                      case measure => simp [intOf]; omega
                    · have d4 : (du == dk + 1) = false := by rw [beq_eq_false_iff_ne]; exact h1
                      have H1 := Lib.hid h1
                      clear h1
                      go_wp2
                      go_quiet (fail)
                      go_wp2
                      obtain ⟨w9, hw9⟩ : ∃ w9 : World, w9 = wr.drewN nq := ⟨_, rfl⟩
                      have hck9 : w9.cell? ⟨db, k, none⟩ = some (.int .i64 dk) := by rw [hw9]; exact hck
                      have hcu9 : w9.cell? ⟨db, u, none⟩ = some (.int .i64 du) := by rw [hw9]; exact hcu
                      have hcb9 : w9.cell? ⟨w3.heap.size, u, none⟩ = some (.bool false) := by rw [hw9]; exact hcb
                      have hfr9 : w9.frozen? ⟨w3.heap.size, u, none⟩ = false := by rw [hw9]; exact hfr
                      have Hr9 : Hid (∀ c, Row (w9.setCell ⟨w3.heap.size, u, none⟩ (.bool c)) w3.heap.size 4 ((B.set u c).map Value.bool)) := fun c => row_set_b (by rw [hw9]; exact Hrw.out) u c
                      have Hbel9 : Hid (Below w3.heap.size w3 w9) := by rw [hw9]; exact below_drew Hbel.out nq
                      rw [← hw9]
                      clear hw9 hck hcu hcb hfr Hr5 Hbel Hrw hcellr
                      go_region
                      go_wp2
                      go_roundw
                      case rel => exact ⟨m + 1, _, by omega, by go_num, Lib.hid (Hst.out false (fun h => by simp at h) (fun _ h => absurd h H1.out)), Hr9.out false, (Hbel9.out.setCell (p := ⟨w3.heap.size, u, none⟩) (Nat.le_refl _) _).drew⟩
                      case measure => simp [intOf]; omega
                · have d1 : decide (0 ≤ dk) = false := decide_eq_false h0
                  have H0 := Lib.hid (show dk < 0 by omega)
                  clear hed
                  cases bb with
                  | true =>
                    go_wp2
                    go_quiet (fail)
                    go_wp2
                    obtain ⟨w9, hw9⟩ : ∃ w9 : World, w9 = wr.drewN nq := ⟨_, rfl⟩
                    have hck9 : w9.cell? ⟨db, k, none⟩ = some (.int .i64 dk) := by rw [hw9]; exact hck
                    have hcu9 : w9.cell? ⟨db, u, none⟩ = some (.int .i64 du) := by rw [hw9]; exact hcu
                    have hcb9 : w9.cell? ⟨w3.heap.size, u, none⟩ = some (.bool true) := by rw [hw9]; exact hcb
                    have hfr9 : w9.frozen? ⟨w3.heap.size, u, none⟩ = false := by rw [hw9]; exact hfr
                    have Hr9 : Hid (∀ c, Row (w9.setCell ⟨w3.heap.size, u, none⟩ (.bool c)) w3.heap.size 4 ((B.set u c).map Value.bool)) := fun c => row_set_b (by rw [hw9]; exact Hrw.out) u c
                    have Hbel9 : Hid (Below w3.heap.size w3 w9) := by rw [hw9]; exact below_drew Hbel.out nq
                    rw [← hw9]
                    clear hw9 hck hcu hcb hfr Hr5 Hbel Hrw hcellr
                    go_region
                    go_wp2
                    go_roundw
                    case rel => exact ⟨m + 1, _, by omega, by go_num, Lib.hid (Hst.out true (fun _ => rfl) (fun _ _ => rfl)), Hr9.out true, (Hbel9.out.setCell (p := ⟨w3.heap.size, u, none⟩) (Nat.le_refl _) _).drew⟩
                    case measure => simp [intOf]; omega
                  | false =>
                    go_wp2
                    go_quiet (fail)
                    go_wp2
                    obtain ⟨w9, hw9⟩ : ∃ w9 : World, w9 = wr.drewN nq := ⟨_, rfl⟩
                    have hck9 : w9.cell? ⟨db, k, none⟩ = some (.int .i64 dk) := by rw [hw9]; exact hck
                    have hcu9 : w9.cell? ⟨db, u, none⟩ = some (.int .i64 du) := by rw [hw9]; exact hcu
                    have hcb9 : w9.cell? ⟨w3.heap.size, u, none⟩ = some (.bool false) := by rw [hw9]; exact hcb
                    have hfr9 : w9.frozen? ⟨w3.heap.size, u, none⟩ = false := by rw [hw9]; exact hfr
                    have Hr9 : Hid (∀ c, Row (w9.setCell ⟨w3.heap.size, u, none⟩ (.bool c)) w3.heap.size 4 ((B.set u c).map Value.bool)) := fun c => row_set_b (by rw [hw9]; exact Hrw.out) u c
                    have Hbel9 : Hid (Below w3.heap.size w3 w9) := by rw [hw9]; exact below_drew Hbel.out nq
                    rw [← hw9]
                    clear hw9 hck hcu hcb hfr Hr5 Hbel Hrw hcellr
                    go_region
                    go_wp2
                    go_roundw
                    case rel => exact ⟨m + 1, _, by omega, by go_num, Lib.hid (Hst.out false (fun h => by simp at h) (fun h _ => absurd h (by have := H0.out; omega))), Hr9.out false, (Hbel9.out.setCell (p := ⟨w3.heap.size, u, none⟩) (Nat.le_refl _) _).drew⟩
                    case measure => simp [intOf]; omega
              · obtain rfl : m = (row gn k).length := by omega
                clear hrow hbel
                go_wp2
                go_roundw
                case rel => exact ⟨k + 1, _, by omega, by go_num, Lib.hid Hnear.out.next, Hrw.out, Hbel.out⟩
                case measure => simp [intOf]; omega
          · obtain rfl : k = gn.length := by omega
            have Hall := Lib.hid fun i (hi : i < gn.length) (h0 : 0 < dat D i) => Hnear.out.all Hg.out hx HD.out hi h0
            have hBl := Hnear.out.1
            clear hrow hbel Hnear
            go_wp2
            go_loopw [138] (fun i wr => ∃ (k : Nat), k ≤ gn.length ∧ i = .int .i64 k ∧ Row wr w3.heap.size 4 (B.map Value.bool) ∧ Below w3.heap.size w3 wr) (fun i _ => gn.length - (intOf i).toNat)
            case atStart => exact ⟨0, Nat.zero_le _, rfl, Hrw.out, Hbel.out⟩
            case round =>
              clear Hrw Hbel
              obtain ⟨k, hk, rfl, hrow, hbel⟩ := hrel
              have Hrw := Lib.hid hrow; have Hbel := Lib.hid hbel
              by_cases hlt : k < gn.length
              · have hDr := HR.out.below hbel hdb
                have hck := dat_cell hDr (by rw [hdl]; exact hlt : k < D.length)
                have hlo := dist_low HD.out hlt
                have hz := dist_zero HD.out hlt
                by_cases h0 : 0 < dat D k
                · have hcb := b_cell hrow (Hall.out k hlt h0)
                  have d1 : decide (0 < dat D k) = true := decide_eq_true h0
                  have d2 : (dat D k == 0) = false := by rw [beq_eq_false_iff_ne]; omega
                  clear hrow hbel hDr hz
                  generalize dat D k = dk at *
                  go_wp2
                  go_roundw
                  case rel => exact ⟨k + 1, by omega, by go_num, Hrw.out, Hbel.out⟩
                  case measure => simp [intOf]; omega
                · by_cases h1 : dat D k = 0
                  · obtain rfl := hz.1 h1
                    rw [h1] at hck
                    clear hrow hbel hDr hz h0 hlo
                    go_wp2
                    go_roundw
                    case rel => exact ⟨k + 1, by omega, by go_num, Hrw.out, Hbel.out⟩
                    case measure => simp [intOf]; omega
                  · have h2 : dat D k = -1 := by omega
                    rw [h2] at hck
                    clear hrow hbel hDr hz h0 hlo h1
                    go_wp2
                    go_roundw
                    case rel => exact ⟨k + 1, by omega, by go_num, Hrw.out, Hbel.out⟩
                    case measure => simp [intOf]; omega
              · obtain rfl : k = gn.length := by omega
                clear hrow hbel Hrw
                go_wp2_with fail
                refine (path_ok _ gn x y _ (Hn.out.below Hbel.out) Hg.out hx hy).mono ?_
                rintro e w5 ⟨L, hL, hp⟩
                have hrd := rev_dist Hg.out hx hy HD.out hL
                have HL2 := Lib.hid hL
                have hbs := Hbel.out.size
                clear hL
                rcases hp with ⟨h1, rfl, hb⟩ | ⟨k, v, hk1, rfl, hsl, hb⟩
                · replace Hbel := Lib.hid (Hbel.out.trans (hb.mono hbs))
                  have hcy := dat_cell (HR.out.below Hbel.out hdb) (by rw [hdl]; exact hy : y < D.length)
                  rw [hrd, h1] at hcy
                  clear hrd h1 hb
                  go_wp2
                  go_ret
                  exact ⟨rfl, HB.out.trans (Hbel.out.mono hHs)⟩
                · replace Hbel := Lib.hid (Hbel.out.trans (hb.mono hbs))
                  have hcy := dat_cell (HR.out.below Hbel.out hdb) (by rw [hdl]; exact hy : y < D.length)
                  have hhi := dist_high Hg.out hx HD.out hy
                  rw [hrd, hk1] at hcy hhi
                  have hpl := pathM_len gn L x k
                  have Hadj := Lib.hid fun i (hi : i + 1 ≤ k) => path_adj Hg.out HL2.out hx hk1 hi
                  have Hnode := Lib.hid fun i (hi : i ≤ k) => (step_at Hg.out HL2.out hx hk1 i hi).1
                  have Hget := Lib.hid fun i (hi : i ≤ k) => pathM_get (g := gn) (L := L) (u := x) hi
                  have hend := path_end Hg.out HL2.out hx hk1
                  obtain ⟨Ap, cp, rfl⟩ := hsl.shape
                  have Hsl := Lib.hid hsl
                  have g0 := Hget.out 0 (Nat.zero_le _)
                  have gk := Hget.out k (Nat.le_refl _)
                  rw [hend] at gk
                  rw [show stepM gn L x 0 = x from rfl] at g0
                  generalize pathM gn L x k = P at *
                  obtain ⟨adp, cp0, hsp, hcapp, hcell0⟩ := sl_cell hsl 0 (by omega)
                  simp only [Value.slice.injEq, true_and] at hsp
                  obtain ⟨rfl, rfl⟩ := hsp
                  obtain ⟨adp2, cp2, hsp, _, hcellk⟩ := sl_cell hsl k (by omega)
                  simp only [Value.slice.injEq, true_and, Option.some.injEq] at hsp
                  obtain ⟨rfl, rfl⟩ := hsp
                  have hz : adp.add 0 = adp := by obtain ⟨b, o, s⟩ := adp; unfold Addr.add; split <;> simp_all
                  rw [hz] at hcell0
                  rw [show P[0] = x from Option.some.inj ((List.getElem?_eq_getElem _).symm.trans g0)] at hcell0
                  rw [show P[k] = y from Option.some.inj ((List.getElem?_eq_getElem _).symm.trans gk)] at hcellk
                  unfold nv at hcell0 hcellk
                  have i1 : IntKind.i64.wrap ((k : Int) + 1) = (k : Int) + 1 := IntWalk.i64_in _ (by omega)
                  have hl1 : (((k + 1 : Nat) : Int) != (k : Int) + 1) = false := by rw [bne_eq_false_iff_eq]; omega
                  have i2 : (k : Int) + 1 - 1 = (k : Int) := by omega
                  have i4 : IntKind.i64.wrap (k : Int) = (k : Int) := IntWalk.i64_in _ (by omega)
                  have i6 : (k : Int) < (k : Int) + 1 := by omega
                  clear hrd hk1 hb hsl hend g0 gk
                  rw [hpl] at Hsl hcapp ⊢
                  go_wp2
                  clear hcell0 hcellk hcy i1 hl1 i2 i4 i6
                  go_loopw [18] (fun i wr => ∃ (j : Nat), 1 ≤ j ∧ j ≤ k + 1 ∧ i = .int .i64 j ∧ Below w5.heap.size w5 wr) (fun i _ => (k + 1) - (intOf i).toNat)
                  case atStart => exact ⟨1, Nat.le_refl _, by omega, rfl, Below.refl _ _⟩
                  case round =>
                    obtain ⟨j, hj1, hj2, rfl, hbel⟩ := hrel
                    have Hbel2 := Lib.hid hbel
                    by_cases hlt : j < (k + 1)
                    · obtain ⟨adq, cq, hsq, _, hcellj⟩ := sl_cell (Hsl.out.below hbel) j (by rw [hpl]; exact hlt)
                      simp only [Value.slice.injEq, Option.some.injEq] at hsq
                      obtain ⟨rfl, -, rfl⟩ := hsq
                      obtain ⟨adq, cq, hsq, _, hcellp⟩ := sl_cell (Hsl.out.below hbel) (j - 1) (by rw [hpl]; omega)
                      simp only [Value.slice.injEq, Option.some.injEq] at hsq
                      obtain ⟨rfl, -, rfl⟩ := hsq
                      have hadj := Hadj.out (j - 1) (by omega)
                      have hxn := Hnode.out (j - 1) (by omega)
                      rw [show j - 1 + 1 = j by omega] at hadj
                      rw [show P[j] = stepM gn L x j from Option.some.inj ((List.getElem?_eq_getElem _).symm.trans (Hget.out j (by omega)))] at hcellj
                      rw [show P[j - 1] = stepM gn L x (j - 1) from Option.some.inj ((List.getElem?_eq_getElem _).symm.trans (Hget.out (j - 1) (by omega)))] at hcellp
                      generalize stepM gn L x (j - 1) = s at *
                      generalize stepM gn L x j = r at *
                      have i1 : (1 : Int) ≤ (j : Int) := by omega
                      have i2 : (j : Int) - 1 < ((k + 1 : Nat) : Int) := by omega
                      have i2' : (j : Int) - 1 < (k : Int) + 1 := by omega
                      have i7 : (j : Int) < (k : Int) + 1 := by omega
                      have d0 : decide ((s : Int) < 0) = false := decide_eq_false (by omega)
                      have i8 : (s : Int) < (gn.length : Int) := by omega
                      have i3 : ((j : Int) - 1).toNat = j - 1 := by omega
                      have i4 : IntKind.i64.wrap ((j : Int) - 1) = (j : Int) - 1 := IntWalk.i64_in _ (by omega)
                      have i5 : (0 : Int) ≤ (j : Int) - 1 := by omega
                      obtain ⟨ad, c', A', cr, hsq, hcap, hcellg, hrow0⟩ := gr_cell ((Hn.out.below Hbel.out).below hbel) s hxn
                      simp only [Value.slice.injEq, true_and] at hsq
                      obtain ⟨rfl, rfl⟩ := hsq
                      have Hrow0 := Lib.hid hrow0
                      have hrl := Hg.out.row_len s
                      have d1 : decide (gn.length ≤ s) = false := decide_eq_false (by omega)
                      have Hm := Lib.hid (rhas_mem hadj)
                      unfold nv at hcellj hcellp
                      clear hbel hrow0 hadj
                      go_wp2
                      go_quiet ((go_at_call 36; exact Calls.quiet_of_same (rhas_q Hm.out (Hrow0.out.drewN _) (by omega))))
                      go_wp2
                      go_roundw
                      case rel => exact ⟨j + 1, by omega, by omega, by go_num, below_drew Hbel2.out _⟩
                      case measure => simp [intOf]; omega
                    · have d1 : decide (j < k + 1) = false := decide_eq_false hlt
                      clear hbel
                      go_wp2
                      go_ret
                      exact ⟨rfl, HB.out.trans ((Hbel.out.trans (Hbel2.out.mono Hbel.out.size)).mono hHs)⟩
    · have Hvb := Lib.hid (vb_false hv)
      clear hv
      go_enter Try.func7, Try.ntmps7
      go_wp2_with fail
      refine (awake_any _).mono ?_
      rintro e w1 ⟨rfl, hb⟩
      replace HB := Lib.hid (HB.out.trans (hb.mono HB.out.size))
      replace H := Lib.hid (H.out.below hb)
      clear hb
      go_wp2_with fail
      refine (few_any _ _ _ H.out hl).mono ?_
      rintro e w2 ⟨rfl, rfl⟩
      rw [Hfew.out]
      go_wp2_with fail
      refine (rvalid_any _ _ _ H.out HL.out).mono ?_
      rintro e w2 ⟨rfl, hb⟩
      rw [Hvb.out]
      replace HB := Lib.hid (HB.out.trans (hb.mono HB.out.size))
      clear hb
      go_wp2
      go_ret
      exact ⟨rfl, HB.out⟩
end Go.Proofs.Ytnhhhnhakpambaa
