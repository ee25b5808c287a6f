/- GraphReversed: for every input the law returns true. -/
import Derived.Test.YtnhhhnhakpambaaGraphAwake
import Derived.Test.YtnhhhnhakpambaaGraphReach
namespace Go.Proofs.Ytnhhhnhakpambaa
open Go.RowKit

theorem rhas_rch {n : Nat} {D : List Int} {x : Nat} : rhas (rchM n D) (x : Int) = decide (x < n ∧ dat D x ≠ -1) := by
  rw [Bool.eq_iff_iff, decide_eq_true_iff, ← rchM_mem]
  unfold rhas
  rw [List.any_eq_true]
  constructor
  · rintro ⟨y, hy, e⟩
    rw [beq_iff_eq] at e
    rwa [show x = y by omega]
  · intro h; exact ⟨x, h, by simp⟩
theorem rev_has {g : List (List Nat)} (hg : VG g) {x y : Nat} (hx : x < g.length) (hy : y < g.length) {D E : List Int} (hD : IsDist g [x] D) (hE : IsDist (revM g) [y] E) : rhas (rchM g.length D) (y : Int) = rhas (rchM (revM g).length E) (x : Int) := by
  rw [rhas_rch, rhas_rch, revM_len, decide_eq_decide]
  have h1 := hD.rch hy
  have h2 := hE.rch (x := x) (by rw [revM_len]; exact hx)
  rw [h1, h2]
  constructor
  · rintro ⟨_, k, hk⟩; exact ⟨hx, k, (RchN.rev (revM_rev hg)).1 hk⟩
  · rintro ⟨_, k, hk⟩; exact ⟨hy, k, (RchN.rev (revM_rev hg)).2 hk⟩
theorem gr_drewN {α : Type} {f : α → Value} {w : World} {v : Value} {g : List (List α)} (h : Gr f w v g) (n : Nat) : Gr f (w.drewN n) v g := h
theorem tmod_nat (a n : Nat) : (a : Int).tmod (n : Int) = ((a % n : Nat) : Int) := rfl
theorem rhas_b {v : Value} {l : List Nat} {n : Int} {bb : Bool} {w : World} (hb : rhas l n = bb) (h : Sl nv w v l) (hl : l.length ≤ 10000) :
    Calls Try.prog 36 #[v, .int .i64 n] w fun e w' => e = .returned (.bool bb) ∧ w = w' :=
  (rhas_any v l n w h hl).mono fun _ _ ⟨h1, h2⟩ => ⟨by rw [h1, hb], h2⟩

set_option maxRecDepth 100000 in
set_option maxHeartbeats 4000000 in
theorem graphreversed_walk (A : Option Addr) (c : Nat) (g : List (List Int)) (a b : Nat) (w : World) (h : Gr iv w (.slice A g.length c) g) (hl : g.length ≤ 17592186044000) (ha : a < 256) (hbb : b < 256) :
    Calls Try.prog 8 #[.slice A g.length c, .int .u8 (a : Int), .int .u8 (b : Int)] w (Ok w) := by
  have H := Lib.hid h
  have HB := Lib.hid (Below.refl w.heap.size w)
  clear h
  cases hfew : fewb g with
  | false =>
    have Hfew := Lib.hid hfew
    clear hfew
    go_enter Try.func8, Try.ntmps8
    go_wp2_with fail
    refine (awake_any _).mono ?_
    rintro e w1 ⟨rfl, hb⟩
    replace HB := Lib.hid (HB.out.trans (hb.mono HB.out.size))
    replace H := Lib.hid (H.out.below hb)
    clear hb
    go_wp2_with fail
    refine (few_any _ _ _ H.out hl).mono ?_
    rintro e w2 ⟨rfl, rfl⟩
    rw [Hfew.out]
    go_wp2
    go_ret
    exact ⟨rfl, HB.out⟩
  | true =>
    have Hfew := Lib.hid hfew
    have hL := few_lim hfew
    have hn60 := few_len hfew
    have HL := Lib.hid hL
    clear hfew hL
    by_cases hv : VldI g
    · obtain ⟨gn, rfl, hvg⟩ := hv.vg
      have Hvb := Lib.hid (vb_true hv)
      have Hg := Lib.hid hvg
      clear hv hvg
      rw [cst_len] at hl hn60 ⊢
      have Hn : Hid (Gr nv w (.slice A gn.length c) gn) := by have := H.out; rw [cst_len] at this; exact this.uncst
      clear H
      obtain ⟨i0, hi, hz0, hz1, hz2⟩ := info_parts info_int
      by_cases hz : gn.length = 0
      · have hz' : gn.length ≤ 0 := by omega
        have hze : ((gn.length : Int) == 0) = true := by rw [beq_iff_eq]; omega
        clear hz hz'
        go_enter Try.func8, Try.ntmps8
        go_wp2_with fail
        refine (awake_any _).mono ?_
        rintro e w1 ⟨rfl, hb⟩
        replace HB := Lib.hid (HB.out.trans (hb.mono HB.out.size))
        replace Hn := Lib.hid (Hn.out.below hb)
        clear hb
        go_wp2_with fail
        refine (few_any _ _ _ Hn.out.cst (by rw [cst_len]; exact hl)).mono ?_
        rintro e w2 ⟨rfl, rfl⟩
        rw [Hfew.out]
        go_wp2_with fail
        refine (rvalid_any _ _ _ Hn.out.cst HL.out).mono ?_
        rintro e w2 ⟨rfl, hb⟩
        rw [Hvb.out]
        replace HB := Lib.hid (HB.out.trans (hb.mono HB.out.size))
        replace Hn := Lib.hid (Hn.out.below hb)
        clear hb
        go_wp2
        go_ret
        exact ⟨rfl, HB.out⟩
      · have hze : ((gn.length : Int) == 0) = false := by rw [beq_eq_false_iff_ne]; omega
        have hpos : 0 < gn.length := by omega
        clear hz
        go_enter Try.func8, Try.ntmps8
        go_wp2_with fail
        refine (awake_any _).mono ?_
        rintro e w1 ⟨rfl, hb⟩
        replace HB := Lib.hid (HB.out.trans (hb.mono HB.out.size))
        replace Hn := Lib.hid (Hn.out.below hb)
        clear hb
        go_wp2_with fail
        refine (few_any _ _ _ Hn.out.cst (by rw [cst_len]; exact hl)).mono ?_
        rintro e w2 ⟨rfl, rfl⟩
        rw [Hfew.out]
        go_wp2_with fail
        refine (rvalid_any _ _ _ Hn.out.cst HL.out).mono ?_
        rintro e w2 ⟨rfl, hb⟩
        rw [Hvb.out]
        replace HB := Lib.hid (HB.out.trans (hb.mono HB.out.size))
        replace Hn := Lib.hid (Hn.out.below hb)
        clear hb
        have e1 := tmod_nat a gn.length
        have e2 := tmod_nat b gn.length
        have hx : a % gn.length < gn.length := Nat.mod_lt _ hpos
        have hy : b % gn.length < gn.length := Nat.mod_lt _ hpos
        generalize a % gn.length = x at *
        generalize b % gn.length = y at *
        go_wp2
        go_quiet (fail)
        clear e1 e2
        go_wp2_with fail
        refine (back_ok _ gn _ (gr_drewN Hn.out _) Hg.out).mono ?_
        rintro e w3 ⟨A1, c1, rfl, hbk, hb⟩
        replace hb := (Below.drewNs w2 nq).trans (hb.mono (Below.drewNs w2 nq).size)
        replace HB := Lib.hid (HB.out.trans (hb.mono HB.out.size))
        replace Hn := Lib.hid (Hn.out.below hb)
        have Hbk := Lib.hid hbk
        have Hg1 := Lib.hid (revM_vg Hg.out)
        clear hb hbk
        go_wp2_with fail
        refine (back_ok _ (revM gn) _ Hbk.out Hg1.out).mono ?_
        rintro e w4 ⟨A2, c2, rfl, hag, hb⟩
        rw [revM_revM Hg.out] at hag ⊢
        replace HB := Lib.hid (HB.out.trans (hb.mono HB.out.size))
        replace Hn := Lib.hid (Hn.out.below hb)
        replace Hbk := Lib.hid (Hbk.out.below hb)
        have Hag := Lib.hid hag
        clear hb hag
        go_wp2_with fail
        refine (reach_ok _ _ gn [x] _ (Hn.out.below (below_alloc _ _)) Hg.out (lit_sl nv _ _ _ 1 [x] rfl rfl _) (by simp) (by simpa using hx)).mono ?_
        rintro e w5 ⟨D, vl, rfl, hD, hsl, hb⟩
        replace hb := (below_alloc w4 _).trans (hb.mono (by simp))
        replace HB := Lib.hid (HB.out.trans (hb.mono HB.out.size))
        replace Hn := Lib.hid (Hn.out.below hb)
        replace Hbk := Lib.hid (Hbk.out.below hb)
        replace Hag := Lib.hid (Hag.out.below hb)
        have HD := Lib.hid hD
        have Hsl := Lib.hid hsl
        obtain ⟨Al, cl, rfl⟩ := hsl.shape
        clear hb hD hsl
        go_wp2_with fail
        refine (reach_ok _ _ (revM gn) [y] _ (Hbk.out.below (below_alloc _ _)) Hg1.out (lit_sl nv _ _ _ 1 [y] rfl rfl _) (by simp) (by simpa [revM_len] using hy)).mono ?_
        rintro e w6 ⟨E, vm, rfl, hE, hsm, hb⟩
        replace hb := (below_alloc w5 _).trans (hb.mono (by simp))
        replace HB := Lib.hid (HB.out.trans (hb.mono HB.out.size))
        replace Hn := Lib.hid (Hn.out.below hb)
        replace Hag := Lib.hid (Hag.out.below hb)
        replace Hsl := Lib.hid (Hsl.out.below hb)
        have Hsm := Lib.hid hsm
        obtain ⟨Am, cm, rfl⟩ := hsm.shape
        have hhas := rev_has Hg.out hx hy HD.out hE
        have hl1 := rchM_len gn.length D
        have hl2 := rchM_len (revM gn).length E
        rw [revM_len] at hl2
        clear hb hE hsm
        obtain ⟨bb, hbb2⟩ : ∃ bb, rhas (rchM gn.length D) (y : Int) = bb := ⟨_, rfl⟩
        have Hh1 := Lib.hid hbb2
        have Hh2 := Lib.hid (hhas.symm.trans hbb2)
        clear hhas hbb2
        go_wp2_with fail
        refine (gequal_any _ _ (cst gn) (cst gn) _ Hag.out.cst Hn.out.cst Hg.out.lim.cst Hg.out.lim.cst).mono ?_
        rintro e w7 ⟨rfl, hb⟩
        rw [decide_eq_true (rfl : cst gn = cst gn)]
        replace HB := Lib.hid (HB.out.trans (hb.mono HB.out.size))
        replace Hsl := Lib.hid (Hsl.out.below hb)
        replace Hsm := Lib.hid (Hsm.out.below hb)
        clear hb
        go_wp2_with fail
        refine (rhas_b Hh1.out Hsl.out (by omega)).mono ?_
        rintro e w8 ⟨rfl, rfl⟩
        go_wp2_with fail
        refine (rhas_b Hh2.out Hsm.out (by rw [revM_len]; omega)).mono ?_
        rintro e w8 ⟨rfl, rfl⟩
        cases bb with
        | true =>
          go_wp2
          go_ret
          exact ⟨rfl, HB.out⟩
        | false =>
          go_wp2
          go_ret
          exact ⟨rfl, HB.out⟩
    · have Hvb := Lib.hid (vb_false hv)
      clear hv
      go_enter Try.func8, Try.ntmps8
      go_wp2_with fail
      refine (awake_any _).mono ?_
      rintro e w1 ⟨rfl, hb⟩
      replace HB := Lib.hid (HB.out.trans (hb.mono HB.out.size))
      replace H := Lib.hid (H.out.below hb)
      clear hb
      go_wp2_with fail
      refine (few_any _ _ _ H.out hl).mono ?_
      rintro e w2 ⟨rfl, rfl⟩
      rw [Hfew.out]
      go_wp2_with fail
      refine (rvalid_any _ _ _ H.out HL.out).mono ?_
      rintro e w2 ⟨rfl, hb⟩
      rw [Hvb.out]
      replace HB := Lib.hid (HB.out.trans (hb.mono HB.out.size))
      clear hb
      go_wp2
      go_ret
      exact ⟨rfl, HB.out⟩
end Go.Proofs.Ytnhhhnhakpambaa
