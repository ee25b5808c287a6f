/- GraphParts: for every input the law returns true. -/
import Derived.Test.YtnhhhnhakpambaaRCond
namespace Go.Proofs.Ytnhhhnhakpambaa
open Go.RowKit

set_option maxHeartbeats 1000000 in
theorem comps_err (v : Value) (g : List (List Int)) (w : World) (h : Gr iv w v g) (hl : Lim g) (hc : vb g = false) :
    Calls Try.prog 28 #[v] w (ErrR 1 w) := by
  obtain ⟨A, c, rfl⟩ := h.shape
  have H := Lib.hid h; have HL := Lib.hid hl
  have hcb : chk g [] = 1 := by unfold chk; rw [hc]; rfl
  have Hcb := Lib.hid hcb
  clear h hl hc hcb
  go_enter Try.func28, Try.ntmps28
  go_wp2_with fail
  refine (check_any _ _ _ [] _ H.out HL.out Sl.nil (by simp)).mono ?_
  rintro e w0 ⟨rfl, hb0⟩
  rw [Hcb.out]
  go_wp2
  go_ret2
  exact ⟨rfl, hb0⟩
set_option maxHeartbeats 1000000 in
theorem condense_err (v : Value) (g : List (List Int)) (w : World) (h : Gr iv w v g) (hl : Lim g) (hc : vb g = false) :
    Calls Try.prog 30 #[v] w (ErrR 1 w) := by
  obtain ⟨A, c, rfl⟩ := h.shape
  have H := Lib.hid h; have HL := Lib.hid hl
  have hcb : chk g [] = 1 := by unfold chk; rw [hc]; rfl
  have Hcb := Lib.hid hcb
  clear h hl hc hcb
  go_enter Try.func30, Try.ntmps30
  go_wp2_with fail
  refine (check_any _ _ _ [] _ H.out HL.out Sl.nil (by simp)).mono ?_
  rintro e w0 ⟨rfl, hb0⟩
  rw [Hcb.out]
  go_wp2
  go_ret2
  exact ⟨rfl, hb0⟩
set_option maxHeartbeats 1000000 in
theorem order_err (v : Value) (g : List (List Int)) (w : World) (h : Gr iv w v g) (hl : Lim g) (hc : vb g = false) :
    Calls Try.prog 32 #[v] w (ErrR 1 w) := by
  obtain ⟨A, c, rfl⟩ := h.shape
  have H := Lib.hid h; have HL := Lib.hid hl
  have hcb : chk g [] = 1 := by unfold chk; rw [hc]; rfl
  have Hcb := Lib.hid hcb
  clear h hl hc hcb
  go_enter Try.func32, Try.ntmps32
  go_wp2_with fail
  refine (check_any _ _ _ [] _ H.out HL.out Sl.nil (by simp)).mono ?_
  rintro e w0 ⟨rfl, hb0⟩
  rw [Hcb.out]
  go_wp2
  go_ret2
  exact ⟨rfl, hb0⟩
set_option maxHeartbeats 1000000 in
theorem rcomps_err (v : Value) (g : List (List Int)) (w : World) (h : Gr iv w v g) (hl : Lim g) (hc : vb g = false) :
    Calls Try.prog 29 #[v] w (ErrR 1 w) := by
  obtain ⟨A, c, rfl⟩ := h.shape
  have H := Lib.hid h; have HL := Lib.hid hl; have HC := Lib.hid hc
  clear h hl hc
  go_enter Try.func29, Try.ntmps29
  go_wp2_with fail
  refine (rback_err _ g _ H.out HL.out HC.out).mono ?_
  rintro e w0 ⟨rfl, hb0⟩
  go_wp2
  go_ret2
  exact ⟨rfl, hb0⟩
set_option maxHeartbeats 1000000 in
theorem rcond_err (v : Value) (g : List (List Int)) (w : World) (h : Gr iv w v g) (hl : Lim g) (hc : vb g = false) :
    Calls Try.prog 31 #[v] w (ErrR 1 w) := by
  obtain ⟨A, c, rfl⟩ := h.shape
  have H := Lib.hid h; have HL := Lib.hid hl; have HC := Lib.hid hc
  clear h hl hc
  go_enter Try.func31, Try.ntmps31
  go_wp2_with fail
  refine (rcomps_err _ g _ H.out HL.out HC.out).mono ?_
  rintro e w0 ⟨rfl, hb0⟩
  go_wp2
  go_ret2
  exact ⟨rfl, hb0⟩
set_option maxHeartbeats 1000000 in
theorem rorder_err (v : Value) (g : List (List Int)) (w : World) (h : Gr iv w v g) (hl : Lim g) (hc : vb g = false) :
    Calls Try.prog 33 #[v] w (ErrR 1 w) := by
  obtain ⟨A, c, rfl⟩ := h.shape
  have H := Lib.hid h; have HL := Lib.hid hl; have HC := Lib.hid hc
  clear h hl hc
  go_enter Try.func33, Try.ntmps33
  go_wp2_with fail
  refine (rback_err _ g _ H.out HL.out HC.out).mono ?_
  rintro e w0 ⟨rfl, hb0⟩
  go_wp2
  go_ret2
  exact ⟨rfl, hb0⟩
def CompsT (g : List (List Nat)) (w : World) (e : Ending) (w' : World) : Prop := ∃ M pv, LdM g M ∧ e = .returned (.tuple #[pv, .int .i64 0]) ∧ Gr nv w' pv (compS M g.length) ∧ Below w.heap.size w w'
theorem comps_t (v : Value) (g : List (List Nat)) (w : World) (h : Gr nv w v g) (hg : VG g) :
    Calls Try.prog 28 #[v] w (CompsT g w) := by
  refine (comps_ok v g w h hg).mono ?_
  rintro e w' ⟨s, M, pv, h1, h2, h3, h4, h5, h6, rfl, h7, hb⟩
  have hld : LdM g M := ⟨⟨s, h1, h2, h3, h4⟩, h5, h6⟩
  rw [hld.comps] at h7
  exact ⟨M, pv, hld, rfl, h7, hb⟩
theorem compS_lim {M : List Nat} {N : Nat} (hN : N ≤ 60) : Lim (compS M N) := by
  refine ⟨Nat.le_trans (compS_len M N) (by omega), fun i => ?_⟩
  have := nodup_lt (comp_nodup M N i) (fun x hx => ((mem_comp M).1 hx).1)
  omega
theorem nsame_eq {va vb' : Value} {a : List Nat} {w : World} (ha : Sl nv w va a) (hb : Sl nv w vb' a) (la : a.length ≤ 10000) :
    Calls Try.prog 25 #[va, vb'] w (BoolB true w) :=
  (nsame_b ha hb la la).mono fun _ _ ⟨h1, h2⟩ => ⟨by rw [h1, decide_eq_true rfl], h2⟩
theorem lim_nil : Lim ([] : List (List Nat)) := ⟨by simp, fun i => by simp [row]⟩
set_option maxRecDepth 100000 in
set_option maxHeartbeats 4000000 in
theorem graphparts_walk (A : Option Addr) (c : Nat) (g : List (List Int)) (w : World) (h : Gr iv w (.slice A g.length c) g) (hl : g.length ≤ 17592186044000) :
    Calls Try.prog 5 #[.slice A g.length c] w (Ok w) := by
  have H := Lib.hid h
  have HB := Lib.hid (Below.refl w.heap.size w)
  clear h
  cases hfew : fewb g with
  | false =>
    have Hfew := Lib.hid hfew
    clear hfew
    go_enter Try.func5, Try.ntmps5
    go_wp2_with fail
    refine (awake_any _).mono ?_
    rintro e w1 ⟨rfl, hb⟩
    replace HB := Lib.hid (HB.out.trans (hb.mono HB.out.size))
    replace H := Lib.hid (H.out.below hb)
    clear hb
    go_wp2_with fail
    refine (few_any _ _ _ H.out hl).mono ?_
    rintro e w2 ⟨rfl, rfl⟩
    rw [Hfew.out]
    go_wp2
    go_ret
    exact ⟨rfl, HB.out⟩
  | true =>
    have Hfew := Lib.hid hfew
    have HL := Lib.hid (few_lim hfew)
    have hn60 := few_len hfew
    clear hfew
    by_cases hv : VldI g
    · obtain ⟨gn, rfl, hvg⟩ := hv.vg
      have Hg := Lib.hid hvg
      rw [cst_len] at hn60
      clear hv hvg
      go_enter Try.func5, Try.ntmps5
      go_wp2_with fail
      refine (awake_any _).mono ?_
      rintro e w1 ⟨rfl, hb⟩
      replace HB := Lib.hid (HB.out.trans (hb.mono HB.out.size))
      replace H := Lib.hid (H.out.below hb)
      clear hb
      go_wp2_with fail
      refine (few_any _ _ _ H.out hl).mono ?_
      rintro e w2 ⟨rfl, rfl⟩
      rw [Hfew.out]
      have Hn := Lib.hid H.out.uncst
      clear H
      go_wp2_with fail
      refine (comps_t _ gn _ Hn.out Hg.out).mono ?_
      rintro e w3 ⟨M, pa, hM, rfl, hga, hb⟩
      replace HB := Lib.hid (HB.out.trans (hb.mono HB.out.size))
      replace Hn := Lib.hid (Hn.out.below hb)
      have HM := Lib.hid hM; have Ha := Lib.hid hga
      obtain ⟨Aa, ca, rfl⟩ := hga.shape
      clear hb hM hga
      go_wp2_with fail
      refine (rcomps_ok _ gn M _ Hn.out Hg.out HM.out hn60).mono ?_
      rintro e w4 ⟨pb, rfl, hgb, hb⟩
      replace HB := Lib.hid (HB.out.trans (hb.mono HB.out.size))
      replace Hn := Lib.hid (Hn.out.below hb)
      replace Ha := Lib.hid (Ha.out.below hb)
      have Hbv := Lib.hid hgb
      obtain ⟨Ab, cb, rfl⟩ := hgb.shape
      clear hb hgb
      go_wp2_with fail
      refine (condense_ok _ gn _ Hn.out Hg.out).mono ?_
      rintro e w5 ⟨M2, A3, c3, hM2, rfl, hgc, hb⟩
      replace HB := Lib.hid (HB.out.trans (hb.mono HB.out.size))
      replace Hn := Lib.hid (Hn.out.below hb)
      replace Ha := Lib.hid (Ha.out.below hb)
      replace Hbv := Lib.hid (Hbv.out.below hb)
      have HM2 := Lib.hid hM2; have Hc := Lib.hid hgc
      clear hb hM2 hgc
      go_wp2_with fail
      refine (rcond_ok _ gn M2 _ Hn.out Hg.out HM2.out hn60).mono ?_
      rintro e w6 ⟨pd, rfl, hgd, hb⟩
      replace HB := Lib.hid (HB.out.trans (hb.mono HB.out.size))
      replace Hn := Lib.hid (Hn.out.below hb)
      replace Ha := Lib.hid (Ha.out.below hb)
      replace Hbv := Lib.hid (Hbv.out.below hb)
      replace Hc := Lib.hid (Hc.out.below hb)
      have Hd := Lib.hid hgd
      obtain ⟨Ad, cd, rfl⟩ := hgd.shape
      clear hb hgd
      go_wp2_with fail
      refine (order_any _ gn _ Hn.out Hg.out).mono ?_
      rintro e w7 (⟨l, vx, hl1, rfl, hsx, hb⟩ | ⟨hno, rfl, hb⟩)
      · replace HB := Lib.hid (HB.out.trans (hb.mono HB.out.size))
        replace Hn := Lib.hid (Hn.out.below hb)
        replace Ha := Lib.hid (Ha.out.below hb)
        replace Hbv := Lib.hid (Hbv.out.below hb)
        replace Hc := Lib.hid (Hc.out.below hb)
        replace Hd := Lib.hid (Hd.out.below hb)
        have Hx := Lib.hid hsx; have Hl1 := Lib.hid hl1
        have hll : l.length ≤ 60 := by rw [(ordM_ord hl1).len]; exact hn60
        obtain ⟨Ax, cx, rfl⟩ := hsx.shape
        clear hb hsx hl1
        go_wp2_with fail
        refine (rorder_ok _ gn _ Hn.out Hg.out).mono ?_
        rintro e w8 (⟨l2, vy, hl2, rfl, hsy, hb⟩ | ⟨hno, rfl, hb⟩)
        · obtain rfl : l = l2 := by have := Hl1.out; rw [hl2] at this; exact (Option.some.inj this).symm
          replace HB := Lib.hid (HB.out.trans (hb.mono HB.out.size))
          replace Ha := Lib.hid (Ha.out.below hb)
          replace Hbv := Lib.hid (Hbv.out.below hb)
          replace Hc := Lib.hid (Hc.out.below hb)
          replace Hd := Lib.hid (Hd.out.below hb)
          replace Hx := Lib.hid (Hx.out.below hb)
          have Hy := Lib.hid hsy
          obtain ⟨Ay, cy, rfl⟩ := hsy.shape
          clear hb hsy hl2 Hl1
          go_wp2_with fail
          refine (rgsame_eq Ha.out Hbv.out (compS_lim hn60)).mono ?_
          rintro e w9 ⟨rfl, hb⟩
          replace HB := Lib.hid (HB.out.trans (hb.mono HB.out.size))
          replace Hc := Lib.hid (Hc.out.below hb)
          replace Hd := Lib.hid (Hd.out.below hb)
          replace Hx := Lib.hid (Hx.out.below hb)
          replace Hy := Lib.hid (Hy.out.below hb)
          clear hb
          go_wp2_with fail
          refine (rgsame_eq Hc.out Hd.out (edC_vg Hg.out M2).lim).mono ?_
          rintro e w10 ⟨rfl, hb⟩
          replace HB := Lib.hid (HB.out.trans (hb.mono HB.out.size))
          replace Hx := Lib.hid (Hx.out.below hb)
          replace Hy := Lib.hid (Hy.out.below hb)
          clear hb
          go_wp2_with fail
          refine (nsame_eq Hx.out Hy.out (by omega)).mono ?_
          rintro e w11 ⟨rfl, hb⟩
          replace HB := Lib.hid (HB.out.trans (hb.mono HB.out.size))
          clear hb
          go_wp2
          go_ret
          exact ⟨rfl, HB.out⟩
        · have := Hl1.out; rw [hno] at this; cases this
      · replace HB := Lib.hid (HB.out.trans (hb.mono HB.out.size))
        replace Hn := Lib.hid (Hn.out.below hb)
        replace Ha := Lib.hid (Ha.out.below hb)
        replace Hbv := Lib.hid (Hbv.out.below hb)
        replace Hc := Lib.hid (Hc.out.below hb)
        replace Hd := Lib.hid (Hd.out.below hb)
        have Hno := Lib.hid hno
        clear hb hno
        go_wp2_with fail
        refine (rorder_ok _ gn _ Hn.out Hg.out).mono ?_
        rintro e w8 (⟨l2, vy, hl2, rfl, hsy, hb⟩ | ⟨hno, rfl, hb⟩)
        · have := Hno.out; rw [hl2] at this; cases this
        · replace HB := Lib.hid (HB.out.trans (hb.mono HB.out.size))
          replace Ha := Lib.hid (Ha.out.below hb)
          replace Hbv := Lib.hid (Hbv.out.below hb)
          replace Hc := Lib.hid (Hc.out.below hb)
          replace Hd := Lib.hid (Hd.out.below hb)
          clear hb hno Hno
          go_wp2_with fail
          refine (rgsame_eq Ha.out Hbv.out (compS_lim hn60)).mono ?_
          rintro e w9 ⟨rfl, hb⟩
          replace HB := Lib.hid (HB.out.trans (hb.mono HB.out.size))
          replace Hc := Lib.hid (Hc.out.below hb)
          replace Hd := Lib.hid (Hd.out.below hb)
          clear hb
          go_wp2_with fail
          refine (rgsame_eq Hc.out Hd.out (edC_vg Hg.out M2).lim).mono ?_
          rintro e w10 ⟨rfl, hb⟩
          replace HB := Lib.hid (HB.out.trans (hb.mono HB.out.size))
          clear hb
          go_wp2_with fail
          refine (nsame_eq (a := []) Sl.nil Sl.nil (by simp)).mono ?_
          rintro e w11 ⟨rfl, hb⟩
          replace HB := Lib.hid (HB.out.trans (hb.mono HB.out.size))
          clear hb
          go_wp2
          go_ret
          exact ⟨rfl, HB.out⟩
    · have Hv := Lib.hid (vb_false hv)
      clear hv
      go_enter Try.func5, Try.ntmps5
      go_wp2_with fail
      refine (awake_any _).mono ?_
      rintro e w1 ⟨rfl, hb⟩
      replace HB := Lib.hid (HB.out.trans (hb.mono HB.out.size))
      replace H := Lib.hid (H.out.below hb)
      clear hb
      go_wp2_with fail
      refine (few_any _ _ _ H.out hl).mono ?_
      rintro e w2 ⟨rfl, rfl⟩
      rw [Hfew.out]
      go_wp2_with fail
      refine (comps_err _ g _ H.out HL.out Hv.out).mono ?_
      rintro e w3 ⟨rfl, hb⟩
      replace HB := Lib.hid (HB.out.trans (hb.mono HB.out.size))
      replace H := Lib.hid (H.out.below hb)
      clear hb
      go_wp2_with fail
      refine (rcomps_err _ g _ H.out HL.out Hv.out).mono ?_
      rintro e w4 ⟨rfl, hb⟩
      replace HB := Lib.hid (HB.out.trans (hb.mono HB.out.size))
      replace H := Lib.hid (H.out.below hb)
      clear hb
      go_wp2_with fail
      refine (condense_err _ g _ H.out HL.out Hv.out).mono ?_
      rintro e w5 ⟨rfl, hb⟩
      replace HB := Lib.hid (HB.out.trans (hb.mono HB.out.size))
      replace H := Lib.hid (H.out.below hb)
      clear hb
      go_wp2_with fail
      refine (rcond_err _ g _ H.out HL.out Hv.out).mono ?_
      rintro e w6 ⟨rfl, hb⟩
      replace HB := Lib.hid (HB.out.trans (hb.mono HB.out.size))
      replace H := Lib.hid (H.out.below hb)
      clear hb
      go_wp2_with fail
      refine (order_err _ g _ H.out HL.out Hv.out).mono ?_
      rintro e w7 ⟨rfl, hb⟩
      replace HB := Lib.hid (HB.out.trans (hb.mono HB.out.size))
      replace H := Lib.hid (H.out.below hb)
      clear hb
      go_wp2_with fail
      refine (rorder_err _ g _ H.out HL.out Hv.out).mono ?_
      rintro e w8 ⟨rfl, hb⟩
      replace HB := Lib.hid (HB.out.trans (hb.mono HB.out.size))
      replace H := Lib.hid (H.out.below hb)
      clear hb
      go_wp2_with fail
      refine (rgsame_eq (a := []) Gr.nil Gr.nil lim_nil).mono ?_
      rintro e w9 ⟨rfl, hb⟩
      replace HB := Lib.hid (HB.out.trans (hb.mono HB.out.size))
      clear hb
      go_wp2_with fail
      refine (rgsame_eq (a := []) Gr.nil Gr.nil lim_nil).mono ?_
      rintro e w10 ⟨rfl, hb⟩
      replace HB := Lib.hid (HB.out.trans (hb.mono HB.out.size))
      clear hb
      go_wp2_with fail
      refine (nsame_eq (a := []) Sl.nil Sl.nil (by simp)).mono ?_
      rintro e w11 ⟨rfl, hb⟩
      replace HB := Lib.hid (HB.out.trans (hb.mono HB.out.size))
      clear hb
      go_wp2
      go_ret
      exact ⟨rfl, HB.out⟩
end Go.Proofs.Ytnhhhnhakpambaa
