/- GraphReach: for every input the law returns true. -/
import Derived.Test.YtnhhhnhakpambaaGraphUni
namespace Go.Proofs.Ytnhhhnhakpambaa
open Go.RowKit

theorem sl_head {w : World} {A : Option Addr} {c : Nat} {l : List Int} (h : Sl iv w (.slice A l.length c) l) (hp : 0 < l.length) : ∃ (ad : Addr) (x : Int), A = some ad ∧ w.cell? ad = some (.int .i64 x) := by
  obtain ⟨ad, c', hs, _, hcell⟩ := sl_cell h 0 hp
  simp only [Value.slice.injEq, true_and] at hs
  refine ⟨ad, l[0], hs.1, ?_⟩
  have : ad.add 0 = ad := by unfold Addr.add; split <;> simp_all
  rwa [this] at hcell
set_option maxRecDepth 100000 in
set_option maxHeartbeats 4000000 in
theorem graphreach_walk (A : Option Addr) (c : Nat) (g : List (List Int)) (A1 : Option Addr) (c1 : Nat) (l : List Int) (t : Int) (w : World) (h : Gr iv w (.slice A g.length c) g) (hl : g.length ≤ 17592186044000) (hn : Sl iv w (.slice A1 l.length c1) l) (hnl : l.length ≤ 17592186044000) (_ : I64 t) :
    Calls Try.prog 4 #[.slice A g.length c, .slice A1 l.length c1, .int .i64 t] w (Ok w) := by
  have H := Lib.hid h; have HN := Lib.hid hn
  have HB := Lib.hid (Below.refl w.heap.size w)
  clear h hn
  cases hfew : fewb g with
  | false =>
    have Hfew := Lib.hid hfew
    clear hfew
    go_enter Try.func4, Try.ntmps4
    go_wp2_with fail
    refine (awake_any _).mono ?_
    rintro e w1 ⟨rfl, hb⟩
    replace HB := Lib.hid (HB.out.trans (hb.mono HB.out.size))
    replace H := Lib.hid (H.out.below hb)
    clear hb
    go_wp2_with fail
    refine (few_any _ _ _ H.out hl).mono ?_
    rintro e w2 ⟨rfl, rfl⟩
    rw [Hfew.out]
    go_wp2
    go_ret
    exact ⟨rfl, HB.out⟩
  | true =>
    have Hfew := Lib.hid hfew
    have hL := few_lim hfew
    have hn60 := few_len hfew
    have HL := Lib.hid hL
    clear hfew hL
    go_enter Try.func4, Try.ntmps4
    go_wp2_with fail
    refine (awake_any _).mono ?_
    rintro e w1 ⟨rfl, hb⟩
    replace HB := Lib.hid (HB.out.trans (hb.mono HB.out.size))
    replace H := Lib.hid (H.out.below hb)
    replace HN := Lib.hid (HN.out.below hb)
    clear hb
    go_wp2_with fail
    refine (few_any _ _ _ H.out hl).mono ?_
    rintro e w2 ⟨rfl, rfl⟩
    rw [Hfew.out]
    by_cases h20 : l.length ≤ 20
    · go_wp2_with fail
      refine (reach_u _ _ g l _ H.out HL.out HN.out (by omega)).mono ?_
      rintro e w3 ⟨va, r, ec, rfl, hr, hsa, hb⟩
      replace HB := Lib.hid (HB.out.trans (hb.mono HB.out.size))
      replace H := Lib.hid (H.out.below hb)
      replace HN := Lib.hid (HN.out.below hb)
      have Hr := Lib.hid hr; have Ha := Lib.hid hsa
      have hrl := hr.len
      obtain ⟨Aa, ca, rfl⟩ := hsa.shape
      clear hb hr hsa
      go_wp2_with fail
      refine (rreach_u _ _ g l _ H.out HL.out HN.out (by omega)).mono ?_
      rintro e w4 ⟨vb, r2, ec2, rfl, hr, hsb, hb⟩
      obtain ⟨rfl, rfl⟩ := Hr.out.unique hr
      replace HB := Lib.hid (HB.out.trans (hb.mono HB.out.size))
      replace H := Lib.hid (H.out.below hb)
      replace HN := Lib.hid (HN.out.below hb)
      replace Ha := Lib.hid (Ha.out.below hb)
      have Hbv := Lib.hid hsb
      obtain ⟨Ab, cb, rfl⟩ := hsb.shape
      clear hb hr hsb Hr
      go_wp2_with fail
      refine (dist_u _ _ g l _ H.out HL.out HN.out (by omega)).mono ?_
      rintro e w5 ⟨vc, d, fc, rfl, hd, hsc, hb⟩
      replace HB := Lib.hid (HB.out.trans (hb.mono HB.out.size))
      replace H := Lib.hid (H.out.below hb)
      replace HN := Lib.hid (HN.out.below hb)
      replace Ha := Lib.hid (Ha.out.below hb)
      replace Hbv := Lib.hid (Hbv.out.below hb)
      have Hd := Lib.hid hd; have Hc := Lib.hid hsc
      have hdl := hd.len
      obtain ⟨Ac, cc, rfl⟩ := hsc.shape
      clear hb hd hsc
      go_wp2_with fail
      refine (rdist_u _ _ g l _ H.out HL.out HN.out (by omega)).mono ?_
      rintro e w6 ⟨vd, d2, fc2, rfl, hd, hsd, hb⟩
      obtain ⟨rfl, rfl⟩ := Hd.out.unique hd
      replace HB := Lib.hid (HB.out.trans (hb.mono HB.out.size))
      replace H := Lib.hid (H.out.below hb)
      replace HN := Lib.hid (HN.out.below hb)
      replace Ha := Lib.hid (Ha.out.below hb)
      replace Hbv := Lib.hid (Hbv.out.below hb)
      replace Hc := Lib.hid (Hc.out.below hb)
      have Hdv := Lib.hid hsd
      obtain ⟨Ad, cd, rfl⟩ := hsd.shape
      have hne : (ec != ec) = false := by simp
      have hne2 : (fc != fc) = false := by simp
      clear hb hd hsd Hd
      go_wp2_with fail
      refine (nsame_b Ha.out Hbv.out (by omega) (by omega)).mono ?_
      rintro e w7 ⟨rfl, hb⟩
      rw [decide_eq_true rfl]
      replace HB := Lib.hid (HB.out.trans (hb.mono HB.out.size))
      replace H := Lib.hid (H.out.below hb)
      replace HN := Lib.hid (HN.out.below hb)
      replace Hc := Lib.hid (Hc.out.below hb)
      replace Hdv := Lib.hid (Hdv.out.below hb)
      clear hb Ha Hbv
      go_wp2_with fail
      refine (isame_b Hc.out Hdv.out (by omega) (by omega)).mono ?_
      rintro e w8 ⟨rfl, hb⟩
      rw [decide_eq_true rfl]
      replace HB := Lib.hid (HB.out.trans (hb.mono HB.out.size))
      replace H := Lib.hid (H.out.below hb)
      replace HN := Lib.hid (HN.out.below hb)
      clear hb Hc Hdv hne hne2
      by_cases hp : 0 < l.length
      · obtain ⟨ad, x, rfl, hcx⟩ := sl_head HN.out hp
        go_wp2_with fail
        refine (path_u _ g x t _ H.out HL.out).mono ?_
        rintro e w9 ⟨vp, p, pc, rfl, hps, hsp, hb⟩
        replace HB := Lib.hid (HB.out.trans (hb.mono HB.out.size))
        replace H := Lib.hid (H.out.below hb)
        have Hps := Lib.hid hps; have Hpv := Lib.hid hsp
        have hpl := hps.len
        obtain ⟨Ap, cp, rfl⟩ := hsp.shape
        clear hb hps hsp
        go_wp2_with fail
        refine (rpath_u _ g x t _ H.out HL.out).mono ?_
        rintro e w10 ⟨vq, p2, pc2, rfl, hps, hsq, hb⟩
        obtain ⟨rfl, rfl⟩ := Hps.out.unique hps
        replace HB := Lib.hid (HB.out.trans (hb.mono HB.out.size))
        replace Hpv := Lib.hid (Hpv.out.below hb)
        have Hqv := Lib.hid hsq
        obtain ⟨Aq, cq, rfl⟩ := hsq.shape
        have heq : (pc == pc) = true := by simp
        clear hb hps hsq Hps
        go_wp2_with fail
        refine (nsame_b Hpv.out Hqv.out (by omega) (by omega)).mono ?_
        rintro e w11 ⟨rfl, hb⟩
        rw [decide_eq_true rfl]
        replace HB := Lib.hid (HB.out.trans (hb.mono HB.out.size))
        clear hb
        go_wp2
        go_ret
        exact ⟨rfl, HB.out⟩
      · have hp0 : l.length ≤ 0 := by omega
        go_wp2_with fail
        refine (path_u _ g 0 t _ H.out HL.out).mono ?_
        rintro e w9 ⟨vp, p, pc, rfl, hps, hsp, hb⟩
        replace HB := Lib.hid (HB.out.trans (hb.mono HB.out.size))
        replace H := Lib.hid (H.out.below hb)
        have Hps := Lib.hid hps; have Hpv := Lib.hid hsp
        have hpl := hps.len
        obtain ⟨Ap, cp, rfl⟩ := hsp.shape
        clear hb hps hsp
        go_wp2_with fail
        refine (rpath_u _ g 0 t _ H.out HL.out).mono ?_
        rintro e w10 ⟨vq, p2, pc2, rfl, hps, hsq, hb⟩
        obtain ⟨rfl, rfl⟩ := Hps.out.unique hps
        replace HB := Lib.hid (HB.out.trans (hb.mono HB.out.size))
        replace Hpv := Lib.hid (Hpv.out.below hb)
        have Hqv := Lib.hid hsq
        obtain ⟨Aq, cq, rfl⟩ := hsq.shape
        have heq : (pc == pc) = true := by simp
        clear hb hps hsq Hps
        go_wp2_with fail
        refine (nsame_b Hpv.out Hqv.out (by omega) (by omega)).mono ?_
        rintro e w11 ⟨rfl, hb⟩
        rw [decide_eq_true rfl]
        replace HB := Lib.hid (HB.out.trans (hb.mono HB.out.size))
        clear hb
        go_wp2
        go_ret
        exact ⟨rfl, HB.out⟩
    · go_wp2
      go_ret
      exact ⟨rfl, HB.out⟩
end Go.Proofs.Ytnhhhnhakpambaa
