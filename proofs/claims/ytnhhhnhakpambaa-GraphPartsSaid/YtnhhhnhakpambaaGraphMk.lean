/- GraphMakes: for every input the law returns true. -/
import Derived.Test.YtnhhhnhakpambaaRMake
import Derived.Test.YtnhhhnhakpambaaGraphUni
namespace Go.Proofs.Ytnhhhnhakpambaa
open Go.RowKit

def BS (g : List (List Int)) (c : Int) (r : List (List Nat)) : Prop := (vb g = false ∧ c = 1 ∧ r = []) ∨ ∃ gn : List (List Nat), g = cst gn ∧ VG gn ∧ c = 0 ∧ r = revM gn
theorem BS.unique {g : List (List Int)} {c c' : Int} {r r' : List (List Nat)} (h : BS g c r) (h' : BS g c' r') : c = c' ∧ r = r' := by
  rcases h with ⟨h0, rfl, rfl⟩ | ⟨gn, rfl, hg, rfl, rfl⟩
  · rcases h' with ⟨_, rfl, rfl⟩ | ⟨gn, rfl, hg, rfl, rfl⟩
    · exact ⟨rfl, rfl⟩
    · rw [vb_true hg.vldI] at h0; cases h0
  · rcases h' with ⟨h0, rfl, rfl⟩ | ⟨gn', h1, hg', rfl, rfl⟩
    · rw [vb_true hg.vldI] at h0; cases h0
    · obtain rfl := cst_inj.1 h1
      exact ⟨rfl, rfl⟩
theorem BS.vg {g : List (List Int)} {c : Int} {r : List (List Nat)} (h : BS g c r) : VG r := by
  rcases h with ⟨h0, rfl, rfl⟩ | ⟨gn, rfl, hg, rfl, rfl⟩
  · exact vg_none (n := 0) (by omega)
  · exact revM_vg hg
def BackU (g : List (List Int)) (w : World) (e : Ending) (w' : World) : Prop := ∃ v r c, e = .returned (.tuple #[v, .int .i64 c]) ∧ BS g c r ∧ Gr nv w' v r ∧ Below w.heap.size w w'
theorem back_u (v : Value) (g : List (List Int)) (w : World) (h : Gr iv w v g) (hl : Lim g) : Calls Try.prog 15 #[v] w (BackU g w) := by
  by_cases hv : VldI g
  · obtain ⟨gn, rfl, hg⟩ := hv.vg
    refine (back_ok v gn w h.uncst hg).mono ?_
    rintro e w' ⟨A, c, rfl, hgr, hb⟩
    exact ⟨_, _, 0, rfl, .inr ⟨gn, rfl, hg, rfl, rfl⟩, hgr, hb⟩
  · exact (back_err v g w h hl (vb_false hv)).mono fun _ _ ⟨h1, h2⟩ => ⟨_, [], 1, h1, .inl ⟨vb_false hv, rfl, rfl⟩, Gr.nil, h2⟩
theorem rback_u (v : Value) (g : List (List Int)) (w : World) (h : Gr iv w v g) (hl : Lim g) : Calls Try.prog 16 #[v] w (BackU g w) := by
  by_cases hv : VldI g
  · obtain ⟨gn, rfl, hg⟩ := hv.vg
    refine (rback_ok v gn w h.uncst hg).mono ?_
    rintro e w' ⟨A, c, rfl, hgr, hb⟩
    exact ⟨_, _, 0, rfl, .inr ⟨gn, rfl, hg, rfl, rfl⟩, hgr, hb⟩
  · exact (rback_err v g w h hl (vb_false hv)).mono fun _ _ ⟨h1, h2⟩ => ⟨_, [], 1, h1, .inl ⟨vb_false hv, rfl, rfl⟩, Gr.nil, h2⟩
theorem rgsame_eq {va vb' : Value} {a : List (List Nat)} {w : World} (ha : Gr nv w va a) (hb : Gr nv w vb' a) (la : Lim a) :
    Calls Try.prog 17 #[va, vb'] w (BoolB true w) :=
  (rgsame_n ha hb la la).mono fun _ _ ⟨h1, h2⟩ => ⟨by rw [h1, decide_eq_true rfl], h2⟩
theorem valid_vg {v : Value} {a : List (List Nat)} {w : World} (ha : Gr nv w v a) (hg : VG a) :
    Calls Try.prog 18 #[v] w (BoolB true w) :=
  (valid_any v (cst a) w ha.cst hg.lim.cst).mono fun _ _ ⟨h1, h2⟩ => ⟨by rw [h1, vb_true hg.vldI], h2⟩
theorem valid_b {v : Value} {g : List (List Int)} {w : World} {bb : Bool} (hb : vb g = bb) (h : Gr iv w v g) (hl : Lim g) : Calls Try.prog 18 #[v] w (BoolB bb w) :=
  (valid_any v g w h hl).mono fun _ _ ⟨h1, h2⟩ => ⟨by rw [h1, hb], h2⟩
theorem rvalid_b {v : Value} {g : List (List Int)} {w : World} {bb : Bool} (hb : vb g = bb) (h : Gr iv w v g) (hl : Lim g) : Calls Try.prog 19 #[v] w (BoolB bb w) :=
  (rvalid_any v g w h hl).mono fun _ _ ⟨h1, h2⟩ => ⟨by rw [h1, hb], h2⟩
theorem gequal_b {va vb' : Value} {a b : List (List Int)} {w : World} {bb : Bool} (hd : decide (a = b) = bb) (ha : Gr iv w va a) (hb : Gr iv w vb' b) (la : Lim a) (lb : Lim b) :
    Calls Try.prog 20 #[va, vb'] w (BoolB bb w) :=
  (gequal_any va vb' a b w ha hb la lb).mono fun _ _ ⟨h1, h2⟩ => ⟨by rw [h1, hd], h2⟩
theorem rgsame_c {va vb' : Value} {a b : List (List Int)} {w : World} {bb : Bool} (hd : decide (a = b) = bb) (ha : Gr iv w va a) (hb : Gr iv w vb' b) (la : Lim a) (lb : Lim b) :
    Calls Try.prog 17 #[va, vb'] w (BoolB bb w) :=
  (rgsame_b ha hb la lb).mono fun _ _ ⟨h1, h2⟩ => ⟨by rw [h1, hd], h2⟩
set_option maxRecDepth 100000 in
set_option maxHeartbeats 4000000 in
theorem graphmakes_walk (n : Int) (A1 : Option Addr) (c1 : Nat) (es : List (Int × Int)) (A : Option Addr) (c : Nat) (g : List (List Int)) (w : World) (hes : Prs w (.slice A1 es.length c1) es) (hel : es.length ≤ 9223372036854775807) (h : Gr iv w (.slice A g.length c) g) (hl : g.length ≤ 17592186044000) :
    Calls Try.prog 3 #[.int .i64 n, .slice A1 es.length c1, .slice A g.length c] w (Ok w) := by
  have H := Lib.hid h; have HE := Lib.hid hes
  have HB := Lib.hid (Below.refl w.heap.size w)
  clear h hes
  by_cases h100 : es.length ≤ 100
  · cases hfew : fewb g with
    | false =>
      have Hfew := Lib.hid hfew
      clear hfew
      go_enter Try.func3, Try.ntmps3
      go_wp2_with fail
      refine (awake_any _).mono ?_
      rintro e w1 ⟨rfl, hb⟩
      replace HB := Lib.hid (HB.out.trans (hb.mono HB.out.size))
      replace H := Lib.hid (H.out.below hb)
      clear hb
      go_wp2_with fail
      refine (few_any _ _ _ H.out hl).mono ?_
      rintro e w2 ⟨rfl, rfl⟩
      rw [Hfew.out]
      go_wp2
      go_ret
      exact ⟨rfl, HB.out⟩
    | true =>
      have Hfew := Lib.hid hfew
      have HL := Lib.hid (few_lim hfew)
      obtain ⟨bv, hbv⟩ : ∃ bv, vb g = bv := ⟨_, rfl⟩
      have Hbv := Lib.hid hbv
      clear hfew hbv
      go_enter Try.func3, Try.ntmps3
      go_wp2_with fail
      refine (awake_any _).mono ?_
      rintro e w1 ⟨rfl, hb⟩
      replace HB := Lib.hid (HB.out.trans (hb.mono HB.out.size))
      replace H := Lib.hid (H.out.below hb)
      replace HE := Lib.hid (HE.out.below hb)
      clear hb
      go_wp2_with fail
      refine (few_any _ _ _ H.out hl).mono ?_
      rintro e w2 ⟨rfl, rfl⟩
      rw [Hfew.out]
      go_wp2_with fail
      refine (make_u n _ es _ HE.out (by omega)).mono ?_
      rintro e w3 ⟨va, a, ec, rfl, hms, hga, hb⟩
      replace HB := Lib.hid (HB.out.trans (hb.mono HB.out.size))
      replace H := Lib.hid (H.out.below hb)
      replace HE := Lib.hid (HE.out.below hb)
      have Hms := Lib.hid hms; have Ha := Lib.hid hga
      have Hag := Lib.hid hms.vg
      obtain ⟨Aa, ca, rfl⟩ := hga.shape
      clear hb hms hga
      go_wp2_with fail
      refine (rmake_u n _ es _ HE.out (by omega)).mono ?_
      rintro e w4 ⟨vb', a2, ec2, rfl, hms, hgb, hb⟩
      obtain ⟨rfl, rfl⟩ := Hms.out.unique hms
      replace HB := Lib.hid (HB.out.trans (hb.mono HB.out.size))
      replace H := Lib.hid (H.out.below hb)
      replace Ha := Lib.hid (Ha.out.below hb)
      have Hb := Lib.hid hgb
      obtain ⟨Ab, cb, rfl⟩ := hgb.shape
      clear hb hms hgb Hms HE
      go_wp2_with fail
      refine (back_u _ g _ H.out HL.out).mono ?_
      rintro e w5 ⟨vc, r, rc, rfl, hbs, hgc, hb⟩
      replace HB := Lib.hid (HB.out.trans (hb.mono HB.out.size))
      replace H := Lib.hid (H.out.below hb)
      replace Ha := Lib.hid (Ha.out.below hb)
      replace Hb := Lib.hid (Hb.out.below hb)
      have Hbs := Lib.hid hbs; have Hc := Lib.hid hgc
      have Hrg := Lib.hid hbs.vg
      obtain ⟨Ac, cc, rfl⟩ := hgc.shape
      clear hb hbs hgc
      go_wp2_with fail
      refine (rback_u _ g _ H.out HL.out).mono ?_
      rintro e w6 ⟨vd, r2, rc2, rfl, hbs, hgd, hb⟩
      obtain ⟨rfl, rfl⟩ := Hbs.out.unique hbs
      replace HB := Lib.hid (HB.out.trans (hb.mono HB.out.size))
      replace H := Lib.hid (H.out.below hb)
      replace Ha := Lib.hid (Ha.out.below hb)
      replace Hb := Lib.hid (Hb.out.below hb)
      replace Hc := Lib.hid (Hc.out.below hb)
      have Hd := Lib.hid hgd
      obtain ⟨Ad, cd, rfl⟩ := hgd.shape
      have he1 : (ec == ec) = true := by simp
      have he2 : (rc == rc) = true := by simp
      clear hb hbs hgd Hbs
      go_wp2_with fail
      refine (rgsame_eq Ha.out Hb.out Hag.out.lim).mono ?_
      rintro e w7 ⟨rfl, hb⟩
      replace HB := Lib.hid (HB.out.trans (hb.mono HB.out.size))
      replace H := Lib.hid (H.out.below hb)
      replace Ha := Lib.hid (Ha.out.below hb)
      replace Hb := Lib.hid (Hb.out.below hb)
      replace Hc := Lib.hid (Hc.out.below hb)
      replace Hd := Lib.hid (Hd.out.below hb)
      clear hb
      go_wp2_with fail
      refine (rgsame_eq Hc.out Hd.out Hrg.out.lim).mono ?_
      rintro e w8 ⟨rfl, hb⟩
      replace HB := Lib.hid (HB.out.trans (hb.mono HB.out.size))
      replace H := Lib.hid (H.out.below hb)
      replace Ha := Lib.hid (Ha.out.below hb)
      replace Hb := Lib.hid (Hb.out.below hb)
      replace Hc := Lib.hid (Hc.out.below hb)
      clear hb Hd
      go_wp2_with fail
      refine (valid_b Hbv.out H.out HL.out).mono ?_
      rintro e w9 ⟨rfl, hb⟩
      replace HB := Lib.hid (HB.out.trans (hb.mono HB.out.size))
      replace H := Lib.hid (H.out.below hb)
      replace Ha := Lib.hid (Ha.out.below hb)
      replace Hb := Lib.hid (Hb.out.below hb)
      replace Hc := Lib.hid (Hc.out.below hb)
      clear hb
      go_wp2_with fail
      refine (rvalid_b Hbv.out H.out HL.out).mono ?_
      rintro e w10 ⟨rfl, hb⟩
      replace HB := Lib.hid (HB.out.trans (hb.mono HB.out.size))
      replace H := Lib.hid (H.out.below hb)
      replace Ha := Lib.hid (Ha.out.below hb)
      replace Hb := Lib.hid (Hb.out.below hb)
      replace Hc := Lib.hid (Hc.out.below hb)
      have hbb : (bv == bv) = true := by simp
      clear hb
      go_wp2_with fail
      refine (valid_vg Ha.out Hag.out).mono ?_
      rintro e w11 ⟨rfl, hb⟩
      replace HB := Lib.hid (HB.out.trans (hb.mono HB.out.size))
      replace H := Lib.hid (H.out.below hb)
      replace Ha := Lib.hid (Ha.out.below hb)
      replace Hb := Lib.hid (Hb.out.below hb)
      replace Hc := Lib.hid (Hc.out.below hb)
      clear hb
      go_wp2_with fail
      refine (valid_vg Hc.out Hrg.out).mono ?_
      rintro e w12 ⟨rfl, hb⟩
      replace HB := Lib.hid (HB.out.trans (hb.mono HB.out.size))
      replace H := Lib.hid (H.out.below hb)
      replace Ha := Lib.hid (Ha.out.below hb)
      replace Hb := Lib.hid (Hb.out.below hb)
      clear hb Hc
      obtain ⟨be, hbe⟩ : ∃ be, decide (cst a = g) = be := ⟨_, rfl⟩
      have Hbe := Lib.hid hbe
      clear hbe
      go_wp2_with fail
      have Hac := Lib.hid Ha.out.cst
      refine (gequal_b Hbe.out Hac.out H.out Hag.out.lim.cst HL.out).mono ?_
      rintro e w13 ⟨rfl, hb⟩
      replace HB := Lib.hid (HB.out.trans (hb.mono HB.out.size))
      replace H := Lib.hid (H.out.below hb)
      replace Hb := Lib.hid (Hb.out.below hb)
      clear hb Hac
      go_wp2_with fail
      refine (rgsame_c Hbe.out Hb.out.cst H.out Hag.out.lim.cst HL.out).mono ?_
      rintro e w14 ⟨rfl, hb⟩
      replace HB := Lib.hid (HB.out.trans (hb.mono HB.out.size))
      replace H := Lib.hid (H.out.below hb)
      have hbb2 : (be == be) = true := by simp
      clear hb
      go_wp2_with fail
      refine (gequal_b (decide_eq_true (rfl : g = g)) H.out H.out HL.out HL.out).mono ?_
      rintro e w15 ⟨rfl, hb⟩
      replace HB := Lib.hid (HB.out.trans (hb.mono HB.out.size))
      clear hb
      go_wp2
      go_ret
      exact ⟨rfl, HB.out⟩
  · go_enter Try.func3, Try.ntmps3
    go_wp2_with fail
    refine (awake_any _).mono ?_
    rintro e w1 ⟨rfl, hb⟩
    go_wp2
    go_ret
    exact ⟨rfl, hb⟩
end Go.Proofs.Ytnhhhnhakpambaa
