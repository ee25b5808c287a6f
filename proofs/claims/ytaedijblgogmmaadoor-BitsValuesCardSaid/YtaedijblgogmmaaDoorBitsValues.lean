/- BitsValues: for every input the law returns true. -/
import Derived.Test.YtaedijblgogmmaaDoorBitsBlk
namespace Go.Proofs.YtaedijblgogmmaaDoor
open Go.RowKit

set_option maxRecDepth 100000 in
set_option maxHeartbeats 4000000 in
theorem bitsvalues_walk (Aa : Option Addr) (ca : Nat) (a : List Nat) (Ab : Option Addr) (cb : Nat) (b : List Nat) (n : Nat) (w : World) (hT : Tab w) (ha : Sl uv w (.slice Aa a.length ca) a) (wa : Wds a) (la : a.length ≤ 17592186044000) (hb : Sl uv w (.slice Ab b.length cb) b) (wb : Wds b) (lb : b.length ≤ 17592186044000) (hn : n < 65536) :
    Calls Tryd.prog 10 #[.slice Aa a.length ca, .slice Ab b.length cb, .int .u16 (n : Int)] w (Ok w) := by
  have fa : Fine a := ⟨wa, by unfold Room2; omega⟩
  have Ha := Lib.hid ha; have Fa := Lib.hid fa
  have fb : Fine b := ⟨wb, by unfold Room2; omega⟩
  have Hb := Lib.hid hb; have Fb := Lib.hid fb
  have h0a := ha; have h0b := hb
  have HT := Lib.hid hT
  have HB := Lib.hid (Below.refl w.heap.size w)
  clear hT ha wa la fa hb wb lb fb
  by_cases hab : a.length ≤ 70 ∧ b.length ≤ 70
  · have dab := decide_eq_true hab
    have la70 := hab.1
    clear hab
    obtain ⟨k, hk⟩ : ∃ k, k = n % 4096 := ⟨_, rfl⟩
    have hc : (n : Int) % 4096 = (k : Int) := by omega
    have Hk := Lib.hid hk
    have Hc := Lib.hid hc
    clear hk hc
    go_enter Tryd.func10, Tryd.ntmps10
    go_wp2_with fail
    refine (awake_any _ HT.out).mono ?_
    rintro e w1 ⟨rfl, hb⟩
    replace HB := Lib.hid (HB.out.trans (hb.mono HB.out.size))
    replace Ha := Lib.hid (Ha.out.below hb)
    replace Hb := Lib.hid (Hb.out.below hb)
    replace HT := Lib.hid (HT.out.below hb HT.out.size)
    clear hb
    go_wp2_with fail
    refine (few_any _ _ _ _ _ _ _).mono ?_
    rintro e w2 ⟨rfl, rfl⟩
    rw [dab]
    have hg0 : (w1.alloc (.cells #[] 52)).ownsRow w1.heap.size 52 1 (.slice (some ⟨w1.heap.size, 0, none⟩) 0 0) 0 [] := own_litS w1 _ _ 0 _ [] rfl rfl (by decide) rfl
    have HA1 := Lib.hid (Ha.out.below ((Below.refl _ w1).alloc (Nat.le_refl _) (.cells #[] 52)))
    go_wp2_with (at_builtin; refine appS2 (f := uv) rfl _ _ 22 rfl 52 (.int .u64 0) 8 info_u64 rfl (by kernel_rfl) (fun _ => rfl) w1.heap.size _ 0 [] rfl hg0 _ a rfl HA1.out (by omega) (by omega) (by simp) ?_; intro v0 w2 hown hfr hnil)
    rw [Nat.zero_add] at hown
    obtain ⟨g0, cap0, rfl, hg1, hg2, hcap⟩ := own_shapeS hown (fun h => by have := hnil h; cases this)
    have hb : Below w1.heap.size w1 w2 := ((Below.refl _ w1).alloc (Nat.le_refl _) _).trans (hfr.below (by simp))
    have G0 := Lib.hid (Nat.le_trans HB.out.size hg1)
    have HO := Lib.hid (Sl.of_own hown)
    have WO := Lib.hid (WBL.of_row hown Fa.out.1)
    clear hown hfr hnil hg0 HA1 hg1 hg2
    replace HB := Lib.hid (HB.out.trans (hb.mono HB.out.size))
    replace Ha := Lib.hid (Ha.out.below hb)
    replace Hb := Lib.hid (Hb.out.below hb)
    replace HT := Lib.hid (HT.out.below hb HT.out.size)
    clear hb
    go_wp2_with fail
    rw [Hc.out]
    refine (with_any _ _ k _ HO.out Fa.out.2 Fa.out.1).mono ?_
    rintro e w3 ⟨_, rfl, ho, hb⟩
    obtain ⟨g1, n1, m1, rfl, W1, hge, ln1⟩ := ho.blk (Fa.out.withM _).1 (setop_len _ _ _)
    have W1 := Lib.hid W1
    have N1 := Lib.hid (apart_of WO.out hge)
    have ln1 := Lib.hid (And.intro ln1.1 (And.intro ln1.2 (Nat.le_trans HB.out.size hge)))
    clear ho hge
    replace HB := Lib.hid (HB.out.trans (hb.mono HB.out.size))
    replace Ha := Lib.hid (Ha.out.below hb)
    replace Hb := Lib.hid (Hb.out.below hb)
    replace HO := Lib.hid (HO.out.below hb)
    replace WO := Lib.hid (WO.out.below hb)
    replace HT := Lib.hid (HT.out.below hb HT.out.size)
    clear hb
    go_wp2_with fail
    refine (without_any _ _ k _ HO.out Fa.out.2 Fa.out.1).mono ?_
    rintro e w4 ⟨_, rfl, ho, hb⟩
    obtain ⟨g2, n2, m2, rfl, W2, hge, ln2⟩ := ho.blk (Fa.out.withoutM _).1 (setop_len _ _ _)
    have W2 := Lib.hid W2
    have N2 := Lib.hid (apart_of WO.out hge)
    have ln2 := Lib.hid (And.intro ln2.1 (And.intro ln2.2 (Nat.le_trans HB.out.size hge)))
    clear ho hge
    replace HB := Lib.hid (HB.out.trans (hb.mono HB.out.size))
    replace Ha := Lib.hid (Ha.out.below hb)
    replace Hb := Lib.hid (Hb.out.below hb)
    replace HO := Lib.hid (HO.out.below hb)
    replace WO := Lib.hid (WO.out.below hb)
    replace W1 := Lib.hid (W1.out.below hb)
    replace HT := Lib.hid (HT.out.below hb HT.out.size)
    clear hb
    go_wp2_with fail
    refine (union_any _ _ _ _ _ HO.out Hb.out Fa.out.2 Fb.out.2 Fa.out.1 Fb.out.1).mono ?_
    rintro e w5 ⟨_, rfl, ho, hb⟩
    obtain ⟨g3, n3, m3, rfl, W3, hge, ln3⟩ := ho.blk (Fa.out.SU Fb.out).1 (setop_len _ _ _)
    have W3 := Lib.hid W3
    have N3 := Lib.hid (apart_of WO.out hge)
    have ln3 := Lib.hid (And.intro ln3.1 (And.intro ln3.2 (Nat.le_trans HB.out.size hge)))
    clear ho hge
    replace HB := Lib.hid (HB.out.trans (hb.mono HB.out.size))
    replace Ha := Lib.hid (Ha.out.below hb)
    replace Hb := Lib.hid (Hb.out.below hb)
    replace HO := Lib.hid (HO.out.below hb)
    replace WO := Lib.hid (WO.out.below hb)
    replace W1 := Lib.hid (W1.out.below hb)
    replace W2 := Lib.hid (W2.out.below hb)
    replace HT := Lib.hid (HT.out.below hb HT.out.size)
    clear hb
    go_wp2_with fail
    refine (union_any _ _ _ _ _ Hb.out HO.out Fb.out.2 Fa.out.2 Fb.out.1 Fa.out.1).mono ?_
    rintro e w6 ⟨_, rfl, ho, hb⟩
    obtain ⟨g4, n4, m4, rfl, W4, hge, ln4⟩ := ho.blk (Fb.out.SU Fa.out).1 (setop_len _ _ _)
    have W4 := Lib.hid W4
    have N4 := Lib.hid (apart_of WO.out hge)
    have ln4 := Lib.hid (And.intro ln4.1 (And.intro ln4.2 (Nat.le_trans HB.out.size hge)))
    clear ho hge
    replace HB := Lib.hid (HB.out.trans (hb.mono HB.out.size))
    replace Ha := Lib.hid (Ha.out.below hb)
    replace Hb := Lib.hid (Hb.out.below hb)
    replace HO := Lib.hid (HO.out.below hb)
    replace WO := Lib.hid (WO.out.below hb)
    replace W1 := Lib.hid (W1.out.below hb)
    replace W2 := Lib.hid (W2.out.below hb)
    replace W3 := Lib.hid (W3.out.below hb)
    replace HT := Lib.hid (HT.out.below hb HT.out.size)
    clear hb
    go_wp2_with fail
    refine (minus_any _ _ _ _ _ HO.out Hb.out Fa.out.2 Fb.out.2 Fa.out.1 Fb.out.1).mono ?_
    rintro e w7 ⟨_, rfl, ho, hb⟩
    obtain ⟨g5, n5, m5, rfl, W5, hge, ln5⟩ := ho.blk (Fa.out.SM Fb.out).1 (setop_len _ _ _)
    have W5 := Lib.hid W5
    have N5 := Lib.hid (apart_of WO.out hge)
    have ln5 := Lib.hid (And.intro ln5.1 (And.intro ln5.2 (Nat.le_trans HB.out.size hge)))
    clear ho hge
    replace HB := Lib.hid (HB.out.trans (hb.mono HB.out.size))
    replace Ha := Lib.hid (Ha.out.below hb)
    replace Hb := Lib.hid (Hb.out.below hb)
    replace HO := Lib.hid (HO.out.below hb)
    replace WO := Lib.hid (WO.out.below hb)
    replace W1 := Lib.hid (W1.out.below hb)
    replace W2 := Lib.hid (W2.out.below hb)
    replace W3 := Lib.hid (W3.out.below hb)
    replace W4 := Lib.hid (W4.out.below hb)
    replace HT := Lib.hid (HT.out.below hb HT.out.size)
    clear hb
    go_wp2_with fail
    refine (inter_any _ _ _ _ _ HO.out HO.out Fa.out.2 Fa.out.2 Fa.out.1 Fa.out.1).mono ?_
    rintro e w8 ⟨_, rfl, ho, hb⟩
    obtain ⟨g6, n6, m6, rfl, W6, hge, ln6⟩ := ho.blk (Fa.out.SI Fa.out).1 (setop_len _ _ _)
    have W6 := Lib.hid W6
    have N6 := Lib.hid (apart_of WO.out hge)
    have ln6 := Lib.hid (And.intro ln6.1 (And.intro ln6.2 (Nat.le_trans HB.out.size hge)))
    clear ho hge
    replace HB := Lib.hid (HB.out.trans (hb.mono HB.out.size))
    replace Ha := Lib.hid (Ha.out.below hb)
    replace Hb := Lib.hid (Hb.out.below hb)
    replace HO := Lib.hid (HO.out.below hb)
    replace WO := Lib.hid (WO.out.below hb)
    replace W1 := Lib.hid (W1.out.below hb)
    replace W2 := Lib.hid (W2.out.below hb)
    replace W3 := Lib.hid (W3.out.below hb)
    replace W4 := Lib.hid (W4.out.below hb)
    replace W5 := Lib.hid (W5.out.below hb)
    replace HT := Lib.hid (HT.out.below hb HT.out.size)
    clear hb
    obtain ⟨LL, hLL⟩ : ∃ LL : List (Nat × Nat × Nat), LL = [(g1, n1, m1), (g2, n2, m2), (g3, n3, m3), (g4, n4, m4), (g5, n5, m5), (g6, n6, m6)] := ⟨_, rfl⟩
    go_wp2_with fail
    have hl6 : LL.length = 6 := by rw [hLL]; rfl
    have HL : Hid (Sl sv (w8.alloc (.cells #[sv (g1, n1, m1), sv (g2, n2, m2), sv (g3, n3, m3), sv (g4, n4, m4), sv (g5, n5, m5), sv (g6, n6, m6)] 28)) (.slice (some ⟨w8.heap.size, 0, none⟩) 6 6) LL) := lit_sl sv w8 _ _ 6 LL hl6 (by rw [hLL]; rfl) _
    have ND : Hid (∀ p ∈ LL, p.1 ≠ g0 ∧ p.1 < w8.heap.size ∧ w.heap.size ≤ p.1 ∧ p.2.1 ≤ 64 ∧ p.2.1 ≤ p.2.2) := by
      intro p hp
      rw [hLL] at hp
      simp only [List.mem_cons, List.not_mem_nil, or_false] at hp
      rcases hp with rfl | rfl | rfl | rfl | rfl | rfl
      · exact ⟨N1.out, W1.out.2, ln1.out.2.2, ln1.out.1, ln1.out.2.1⟩
      · exact ⟨N2.out, W2.out.2, ln2.out.2.2, ln2.out.1, ln2.out.2.1⟩
      · exact ⟨N3.out, W3.out.2, ln3.out.2.2, ln3.out.1, ln3.out.2.1⟩
      · exact ⟨N4.out, W4.out.2, ln4.out.2.2, ln4.out.1, ln4.out.2.1⟩
      · exact ⟨N5.out, W5.out.2, ln5.out.2.2, ln5.out.1, ln5.out.2.1⟩
      · exact ⟨N6.out, W6.out.2, ln6.out.2.2, ln6.out.1, ln6.out.2.1⟩
    have WW : Hid (∀ p ∈ LL, WBL w8 p.1 p.2.1) := by
      intro p hp
      rw [hLL] at hp
      simp only [List.mem_cons, List.not_mem_nil, or_false] at hp
      rcases hp with rfl | rfl | rfl | rfl | rfl | rfl
      · exact W1.out
      · exact W2.out
      · exact W3.out
      · exact W4.out
      · exact W5.out
      · exact W6.out
    clear W1 N1 ln1 W2 N2 ln2 W3 N3 ln3 W4 N4 ln4 W5 N5 ln5 W6 N6 ln6
    obtain ⟨lst, hlst⟩ : ∃ o, o = Obj.cells #[sv (g1, n1, m1), sv (g2, n2, m2), sv (g3, n3, m3), sv (g4, n4, m4), sv (g5, n5, m5), sv (g6, n6, m6)] 28 := ⟨_, rfl⟩
    rw [← hlst] at HL
    refine (samewords_any _ _ a a _ (HO.out.below ((Below.refl _ w8).alloc (Nat.le_refl _) _)) (Ha.out.below ((Below.refl _ w8).alloc (Nat.le_refl _) _)) Fa.out.2 Fa.out.2).mono ?_
    rintro e w9 ⟨rfl, m0, hw9⟩
    have hw9' : w9 = (w8.alloc lst).drewN m0 := by rw [hlst]; exact hw9
    clear hw9
    rw [decide_eq_true (rfl : a = a)]
    have hb : Below w8.heap.size w8 w9 := by rw [hw9']; exact below_drewN ((Below.refl _ w8).alloc (Nat.le_refl _) _) _
    have hinv : Inv w w8.heap.size g0 cap0 LL a w9 := ⟨HB.out.trans (hb.mono HB.out.size), by rw [hw9']; exact HL.out.drewN m0, fun p hp => (WW.out p hp).below hb, HO.out.below hb, WO.out.below hb⟩
    have HI := Lib.hid hinv
    have HL6 := Lib.hid hl6
    have hgl0 : w8.heap.size ≠ g0 := by have := WO.out.2; omega
    have Hgl0 := Lib.hid hgl0
    clear hlst hw9' hinv HL hl6 hLL hgl0 WW
    obtain ⟨gl, hgl⟩ : ∃ gl, gl = w8.heap.size := ⟨_, rfl⟩
    have ND2 : Hid (∀ p ∈ LL, p.1 ≠ g0 ∧ p.1 ≠ gl ∧ w.heap.size ≤ p.1 ∧ p.2.1 ≤ 64 ∧ p.2.1 ≤ p.2.2) := fun p hp => by
      obtain ⟨q1, q2, q3, q4, q5⟩ := ND.out p hp
      exact ⟨q1, by omega, q3, q4, q5⟩
    rw [← hgl] at HI Hgl0 ⊢
    have HBa : Hid (Sl uv w (.slice Aa a.length ca) a) := h0a
    have HBb : Hid (Sl uv w (.slice Ab b.length cb) b) := h0b
    clear hb ND hgl
    go_wp2_with fail
    go_loopw [51] (fun i wr => ∃ t : Nat, t ≤ 6 ∧ i = .int .i64 t ∧ Inv w gl g0 cap0 LL a wr) (fun i _ => 6 - (intOf i).toNat)
    case atStart => exact ⟨0, by omega, rfl, HI.out⟩
    case round =>
      obtain ⟨t, ht, rfl, hi⟩ := hrel
      have HI2 := Lib.hid hi
      clear hi
      by_cases hlt : t < 6
      · obtain ⟨ad, c', hs, hcp, hcell⟩ := sl_cell HI2.out.l t (by have := HL6.out; omega)
        simp only [Value.slice.injEq, Option.some.injEq] at hs
        obtain ⟨rfl, hs2, rfl⟩ := hs
        rw [addr0] at hcell
        have hmem : LL[t]'(by have := HL6.out; omega) ∈ LL := List.getElem_mem _
        have hcl := fun (W : World) (h : Inv w gl g0 cap0 LL a W) => (sl_cell h.l t (by have := HL6.out; omega))
        generalize LL[t]'(by have := HL6.out; omega) = p at *
        obtain ⟨g, n', m'⟩ := p
        obtain ⟨q1, q2, q3, q4, q5⟩ := ND2.out _ hmem
        have Hmem := Lib.hid hmem
        have Hcl := Lib.hid hcl
        unfold sv at hcell
        simp only at hcell q1 q2 q3 q4 q5
        clear hs2 hcp hmem hcl
        have Q1 := Lib.hid q1; have Q2 := Lib.hid q2; have Q3 := Lib.hid q3
        clear q1 q2 q3
        go_wp2
        go_loopw [59] (fun i wr => ∃ s : Nat, s ≤ n' ∧ i = .int .i64 s ∧ Inv w gl g0 cap0 LL a wr) (fun i _ => n' - (intOf i).toNat)
        case atStart => exact ⟨0, by omega, rfl, HI2.out⟩
        case round =>
          obtain ⟨s, hs, rfl, hi⟩ := hrel
          have HI3 := Lib.hid hi
          clear hi
          by_cases hls : s < n'
          · obtain ⟨ad, c', hs', hcp, hcell3⟩ := Hcl.out _ HI3.out
            simp only [Value.slice.injEq, Option.some.injEq] at hs'
            obtain ⟨rfl, hs2, rfl⟩ := hs'
            rw [addr0] at hcell3
            unfold sv at hcell3
            simp only at hcell3
            obtain ⟨z, hz, hc3⟩ := (HI3.out.w _ Hmem.out).cell s hls
            have hf3 := (HI3.out.w _ Hmem.out).frozen s
            obtain ⟨y, hy, hinc⟩ := inc_run z hz
            simp only at hc3 hf3
            have Hy := Lib.hid hy
            clear hz hy hs2 hcp
            go_wp2
            go_roundw
            case rel => exact ⟨s + 1, by omega, by go_num, HI3.out.store Q1.out Q2.out Q3.out y Hy.out⟩
            case measure => simp [intOf]; omega
          · obtain rfl : s = n' := by omega
            go_wp2
            go_roundw
            case rel => exact ⟨t + 1, by omega, by go_num, HI3.out⟩
            case measure => simp [intOf]; omega
      · obtain rfl : t = 6 := by omega
        go_wp2_with fail
        refine (samewords_any _ _ a a _ HI2.out.o (HBa.out.below HI2.out.b) Fa.out.2 Fa.out.2).mono ?_
        rintro e w10 ⟨rfl, m1', rfl⟩
        rw [decide_eq_true (rfl : a = a)]
        go_wp2_with fail
        refine (union_any _ _ _ _ _ (HI2.out.o.drewN _) ((HBb.out.below HI2.out.b).drewN _) Fa.out.2 Fb.out.2 Fa.out.1 Fb.out.1).mono ?_
        rintro e w11 ⟨vu, rfl, ho, hb⟩
        have HU := Lib.hid ho.sl
        obtain ⟨gu, nu, mu, rfl, _, hge, _⟩ := ho.blk (Fa.out.SU Fb.out).1 (setop_len _ _ _)
        have hgu : gu ≠ g0 := by have h1 := HI2.out.g.2; have h2 : (wr.drewN m1').heap.size = wr.heap.size := rfl; omega
        have Hgu := Lib.hid hgu
        have HG := Lib.hid (HI2.out.g.below (W' := w11) ⟨hb.os, hb.tape, hb.output, hb.size, hb.block⟩)
        have HB2 := Lib.hid (HI2.out.b.trans (show Below w.heap.size wr w11 from ⟨hb.os, hb.tape, hb.output, hb.size, fun k hk => hb.block k (Nat.lt_of_lt_of_le hk HI2.out.b.size)⟩))
        have hg0b := Lib.hid G0.out
        clear ho hb hge hgu
        go_wp2
        go_loopw [82] (fun i wr => ∃ t : Nat, t ≤ a.length ∧ i = .int .i64 t ∧ Below w.heap.size w wr ∧ WBL wr g0 a.length ∧ Sl uv wr (.slice (some ⟨gu, 0, none⟩) nu mu) (SU a b)) (fun i _ => a.length - (intOf i).toNat)
        case atStart => exact ⟨0, by omega, rfl, HB2.out, HG.out, HU.out⟩
        case round =>
          obtain ⟨t, ht, rfl, hb3, hg3, hu3⟩ := hrel
          have HB3 := Lib.hid hb3; have HG3 := Lib.hid hg3; have HU3 := Lib.hid hu3
          clear hb3 hg3 hu3
          by_cases hlt : t < a.length
          · obtain ⟨z, hz, hc3⟩ := HG3.out.cell t hlt
            have hf3 := HG3.out.frozen t
            obtain ⟨y, hy, hinc⟩ := inc_run z hz
            have Hy := Lib.hid hy
            clear hz hy
            go_wp2
            go_roundw
            case rel => exact ⟨t + 1, by omega, by go_num, HB3.out.setCell (p := ⟨g0, t, none⟩) G0.out _, HG3.out.set g0 t y Hy.out, HU3.out.set_other g0 t _ (own_ne Hgu.out)⟩
            case measure => simp [intOf]; omega
          · go_wp2_with fail
            refine (union_f (HBa.out.below HB3.out) (HBb.out.below HB3.out) Fa.out Fb.out).mono ?_
            rintro e w12 ⟨v5, rfl, h5, hb5⟩
            have H5 := Lib.hid h5; have HB5 := Lib.hid hb5
            clear h5 hb5
            go_wp2_with fail
            refine (equal_f (HU3.out.below HB5.out) H5.out (Fa.out.SU Fb.out) (Fa.out.SU Fb.out) true (decide_eq_true rfl)).mono ?_
            rintro e w13 ⟨rfl, hb6⟩
            have HB6 := Lib.hid (HB3.out.trans ((HB5.out.trans (hb6.mono HB5.out.size)).mono HB3.out.size))
            clear hb6
            go_wp2
            go_ret
            exact ⟨rfl, HB6.out⟩
  · have dab := decide_eq_false hab
    clear hab
    go_enter Tryd.func10, Tryd.ntmps10
    go_wp2_with fail
    refine (awake_any _ HT.out).mono ?_
    rintro e w1 ⟨rfl, hb⟩
    replace HB := Lib.hid (HB.out.trans (hb.mono HB.out.size))
    replace Ha := Lib.hid (Ha.out.below hb)
    replace Hb := Lib.hid (Hb.out.below hb)
    replace HT := Lib.hid (HT.out.below hb HT.out.size)
    clear hb
    go_wp2_with fail
    refine (few_any _ _ _ _ _ _ _).mono ?_
    rintro e w2 ⟨rfl, rfl⟩
    rw [dab]
    go_wp2
    go_ret
    exact ⟨rfl, HB.out⟩
end Go.Proofs.YtaedijblgogmmaaDoor
