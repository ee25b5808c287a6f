/- NfaReversed: for every input the law returns true (tools/gen_rl.py). -/
import Derived.Test.YtcpjpogglecddaaDoorNfaRq
import Derived.Test.YtcpjpogglecddaaDoorNfaCloL
import Derived.Test.YtcpjpogglecddaaDoorLaw
namespace Go.Proofs.YtcpjpogglecddaaDoor
open Go.RowKit

/-- The rest of the word from j on, turned. -/
theorem turn_next (word : List Int) (q : Nat) (hq : q < word.length) : (word.drop q).reverse = (word.drop (q + 1)).reverse ++ [word[q]] := by
  rw [List.drop_eq_getElem_cons hq, List.reverse_cons]
set_option maxRecDepth 100000 in
set_option maxHeartbeats 16000000 in
theorem nfareversed_walk (S : Int) (A1 A2 A3 : Option Addr) (c1 c2 c3 : Nat) (st : List Int) (fin : List Bool) (ar : List Ac) (A4 : Option Addr) (c4 : Nat) (word : List Int) (w : World) (hT : Tab w) (hs : Sl iv w (.slice A1 st.length c1) st) (hf : Sl bl w (.slice A2 fin.length c2) fin) (ha : Acs w (.slice A3 ar.length c3) ar) (hx : Sl iv w (.slice A4 word.length c4) word) (hwl : word.length ≤ 9223372036854775807) :
    Calls Tryd.prog 4 #[.agg #[.int .i64 S, .slice A1 st.length c1, .slice A2 fin.length c2, .slice A3 ar.length c3], .slice A4 word.length c4] w (Ok w) := by
  have hT0 := hT.size
  obtain ⟨W, hW⟩ : ∃ W, W = w.alloc (.cells #[.int .i64 S, .slice A1 st.length c1, .slice A2 fin.length c2, .slice A3 ar.length c3] 26) := ⟨_, rfl⟩
  have hbw : Below w.heap.size w W := by rw [hW]; exact below_alloc w _
  have hWb : W.heap[w.heap.size]? = some (.cells #[.int .i64 S, .slice A1 st.length c1, .slice A2 fin.length c2, .slice A3 ar.length c3] 26 (0, 0)) := by rw [hW]; exact heap_alloc_new w _
  have KX := Lib.hid (show ∀ w', Below W.heap.size W w' → w'.cell? ⟨w.heap.size, 0, none⟩ = some (.int .i64 S) ∧ w'.cell? ⟨w.heap.size, 1, none⟩ = some (.slice A1 st.length c1) ∧ w'.cell? ⟨w.heap.size, 2, none⟩ = some (.slice A2 fin.length c2) ∧ w'.cell? ⟨w.heap.size, 3, none⟩ = some (.slice A3 ar.length c3) from fun w' h => by
    have g1 := (h.block _ (lt_of_some hWb)).trans hWb
    exact ⟨cell_of_row _ _ 0 _ _ _ g1, cell_of_row _ _ 1 _ _ _ g1, cell_of_row _ _ 2 _ _ _ g1, cell_of_row _ _ 3 _ _ _ g1⟩)
  have HE := Lib.hid (show ∀ (e : Ending) (w' : World), e = .returned (.bool true) → Below W.heap.size W w' → Ok w e w' from fun e w' h1 h2 => ⟨h1, below_ext2 hbw h2⟩)
  have Hs := Lib.hid (hs.below hbw); have Hf := Lib.hid (hf.below hbw); have Ha := Lib.hid (ha.below hbw); have Hx := Lib.hid (hx.below hbw); have HT := Lib.hid (hT.below hbw hT0)
  have hlW : w.heap.size < W.heap.size := lt_of_some hWb
  have HlW := Lib.hid hlW
  have HW := Lib.hid hW
  have HWL := Lib.hid hwl
  clear hs hf ha hx hT hbw hWb hW hlW hT0 hwl
  have HT0 := Lib.hid HT.out.size
  go_enter Tryd.func4, Tryd.ntmps4
  go_wp2_with fail
  rw [← HW.out]
  generalize hbox : w.heap.size = bx at KX HlW
  have Hbox := Lib.hid hbox
  clear hbox
  try rw [Hbox.out]
  refine (awake_any W HT.out).mono ?_
  rintro e w1 ⟨rfl, hb1⟩
  have B1 := Lib.hid hb1
  clear hb1
  obtain ⟨x0, x1, x2, x3⟩ := KX.out _ B1.out
  go_wp2_with fail
  refine (few_any S A1 A2 A3 st.length fin.length ar.length c1 c2 c3 w1).mono ?_
  rintro e w2 ⟨rfl, hb2⟩
  have B2 := Lib.hid (below_ext2 B1.out hb2)
  clear hb2 x0 x1 x2 x3
  obtain ⟨x0, x1, x2, x3⟩ := KX.out _ B2.out
  cases hfew : fewA S st.length fin.length ar.length with
  | false =>
    clear hfew
    go_wp2
    go_ret
    exact HE.out _ _ rfl B2.out
  | true =>
  have hlim := fewA_lim hfew
  clear hfew
  obtain ⟨l1, l2, l3, l4⟩ := hlim
  go_wp2_with fail
  refine (rvalid_any S st fin ar _ _ _ w2 (Hs.out.below B2.out) (Hf.out.below B2.out) (Ha.out.below B2.out) (by omega) (by omega)).mono ?_
  rintro e w3 ⟨b, rfl, hvi, hb3⟩
  have B3 := Lib.hid (below_ext2 B2.out hb3)
  clear hb3 x0 x1 x2 x3
  obtain ⟨x0, x1, x2, x3⟩ := KX.out _ B3.out
  cases b with
  | false =>
    clear hvi
    go_wp2
    go_ret
    exact HE.out _ _ rfl B3.out
  | true =>
  obtain ⟨n, rfl, hvn⟩ := (hvi.1 rfl).vn
  have Hv := Lib.hid hvn
  clear hvi hvn
  by_cases hlen : 20 < word.length
  · have d0 : decide ((20 : Int) < (word.length : Int)) = true := decide_eq_true (by omega)
    go_wp2
    go_ret
    exact HE.out _ _ rfl B3.out
  have d0 : decide ((20 : Int) < (word.length : Int)) = false := decide_eq_false (by omega)
  go_wp2_with fail
  refine (own_any (n : Int) A1 A2 st.length c1 fin.length c2 _ ar w3 (Ha.out.below B3.out) (by omega)).mono ?_
  rintro e w4 ⟨v', rfl, hac, hb4⟩
  obtain ⟨A5, c5, rfl⟩ := hac.shape
  have B4 := Lib.hid (below_ext2 B3.out hb4)
  obtain ⟨V, hV⟩ : ∃ V, V = w4.alloc (.cells #[.int .i64 (n : Int), .slice A1 st.length c1, .slice A2 fin.length c2, .slice A5 ar.length c5] 32) := ⟨_, rfl⟩
  have hbV : Below w4.heap.size w4 V := by rw [hV]; exact below_alloc w4 _
  have BV := Lib.hid (below_ext2 B4.out hbV)
  have HX := Lib.hid (show Xa V w4.heap.size n (.slice A1 st.length c1) (.slice A2 fin.length c2) (.slice A5 ar.length c5) st fin ar from ⟨by rw [hV]; exact heap_alloc_new w4 _, Hs.out.below BV.out, Hf.out.below BV.out, hac.below hbV, HT.out.below BV.out HT0.out⟩)
  have HV := Lib.hid hV
  clear hac hb4 hbV hV x0 x1 x2 x3
  obtain ⟨y0, y1, y2, y3⟩ := HX.out.cells
  go_wp2_with (rw [← HV.out])
  generalize hxb : w4.heap.size = xb at *
  have Hxb2 := Lib.hid hxb
  clear hxb
  have hstl := Hv.out.stl
  have hnf := Hv.out.few
  have har := Hv.out.va.few
  have HRV := Lib.hid (show ∀ (w' : World) (s f a : Value), Sl iv w' s (rvS fin n) → Sl bl w' f (rvF n st) → Acs w' a (srtA (rvA ar)) → Calls Tryd.prog 16 #[.agg #[.int .i64 (n : Int), s, f, a]] w' (ReP n st fin ar w') from fun w' s f a g1 g2 g3 => by
    have := reverse_any n _ _ _ s f a w' Hv.out.rev g1 g2 g3
    rwa [rev_st Hv.out, rev_fin Hv.out, rev_ar Hv.out] at this)
  have HV2 := Lib.hid Hv.out.rev
  have HAC := Lib.hid (rev_acc Hv.out)
  refine (reverse_any n st fin ar _ _ _ V Hv.out HX.out.s HX.out.f HX.out.a).mono ?_
  rintro e w5 hP
  generalize rvS fin n = st2 at HRV HV2 HAC hP
  generalize rvF n st = fin2 at HRV HV2 HAC hP
  generalize srtA (rvA ar) = ar2 at HRV HV2 HAC hP
  obtain ⟨A6, c6, A7, c7, A8, c8, rfl, h1, h2, h3, hb5⟩ := hP
  have hbR : Below w5.heap.size w5 (w5.alloc (.cells #[.int .i64 (n : Int), .slice A6 st2.length c6, .slice A7 fin2.length c7, .slice A8 ar2.length c8] 32)) := below_alloc w5 _
  have HR0 := Lib.hid (show Xa (w5.alloc (.cells #[.int .i64 (n : Int), .slice A6 st2.length c6, .slice A7 fin2.length c7, .slice A8 ar2.length c8] 32)) w5.heap.size n (.slice A6 st2.length c6) (.slice A7 fin2.length c7) (.slice A8 ar2.length c8) st2 fin2 ar2 from ⟨heap_alloc_new w5 _, h1.below hbR, h2.below hbR, h3.below hbR, HX.out.t.below (below_ext2 hb5 hbR) HX.out.t.size⟩)
  have B5 := Lib.hid (below_ext2 BV.out (below_ext2 hb5 hbR))
  have HX5 := Lib.hid (HX.out.below (below_ext2 hb5 hbR))
  clear h1 h2 h3 hb5 hbR y0 y1 y2 y3 HX
  obtain ⟨r0, r1, r2, r3⟩ := HR0.out.cells
  go_wp2_with fail
  obtain ⟨V2, hV2⟩ : ∃ V2, V2 = w5.alloc (.cells #[.int .i64 (n : Int), .slice A6 st2.length c6, .slice A7 fin2.length c7, .slice A8 ar2.length c8] 32) := ⟨_, rfl⟩
  rw [← hV2] at HR0 B5 HX5 ⊢
  obtain ⟨rb, hrb⟩ : ∃ rb, rb = w5.heap.size := ⟨_, rfl⟩
  rw [← hrb] at HR0 ⊢
  clear hV2 hrb r0 r1 r2 r3
  refine (HRV.out V2 _ _ _ HR0.out.s HR0.out.f HR0.out.a).mono ?_
  rintro e w6 ⟨A9, c9, A10, c10, A11, c11, rfl, h1, h2, h3, hb6⟩
  have hbK : Below w6.heap.size w6 (w6.alloc (.cells #[.int .i64 (n : Int), .slice A9 st.length c9, .slice A10 fin.length c10, .slice A11 ar.length c11] 32)) := below_alloc w6 _
  have HK0 := Lib.hid (show Xa (w6.alloc (.cells #[.int .i64 (n : Int), .slice A9 st.length c9, .slice A10 fin.length c10, .slice A11 ar.length c11] 32)) w6.heap.size n (.slice A9 st.length c9) (.slice A10 fin.length c10) (.slice A11 ar.length c11) st fin ar from ⟨heap_alloc_new w6 _, h1.below hbK, h2.below hbK, h3.below hbK, HR0.out.t.below (below_ext2 hb6 hbK) HR0.out.t.size⟩)
  have HR6 := Lib.hid (HR0.out.below (below_ext2 hb6 hbK))
  have B6 := Lib.hid (below_ext2 B5.out (below_ext2 hb6 hbK))
  have HX6 := Lib.hid (HX5.out.below (below_ext2 hb6 hbK))
  clear h1 h2 h3 hb6 hbK HR0 HX5 B5 HRV
  have hw1 : word.length ≤ 20 := by omega
  have hwp : IntKind.i64.wrap ((word.length : Int) - 1) = (word.length : Int) - 1 := by rw [IntKind.wrap_i64]; omega
  go_wp2_with fail
  clear hwp
  obtain ⟨V3, hV3⟩ : ∃ V3, V3 = w6.alloc (.cells #[.int .i64 (n : Int), .slice A9 st.length c9, .slice A10 fin.length c10, .slice A11 ar.length c11] 32) := ⟨_, rfl⟩
  rw [← hV3] at HK0 HR6 B6 HX6 ⊢
  obtain ⟨kb, hkb⟩ : ∃ kb, kb = w6.heap.size := ⟨_, rfl⟩
  rw [← hkb] at HK0 ⊢
  clear hV3 hkb
  have HBW0 := Lib.hid (Below.refl V3.heap.size V3)
  have HO0 := Lib.hid (show V3.ownsRow V3.heap.size 3 1 (.slice none 0 0) (word.length - word.length) ((word.drop word.length).reverse.map iv) from by
    rw [Nat.sub_self, List.drop_length]
    exact World.ownsRow_nil _ _ _ _)
  go_loopw [10, 11] (fun vT j wr => ∃ q : Nat, q ≤ word.length ∧ j = .int .i64 ((q : Int) - 1) ∧ Hid (wr.ownsRow V3.heap.size 3 1 vT (word.length - q) ((word.drop q).reverse.map iv)) ∧ Hid (Below V3.heap.size V3 wr)) (fun _ j _ => (intOf j + 1).toNat)
  case atStart => exact ⟨word.length, Nat.le_refl _, rfl, HO0, HBW0⟩
  case round =>
    clear HO0 HBW0
    obtain ⟨q, hq, rfl, HO, HB⟩ := hrel
    rcases Nat.eq_zero_or_pos q with hq0 | hq0
    · subst hq0
      have hge : decide ((0 : Int) ≤ ((0 : Nat) : Int) - 1) = false := by decide
      have hge2 : ¬ (0 : Int) ≤ ((0 : Nat) : Int) - 1 := by decide
      have hO := HO.out
      rw [List.drop_zero, Nat.sub_zero] at hO
      have hsT : Sl iv wr _ word.reverse := Sl.of_own hO
      have HAW := Lib.hid (HAC.out word)
      have htl : word.reverse.length ≤ 20 := by rw [List.length_reverse]; exact hw1
      generalize word.reverse = tw at hsT HAW htl
      obtain ⟨AT, cT, rfl⟩ := hsT.shape
      have HST := Lib.hid hsT
      clear hsT hO HO HAC
      have HX7 := Lib.hid (HX6.out.below HB.out)
      have HR7 := Lib.hid (HR6.out.below HB.out)
      have HK7 := Lib.hid (HK0.out.below HB.out)
      have B7 := Lib.hid (below_ext2 B6.out HB.out)
      obtain ⟨y0, y1, y2, y3⟩ := HX7.out.cells
      clear HX6 HR6 HK0 HB B6
      go_wp2_with fail
      refine (accepts_ok n st fin ar _ _ _ A4 c4 word wr Hv.out HX7.out.s HX7.out.f HX7.out.a (Hx.out.below B7.out) (by omega) HX7.out.t).mono ?_
      rintro e w8 ⟨b1, rfl, hb1, hb8⟩
      have HB1 := Lib.hid hb1
      have HX8 := Lib.hid (HX7.out.below hb8)
      have HR8 := Lib.hid (HR7.out.below hb8)
      have HK8 := Lib.hid (HK7.out.below hb8)
      have HST8 := Lib.hid (HST.out.below hb8)
      have B8 := Lib.hid (below_ext2 B7.out hb8)
      clear hb1 hb8 y0 y1 y2 y3 HX7 HR7 HK7 HST B7
      obtain ⟨r0, r1, r2, r3⟩ := HR8.out.cells
      go_wp2_with fail
      refine (accepts_ok n st2 fin2 ar2 _ _ _ AT cT tw w8 HV2.out HR8.out.s HR8.out.f HR8.out.a HST8.out (by omega) HR8.out.t).mono ?_
      rintro e w9 ⟨b2, rfl, hb2, hb9⟩
      obtain rfl : b2 = b1 := by rw [Bool.eq_iff_iff, hb2, HB1.out]; exact HAW.out.symm
      have HX9 := Lib.hid (HX8.out.below hb9)
      have HR9 := Lib.hid (HR8.out.below hb9)
      have HK9 := Lib.hid (HK8.out.below hb9)
      have B9 := Lib.hid (below_ext2 B8.out hb9)
      clear hb2 hb9 r0 r1 r2 r3 HX8 HR8 HK8 HST8 B8 HB1
      obtain ⟨r0, r1, r2, r3⟩ := HR9.out.cells
      go_wp2_with fail
      refine (valid_ok n st2 fin2 ar2 _ _ _ w9 HV2.out HR9.out.s HR9.out.f HR9.out.a).mono ?_
      rintro e w10 ⟨rfl, hb10⟩
      have HX10 := Lib.hid (HX9.out.below hb10)
      have HK10 := Lib.hid (HK9.out.below hb10)
      have B10 := Lib.hid (below_ext2 B9.out hb10)
      clear hb10 r0 r1 r2 r3 HX9 HR9 HK9 B9
      obtain ⟨y0, y1, y2, y3⟩ := HX10.out.cells
      obtain ⟨k0, k1, k2, k3⟩ := HK10.out.cells
      go_wp2_with fail
      refine (nequal_same n st fin ar _ _ _ _ _ _ w10 (by omega) (by omega) (by omega) HK10.out.s HX10.out.s HK10.out.f HX10.out.f HK10.out.a HX10.out.a).mono ?_
      rintro e w11 ⟨rfl, hb11⟩
      have B11 := Lib.hid (below_ext2 B10.out hb11)
      clear hb11 y0 y1 y2 y3 k0 k1 k2 k3
      go_wp2_with fail
      go_ret
      exact HE.out _ _ rfl B11.out
    · obtain ⟨p, rfl⟩ : ∃ p, q = p + 1 := ⟨q - 1, by omega⟩
      clear hq0
      have hlt : p < word.length := by omega
      obtain ⟨ad, c', hs, _, hcell⟩ := sl_cell (Hx.out.below (below_ext2 B6.out HB.out)) p hlt
      simp only [Value.slice.injEq, true_and] at hs
      obtain ⟨rfl, rfl⟩ := hs
      have HN := Lib.hid (turn_next word p hlt)
      obtain ⟨x, hx⟩ : ∃ x, x = word[p] := ⟨_, rfl⟩
      rw [← hx] at hcell HN
      unfold iv at hcell
      clear hx
      have hp1 : ((p + 1 : Nat) : Int) - 1 = (p : Int) := by omega
      rw [hp1]
      have hge : decide ((0 : Int) ≤ (p : Int)) = true := decide_eq_true (by omega)
      have hpl : (p : Int) < (word.length : Int) := by omega
      have hwp : IntKind.i64.wrap ((p : Int) - 1) = (p : Int) - 1 := by rw [IntKind.wrap_i64]; omega
      have hown := HO.out
      have hsz := HB.out.size
      clear hp1
      go_wp2_with (at_builtin; refine app1S rfl _ _ 22 rfl 3 (.int .i64 0) 8 info_int rfl (by kernel_rfl) V3.heap.size _ _ _ rfl hown (.int .i64 x) rfl rfl (by omega) (by omega) hsz ?_; intro v' w' hown2 hfr; obtain ⟨AT, cT, rfl⟩ := own_shapeG hown2)
      have HO2 := Lib.hid (show w'.ownsRow V3.heap.size 3 1 (.slice AT (word.length - (p + 1) + 1) cT) (word.length - p) ((word.drop p).reverse.map iv) from by
        rw [HN.out, List.map_append]
        have e : word.length - p = word.length - (p + 1) + 1 := by omega
        rw [e]
        exact hown2)
      have HB2 := Lib.hid (HB.out.trans (hfr.below hsz))
      clear hown hown2 hfr hcell HO HB HN hsz
      go_wp2_with fail
      go_roundw
      case rel => exact ⟨p, by omega, rfl, HO2, HB2⟩
      case measure => simp [intOf]
end Go.Proofs.YtcpjpogglecddaaDoor
