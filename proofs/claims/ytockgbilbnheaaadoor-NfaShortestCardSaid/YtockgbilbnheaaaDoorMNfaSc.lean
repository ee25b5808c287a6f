/- The reference's Compare of two words of one length, where the first is not behind. -/
import Derived.Test.YtockgbilbnheaaaDoorMNfaGr
import Derived.Test.YtockgbilbnheaaaDoorNfaSw
import Derived.Test.YtockgbilbnheaaaDoorMBitsEq
import Derived.Test.YtockgbilbnheaaaDoorLaw
namespace Go.Proofs.YtockgbilbnheaaaDoor
/- The reference's Compare of two words of one length, where the first is not behind. -/
open Go.RowKit

theorem ltw_at {v t : List Int} (h : v = t ∨ LtW v t) {k : Nat} (hk : v.take k = t.take k) (h1 : k < v.length) (h2 : k < t.length) : v[k] ≤ t[k] := by
 rcases h with rfl | ⟨i, x, y, e1, e2, e3, e4⟩
 ·omega
 ·obtain ⟨hi, rfl⟩ := List.getElem?_eq_some_iff.1 e2
  obtain ⟨hj, rfl⟩ := List.getElem?_eq_some_iff.1 e3
  rcases Nat.lt_trichotomy i k with g | g | g
  ·have := congrArg (fun l : List Int => l[i]?) hk
   simp only [List.getElem?_take, g, if_true, e2, e3, Option.some.injEq] at this
   omega
  ·subst g; omega
  ·have := congrArg (fun l : List Int => l[k]?) e1
   simp only [List.getElem?_take, g, if_true, List.getElem?_eq_getElem h1, List.getElem?_eq_getElem h2, Option.some.injEq] at this
   omega
set_option maxRecDepth 100000 in
set_option maxHeartbeats 4000000 in
theorem rcompare_le (va vb : Value) (a b : List Int) (w : World) (ha : Sl iv w va a) (hb : Sl iv w vb b) (hl : a.length = b.length) (hn : b.length ≤ 1000) (h : a = b ∨ LtW a b) :
  Calls Tryd.prog 18 #[va, vb] w fun e w' => ∃ c : Int, e = .returned (.int .i64 c) ∧ c ≤ 0 ∧ Below w.heap.size w w' := by
 obtain ⟨A1, c1, rfl⟩ := ha.shape
 obtain ⟨A2, c2, rfl⟩ := hb.shape
 have Ha := Lib.hid ha; have Hb := Lib.hid hb; have H := Lib.hid h
 have HB0 := Lib.hid (Below.refl w.heap.size w)
 clear ha hb h
 rw [hl]
 go_enter Tryd.func18, Tryd.ntmps18
 go_wp2_with fail
 go_loopw [5] (fun vi wr => ∃ k : Nat, k ≤ b.length ∧ vi = .int .i64 (k : Int) ∧ Hid (a.take k = b.take k) ∧ Hid (Below w.heap.size w wr)) (fun vi _ => b.length - (intOf vi).toNat)
 case atStart => exact ⟨0, Nat.zero_le _, rfl, Lib.hid rfl, HB0⟩
 case round =>
  clear HB0
  obtain ⟨k, hk, rfl, HT, HB⟩ := hrel
  by_cases hlt : k < b.length
  ·have hla : k < a.length := by omega
   have dk : decide ((k : Int) < (b.length : Int)) = true := decide_eq_true (by omega)
   have hks : (k : Int) < (b.length : Int) := by omega
   obtain ⟨ad, c', hsl, _, hcell⟩ := sl_cell (Ha.out.below HB.out) k hla
   obtain ⟨ad2, c2', hsl2, _, hcell2⟩ := sl_cell (Hb.out.below HB.out) k hlt
   simp only [hl, Value.slice.injEq, true_and] at hsl hsl2
   obtain ⟨rfl, rfl⟩ := hsl
   obtain ⟨rfl, rfl⟩ := hsl2
   have hle := ltw_at H.out HT.out hla hlt
   have HNX := Lib.hid (show a[k] = b[k] → a.take (k + 1) = b.take (k + 1) from fun e => by rw [List.take_succ_eq_append_getElem hla, List.take_succ_eq_append_getElem hlt, HT.out, e])
   generalize a[k] = x at *
   generalize b[k] = y at *
   unfold iv at hcell hcell2
   by_cases hxy : x < y
   ·have d1 : decide (x < y) = true := decide_eq_true hxy
    clear HNX HT
    go_wp2_with fail
    go_region
    go_wp2_with fail
    go_ret
    exact ⟨-1, rfl, by omega, HB.out.drew⟩
   ·have d1 : decide (x < y) = false := decide_eq_false hxy
    obtain rfl : x = y := by omega
    have HN := Lib.hid (HNX.out rfl)
    have d2 : decide (x < x) = false := decide_eq_false (by omega)
    clear HNX HT hxy hle
    go_wp2_with fail
    go_region
    go_wp2_with fail
    go_region
    go_wp2_with fail
    go_roundw
    case rel => exact ⟨k + 1, by omega, by go_num, HN, Lib.hid HB.out.drew.drew⟩
    case measure => simp [intOf]; omega
  ·obtain rfl : k = b.length := by omega
   have dk : decide ((b.length : Int) < (b.length : Int)) = false := decide_eq_false (by omega)
   clear HT
   go_wp2_with fail
   go_ret
   exact ⟨0, rfl, by omega, HB.out⟩
/- NfaShortest: for every input the law returns true (tools/gen_nsl.py). -/
open Go.RowKit

set_option maxRecDepth 100000 in
set_option maxHeartbeats 16000000 in
theorem nfashortest_walk (S : Int) (A1 A2 A3 : Option Addr) (c1 c2 c3 : Nat) (st : List Int) (fin : List Bool) (ar : List Ac) (A4 : Option Addr) (c4 : Nat) (word : List Int) (w : World) (hT : Tab w) (hs : Sl iv w (.slice A1 st.length c1) st) (hf : Sl bl w (.slice A2 fin.length c2) fin) (ha : Acs w (.slice A3 ar.length c3) ar) (hx : Sl iv w (.slice A4 word.length c4) word) (hwl : word.length ≤ 9223372036854775807) :
  Calls Tryd.prog 4 #[.agg #[.int .i64 S, .slice A1 st.length c1, .slice A2 fin.length c2, .slice A3 ar.length c3], .slice A4 word.length c4] w (Ok w) := by
 have hT0 := hT.size
 obtain ⟨W, hW⟩ : ∃ W, W = w.alloc (.cells #[.int .i64 S, .slice A1 st.length c1, .slice A2 fin.length c2, .slice A3 ar.length c3] 26) := ⟨_, rfl⟩
 have hbw : Below w.heap.size w W := by rw [hW]; exact below_alloc w _
 have hWb : W.heap[w.heap.size]? = some (.cells #[.int .i64 S, .slice A1 st.length c1, .slice A2 fin.length c2, .slice A3 ar.length c3] 26 (0, 0)) := by rw [hW]; exact heap_alloc_new w _
 have KX := Lib.hid (show ∀ w', Below W.heap.size W w' → w'.cell? ⟨w.heap.size, 0, none⟩ = some (.int .i64 S) ∧ w'.cell? ⟨w.heap.size, 1, none⟩ = some (.slice A1 st.length c1) ∧ w'.cell? ⟨w.heap.size, 2, none⟩ = some (.slice A2 fin.length c2) ∧ w'.cell? ⟨w.heap.size, 3, none⟩ = some (.slice A3 ar.length c3) from fun w' h => by
  have g1 := (h.block _ (lt_of_some hWb)).trans hWb
  exact ⟨cell_of_row _ _ 0 _ _ _ g1, cell_of_row _ _ 1 _ _ _ g1, cell_of_row _ _ 2 _ _ _ g1, cell_of_row _ _ 3 _ _ _ g1⟩)
 have HE := Lib.hid (show ∀ (e : Ending) (w' : World), e = .returned (.bool true) → Below W.heap.size W w' → Ok w e w' from fun e w' h1 h2 => ⟨h1, below_ext2 hbw h2⟩)
 have Hs := Lib.hid (hs.below hbw); have Hf := Lib.hid (hf.below hbw); have Ha := Lib.hid (ha.below hbw); have Hx := Lib.hid (hx.below hbw); have HT := Lib.hid (hT.below hbw hT0)
 have hlW : w.heap.size < W.heap.size := lt_of_some hWb
 have HlW := Lib.hid hlW
 have HW := Lib.hid hW
 have HWL := Lib.hid hwl
 clear hs hf ha hx hT hbw hWb hW hlW hT0 hwl
 have HT0 := Lib.hid HT.out.size
 go_enter Tryd.func4, Tryd.ntmps4
 go_wp2_with fail
 rw [← HW.out]
 generalize hbox : w.heap.size = bx at KX HlW
 have Hbox := Lib.hid hbox
 clear hbox
 try rw [Hbox.out]
 refine (awake_any W HT.out).mono ?_
 rintro e w1 ⟨rfl, hb1⟩
 have B1 := Lib.hid hb1
 clear hb1
 obtain ⟨x0, x1, x2, x3⟩ := KX.out _ B1.out
 go_wp2_with fail
 refine (few_any S A1 A2 A3 st.length fin.length ar.length c1 c2 c3 w1).mono ?_
 rintro e w2 ⟨rfl, hb2⟩
 have B2 := Lib.hid (below_ext2 B1.out hb2)
 clear hb2 x0 x1 x2 x3
 obtain ⟨x0, x1, x2, x3⟩ := KX.out _ B2.out
 cases hfew : fewA S st.length fin.length ar.length with
 | false =>
  clear hfew
  go_wp2
  go_ret
  exact HE.out _ _ rfl B2.out
 | true =>
 have hlim := fewA_lim hfew
 clear hfew
 obtain ⟨l1, l2, l3, l4⟩ := hlim
 go_wp2_with fail
 refine (rvalid_any S st fin ar _ _ _ w2 (Hs.out.below B2.out) (Hf.out.below B2.out) (Ha.out.below B2.out) (by omega) (by omega)).mono ?_
 rintro e w3 ⟨b, rfl, hvi, hb3⟩
 have B3 := Lib.hid (below_ext2 B2.out hb3)
 clear hb3 x0 x1 x2 x3
 obtain ⟨x0, x1, x2, x3⟩ := KX.out _ B3.out
 cases b with
 | false =>
  clear hvi
  go_wp2
  go_ret
  exact HE.out _ _ rfl B3.out
 | true =>
 obtain ⟨n, rfl, hvn⟩ := (hvi.1 rfl).vn
 have Hv := Lib.hid hvn
 clear hvi hvn
 by_cases hlen : 20 < word.length
 ·have d0 : decide ((20 : Int) < (word.length : Int)) = true := decide_eq_true (by omega)
  go_wp2
  go_ret
  exact HE.out _ _ rfl B3.out
 have d0 : decide ((20 : Int) < (word.length : Int)) = false := decide_eq_false (by omega)
 go_wp2_with fail
 refine (own_any (n : Int) A1 A2 st.length c1 fin.length c2 _ ar w3 (Ha.out.below B3.out) (by omega)).mono ?_
 rintro e w4 ⟨v', rfl, hac, hb4⟩
 obtain ⟨A5, c5, rfl⟩ := hac.shape
 have B4 := Lib.hid (below_ext2 B3.out hb4)
 obtain ⟨V, hV⟩ : ∃ V, V = w4.alloc (.cells #[.int .i64 (n : Int), .slice A1 st.length c1, .slice A2 fin.length c2, .slice A5 ar.length c5] 32) := ⟨_, rfl⟩
 have hbV : Below w4.heap.size w4 V := by rw [hV]; exact below_alloc w4 _
 have BV := Lib.hid (below_ext2 B4.out hbV)
 have HX := Lib.hid (show Xa V w4.heap.size n (.slice A1 st.length c1) (.slice A2 fin.length c2) (.slice A5 ar.length c5) st fin ar from ⟨by rw [hV]; exact heap_alloc_new w4 _, Hs.out.below BV.out, Hf.out.below BV.out, hac.below hbV, HT.out.below BV.out HT0.out⟩)
 have HV := Lib.hid hV
 clear hac hb4 hbV hV x0 x1 x2 x3
 obtain ⟨y0, y1, y2, y3⟩ := HX.out.cells
 go_wp2_with (rw [← HV.out])
 generalize hxb : w4.heap.size = xb at *
 have Hxb2 := Lib.hid hxb
 clear hxb
 have hnf := Hv.out.few
 refine (shortest_any n st fin ar _ _ _ V Hv.out HX.out.s HX.out.f HX.out.a HX.out.t).mono ?_
 rintro e w5 ⟨As, cs, sw, kk, rfl, hsw, hb5, hor⟩
 have HX5 := Lib.hid (HX.out.below hb5)
 have B5 := Lib.hid (below_ext2 BV.out hb5)
 have HSW := Lib.hid hsw
 have HOR := Lib.hid hor
 clear hsw hb5 hor y0 y1 y2 y3 HX
 obtain ⟨y0, y1, y2, y3⟩ := HX5.out.cells
 go_wp2_with fail
 refine (accepts_ok n st fin ar _ _ _ A4 c4 word w5 Hv.out HX5.out.s HX5.out.f HX5.out.a (Hx.out.below B5.out) (by omega) HX5.out.t).mono ?_
 rintro e w6 ⟨b1, rfl, hb1, hb6⟩
 have HB1 := Lib.hid hb1
 have HX6 := Lib.hid (HX5.out.below hb6)
 have B6 := Lib.hid (below_ext2 B5.out hb6)
 have HS6 := Lib.hid (HSW.out.below hb6)
 clear hb1 hb6 y0 y1 y2 y3 HX5 HSW
 rcases HOR.out with ⟨rfl, rfl, hno⟩ | ⟨rfl, hbest⟩
 ·have hb0 : b1 = false := by
   cases b1 with
   | false => rfl
   | true => exact absurd (HB1.out.1 rfl) (hno word)
  subst hb0
  clear hno HOR HB1
  go_wp2_with fail
  go_ret
  exact HE.out _ _ rfl B6.out
 ·have HBT := Lib.hid hbest
  have hsl := hbest.2.1
  clear hbest HOR
  obtain ⟨y0, y1, y2, y3⟩ := HX6.out.cells
  go_wp2_with fail
  refine (accepts_ok n st fin ar _ _ _ As cs sw w6 Hv.out HX6.out.s HX6.out.f HX6.out.a HS6.out (by omega) HX6.out.t).mono ?_
  rintro e w7 ⟨b2, rfl, hb2, hb7⟩
  obtain rfl : b2 = true := hb2.2 HBT.out.1
  have B7 := Lib.hid (below_ext2 B6.out hb7)
  have HS7 := Lib.hid (HS6.out.below hb7)
  clear hb2 hb7 y0 y1 y2 y3 HX6 HS6
  obtain ⟨x0, x1, x2, x3⟩ := KX.out _ B7.out
  have dm : decide (max (n : Int) 1 ≤ (sw.length : Int)) = false := decide_eq_false (by omega)
  have dm2 : ¬ max (n : Int) 1 ≤ (sw.length : Int) := by omega
  cases b1 with
  | false =>
   clear HB1 HBT
   go_wp2_with fail
   go_ret
   exact HE.out _ _ rfl B7.out
  | true =>
   rcases HBT.out.2.2 word (HB1.out.1 rfl) with hlt | ⟨heq, hle⟩
   ·have dl : decide ((sw.length : Int) < (word.length : Int)) = true := decide_eq_true (by omega)
    clear HB1 HBT
    go_wp2_with fail
    go_ret
    exact HE.out _ _ rfl B7.out
   ·have hCM := Lib.hid (rcompare_le _ _ sw word w7 HS7.out (Hx.out.below B7.out) heq (by omega) hle)
    rw [heq] at hCM HS7
    have dl : decide ((word.length : Int) < (word.length : Int)) = false := decide_eq_false (by omega)
    rw [heq] at dm dm2
    clear HB1 HBT hle
    rw [heq]
    go_wp2_with fail
    refine hCM.out.mono ?_
    rintro e w8 ⟨c, rfl, hc, hb8⟩
    have B8 := Lib.hid (below_ext2 B7.out hb8)
    have dc : decide (c ≤ (0 : Int)) = true := decide_eq_true hc
    clear hb8 x0 x1 x2 x3
    go_wp2_with fail
    go_ret
    exact HE.out _ _ rfl B8.out
end Go.Proofs.YtockgbilbnheaaaDoor
