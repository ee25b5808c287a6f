/- NfaDeterministic: for every input the law returns true (tools/gen_nd.py). -/
import Derived.Test.YtfiekckcgafaoaaDoorNfaDp
import Derived.Test.YtfiekckcgafaoaaDoorNfaDet
import Derived.Test.YtfiekckcgafaoaaDoorLaw
import Derived.Test.YtfiekckcgafaoaaDoorWdo
import Derived.Test.YtfiekckcgafaoaaDoorBitsLen
namespace Go.Proofs.YtfiekckcgafaoaaDoor
open Go.RowKit

/-- The subset automaton in memory. -/
structure Sb (w : World) (sb gs cS : Nat) (vF : Value) (Aa : Option Addr) (cA : Nat) (vals : List Value) (SS : List (List Nat)) (A : List Ac) (bs : List Bool) : Prop where
  box : w.heap[sb]? = some (.cells #[.slice (some ⟨gs, 0, none⟩) SS.length cS, vF, .slice Aa A.length cA] 47 (0, 0))
  cap : SS.length ≤ cS
  row : ∀ (i : Nat) v, vals[i]? = some v → w.cell? ⟨gs, i, none⟩ = some v
  sets : ∀ (i : Nat) (v : Value) (ws : List Nat), vals[i]? = some v → SS[i]? = some ws → Wst w v ws
  vl : vals.length = SS.length
  f : Sl bl w vF bs
  a : Acs w (.slice Aa A.length cA) A
  ga : ∀ ad, Aa = some ad → ∃ g, ad = ⟨g, 0, none⟩
section
variable {w w' : World} {sb gs cS cA : Nat} {vF : Value} {Aa : Option Addr} {vals : List Value} {SS : List (List Nat)} {A : List Ac} {bs : List Bool}
theorem Sb.below (h : Sb w sb gs cS vF Aa cA vals SS A bs) (hb : Below w.heap.size w w') : Sb w' sb gs cS vF Aa cA vals SS A bs :=
  ⟨(hb.block _ (lt_of_some h.box)).trans h.box, h.cap, fun i v hv => (hb.cell (World.block_lt_of_cell? _ _ (h.row i v hv))).trans (h.row i v hv), fun i v ws h1 h2 => (h.sets i v ws h1 h2).below hb, h.vl, h.f.below hb, h.a.below hb, h.ga⟩
theorem Sb.cells (h : Sb w sb gs cS vF Aa cA vals SS A bs) : w.cell? ⟨sb, 0, none⟩ = some (.slice (some ⟨gs, 0, none⟩) SS.length cS) ∧ w.cell? ⟨sb, 1, none⟩ = some vF ∧ w.cell? ⟨sb, 2, none⟩ = some (.slice Aa A.length cA) :=
  ⟨cell_of_row _ _ 0 _ _ _ h.box, cell_of_row _ _ 1 _ _ _ h.box, cell_of_row _ _ 2 _ _ _ h.box⟩
theorem Sb.set (h : Sb w sb gs cS vF Aa cA vals SS A bs) (i : Nat) (hi : i < SS.length) : ∃ u, (∀ w', Below w.heap.size w w' → w'.cell? ⟨gs, i, none⟩ = some u ∧ Wst w' u SS[i]) ∧ vals[i]? = some u := by
  have hv : vals[i]? = some (vals[i]'(by rw [h.vl]; exact hi)) := List.getElem?_eq_getElem _
  exact ⟨_, fun w' hb => ⟨(h.below hb).row i _ hv, (h.below hb).sets i _ _ hv (List.getElem?_eq_getElem hi)⟩, hv⟩
theorem Sb.arc (h : Sb w sb gs cS vF Aa cA vals SS A bs) (k : Nat) (hk : k < A.length) : ∃ g, Aa = some ⟨g, 0, none⟩ ∧ A.length ≤ cA ∧ ∀ w', Below w.heap.size w w' → w'.cell? ⟨g, k * 3, none⟩ = some (.int .i64 A[k].1) ∧ w'.cell? ⟨g, k * 3 + 1, none⟩ = some (.int .i64 A[k].2.1) ∧ w'.cell? ⟨g, k * 3 + 2, none⟩ = some (.int .i64 A[k].2.2) := by
  obtain ⟨ad, had, _, hc, _⟩ := h.a.at k hk
  obtain ⟨g, rfl⟩ := h.ga ad had
  refine ⟨g, had, hc, fun w' hb => ?_⟩
  obtain ⟨ad2, had2, _, _, y0, y1, y2⟩ := (h.below hb).a.at k hk
  rw [had] at had2
  cases had2
  have e : (⟨g, 0, none⟩ : Addr).add (k * 3) = ⟨g, k * 3, none⟩ := by unfold Addr.add; split <;> simp_all
  rw [e] at y0 y1 y2
  exact ⟨y0, y1, y2⟩
end
theorem addr0 (g i : Nat) : (⟨g, 0, none⟩ : Addr).add i = ⟨g, i, none⟩ := by unfold Addr.add; split <;> simp_all
theorem own3_at {w : World} {B e n : Nat} {v : Value} {xs : List Value} (h : w.ownsRow B e 3 v n xs) : ∃ A c, v = .slice A n c ∧ ∀ ad, A = some ad → ∃ g, ad = ⟨g, 0, none⟩ := by
  rcases h.2 with ⟨rfl, h0⟩ | ⟨g, cap, cur, rfl, _⟩
  · exact ⟨none, 0, by rw [h0], fun ad h => by cases h⟩
  · exact ⟨_, cap, rfl, fun ad h => by cases h; exact ⟨g, rfl⟩⟩
theorem equal_no {va vb : Value} {a b : List Nat} {w : World} (ha : Wst w va a) (hb : Wst w vb b) (ca : Canon a) (cb : Canon b) (la : a.length ≤ 64) (lb : b.length ≤ 64) (hne : a ≠ b) : Calls Tryd.prog 12 #[va, vb] w fun e w' => e = .returned (.bool false) ∧ Below w.heap.size w w' :=
  (equal_any va vb a b w ha.sl hb.sl (by unfold Room2; omega) (by unfold Room2; omega)).mono fun e w' ⟨he, m, hw⟩ => ⟨by rw [he, ca.used, cb.used, decide_eq_false hne], by rw [hw]; exact Below.drewN' (Below.refl _ w) m⟩
theorem equal_yes {va vb : Value} {a : List Nat} {w : World} (ha : Wst w va a) (hb : Wst w vb a) (la : a.length ≤ 64) : Calls Tryd.prog 12 #[va, vb] w fun e w' => e = .returned (.bool true) ∧ Below w.heap.size w w' :=
  (equal_any va vb a a w ha.sl hb.sl (by unfold Room2; omega) (by unfold Room2; omega)).mono fun e w' ⟨he, m, hw⟩ => ⟨by rw [he, decide_eq_true rfl], by rw [hw]; exact Below.drewN' (Below.refl _ w) m⟩
set_option maxRecDepth 100000 in
set_option maxHeartbeats 16000000 in
theorem nfadeterministic_walk (S : Int) (A1 A2 A3 : Option Addr) (c1 c2 c3 : Nat) (st : List Int) (fin : List Bool) (ar : List Ac) (A4 : Option Addr) (c4 : Nat) (word : List Int) (w : World) (hT : Tab w) (hs : Sl iv w (.slice A1 st.length c1) st) (hf : Sl bl w (.slice A2 fin.length c2) fin) (ha : Acs w (.slice A3 ar.length c3) ar) (hx : Sl iv w (.slice A4 word.length c4) word) (hwl : word.length ≤ 9223372036854775807) :
    Calls Tryd.prog 4 #[.agg #[.int .i64 S, .slice A1 st.length c1, .slice A2 fin.length c2, .slice A3 ar.length c3], .slice A4 word.length c4] w (Ok w) := by
  have hT0 := hT.size
  obtain ⟨W, hW⟩ : ∃ W, W = w.alloc (.cells #[.int .i64 S, .slice A1 st.length c1, .slice A2 fin.length c2, .slice A3 ar.length c3] 26) := ⟨_, rfl⟩
  have hbw : Below w.heap.size w W := by rw [hW]; exact below_alloc w _
  have hWb : W.heap[w.heap.size]? = some (.cells #[.int .i64 S, .slice A1 st.length c1, .slice A2 fin.length c2, .slice A3 ar.length c3] 26 (0, 0)) := by rw [hW]; exact heap_alloc_new w _
  have KX := Lib.hid (show ∀ w', Below W.heap.size W w' → w'.cell? ⟨w.heap.size, 0, none⟩ = some (.int .i64 S) ∧ w'.cell? ⟨w.heap.size, 1, none⟩ = some (.slice A1 st.length c1) ∧ w'.cell? ⟨w.heap.size, 2, none⟩ = some (.slice A2 fin.length c2) ∧ w'.cell? ⟨w.heap.size, 3, none⟩ = some (.slice A3 ar.length c3) from fun w' h => by
    have g1 := (h.block _ (lt_of_some hWb)).trans hWb
    exact ⟨cell_of_row _ _ 0 _ _ _ g1, cell_of_row _ _ 1 _ _ _ g1, cell_of_row _ _ 2 _ _ _ g1, cell_of_row _ _ 3 _ _ _ g1⟩)
  have HE := Lib.hid (show ∀ (e : Ending) (w' : World), e = .returned (.bool true) → Below W.heap.size W w' → Ok w e w' from fun e w' h1 h2 => ⟨h1, below_ext2 hbw h2⟩)
  have Hs := Lib.hid (hs.below hbw); have Hf := Lib.hid (hf.below hbw); have Ha := Lib.hid (ha.below hbw); have Hx := Lib.hid (hx.below hbw); have HT := Lib.hid (hT.below hbw hT0)
  have hlW : w.heap.size < W.heap.size := lt_of_some hWb
  have HlW := Lib.hid hlW
  have HW := Lib.hid hW
  have HWL := Lib.hid hwl
  clear hs hf ha hx hT hbw hWb hW hlW hT0 hwl
  have HT0 := Lib.hid HT.out.size
  go_enter Tryd.func4, Tryd.ntmps4
  go_wp2_with fail
  rw [← HW.out]
  generalize hbox : w.heap.size = bx at KX HlW
  have Hbox := Lib.hid hbox
  clear hbox
  try rw [Hbox.out]
  refine (awake_any W HT.out).mono ?_
  rintro e w1 ⟨rfl, hb1⟩
  have B1 := Lib.hid hb1
  clear hb1
  obtain ⟨x0, x1, x2, x3⟩ := KX.out _ B1.out
  go_wp2_with fail
  refine (few_any S A1 A2 A3 st.length fin.length ar.length c1 c2 c3 w1).mono ?_
  rintro e w2 ⟨rfl, hb2⟩
  have B2 := Lib.hid (below_ext2 B1.out hb2)
  clear hb2 x0 x1 x2 x3
  obtain ⟨x0, x1, x2, x3⟩ := KX.out _ B2.out
  cases hfew : fewA S st.length fin.length ar.length with
  | false =>
    clear hfew
    go_wp2
    go_ret
    exact HE.out _ _ rfl B2.out
  | true =>
  have hlim := fewA_lim hfew
  clear hfew
  obtain ⟨l1, l2, l3, l4⟩ := hlim
  go_wp2_with fail
  refine (rvalid_any S st fin ar _ _ _ w2 (Hs.out.below B2.out) (Hf.out.below B2.out) (Ha.out.below B2.out) (by omega) (by omega)).mono ?_
  rintro e w3 ⟨b, rfl, hvi, hb3⟩
  have B3 := Lib.hid (below_ext2 B2.out hb3)
  clear hb3 x0 x1 x2 x3
  obtain ⟨x0, x1, x2, x3⟩ := KX.out _ B3.out
  cases b with
  | false =>
    clear hvi
    go_wp2
    go_ret
    exact HE.out _ _ rfl B3.out
  | true =>
  obtain ⟨n, rfl, hvn⟩ := (hvi.1 rfl).vn
  have Hv := Lib.hid hvn
  clear hvi hvn
  by_cases hlen : 20 < word.length
  · have d0 : decide ((20 : Int) < (word.length : Int)) = true := decide_eq_true (by omega)
    go_wp2
    go_ret
    exact HE.out _ _ rfl B3.out
  have d0 : decide ((20 : Int) < (word.length : Int)) = false := decide_eq_false (by omega)
  go_wp2_with fail
  refine (own_any (n : Int) A1 A2 st.length c1 fin.length c2 _ ar w3 (Ha.out.below B3.out) (by omega)).mono ?_
  rintro e w4 ⟨v', rfl, hac, hb4⟩
  obtain ⟨A5, c5, rfl⟩ := hac.shape
  have B4 := Lib.hid (below_ext2 B3.out hb4)
  obtain ⟨V, hV⟩ : ∃ V, V = w4.alloc (.cells #[.int .i64 (n : Int), .slice A1 st.length c1, .slice A2 fin.length c2, .slice A5 ar.length c5] 32) := ⟨_, rfl⟩
  have hbV : Below w4.heap.size w4 V := by rw [hV]; exact below_alloc w4 _
  have BV := Lib.hid (below_ext2 B4.out hbV)
  have HX := Lib.hid (show Xa V w4.heap.size n (.slice A1 st.length c1) (.slice A2 fin.length c2) (.slice A5 ar.length c5) st fin ar from ⟨by rw [hV]; exact heap_alloc_new w4 _, Hs.out.below BV.out, Hf.out.below BV.out, hac.below hbV, HT.out.below BV.out HT0.out⟩)
  have HV := Lib.hid hV
  clear hac hb4 hbV hV x0 x1 x2 x3
  obtain ⟨y0, y1, y2, y3⟩ := HX.out.cells
  go_wp2_with (rw [← HV.out])
  generalize hxb : w4.heap.size = xb at *
  have Hxb2 := Lib.hid hxb
  clear hxb
  refine (det_any n st fin ar _ _ _ 1000 V Hv.out HX.out.s HX.out.f HX.out.a HX.out.t).mono ?_
  rintro e w5 ⟨k, SS, A, hd, hk, hall, hnd, hwf, hbd, hsl, hal, hb5, hor⟩
  have B5 := Lib.hid (below_ext2 BV.out hb5)
  have HX5 := Lib.hid (HX.out.below hb5)
  clear y0 y1 y2 y3
  rcases hor with ⟨_, rfl⟩ | ⟨hle, rfl, vS, vF, vA, vals, rfl, hrs, hsets, hrf, hra⟩
  · clear hd hall hwf hbd hb5 HX HX5
    go_wp2_with fail
    go_ret
    exact HE.out _ _ rfl (below_ext2 B5.out (below_alloc w5 _))
  have hdi := dget_di ar _ SS.length (fun i hi => (hall i hi).1)
  rw [hd] at hdi
  have HDI := Lib.hid hdi
  have hle1 : (SS.length : Int) ≤ 1000 := by omega
  have hpos : 0 < SS.length := (List.getElem?_eq_some_iff.1 hdi.hd).1
  obtain ⟨gs, cS, rfl, hgs, _, hcS⟩ := own_shape hrs (by omega)
  obtain ⟨Af, cF, rfl⟩ := own_shapeG hrf
  obtain ⟨Aa, cA, rfl, hga⟩ := own3_at hra
  have hrf2 : Sl bl w5 (.slice Af SS.length cF) (SS.map (FinB fin)) := Sl.of_own (by rw [List.map_map]; exact hrf)
  have hcl := @World.ownsRow.cells _ _ _ _ _ _ _ hrs
  have HSB0 := Lib.hid (show Sb (w5.alloc (.cells #[.slice (some ⟨gs, 0, none⟩) SS.length cS, .slice Af SS.length cF, .slice Aa A.length cA] 47)) w5.heap.size gs cS (.slice Af SS.length cF) Aa cA vals SS A (SS.map (FinB fin)) from
    ⟨heap_alloc_new w5 _, hcS, fun i v hv => by
      have h9 := hcl (g := gs) rfl i v hv
      have h8 := ((below_alloc w5 (.cells #[.slice (some ⟨gs, 0, none⟩) SS.length cS, .slice Af SS.length cF, .slice Aa A.length cA] 47)).cell (World.block_lt_of_cell? _ _ h9)).trans h9
      rwa [addr0] at h8, fun i v ws h1 h2 => (hsets i v ws h1 h2).below (below_alloc w5 _), by simpa using hrs.1, hrf2.below (below_alloc w5 _), (acs_own hra).below (below_alloc w5 _), hga⟩)
  have HND := Lib.hid hnd
  have HWF := Lib.hid hwf
  have HAL := Lib.hid hal
  have BZ := Lib.hid (below_ext2 B5.out (below_alloc w5 (.cells #[.slice (some ⟨gs, 0, none⟩) SS.length cS, .slice Af SS.length cF, .slice Aa A.length cA] 47)))
  have HXZ := Lib.hid (HX5.out.below (below_alloc w5 (.cells #[.slice (some ⟨gs, 0, none⟩) SS.length cS, .slice Af SS.length cF, .slice Aa A.length cA] 47)))
  clear hd hall hnd hwf hbd hal hb5 hdi hrs hrf hra hsets hcl hrf2 hle hga HX HX5
  obtain ⟨s0, s1, s2⟩ := HSB0.out.cells
  have e1 : ((SS.length : Int) == 0) = false := by rw [beq_eq_false_iff_ne]; omega
  go_wp2_with fail
  obtain ⟨Z, hZ⟩ : ∃ Z, Z = w5.alloc (.cells #[.slice (some ⟨gs, 0, none⟩) SS.length cS, .slice Af SS.length cF, .slice Aa A.length cA] 47) := ⟨_, rfl⟩
  rw [← hZ] at HSB0 BZ HXZ s0 s1 s2 ⊢
  obtain ⟨sb, hsb⟩ : ∃ sb, sb = w5.heap.size := ⟨_, rfl⟩
  rw [← hsb] at HSB0 s0 s1 s2 ⊢
  clear hZ hsb s0 s1 s2 e1
  obtain ⟨na, hna⟩ : ∃ na, na = A.length := ⟨_, rfl⟩
  have HBW0 := Lib.hid (Below.refl Z.heap.size Z)
  go_loopw [65] (fun j wr => ∃ k : Nat, k ≤ A.length ∧ j = .int .i64 (k : Int) ∧ Hid (Below Z.heap.size Z wr)) (fun j _ => A.length - (intOf j).toNat)
  case atStart => exact ⟨0, Nat.zero_le _, rfl, HBW0⟩
  case round =>
    clear HBW0
    obtain ⟨k, hk, rfl, HB⟩ := hrel
    have hal := HAL.out
    by_cases hlt : k < A.length
    · have dk : decide ((k : Int) < (A.length : Int)) = true := decide_eq_true (by omega)
      obtain ⟨ga, rfl, hcA, hac⟩ := (HSB0.out.below HB.out).arc k hlt
      obtain ⟨a1, a2, a3, a4⟩ := HDI.out.arc k hlt
      have hprev : ∀ q, k = q + 1 → ∃ z0 z1 z2 : Int, (∀ w', Below wr.heap.size wr w' → w'.cell? ⟨ga, q * 3, none⟩ = some (.int .i64 z0) ∧ w'.cell? ⟨ga, q * 3 + 1, none⟩ = some (.int .i64 z1) ∧ w'.cell? ⟨ga, q * 3 + 2, none⟩ = some (.int .i64 z2)) ∧ (z0 < A[k].1 ∨ z0 = A[k].1 ∧ z1 < A[k].2.1) := fun q hq => by
        subst hq
        obtain ⟨g2, hg2, _, h2⟩ := (HSB0.out.below HB.out).arc q (by omega)
        cases hg2
        exact ⟨_, _, _, h2, HDI.out.lex q hlt⟩
      obtain ⟨y0, y1, y2⟩ := hac wr (Below.refl _ _)
      obtain ⟨x, hx⟩ : ∃ x, x = A[k] := ⟨_, rfl⟩
      rw [← hx] at a1 a2 a3 a4 hprev y0 y1 y2
      clear hx hac
      obtain ⟨x0, x1, x2⟩ := x
      dsimp only at a1 a2 a3 a4 hprev y0 y1 y2
      have H1 := Lib.hid (show ¬ x0 < 0 by omega)
      have H2 := Lib.hid (show ¬ (SS.length : Int) ≤ x0 by omega)
      have H3 := Lib.hid (show ¬ x2 < 0 by omega)
      have H4 := Lib.hid (show ¬ (SS.length : Int) ≤ x2 by omega)
      have hka : (k : Int) < (A.length : Int) := by omega
      have ha0 := addr0 ga (k * 3)
      have HPV := Lib.hid hprev
      obtain ⟨s0, s1, s2⟩ := (HSB0.out.below HB.out).cells
      clear hprev a1 a2 a3 a4
      go_wp2_with fail
      clear s0 s1 s2 y0 y1 y2 ha0
      obtain ⟨Y, hY⟩ : ∃ Y, Y = wr.alloc (.cells #[.int .i64 x0, .int .i64 x1, .int .i64 x2] 51) := ⟨_, rfl⟩
      have hYn : Y.heap[wr.heap.size]? = some (.cells #[.int .i64 x0, .int .i64 x1, .int .i64 x2] 51 (0, 0)) := by rw [hY]; exact heap_alloc_new wr _
      have hYb : Below wr.heap.size wr Y := by rw [hY]; exact below_alloc wr _
      have HBY := Lib.hid (below_ext2 HB.out hYb)
      rw [← hY]
      obtain ⟨yb, hyb⟩ : ∃ yb, yb = wr.heap.size := ⟨_, rfl⟩
      rw [← hyb] at hYn ⊢
      have HYC := Lib.hid (show ∀ w', Below Y.heap.size Y w' → w'.cell? ⟨yb, 0, none⟩ = some (.int .i64 x0) ∧ w'.cell? ⟨yb, 1, none⟩ = some (.int .i64 x1) ∧ w'.cell? ⟨yb, 2, none⟩ = some (.int .i64 x2) from fun w' h => by
        have g1 := (h.block _ (lt_of_some hYn)).trans hYn
        exact ⟨cell_of_row _ _ 0 _ _ _ g1, cell_of_row _ _ 1 _ _ _ g1, cell_of_row _ _ 2 _ _ _ g1⟩)
      have HSC := Lib.hid (show ∀ w', Below Y.heap.size Y w' → w'.cell? ⟨sb, 0, none⟩ = some (.slice (some ⟨gs, 0, none⟩) SS.length cS) ∧ w'.cell? ⟨sb, 1, none⟩ = some (.slice Af SS.length cF) ∧ w'.cell? ⟨sb, 2, none⟩ = some (.slice (some ⟨ga, 0, none⟩) A.length cA) from fun w' h => (HSB0.out.below (below_ext2 HBY.out h)).cells)
      have HYB := Lib.hid hYb
      clear hYn hYb hY hyb
      rcases Nat.eq_zero_or_pos k with hk0 | hk0
      · have H5 := Lib.hid (show ¬ 0 < k by omega)
        clear hk0 HPV
        refine region_phi (n := 282) (Wd [(false, .pointer (some ⟨yb, 0, none⟩)),
            (false, .int .i64 (x0)),
            (false, .bool false),
            (false, .bool false),
            (false, .pointer (some ⟨yb, 0, none⟩)),
            (false, .int .i64 (x0)),
            (false, .pointer (some ⟨sb, 0, none⟩)),
            (false, .slice (some ⟨gs, 0, none⟩) SS.length cS),
            (false, .int .i64 ((SS.length : Int))),
            (false, .bool false),
            (false, .bool false),
            (false, .bool false),
            (false, .pointer (some ⟨yb, 2, none⟩)),
            (false, .int .i64 (x2)),
            (false, .bool false),
            (false, .bool false),
            (false, .bool false),
            (false, .pointer (some ⟨yb, 2, none⟩)),
            (false, .int .i64 (x2)),
            (false, .pointer (some ⟨sb, 0, none⟩)),
            (false, .slice (some ⟨gs, 0, none⟩) SS.length cS),
            (false, .int .i64 ((SS.length : Int))),
            (false, .bool false),
            (false, .bool false),
            (false, .bool false),
            (false, .int .i64 ((k : Int))),
            (false, .bool false),
            (false, .bool false),
            (false, undef),
            (false, undef),
            (false, undef),
            (false, undef),
            (false, undef),
            (false, undef),
            (false, undef),
            (false, undef),
            (false, undef),
            (false, undef),
            (false, undef),
            (false, undef),
            (false, undef),
            (false, undef),
            (false, undef),
            (false, undef),
            (false, undef),
            (false, undef),
            (false, undef),
            (false, undef),
            (false, undef),
            (false, undef),
            (false, undef),
            (false, undef),
            (false, undef),
            (false, undef),
            (false, undef),
            (false, undef),
            (false, undef),
            (false, undef),
            (false, undef),
            (false, undef),
            (false, undef),
            (false, undef),
            (false, .bool false),
            (false, .bool false)]) (by kernel_rfl) (by kernel_rfl) rfl (fun _ _ _ _ h _ => h) (allOps_spec ?_) ?_
        · refine ⟨?_, ?_, ?_, ?_, ?_, ?_, ?_, ?_, ?_, ?_, ?_, ?_, ?_, ?_, ?_, ?_, ?_, ?_, ?_, ?_, ?_, ?_, ?_, ?_, ?_, ?_, ?_, ?_, ?_, ?_, ?_, ?_, ?_, ?_, ?_, ?_, ?_, ?_, ?_, ?_, ?_, ?_, ?_, ?_, ?_, ?_, ?_, ?_, ?_, ?_, ?_, ?_, ?_, ?_, ?_, ?_, ?_, ?_, ?_, ?_, ?_, ?_, ?_, ?_, trivial⟩
          · intro ac w' hb hp
            have b9 : ac.tmps[9]?.getD undef = .pointer (some ⟨yb, 0, none⟩) := hb.at 9 (by kernel_rfl)
            exact wd_run rfl rfl (by simp [execOp, go_sem, Act.eval, b9])
          · intro ac w' hb hp
            have qq := (HYC.out _ hb.ext).1
            exact wd_run rfl rfl (by simp [execOp, go_sem, Act.eval, wd_get (hp ⟨0, .data⟩ (by simp) rfl _ rfl) rfl rfl, qq])
          · exact fun ac w' hb hp => wd_run rfl rfl (by simp [execOp, go_sem, Act.eval, wd_get (hp ⟨1, .data⟩ (by simp) rfl _ rfl) rfl rfl, H1.out])
          · exact fun ac w' hb hp => wd_run rfl rfl (by simp [execOp, go_sem, Act.eval, wd_get (hp ⟨2, .data⟩ (by simp) rfl _ rfl) rfl rfl])
          · intro ac w' hb hp
            have gg := wd_get (hp ⟨3, .guard⟩ (by simp) rfl _ rfl) rfl rfl
            have b9 : ac.tmps[9]?.getD undef = .pointer (some ⟨yb, 0, none⟩) := hb.at 9 (by kernel_rfl)
            exact wd_run rfl (by simp [Region.wanted, yielded, bool_at gg]) (by simp [execOp, go_sem, Act.eval, b9])
          · intro ac w' hb hp
            have gg := wd_get (hp ⟨3, .guard⟩ (by simp) rfl _ rfl) rfl rfl
            have qq := (HYC.out _ hb.ext).1
            exact wd_run rfl (by simp [Region.wanted, yielded, bool_at gg]) (by simp [execOp, go_sem, Act.eval, wd_get (hp ⟨4, .data⟩ (by simp) rfl _ rfl) rfl rfl, qq])
          · intro ac w' hb hp
            have gg := wd_get (hp ⟨3, .guard⟩ (by simp) rfl _ rfl) rfl rfl
            have b6 : ac.tmps[6]?.getD undef = .pointer (some ⟨sb, 0, none⟩) := hb.at 6 (by kernel_rfl)
            exact wd_run rfl (by simp [Region.wanted, yielded, bool_at gg]) (by simp [execOp, go_sem, Act.eval, b6])
          · intro ac w' hb hp
            have gg := wd_get (hp ⟨3, .guard⟩ (by simp) rfl _ rfl) rfl rfl
            have qq := (HSC.out _ hb.ext).1
            exact wd_run rfl (by simp [Region.wanted, yielded, bool_at gg]) (by simp [execOp, go_sem, Act.eval, wd_get (hp ⟨6, .data⟩ (by simp) rfl _ rfl) rfl rfl, qq])
          · intro ac w' hb hp
            have gg := wd_get (hp ⟨3, .guard⟩ (by simp) rfl _ rfl) rfl rfl
            exact wd_run rfl (by simp [Region.wanted, yielded, bool_at gg]) (by simp [go_sem, Act.eval, wd_get (hp ⟨7, .data⟩ (by simp) rfl _ rfl) rfl rfl])
          · intro ac w' hb hp
            have gg := wd_get (hp ⟨3, .guard⟩ (by simp) rfl _ rfl) rfl rfl
            exact wd_run rfl (by simp [Region.wanted, yielded, bool_at gg]) (by simp [execOp, go_sem, Act.eval, wd_get (hp ⟨5, .data⟩ (by simp) rfl _ rfl) rfl rfl, wd_get (hp ⟨8, .data⟩ (by simp) rfl _ rfl) rfl rfl, H2.out])
          · exact fun ac w' hb hp => wd_run rfl rfl (by simp [execOp, go_sem, Act.eval, wd_get (hp ⟨3, .data⟩ (by simp) rfl _ rfl) rfl rfl, wd_get (hp ⟨9, .data⟩ (by simp) rfl _ rfl) rfl rfl])
          · exact fun ac w' hb hp => wd_run rfl rfl (by simp [execOp, go_sem, Act.eval, wd_get (hp ⟨10, .data⟩ (by simp) rfl _ rfl) rfl rfl])
          · intro ac w' hb hp
            have gg := wd_get (hp ⟨11, .guard⟩ (by simp) rfl _ rfl) rfl rfl
            have b9 : ac.tmps[9]?.getD undef = .pointer (some ⟨yb, 0, none⟩) := hb.at 9 (by kernel_rfl)
            exact wd_run rfl (by simp [Region.wanted, yielded, bool_at gg]) (by simp [execOp, go_sem, Act.eval, b9])
          · intro ac w' hb hp
            have gg := wd_get (hp ⟨11, .guard⟩ (by simp) rfl _ rfl) rfl rfl
            have qq := (HYC.out _ hb.ext).2.2
            exact wd_run rfl (by simp [Region.wanted, yielded, bool_at gg]) (by simp [execOp, go_sem, Act.eval, wd_get (hp ⟨12, .data⟩ (by simp) rfl _ rfl) rfl rfl, qq])
          · intro ac w' hb hp
            have gg := wd_get (hp ⟨11, .guard⟩ (by simp) rfl _ rfl) rfl rfl
            exact wd_run rfl (by simp [Region.wanted, yielded, bool_at gg]) (by simp [execOp, go_sem, Act.eval, wd_get (hp ⟨13, .data⟩ (by simp) rfl _ rfl) rfl rfl, H3.out])
          · exact fun ac w' hb hp => wd_run rfl rfl (by simp [execOp, go_sem, Act.eval, wd_get (hp ⟨11, .data⟩ (by simp) rfl _ rfl) rfl rfl, wd_get (hp ⟨14, .data⟩ (by simp) rfl _ rfl) rfl rfl])
          · exact fun ac w' hb hp => wd_run rfl rfl (by simp [execOp, go_sem, Act.eval, wd_get (hp ⟨15, .data⟩ (by simp) rfl _ rfl) rfl rfl])
          · intro ac w' hb hp
            have gg := wd_get (hp ⟨16, .guard⟩ (by simp) rfl _ rfl) rfl rfl
            have b9 : ac.tmps[9]?.getD undef = .pointer (some ⟨yb, 0, none⟩) := hb.at 9 (by kernel_rfl)
            exact wd_run rfl (by simp [Region.wanted, yielded, bool_at gg]) (by simp [execOp, go_sem, Act.eval, b9])
          · intro ac w' hb hp
            have gg := wd_get (hp ⟨16, .guard⟩ (by simp) rfl _ rfl) rfl rfl
            have qq := (HYC.out _ hb.ext).2.2
            exact wd_run rfl (by simp [Region.wanted, yielded, bool_at gg]) (by simp [execOp, go_sem, Act.eval, wd_get (hp ⟨17, .data⟩ (by simp) rfl _ rfl) rfl rfl, qq])
          · intro ac w' hb hp
            have gg := wd_get (hp ⟨16, .guard⟩ (by simp) rfl _ rfl) rfl rfl
            have b6 : ac.tmps[6]?.getD undef = .pointer (some ⟨sb, 0, none⟩) := hb.at 6 (by kernel_rfl)
            exact wd_run rfl (by simp [Region.wanted, yielded, bool_at gg]) (by simp [execOp, go_sem, Act.eval, b6])
          · intro ac w' hb hp
            have gg := wd_get (hp ⟨16, .guard⟩ (by simp) rfl _ rfl) rfl rfl
            have qq := (HSC.out _ hb.ext).1
            exact wd_run rfl (by simp [Region.wanted, yielded, bool_at gg]) (by simp [execOp, go_sem, Act.eval, wd_get (hp ⟨19, .data⟩ (by simp) rfl _ rfl) rfl rfl, qq])
          · intro ac w' hb hp
            have gg := wd_get (hp ⟨16, .guard⟩ (by simp) rfl _ rfl) rfl rfl
            exact wd_run rfl (by simp [Region.wanted, yielded, bool_at gg]) (by simp [go_sem, Act.eval, wd_get (hp ⟨20, .data⟩ (by simp) rfl _ rfl) rfl rfl])
          · intro ac w' hb hp
            have gg := wd_get (hp ⟨16, .guard⟩ (by simp) rfl _ rfl) rfl rfl
            exact wd_run rfl (by simp [Region.wanted, yielded, bool_at gg]) (by simp [execOp, go_sem, Act.eval, wd_get (hp ⟨18, .data⟩ (by simp) rfl _ rfl) rfl rfl, wd_get (hp ⟨21, .data⟩ (by simp) rfl _ rfl) rfl rfl, H4.out])
          · exact fun ac w' hb hp => wd_run rfl rfl (by simp [execOp, go_sem, Act.eval, wd_get (hp ⟨16, .data⟩ (by simp) rfl _ rfl) rfl rfl, wd_get (hp ⟨22, .data⟩ (by simp) rfl _ rfl) rfl rfl])
          · exact fun ac w' hb hp => wd_run rfl rfl (by simp [execOp, go_sem, Act.eval, wd_get (hp ⟨23, .data⟩ (by simp) rfl _ rfl) rfl rfl])
          · intro ac w' hb hp
            have gg := wd_get (hp ⟨24, .guard⟩ (by simp) rfl _ rfl) rfl rfl
            have b8 : ac.tmps[8]?.getD undef = .int .i64 ((k : Int)) := hb.at 8 (by kernel_rfl)
            exact wd_run rfl (by simp [Region.wanted, yielded, bool_at gg]) (by simp [execOp, go_sem, Act.eval, b8])
          · intro ac w' hb hp
            have gg := wd_get (hp ⟨24, .guard⟩ (by simp) rfl _ rfl) rfl rfl
            exact wd_run rfl (by simp [Region.wanted, yielded, bool_at gg]) (by simp [execOp, go_sem, Act.eval, wd_get (hp ⟨25, .data⟩ (by simp) rfl _ rfl) rfl rfl, H5.out])
          · intro ac w' hb hp
            have gg := wd_get (hp ⟨24, .guard⟩ (by simp) rfl _ rfl) rfl rfl
            exact wd_run rfl (by simp [Region.wanted, yielded, bool_at gg]) (by simp [execOp, go_sem, Act.eval, wd_get (hp ⟨26, .data⟩ (by simp) rfl _ rfl) rfl rfl])
          · intro ac w' hb hp
            have gg := wd_get (hp ⟨27, .guard⟩ (by simp) rfl _ rfl) rfl rfl
            exact wd_offd rfl (by simp [Region.wanted, yielded, bool_at gg])
          · intro ac w' hb hp
            have gg := wd_get (hp ⟨27, .guard⟩ (by simp) rfl _ rfl) rfl rfl
            exact wd_offd rfl (by simp [Region.wanted, yielded, bool_at gg])
          · intro ac w' hb hp
            have gg := wd_get (hp ⟨27, .guard⟩ (by simp) rfl _ rfl) rfl rfl
            exact wd_offd rfl (by simp [Region.wanted, yielded, bool_at gg])
          · intro ac w' hb hp
            have gg := wd_get (hp ⟨27, .guard⟩ (by simp) rfl _ rfl) rfl rfl
            exact wd_offd rfl (by simp [Region.wanted, yielded, bool_at gg])
          · intro ac w' hb hp
            have gg := wd_get (hp ⟨27, .guard⟩ (by simp) rfl _ rfl) rfl rfl
            exact wd_offd rfl (by simp [Region.wanted, yielded, bool_at gg])
          · intro ac w' hb hp
            have gg := wd_get (hp ⟨27, .guard⟩ (by simp) rfl _ rfl) rfl rfl
            exact wd_offd rfl (by simp [Region.wanted, yielded, bool_at gg])
          · intro ac w' hb hp
            have gg := wd_get (hp ⟨27, .guard⟩ (by simp) rfl _ rfl) rfl rfl
            exact wd_offd rfl (by simp [Region.wanted, yielded, bool_at gg])
          · intro ac w' hb hp
            have gg := wd_get (hp ⟨27, .guard⟩ (by simp) rfl _ rfl) rfl rfl
            exact wd_offd rfl (by simp [Region.wanted, yielded, bool_at gg])
          · intro ac w' hb hp
            have gg := wd_get (hp ⟨27, .guard⟩ (by simp) rfl _ rfl) rfl rfl
            exact wd_offd rfl (by simp [Region.wanted, yielded, bool_at gg])
          · intro ac w' hb hp
            have gg := wd_get (hp ⟨27, .guard⟩ (by simp) rfl _ rfl) rfl rfl
            exact wd_offd rfl (by simp [Region.wanted, yielded, bool_at gg])
          · intro ac w' hb hp
            have gg := wd_get (hp ⟨27, .guard⟩ (by simp) rfl _ rfl) rfl rfl
            exact wd_offd rfl (by simp [Region.wanted, yielded, bool_at gg])
          · intro ac w' hb hp
            have gg := wd_get (hp ⟨38, .guard⟩ (by simp) rfl _ rfl) rfl rfl
            exact wd_offu rfl rfl rfl gg
          · intro ac w' hb hp
            have gg := wd_get (hp ⟨38, .guard⟩ (by simp) rfl _ rfl) rfl rfl
            exact wd_offu rfl rfl rfl gg
          · intro ac w' hb hp
            have gg := wd_get (hp ⟨38, .guard⟩ (by simp) rfl _ rfl) rfl rfl
            exact wd_offu rfl rfl rfl gg
          · intro ac w' hb hp
            have gg := wd_get (hp ⟨38, .guard⟩ (by simp) rfl _ rfl) rfl rfl
            exact wd_offu rfl rfl rfl gg
          · intro ac w' hb hp
            have gg := wd_get (hp ⟨38, .guard⟩ (by simp) rfl _ rfl) rfl rfl
            exact wd_offu rfl rfl rfl gg
          · intro ac w' hb hp
            have gg := wd_get (hp ⟨38, .guard⟩ (by simp) rfl _ rfl) rfl rfl
            exact wd_offu rfl rfl rfl gg
          · intro ac w' hb hp
            have gg := wd_get (hp ⟨38, .guard⟩ (by simp) rfl _ rfl) rfl rfl
            exact wd_offu rfl rfl rfl gg
          · intro ac w' hb hp
            have gg := wd_get (hp ⟨38, .guard⟩ (by simp) rfl _ rfl) rfl rfl
            exact wd_offu rfl rfl rfl gg
          · intro ac w' hb hp
            have gg := wd_get (hp ⟨38, .guard⟩ (by simp) rfl _ rfl) rfl rfl
            exact wd_offu rfl rfl rfl gg
          · intro ac w' hb hp
            have gg := wd_get (hp ⟨38, .guard⟩ (by simp) rfl _ rfl) rfl rfl
            exact wd_offu rfl rfl rfl gg
          · intro ac w' hb hp
            have gg := wd_get (hp ⟨38, .guard⟩ (by simp) rfl _ rfl) rfl rfl
            exact wd_offu rfl rfl rfl gg
          · intro ac w' hb hp
            have gg := wd_get (hp ⟨49, .guard⟩ (by simp) rfl _ rfl) rfl rfl
            exact wd_offu rfl rfl rfl gg
          · intro ac w' hb hp
            have gg := wd_get (hp ⟨49, .guard⟩ (by simp) rfl _ rfl) rfl rfl
            exact wd_offu rfl rfl rfl gg
          · intro ac w' hb hp
            have gg := wd_get (hp ⟨49, .guard⟩ (by simp) rfl _ rfl) rfl rfl
            exact wd_offu rfl rfl rfl gg
          · intro ac w' hb hp
            have gg := wd_get (hp ⟨49, .guard⟩ (by simp) rfl _ rfl) rfl rfl
            exact wd_offu rfl rfl rfl gg
          · intro ac w' hb hp
            have gg := wd_get (hp ⟨49, .guard⟩ (by simp) rfl _ rfl) rfl rfl
            exact wd_offu rfl rfl rfl gg
          · intro ac w' hb hp
            have gg := wd_get (hp ⟨49, .guard⟩ (by simp) rfl _ rfl) rfl rfl
            exact wd_offu rfl rfl rfl gg
          · intro ac w' hb hp
            have gg := wd_get (hp ⟨49, .guard⟩ (by simp) rfl _ rfl) rfl rfl
            exact wd_offu rfl rfl rfl gg
          · intro ac w' hb hp
            have gg := wd_get (hp ⟨49, .guard⟩ (by simp) rfl _ rfl) rfl rfl
            exact wd_offu rfl rfl rfl gg
          · intro ac w' hb hp
            have gg := wd_get (hp ⟨49, .guard⟩ (by simp) rfl _ rfl) rfl rfl
            exact wd_offu rfl rfl rfl gg
          · intro ac w' hb hp
            have gg := wd_get (hp ⟨49, .guard⟩ (by simp) rfl _ rfl) rfl rfl
            exact wd_offu rfl rfl rfl gg
          · intro ac w' hb hp
            have gg := wd_get (hp ⟨38, .guard⟩ (by simp) rfl _ rfl) rfl rfl
            exact wd_offu rfl rfl rfl gg
          · intro ac w' hb hp
            have gg := wd_get (hp ⟨27, .guard⟩ (by simp) rfl _ rfl) rfl rfl
            exact wd_offd rfl (by simp [Region.wanted, yielded, bool_at gg])
          · intro ac w' hb hp
            have gg := wd_get (hp ⟨24, .guard⟩ (by simp) rfl _ rfl) rfl rfl
            exact wd_run rfl (by simp [Region.wanted, yielded, bool_at gg]) (by simp [execOp, go_sem, Act.eval, wd_get (hp ⟨27, .data⟩ (by simp) rfl _ rfl) rfl rfl])
          · exact fun ac w' hb hp => wd_run rfl rfl (by simp [execOp, go_sem, Act.eval, wd_get (hp ⟨24, .data⟩ (by simp) rfl _ rfl) rfl rfl, wd_get (hp ⟨62, .data⟩ (by simp) rfl _ rfl) rfl rfl])
        · intro vz w7 hext hall
          have HEXT := Lib.hid hext
          have e63 : vz 63 = .bool false := hall 63 (by decide) rfl
          clear hext hall
          simp only [putAll, Act.put, List.setIfInBounds_toArray, List.set_cons_zero, List.set_cons_succ, Nat.zero_add, Nat.reduceAdd, e63]
          clear e63
          have HB2 := Lib.hid (below_ext2 HBY.out HEXT.out)
          clear HEXT HSC HYC HYB HBY H1 H2 H3 H4 H5 hka
          go_wp2_with fail
          go_roundw
          case rel => exact ⟨k + 1, by omega, by go_num, HB2⟩
          case measure => simp [intOf]; omega
      · obtain ⟨q, hkq⟩ : ∃ q, k = q + 1 := ⟨k - 1, by omega⟩
        obtain ⟨z0, z1, z2, hz, hor⟩ := HPV.out q hkq
        have H5 := Lib.hid hk0
        have HQ := Lib.hid (show IntKind.i64.wrap ((k : Int) - 1) = (q : Int) by rw [IntKind.wrap_i64]; have := HAL.out; omega)
        have HQ1 := Lib.hid (show (q : Int) < (A.length : Int) by omega)
        have HPC := Lib.hid (show ∀ w', Below Y.heap.size Y w' → w'.cell? ⟨ga, q * 3, none⟩ = some (.int .i64 z0) ∧ w'.cell? ⟨ga, q * 3 + 1, none⟩ = some (.int .i64 z1) ∧ w'.cell? ⟨ga, q * 3 + 2, none⟩ = some (.int .i64 z2) from fun w' h => hz w' (below_ext2 HYB.out h))
        have H6 := Lib.hid (show ¬ x0 < z0 by omega)
        clear hz hk0 hkq HPV
        by_cases heq : x0 = z0
        · have H7 := Lib.hid heq
          have H8 := Lib.hid (show ¬ x1 ≤ z1 by omega)
          clear heq hor
          refine region_phi (n := 282) (Wd [(false, .pointer (some ⟨yb, 0, none⟩)),
              (false, .int .i64 (x0)),
              (false, .bool false),
              (false, .bool false),
              (false, .pointer (some ⟨yb, 0, none⟩)),
              (false, .int .i64 (x0)),
              (false, .pointer (some ⟨sb, 0, none⟩)),
              (false, .slice (some ⟨gs, 0, none⟩) SS.length cS),
              (false, .int .i64 ((SS.length : Int))),
              (false, .bool false),
              (false, .bool false),
              (false, .bool false),
              (false, .pointer (some ⟨yb, 2, none⟩)),
              (false, .int .i64 (x2)),
              (false, .bool false),
              (false, .bool false),
              (false, .bool false),
              (false, .pointer (some ⟨yb, 2, none⟩)),
              (false, .int .i64 (x2)),
              (false, .pointer (some ⟨sb, 0, none⟩)),
              (false, .slice (some ⟨gs, 0, none⟩) SS.length cS),
              (false, .int .i64 ((SS.length : Int))),
              (false, .bool false),
              (false, .bool false),
              (false, .bool false),
              (false, .int .i64 ((k : Int))),
              (false, .bool true),
              (false, .bool true),
              (false, .pointer (some ⟨yb, 0, none⟩)),
              (false, .int .i64 (x0)),
              (false, .pointer (some ⟨sb, 2, none⟩)),
              (false, .slice (some ⟨ga, 0, none⟩) A.length cA),
              (false, .int .i64 ((k : Int))),
              (false, .int .i64 ((q : Int))),
              (false, .pointer (some ⟨ga, q * 3, none⟩)),
              (false, .pointer (some ⟨ga, q * 3, none⟩)),
              (false, .int .i64 (z0)),
              (false, .bool false),
              (false, .bool false),
              (false, .pointer (some ⟨yb, 0, none⟩)),
              (false, .int .i64 (x0)),
              (false, .pointer (some ⟨sb, 2, none⟩)),
              (false, .slice (some ⟨ga, 0, none⟩) A.length cA),
              (false, .int .i64 ((k : Int))),
              (false, .int .i64 ((q : Int))),
              (false, .pointer (some ⟨ga, q * 3, none⟩)),
              (false, .pointer (some ⟨ga, q * 3, none⟩)),
              (false, .int .i64 (z0)),
              (false, .bool true),
              (false, .bool true),
              (false, .pointer (some ⟨yb, 1, none⟩)),
              (false, .int .i64 (x1)),
              (false, .pointer (some ⟨sb, 2, none⟩)),
              (false, .slice (some ⟨ga, 0, none⟩) A.length cA),
              (false, .int .i64 ((k : Int))),
              (false, .int .i64 ((q : Int))),
              (false, .pointer (some ⟨ga, q * 3, none⟩)),
              (false, .pointer (some ⟨ga, q * 3 + 1, none⟩)),
              (false, .int .i64 (z1)),
              (false, .bool false),
              (false, .bool false),
              (false, .bool false),
              (false, .bool false),
              (false, .bool false)]) (by kernel_rfl) (by kernel_rfl) rfl (fun _ _ _ _ h _ => h) (allOps_spec ?_) ?_
          · refine ⟨?_, ?_, ?_, ?_, ?_, ?_, ?_, ?_, ?_, ?_, ?_, ?_, ?_, ?_, ?_, ?_, ?_, ?_, ?_, ?_, ?_, ?_, ?_, ?_, ?_, ?_, ?_, ?_, ?_, ?_, ?_, ?_, ?_, ?_, ?_, ?_, ?_, ?_, ?_, ?_, ?_, ?_, ?_, ?_, ?_, ?_, ?_, ?_, ?_, ?_, ?_, ?_, ?_, ?_, ?_, ?_, ?_, ?_, ?_, ?_, ?_, ?_, ?_, ?_, trivial⟩
            · intro ac w' hb hp
              have b9 : ac.tmps[9]?.getD undef = .pointer (some ⟨yb, 0, none⟩) := hb.at 9 (by kernel_rfl)
              exact wd_run rfl rfl (by simp [execOp, go_sem, Act.eval, b9])
            · intro ac w' hb hp
              have qq := (HYC.out _ hb.ext).1
              exact wd_run rfl rfl (by simp [execOp, go_sem, Act.eval, wd_get (hp ⟨0, .data⟩ (by simp) rfl _ rfl) rfl rfl, qq])
            · exact fun ac w' hb hp => wd_run rfl rfl (by simp [execOp, go_sem, Act.eval, wd_get (hp ⟨1, .data⟩ (by simp) rfl _ rfl) rfl rfl, H1.out])
            · exact fun ac w' hb hp => wd_run rfl rfl (by simp [execOp, go_sem, Act.eval, wd_get (hp ⟨2, .data⟩ (by simp) rfl _ rfl) rfl rfl])
            · intro ac w' hb hp
              have gg := wd_get (hp ⟨3, .guard⟩ (by simp) rfl _ rfl) rfl rfl
              have b9 : ac.tmps[9]?.getD undef = .pointer (some ⟨yb, 0, none⟩) := hb.at 9 (by kernel_rfl)
              exact wd_run rfl (by simp [Region.wanted, yielded, bool_at gg]) (by simp [execOp, go_sem, Act.eval, b9])
            · intro ac w' hb hp
              have gg := wd_get (hp ⟨3, .guard⟩ (by simp) rfl _ rfl) rfl rfl
              have qq := (HYC.out _ hb.ext).1
              exact wd_run rfl (by simp [Region.wanted, yielded, bool_at gg]) (by simp [execOp, go_sem, Act.eval, wd_get (hp ⟨4, .data⟩ (by simp) rfl _ rfl) rfl rfl, qq])
            · intro ac w' hb hp
              have gg := wd_get (hp ⟨3, .guard⟩ (by simp) rfl _ rfl) rfl rfl
              have b6 : ac.tmps[6]?.getD undef = .pointer (some ⟨sb, 0, none⟩) := hb.at 6 (by kernel_rfl)
              exact wd_run rfl (by simp [Region.wanted, yielded, bool_at gg]) (by simp [execOp, go_sem, Act.eval, b6])
            · intro ac w' hb hp
              have gg := wd_get (hp ⟨3, .guard⟩ (by simp) rfl _ rfl) rfl rfl
              have qq := (HSC.out _ hb.ext).1
              exact wd_run rfl (by simp [Region.wanted, yielded, bool_at gg]) (by simp [execOp, go_sem, Act.eval, wd_get (hp ⟨6, .data⟩ (by simp) rfl _ rfl) rfl rfl, qq])
            · intro ac w' hb hp
              have gg := wd_get (hp ⟨3, .guard⟩ (by simp) rfl _ rfl) rfl rfl
              exact wd_run rfl (by simp [Region.wanted, yielded, bool_at gg]) (by simp [go_sem, Act.eval, wd_get (hp ⟨7, .data⟩ (by simp) rfl _ rfl) rfl rfl])
            · intro ac w' hb hp
              have gg := wd_get (hp ⟨3, .guard⟩ (by simp) rfl _ rfl) rfl rfl
              exact wd_run rfl (by simp [Region.wanted, yielded, bool_at gg]) (by simp [execOp, go_sem, Act.eval, wd_get (hp ⟨5, .data⟩ (by simp) rfl _ rfl) rfl rfl, wd_get (hp ⟨8, .data⟩ (by simp) rfl _ rfl) rfl rfl, H2.out])
            · exact fun ac w' hb hp => wd_run rfl rfl (by simp [execOp, go_sem, Act.eval, wd_get (hp ⟨3, .data⟩ (by simp) rfl _ rfl) rfl rfl, wd_get (hp ⟨9, .data⟩ (by simp) rfl _ rfl) rfl rfl])
            · exact fun ac w' hb hp => wd_run rfl rfl (by simp [execOp, go_sem, Act.eval, wd_get (hp ⟨10, .data⟩ (by simp) rfl _ rfl) rfl rfl])
            · intro ac w' hb hp
              have gg := wd_get (hp ⟨11, .guard⟩ (by simp) rfl _ rfl) rfl rfl
              have b9 : ac.tmps[9]?.getD undef = .pointer (some ⟨yb, 0, none⟩) := hb.at 9 (by kernel_rfl)
              exact wd_run rfl (by simp [Region.wanted, yielded, bool_at gg]) (by simp [execOp, go_sem, Act.eval, b9])
            · intro ac w' hb hp
              have gg := wd_get (hp ⟨11, .guard⟩ (by simp) rfl _ rfl) rfl rfl
              have qq := (HYC.out _ hb.ext).2.2
              exact wd_run rfl (by simp [Region.wanted, yielded, bool_at gg]) (by simp [execOp, go_sem, Act.eval, wd_get (hp ⟨12, .data⟩ (by simp) rfl _ rfl) rfl rfl, qq])
            · intro ac w' hb hp
              have gg := wd_get (hp ⟨11, .guard⟩ (by simp) rfl _ rfl) rfl rfl
              exact wd_run rfl (by simp [Region.wanted, yielded, bool_at gg]) (by simp [execOp, go_sem, Act.eval, wd_get (hp ⟨13, .data⟩ (by simp) rfl _ rfl) rfl rfl, H3.out])
            · exact fun ac w' hb hp => wd_run rfl rfl (by simp [execOp, go_sem, Act.eval, wd_get (hp ⟨11, .data⟩ (by simp) rfl _ rfl) rfl rfl, wd_get (hp ⟨14, .data⟩ (by simp) rfl _ rfl) rfl rfl])
            · exact fun ac w' hb hp => wd_run rfl rfl (by simp [execOp, go_sem, Act.eval, wd_get (hp ⟨15, .data⟩ (by simp) rfl _ rfl) rfl rfl])
            · intro ac w' hb hp
              have gg := wd_get (hp ⟨16, .guard⟩ (by simp) rfl _ rfl) rfl rfl
              have b9 : ac.tmps[9]?.getD undef = .pointer (some ⟨yb, 0, none⟩) := hb.at 9 (by kernel_rfl)
              exact wd_run rfl (by simp [Region.wanted, yielded, bool_at gg]) (by simp [execOp, go_sem, Act.eval, b9])
            · intro ac w' hb hp
              have gg := wd_get (hp ⟨16, .guard⟩ (by simp) rfl _ rfl) rfl rfl
              have qq := (HYC.out _ hb.ext).2.2
              exact wd_run rfl (by simp [Region.wanted, yielded, bool_at gg]) (by simp [execOp, go_sem, Act.eval, wd_get (hp ⟨17, .data⟩ (by simp) rfl _ rfl) rfl rfl, qq])
            · intro ac w' hb hp
              have gg := wd_get (hp ⟨16, .guard⟩ (by simp) rfl _ rfl) rfl rfl
              have b6 : ac.tmps[6]?.getD undef = .pointer (some ⟨sb, 0, none⟩) := hb.at 6 (by kernel_rfl)
              exact wd_run rfl (by simp [Region.wanted, yielded, bool_at gg]) (by simp [execOp, go_sem, Act.eval, b6])
            · intro ac w' hb hp
              have gg := wd_get (hp ⟨16, .guard⟩ (by simp) rfl _ rfl) rfl rfl
              have qq := (HSC.out _ hb.ext).1
              exact wd_run rfl (by simp [Region.wanted, yielded, bool_at gg]) (by simp [execOp, go_sem, Act.eval, wd_get (hp ⟨19, .data⟩ (by simp) rfl _ rfl) rfl rfl, qq])
            · intro ac w' hb hp
              have gg := wd_get (hp ⟨16, .guard⟩ (by simp) rfl _ rfl) rfl rfl
              exact wd_run rfl (by simp [Region.wanted, yielded, bool_at gg]) (by simp [go_sem, Act.eval, wd_get (hp ⟨20, .data⟩ (by simp) rfl _ rfl) rfl rfl])
            · intro ac w' hb hp
              have gg := wd_get (hp ⟨16, .guard⟩ (by simp) rfl _ rfl) rfl rfl
              exact wd_run rfl (by simp [Region.wanted, yielded, bool_at gg]) (by simp [execOp, go_sem, Act.eval, wd_get (hp ⟨18, .data⟩ (by simp) rfl _ rfl) rfl rfl, wd_get (hp ⟨21, .data⟩ (by simp) rfl _ rfl) rfl rfl, H4.out])
            · exact fun ac w' hb hp => wd_run rfl rfl (by simp [execOp, go_sem, Act.eval, wd_get (hp ⟨16, .data⟩ (by simp) rfl _ rfl) rfl rfl, wd_get (hp ⟨22, .data⟩ (by simp) rfl _ rfl) rfl rfl])
            · exact fun ac w' hb hp => wd_run rfl rfl (by simp [execOp, go_sem, Act.eval, wd_get (hp ⟨23, .data⟩ (by simp) rfl _ rfl) rfl rfl])
            · intro ac w' hb hp
              have gg := wd_get (hp ⟨24, .guard⟩ (by simp) rfl _ rfl) rfl rfl
              have b8 : ac.tmps[8]?.getD undef = .int .i64 ((k : Int)) := hb.at 8 (by kernel_rfl)
              exact wd_run rfl (by simp [Region.wanted, yielded, bool_at gg]) (by simp [execOp, go_sem, Act.eval, b8])
            · intro ac w' hb hp
              have gg := wd_get (hp ⟨24, .guard⟩ (by simp) rfl _ rfl) rfl rfl
              exact wd_run rfl (by simp [Region.wanted, yielded, bool_at gg]) (by simp [execOp, go_sem, Act.eval, wd_get (hp ⟨25, .data⟩ (by simp) rfl _ rfl) rfl rfl, H5.out])
            · intro ac w' hb hp
              have gg := wd_get (hp ⟨24, .guard⟩ (by simp) rfl _ rfl) rfl rfl
              exact wd_run rfl (by simp [Region.wanted, yielded, bool_at gg]) (by simp [execOp, go_sem, Act.eval, wd_get (hp ⟨26, .data⟩ (by simp) rfl _ rfl) rfl rfl])
            · intro ac w' hb hp
              have gg := wd_get (hp ⟨27, .guard⟩ (by simp) rfl _ rfl) rfl rfl
              have b9 : ac.tmps[9]?.getD undef = .pointer (some ⟨yb, 0, none⟩) := hb.at 9 (by kernel_rfl)
              exact wd_run rfl (by simp [Region.wanted, yielded, bool_at gg]) (by simp [execOp, go_sem, Act.eval, b9])
            · intro ac w' hb hp
              have gg := wd_get (hp ⟨27, .guard⟩ (by simp) rfl _ rfl) rfl rfl
              have qq := (HYC.out _ hb.ext).1
              exact wd_run rfl (by simp [Region.wanted, yielded, bool_at gg]) (by simp [execOp, go_sem, Act.eval, wd_get (hp ⟨28, .data⟩ (by simp) rfl _ rfl) rfl rfl, qq])
            · intro ac w' hb hp
              have gg := wd_get (hp ⟨27, .guard⟩ (by simp) rfl _ rfl) rfl rfl
              have b6 : ac.tmps[6]?.getD undef = .pointer (some ⟨sb, 0, none⟩) := hb.at 6 (by kernel_rfl)
              exact wd_run rfl (by simp [Region.wanted, yielded, bool_at gg]) (by simp [execOp, go_sem, Act.eval, b6])
            · intro ac w' hb hp
              have gg := wd_get (hp ⟨27, .guard⟩ (by simp) rfl _ rfl) rfl rfl
              have qq := (HSC.out _ hb.ext).2.2
              exact wd_run rfl (by simp [Region.wanted, yielded, bool_at gg]) (by simp [execOp, go_sem, Act.eval, wd_get (hp ⟨30, .data⟩ (by simp) rfl _ rfl) rfl rfl, qq])
            · intro ac w' hb hp
              have gg := wd_get (hp ⟨27, .guard⟩ (by simp) rfl _ rfl) rfl rfl
              have b8 : ac.tmps[8]?.getD undef = .int .i64 ((k : Int)) := hb.at 8 (by kernel_rfl)
              exact wd_run rfl (by simp [Region.wanted, yielded, bool_at gg]) (by simp [execOp, go_sem, Act.eval, b8])
            · intro ac w' hb hp
              have gg := wd_get (hp ⟨27, .guard⟩ (by simp) rfl _ rfl) rfl rfl
              exact wd_run rfl (by simp [Region.wanted, yielded, bool_at gg]) (by simp [execOp, go_sem, Act.eval, wd_get (hp ⟨32, .data⟩ (by simp) rfl _ rfl) rfl rfl, HQ.out])
            · intro ac w' hb hp
              have gg := wd_get (hp ⟨27, .guard⟩ (by simp) rfl _ rfl) rfl rfl
              exact wd_run rfl (by simp [Region.wanted, yielded, bool_at gg]) (by simp [execOp, go_sem, Act.eval, wd_get (hp ⟨31, .data⟩ (by simp) rfl _ rfl) rfl rfl, wd_get (hp ⟨33, .data⟩ (by simp) rfl _ rfl) rfl rfl, HQ1.out, addr0])
            · intro ac w' hb hp
              have gg := wd_get (hp ⟨27, .guard⟩ (by simp) rfl _ rfl) rfl rfl
              exact wd_run rfl (by simp [Region.wanted, yielded, bool_at gg]) (by simp [execOp, go_sem, Act.eval, wd_get (hp ⟨34, .data⟩ (by simp) rfl _ rfl) rfl rfl])
            · intro ac w' hb hp
              have gg := wd_get (hp ⟨27, .guard⟩ (by simp) rfl _ rfl) rfl rfl
              have qq := (HPC.out _ hb.ext).1
              exact wd_run rfl (by simp [Region.wanted, yielded, bool_at gg]) (by simp [execOp, go_sem, Act.eval, wd_get (hp ⟨35, .data⟩ (by simp) rfl _ rfl) rfl rfl, qq])
            · intro ac w' hb hp
              have gg := wd_get (hp ⟨27, .guard⟩ (by simp) rfl _ rfl) rfl rfl
              exact wd_run rfl (by simp [Region.wanted, yielded, bool_at gg]) (by simp [execOp, go_sem, Act.eval, wd_get (hp ⟨29, .data⟩ (by simp) rfl _ rfl) rfl rfl, wd_get (hp ⟨36, .data⟩ (by simp) rfl _ rfl) rfl rfl, H6.out])
            · intro ac w' hb hp
              have gg := wd_get (hp ⟨27, .guard⟩ (by simp) rfl _ rfl) rfl rfl
              exact wd_run rfl (by simp [Region.wanted, yielded, bool_at gg]) (by simp [execOp, go_sem, Act.eval, wd_get (hp ⟨37, .data⟩ (by simp) rfl _ rfl) rfl rfl])
            · intro ac w' hb hp
              have gg := wd_get (hp ⟨38, .guard⟩ (by simp) rfl _ rfl) rfl rfl
              have b9 : ac.tmps[9]?.getD undef = .pointer (some ⟨yb, 0, none⟩) := hb.at 9 (by kernel_rfl)
              exact wd_run rfl (by simp [Region.wanted, yielded, bool_at gg]) (by simp [execOp, go_sem, Act.eval, b9])
            · intro ac w' hb hp
              have gg := wd_get (hp ⟨38, .guard⟩ (by simp) rfl _ rfl) rfl rfl
              have qq := (HYC.out _ hb.ext).1
              exact wd_run rfl (by simp [Region.wanted, yielded, bool_at gg]) (by simp [execOp, go_sem, Act.eval, wd_get (hp ⟨39, .data⟩ (by simp) rfl _ rfl) rfl rfl, qq])
            · intro ac w' hb hp
              have gg := wd_get (hp ⟨38, .guard⟩ (by simp) rfl _ rfl) rfl rfl
              have b6 : ac.tmps[6]?.getD undef = .pointer (some ⟨sb, 0, none⟩) := hb.at 6 (by kernel_rfl)
              exact wd_run rfl (by simp [Region.wanted, yielded, bool_at gg]) (by simp [execOp, go_sem, Act.eval, b6])
            · intro ac w' hb hp
              have gg := wd_get (hp ⟨38, .guard⟩ (by simp) rfl _ rfl) rfl rfl
              have qq := (HSC.out _ hb.ext).2.2
              exact wd_run rfl (by simp [Region.wanted, yielded, bool_at gg]) (by simp [execOp, go_sem, Act.eval, wd_get (hp ⟨41, .data⟩ (by simp) rfl _ rfl) rfl rfl, qq])
            · intro ac w' hb hp
              have gg := wd_get (hp ⟨38, .guard⟩ (by simp) rfl _ rfl) rfl rfl
              have b8 : ac.tmps[8]?.getD undef = .int .i64 ((k : Int)) := hb.at 8 (by kernel_rfl)
              exact wd_run rfl (by simp [Region.wanted, yielded, bool_at gg]) (by simp [execOp, go_sem, Act.eval, b8])
            · intro ac w' hb hp
              have gg := wd_get (hp ⟨38, .guard⟩ (by simp) rfl _ rfl) rfl rfl
              exact wd_run rfl (by simp [Region.wanted, yielded, bool_at gg]) (by simp [execOp, go_sem, Act.eval, wd_get (hp ⟨43, .data⟩ (by simp) rfl _ rfl) rfl rfl, HQ.out])
            · intro ac w' hb hp
              have gg := wd_get (hp ⟨38, .guard⟩ (by simp) rfl _ rfl) rfl rfl
              exact wd_run rfl (by simp [Region.wanted, yielded, bool_at gg]) (by simp [execOp, go_sem, Act.eval, wd_get (hp ⟨42, .data⟩ (by simp) rfl _ rfl) rfl rfl, wd_get (hp ⟨44, .data⟩ (by simp) rfl _ rfl) rfl rfl, HQ1.out, addr0])
            · intro ac w' hb hp
              have gg := wd_get (hp ⟨38, .guard⟩ (by simp) rfl _ rfl) rfl rfl
              exact wd_run rfl (by simp [Region.wanted, yielded, bool_at gg]) (by simp [execOp, go_sem, Act.eval, wd_get (hp ⟨45, .data⟩ (by simp) rfl _ rfl) rfl rfl])
            · intro ac w' hb hp
              have gg := wd_get (hp ⟨38, .guard⟩ (by simp) rfl _ rfl) rfl rfl
              have qq := (HPC.out _ hb.ext).1
              exact wd_run rfl (by simp [Region.wanted, yielded, bool_at gg]) (by simp [execOp, go_sem, Act.eval, wd_get (hp ⟨46, .data⟩ (by simp) rfl _ rfl) rfl rfl, qq])
            · intro ac w' hb hp
              have gg := wd_get (hp ⟨38, .guard⟩ (by simp) rfl _ rfl) rfl rfl
              exact wd_run rfl (by simp [Region.wanted, yielded, bool_at gg]) (by simp [execOp, go_sem, Act.eval, wd_get (hp ⟨40, .data⟩ (by simp) rfl _ rfl) rfl rfl, wd_get (hp ⟨47, .data⟩ (by simp) rfl _ rfl) rfl rfl, H7.out])
            · intro ac w' hb hp
              have gg := wd_get (hp ⟨38, .guard⟩ (by simp) rfl _ rfl) rfl rfl
              exact wd_run rfl (by simp [Region.wanted, yielded, bool_at gg]) (by simp [execOp, go_sem, Act.eval, wd_get (hp ⟨48, .data⟩ (by simp) rfl _ rfl) rfl rfl])
            · intro ac w' hb hp
              have gg := wd_get (hp ⟨49, .guard⟩ (by simp) rfl _ rfl) rfl rfl
              have b9 : ac.tmps[9]?.getD undef = .pointer (some ⟨yb, 0, none⟩) := hb.at 9 (by kernel_rfl)
              exact wd_run rfl (by simp [Region.wanted, yielded, bool_at gg]) (by simp [execOp, go_sem, Act.eval, b9])
            · intro ac w' hb hp
              have gg := wd_get (hp ⟨49, .guard⟩ (by simp) rfl _ rfl) rfl rfl
              have qq := (HYC.out _ hb.ext).2.1
              exact wd_run rfl (by simp [Region.wanted, yielded, bool_at gg]) (by simp [execOp, go_sem, Act.eval, wd_get (hp ⟨50, .data⟩ (by simp) rfl _ rfl) rfl rfl, qq])
            · intro ac w' hb hp
              have gg := wd_get (hp ⟨49, .guard⟩ (by simp) rfl _ rfl) rfl rfl
              have b6 : ac.tmps[6]?.getD undef = .pointer (some ⟨sb, 0, none⟩) := hb.at 6 (by kernel_rfl)
              exact wd_run rfl (by simp [Region.wanted, yielded, bool_at gg]) (by simp [execOp, go_sem, Act.eval, b6])
            · intro ac w' hb hp
              have gg := wd_get (hp ⟨49, .guard⟩ (by simp) rfl _ rfl) rfl rfl
              have qq := (HSC.out _ hb.ext).2.2
              exact wd_run rfl (by simp [Region.wanted, yielded, bool_at gg]) (by simp [execOp, go_sem, Act.eval, wd_get (hp ⟨52, .data⟩ (by simp) rfl _ rfl) rfl rfl, qq])
            · intro ac w' hb hp
              have gg := wd_get (hp ⟨49, .guard⟩ (by simp) rfl _ rfl) rfl rfl
              have b8 : ac.tmps[8]?.getD undef = .int .i64 ((k : Int)) := hb.at 8 (by kernel_rfl)
              exact wd_run rfl (by simp [Region.wanted, yielded, bool_at gg]) (by simp [execOp, go_sem, Act.eval, b8])
            · intro ac w' hb hp
              have gg := wd_get (hp ⟨49, .guard⟩ (by simp) rfl _ rfl) rfl rfl
              exact wd_run rfl (by simp [Region.wanted, yielded, bool_at gg]) (by simp [execOp, go_sem, Act.eval, wd_get (hp ⟨54, .data⟩ (by simp) rfl _ rfl) rfl rfl, HQ.out])
            · intro ac w' hb hp
              have gg := wd_get (hp ⟨49, .guard⟩ (by simp) rfl _ rfl) rfl rfl
              exact wd_run rfl (by simp [Region.wanted, yielded, bool_at gg]) (by simp [execOp, go_sem, Act.eval, wd_get (hp ⟨53, .data⟩ (by simp) rfl _ rfl) rfl rfl, wd_get (hp ⟨55, .data⟩ (by simp) rfl _ rfl) rfl rfl, HQ1.out, addr0])
            · intro ac w' hb hp
              have gg := wd_get (hp ⟨49, .guard⟩ (by simp) rfl _ rfl) rfl rfl
              exact wd_run rfl (by simp [Region.wanted, yielded, bool_at gg]) (by simp [execOp, go_sem, Act.eval, wd_get (hp ⟨56, .data⟩ (by simp) rfl _ rfl) rfl rfl])
            · intro ac w' hb hp
              have gg := wd_get (hp ⟨49, .guard⟩ (by simp) rfl _ rfl) rfl rfl
              have qq := (HPC.out _ hb.ext).2.1
              exact wd_run rfl (by simp [Region.wanted, yielded, bool_at gg]) (by simp [execOp, go_sem, Act.eval, wd_get (hp ⟨57, .data⟩ (by simp) rfl _ rfl) rfl rfl, qq])
            · intro ac w' hb hp
              have gg := wd_get (hp ⟨49, .guard⟩ (by simp) rfl _ rfl) rfl rfl
              exact wd_run rfl (by simp [Region.wanted, yielded, bool_at gg]) (by simp [execOp, go_sem, Act.eval, wd_get (hp ⟨51, .data⟩ (by simp) rfl _ rfl) rfl rfl, wd_get (hp ⟨58, .data⟩ (by simp) rfl _ rfl) rfl rfl, H8.out])
            · intro ac w' hb hp
              have gg := wd_get (hp ⟨38, .guard⟩ (by simp) rfl _ rfl) rfl rfl
              exact wd_run rfl (by simp [Region.wanted, yielded, bool_at gg]) (by simp [execOp, go_sem, Act.eval, wd_get (hp ⟨49, .data⟩ (by simp) rfl _ rfl) rfl rfl, wd_get (hp ⟨59, .data⟩ (by simp) rfl _ rfl) rfl rfl])
            · intro ac w' hb hp
              have gg := wd_get (hp ⟨27, .guard⟩ (by simp) rfl _ rfl) rfl rfl
              exact wd_run rfl (by simp [Region.wanted, yielded, bool_at gg]) (by simp [execOp, go_sem, Act.eval, wd_get (hp ⟨38, .data⟩ (by simp) rfl _ rfl) rfl rfl, wd_get (hp ⟨60, .data⟩ (by simp) rfl _ rfl) rfl rfl])
            · intro ac w' hb hp
              have gg := wd_get (hp ⟨24, .guard⟩ (by simp) rfl _ rfl) rfl rfl
              exact wd_run rfl (by simp [Region.wanted, yielded, bool_at gg]) (by simp [execOp, go_sem, Act.eval, wd_get (hp ⟨27, .data⟩ (by simp) rfl _ rfl) rfl rfl, wd_get (hp ⟨61, .data⟩ (by simp) rfl _ rfl) rfl rfl])
            · exact fun ac w' hb hp => wd_run rfl rfl (by simp [execOp, go_sem, Act.eval, wd_get (hp ⟨24, .data⟩ (by simp) rfl _ rfl) rfl rfl, wd_get (hp ⟨62, .data⟩ (by simp) rfl _ rfl) rfl rfl])
          · intro vz w7 hext hall
            have HEXT := Lib.hid hext
            have e63 : vz 63 = .bool false := hall 63 (by decide) rfl
            clear hext hall
            simp only [putAll, Act.put, List.setIfInBounds_toArray, List.set_cons_zero, List.set_cons_succ, Nat.zero_add, Nat.reduceAdd, e63]
            clear e63
            have HB2 := Lib.hid (below_ext2 HBY.out HEXT.out)
            clear HEXT HSC HYC HYB HBY H1 H2 H3 H4 H5 H6 H7 H8 HQ HQ1 HPC hka
            go_wp2_with fail
            go_roundw
            case rel => exact ⟨k + 1, by omega, by go_num, HB2⟩
            case measure => simp [intOf]; omega
        · have H7 := Lib.hid heq
          clear heq hor
          refine region_phi (n := 282) (Wd [(false, .pointer (some ⟨yb, 0, none⟩)),
              (false, .int .i64 (x0)),
              (false, .bool false),
              (false, .bool false),
              (false, .pointer (some ⟨yb, 0, none⟩)),
              (false, .int .i64 (x0)),
              (false, .pointer (some ⟨sb, 0, none⟩)),
              (false, .slice (some ⟨gs, 0, none⟩) SS.length cS),
              (false, .int .i64 ((SS.length : Int))),
              (false, .bool false),
              (false, .bool false),
              (false, .bool false),
              (false, .pointer (some ⟨yb, 2, none⟩)),
              (false, .int .i64 (x2)),
              (false, .bool false),
              (false, .bool false),
              (false, .bool false),
              (false, .pointer (some ⟨yb, 2, none⟩)),
              (false, .int .i64 (x2)),
              (false, .pointer (some ⟨sb, 0, none⟩)),
              (false, .slice (some ⟨gs, 0, none⟩) SS.length cS),
              (false, .int .i64 ((SS.length : Int))),
              (false, .bool false),
              (false, .bool false),
              (false, .bool false),
              (false, .int .i64 ((k : Int))),
              (false, .bool true),
              (false, .bool true),
              (false, .pointer (some ⟨yb, 0, none⟩)),
              (false, .int .i64 (x0)),
              (false, .pointer (some ⟨sb, 2, none⟩)),
              (false, .slice (some ⟨ga, 0, none⟩) A.length cA),
              (false, .int .i64 ((k : Int))),
              (false, .int .i64 ((q : Int))),
              (false, .pointer (some ⟨ga, q * 3, none⟩)),
              (false, .pointer (some ⟨ga, q * 3, none⟩)),
              (false, .int .i64 (z0)),
              (false, .bool false),
              (false, .bool false),
              (false, .pointer (some ⟨yb, 0, none⟩)),
              (false, .int .i64 (x0)),
              (false, .pointer (some ⟨sb, 2, none⟩)),
              (false, .slice (some ⟨ga, 0, none⟩) A.length cA),
              (false, .int .i64 ((k : Int))),
              (false, .int .i64 ((q : Int))),
              (false, .pointer (some ⟨ga, q * 3, none⟩)),
              (false, .pointer (some ⟨ga, q * 3, none⟩)),
              (false, .int .i64 (z0)),
              (false, .bool false),
              (false, .bool false),
              (false, undef),
              (false, undef),
              (false, undef),
              (false, undef),
              (false, undef),
              (false, undef),
              (false, undef),
              (false, undef),
              (false, undef),
              (false, undef),
              (false, .bool false),
              (false, .bool false),
              (false, .bool false),
              (false, .bool false)]) (by kernel_rfl) (by kernel_rfl) rfl (fun _ _ _ _ h _ => h) (allOps_spec ?_) ?_
          · refine ⟨?_, ?_, ?_, ?_, ?_, ?_, ?_, ?_, ?_, ?_, ?_, ?_, ?_, ?_, ?_, ?_, ?_, ?_, ?_, ?_, ?_, ?_, ?_, ?_, ?_, ?_, ?_, ?_, ?_, ?_, ?_, ?_, ?_, ?_, ?_, ?_, ?_, ?_, ?_, ?_, ?_, ?_, ?_, ?_, ?_, ?_, ?_, ?_, ?_, ?_, ?_, ?_, ?_, ?_, ?_, ?_, ?_, ?_, ?_, ?_, ?_, ?_, ?_, ?_, trivial⟩
            · intro ac w' hb hp
              have b9 : ac.tmps[9]?.getD undef = .pointer (some ⟨yb, 0, none⟩) := hb.at 9 (by kernel_rfl)
              exact wd_run rfl rfl (by simp [execOp, go_sem, Act.eval, b9])
            · intro ac w' hb hp
              have qq := (HYC.out _ hb.ext).1
              exact wd_run rfl rfl (by simp [execOp, go_sem, Act.eval, wd_get (hp ⟨0, .data⟩ (by simp) rfl _ rfl) rfl rfl, qq])
            · exact fun ac w' hb hp => wd_run rfl rfl (by simp [execOp, go_sem, Act.eval, wd_get (hp ⟨1, .data⟩ (by simp) rfl _ rfl) rfl rfl, H1.out])
            · exact fun ac w' hb hp => wd_run rfl rfl (by simp [execOp, go_sem, Act.eval, wd_get (hp ⟨2, .data⟩ (by simp) rfl _ rfl) rfl rfl])
            · intro ac w' hb hp
              have gg := wd_get (hp ⟨3, .guard⟩ (by simp) rfl _ rfl) rfl rfl
              have b9 : ac.tmps[9]?.getD undef = .pointer (some ⟨yb, 0, none⟩) := hb.at 9 (by kernel_rfl)
              exact wd_run rfl (by simp [Region.wanted, yielded, bool_at gg]) (by simp [execOp, go_sem, Act.eval, b9])
            · intro ac w' hb hp
              have gg := wd_get (hp ⟨3, .guard⟩ (by simp) rfl _ rfl) rfl rfl
              have qq := (HYC.out _ hb.ext).1
              exact wd_run rfl (by simp [Region.wanted, yielded, bool_at gg]) (by simp [execOp, go_sem, Act.eval, wd_get (hp ⟨4, .data⟩ (by simp) rfl _ rfl) rfl rfl, qq])
            · intro ac w' hb hp
              have gg := wd_get (hp ⟨3, .guard⟩ (by simp) rfl _ rfl) rfl rfl
              have b6 : ac.tmps[6]?.getD undef = .pointer (some ⟨sb, 0, none⟩) := hb.at 6 (by kernel_rfl)
              exact wd_run rfl (by simp [Region.wanted, yielded, bool_at gg]) (by simp [execOp, go_sem, Act.eval, b6])
            · intro ac w' hb hp
              have gg := wd_get (hp ⟨3, .guard⟩ (by simp) rfl _ rfl) rfl rfl
              have qq := (HSC.out _ hb.ext).1
              exact wd_run rfl (by simp [Region.wanted, yielded, bool_at gg]) (by simp [execOp, go_sem, Act.eval, wd_get (hp ⟨6, .data⟩ (by simp) rfl _ rfl) rfl rfl, qq])
            · intro ac w' hb hp
              have gg := wd_get (hp ⟨3, .guard⟩ (by simp) rfl _ rfl) rfl rfl
              exact wd_run rfl (by simp [Region.wanted, yielded, bool_at gg]) (by simp [go_sem, Act.eval, wd_get (hp ⟨7, .data⟩ (by simp) rfl _ rfl) rfl rfl])
            · intro ac w' hb hp
              have gg := wd_get (hp ⟨3, .guard⟩ (by simp) rfl _ rfl) rfl rfl
              exact wd_run rfl (by simp [Region.wanted, yielded, bool_at gg]) (by simp [execOp, go_sem, Act.eval, wd_get (hp ⟨5, .data⟩ (by simp) rfl _ rfl) rfl rfl, wd_get (hp ⟨8, .data⟩ (by simp) rfl _ rfl) rfl rfl, H2.out])
            · exact fun ac w' hb hp => wd_run rfl rfl (by simp [execOp, go_sem, Act.eval, wd_get (hp ⟨3, .data⟩ (by simp) rfl _ rfl) rfl rfl, wd_get (hp ⟨9, .data⟩ (by simp) rfl _ rfl) rfl rfl])
            · exact fun ac w' hb hp => wd_run rfl rfl (by simp [execOp, go_sem, Act.eval, wd_get (hp ⟨10, .data⟩ (by simp) rfl _ rfl) rfl rfl])
            · intro ac w' hb hp
              have gg := wd_get (hp ⟨11, .guard⟩ (by simp) rfl _ rfl) rfl rfl
              have b9 : ac.tmps[9]?.getD undef = .pointer (some ⟨yb, 0, none⟩) := hb.at 9 (by kernel_rfl)
              exact wd_run rfl (by simp [Region.wanted, yielded, bool_at gg]) (by simp [execOp, go_sem, Act.eval, b9])
            · intro ac w' hb hp
              have gg := wd_get (hp ⟨11, .guard⟩ (by simp) rfl _ rfl) rfl rfl
              have qq := (HYC.out _ hb.ext).2.2
              exact wd_run rfl (by simp [Region.wanted, yielded, bool_at gg]) (by simp [execOp, go_sem, Act.eval, wd_get (hp ⟨12, .data⟩ (by simp) rfl _ rfl) rfl rfl, qq])
            · intro ac w' hb hp
              have gg := wd_get (hp ⟨11, .guard⟩ (by simp) rfl _ rfl) rfl rfl
              exact wd_run rfl (by simp [Region.wanted, yielded, bool_at gg]) (by simp [execOp, go_sem, Act.eval, wd_get (hp ⟨13, .data⟩ (by simp) rfl _ rfl) rfl rfl, H3.out])
            · exact fun ac w' hb hp => wd_run rfl rfl (by simp [execOp, go_sem, Act.eval, wd_get (hp ⟨11, .data⟩ (by simp) rfl _ rfl) rfl rfl, wd_get (hp ⟨14, .data⟩ (by simp) rfl _ rfl) rfl rfl])
            · exact fun ac w' hb hp => wd_run rfl rfl (by simp [execOp, go_sem, Act.eval, wd_get (hp ⟨15, .data⟩ (by simp) rfl _ rfl) rfl rfl])
            · intro ac w' hb hp
              have gg := wd_get (hp ⟨16, .guard⟩ (by simp) rfl _ rfl) rfl rfl
              have b9 : ac.tmps[9]?.getD undef = .pointer (some ⟨yb, 0, none⟩) := hb.at 9 (by kernel_rfl)
              exact wd_run rfl (by simp [Region.wanted, yielded, bool_at gg]) (by simp [execOp, go_sem, Act.eval, b9])
            · intro ac w' hb hp
              have gg := wd_get (hp ⟨16, .guard⟩ (by simp) rfl _ rfl) rfl rfl
              have qq := (HYC.out _ hb.ext).2.2
              exact wd_run rfl (by simp [Region.wanted, yielded, bool_at gg]) (by simp [execOp, go_sem, Act.eval, wd_get (hp ⟨17, .data⟩ (by simp) rfl _ rfl) rfl rfl, qq])
            · intro ac w' hb hp
              have gg := wd_get (hp ⟨16, .guard⟩ (by simp) rfl _ rfl) rfl rfl
              have b6 : ac.tmps[6]?.getD undef = .pointer (some ⟨sb, 0, none⟩) := hb.at 6 (by kernel_rfl)
              exact wd_run rfl (by simp [Region.wanted, yielded, bool_at gg]) (by simp [execOp, go_sem, Act.eval, b6])
            · intro ac w' hb hp
              have gg := wd_get (hp ⟨16, .guard⟩ (by simp) rfl _ rfl) rfl rfl
              have qq := (HSC.out _ hb.ext).1
              exact wd_run rfl (by simp [Region.wanted, yielded, bool_at gg]) (by simp [execOp, go_sem, Act.eval, wd_get (hp ⟨19, .data⟩ (by simp) rfl _ rfl) rfl rfl, qq])
            · intro ac w' hb hp
              have gg := wd_get (hp ⟨16, .guard⟩ (by simp) rfl _ rfl) rfl rfl
              exact wd_run rfl (by simp [Region.wanted, yielded, bool_at gg]) (by simp [go_sem, Act.eval, wd_get (hp ⟨20, .data⟩ (by simp) rfl _ rfl) rfl rfl])
            · intro ac w' hb hp
              have gg := wd_get (hp ⟨16, .guard⟩ (by simp) rfl _ rfl) rfl rfl
              exact wd_run rfl (by simp [Region.wanted, yielded, bool_at gg]) (by simp [execOp, go_sem, Act.eval, wd_get (hp ⟨18, .data⟩ (by simp) rfl _ rfl) rfl rfl, wd_get (hp ⟨21, .data⟩ (by simp) rfl _ rfl) rfl rfl, H4.out])
            · exact fun ac w' hb hp => wd_run rfl rfl (by simp [execOp, go_sem, Act.eval, wd_get (hp ⟨16, .data⟩ (by simp) rfl _ rfl) rfl rfl, wd_get (hp ⟨22, .data⟩ (by simp) rfl _ rfl) rfl rfl])
            · exact fun ac w' hb hp => wd_run rfl rfl (by simp [execOp, go_sem, Act.eval, wd_get (hp ⟨23, .data⟩ (by simp) rfl _ rfl) rfl rfl])
            · intro ac w' hb hp
              have gg := wd_get (hp ⟨24, .guard⟩ (by simp) rfl _ rfl) rfl rfl
              have b8 : ac.tmps[8]?.getD undef = .int .i64 ((k : Int)) := hb.at 8 (by kernel_rfl)
              exact wd_run rfl (by simp [Region.wanted, yielded, bool_at gg]) (by simp [execOp, go_sem, Act.eval, b8])
            · intro ac w' hb hp
              have gg := wd_get (hp ⟨24, .guard⟩ (by simp) rfl _ rfl) rfl rfl
              exact wd_run rfl (by simp [Region.wanted, yielded, bool_at gg]) (by simp [execOp, go_sem, Act.eval, wd_get (hp ⟨25, .data⟩ (by simp) rfl _ rfl) rfl rfl, H5.out])
            · intro ac w' hb hp
              have gg := wd_get (hp ⟨24, .guard⟩ (by simp) rfl _ rfl) rfl rfl
              exact wd_run rfl (by simp [Region.wanted, yielded, bool_at gg]) (by simp [execOp, go_sem, Act.eval, wd_get (hp ⟨26, .data⟩ (by simp) rfl _ rfl) rfl rfl])
            · intro ac w' hb hp
              have gg := wd_get (hp ⟨27, .guard⟩ (by simp) rfl _ rfl) rfl rfl
              have b9 : ac.tmps[9]?.getD undef = .pointer (some ⟨yb, 0, none⟩) := hb.at 9 (by kernel_rfl)
              exact wd_run rfl (by simp [Region.wanted, yielded, bool_at gg]) (by simp [execOp, go_sem, Act.eval, b9])
            · intro ac w' hb hp
              have gg := wd_get (hp ⟨27, .guard⟩ (by simp) rfl _ rfl) rfl rfl
              have qq := (HYC.out _ hb.ext).1
              exact wd_run rfl (by simp [Region.wanted, yielded, bool_at gg]) (by simp [execOp, go_sem, Act.eval, wd_get (hp ⟨28, .data⟩ (by simp) rfl _ rfl) rfl rfl, qq])
            · intro ac w' hb hp
              have gg := wd_get (hp ⟨27, .guard⟩ (by simp) rfl _ rfl) rfl rfl
              have b6 : ac.tmps[6]?.getD undef = .pointer (some ⟨sb, 0, none⟩) := hb.at 6 (by kernel_rfl)
              exact wd_run rfl (by simp [Region.wanted, yielded, bool_at gg]) (by simp [execOp, go_sem, Act.eval, b6])
            · intro ac w' hb hp
              have gg := wd_get (hp ⟨27, .guard⟩ (by simp) rfl _ rfl) rfl rfl
              have qq := (HSC.out _ hb.ext).2.2
              exact wd_run rfl (by simp [Region.wanted, yielded, bool_at gg]) (by simp [execOp, go_sem, Act.eval, wd_get (hp ⟨30, .data⟩ (by simp) rfl _ rfl) rfl rfl, qq])
            · intro ac w' hb hp
              have gg := wd_get (hp ⟨27, .guard⟩ (by simp) rfl _ rfl) rfl rfl
              have b8 : ac.tmps[8]?.getD undef = .int .i64 ((k : Int)) := hb.at 8 (by kernel_rfl)
              exact wd_run rfl (by simp [Region.wanted, yielded, bool_at gg]) (by simp [execOp, go_sem, Act.eval, b8])
            · intro ac w' hb hp
              have gg := wd_get (hp ⟨27, .guard⟩ (by simp) rfl _ rfl) rfl rfl
              exact wd_run rfl (by simp [Region.wanted, yielded, bool_at gg]) (by simp [execOp, go_sem, Act.eval, wd_get (hp ⟨32, .data⟩ (by simp) rfl _ rfl) rfl rfl, HQ.out])
            · intro ac w' hb hp
              have gg := wd_get (hp ⟨27, .guard⟩ (by simp) rfl _ rfl) rfl rfl
              exact wd_run rfl (by simp [Region.wanted, yielded, bool_at gg]) (by simp [execOp, go_sem, Act.eval, wd_get (hp ⟨31, .data⟩ (by simp) rfl _ rfl) rfl rfl, wd_get (hp ⟨33, .data⟩ (by simp) rfl _ rfl) rfl rfl, HQ1.out, addr0])
            · intro ac w' hb hp
              have gg := wd_get (hp ⟨27, .guard⟩ (by simp) rfl _ rfl) rfl rfl
              exact wd_run rfl (by simp [Region.wanted, yielded, bool_at gg]) (by simp [execOp, go_sem, Act.eval, wd_get (hp ⟨34, .data⟩ (by simp) rfl _ rfl) rfl rfl])
            · intro ac w' hb hp
              have gg := wd_get (hp ⟨27, .guard⟩ (by simp) rfl _ rfl) rfl rfl
              have qq := (HPC.out _ hb.ext).1
              exact wd_run rfl (by simp [Region.wanted, yielded, bool_at gg]) (by simp [execOp, go_sem, Act.eval, wd_get (hp ⟨35, .data⟩ (by simp) rfl _ rfl) rfl rfl, qq])
            · intro ac w' hb hp
              have gg := wd_get (hp ⟨27, .guard⟩ (by simp) rfl _ rfl) rfl rfl
              exact wd_run rfl (by simp [Region.wanted, yielded, bool_at gg]) (by simp [execOp, go_sem, Act.eval, wd_get (hp ⟨29, .data⟩ (by simp) rfl _ rfl) rfl rfl, wd_get (hp ⟨36, .data⟩ (by simp) rfl _ rfl) rfl rfl, H6.out])
            · intro ac w' hb hp
              have gg := wd_get (hp ⟨27, .guard⟩ (by simp) rfl _ rfl) rfl rfl
              exact wd_run rfl (by simp [Region.wanted, yielded, bool_at gg]) (by simp [execOp, go_sem, Act.eval, wd_get (hp ⟨37, .data⟩ (by simp) rfl _ rfl) rfl rfl])
            · intro ac w' hb hp
              have gg := wd_get (hp ⟨38, .guard⟩ (by simp) rfl _ rfl) rfl rfl
              have b9 : ac.tmps[9]?.getD undef = .pointer (some ⟨yb, 0, none⟩) := hb.at 9 (by kernel_rfl)
              exact wd_run rfl (by simp [Region.wanted, yielded, bool_at gg]) (by simp [execOp, go_sem, Act.eval, b9])
            · intro ac w' hb hp
              have gg := wd_get (hp ⟨38, .guard⟩ (by simp) rfl _ rfl) rfl rfl
              have qq := (HYC.out _ hb.ext).1
              exact wd_run rfl (by simp [Region.wanted, yielded, bool_at gg]) (by simp [execOp, go_sem, Act.eval, wd_get (hp ⟨39, .data⟩ (by simp) rfl _ rfl) rfl rfl, qq])
            · intro ac w' hb hp
              have gg := wd_get (hp ⟨38, .guard⟩ (by simp) rfl _ rfl) rfl rfl
              have b6 : ac.tmps[6]?.getD undef = .pointer (some ⟨sb, 0, none⟩) := hb.at 6 (by kernel_rfl)
              exact wd_run rfl (by simp [Region.wanted, yielded, bool_at gg]) (by simp [execOp, go_sem, Act.eval, b6])
            · intro ac w' hb hp
              have gg := wd_get (hp ⟨38, .guard⟩ (by simp) rfl _ rfl) rfl rfl
              have qq := (HSC.out _ hb.ext).2.2
              exact wd_run rfl (by simp [Region.wanted, yielded, bool_at gg]) (by simp [execOp, go_sem, Act.eval, wd_get (hp ⟨41, .data⟩ (by simp) rfl _ rfl) rfl rfl, qq])
            · intro ac w' hb hp
              have gg := wd_get (hp ⟨38, .guard⟩ (by simp) rfl _ rfl) rfl rfl
              have b8 : ac.tmps[8]?.getD undef = .int .i64 ((k : Int)) := hb.at 8 (by kernel_rfl)
              exact wd_run rfl (by simp [Region.wanted, yielded, bool_at gg]) (by simp [execOp, go_sem, Act.eval, b8])
            · intro ac w' hb hp
              have gg := wd_get (hp ⟨38, .guard⟩ (by simp) rfl _ rfl) rfl rfl
              exact wd_run rfl (by simp [Region.wanted, yielded, bool_at gg]) (by simp [execOp, go_sem, Act.eval, wd_get (hp ⟨43, .data⟩ (by simp) rfl _ rfl) rfl rfl, HQ.out])
            · intro ac w' hb hp
              have gg := wd_get (hp ⟨38, .guard⟩ (by simp) rfl _ rfl) rfl rfl
              exact wd_run rfl (by simp [Region.wanted, yielded, bool_at gg]) (by simp [execOp, go_sem, Act.eval, wd_get (hp ⟨42, .data⟩ (by simp) rfl _ rfl) rfl rfl, wd_get (hp ⟨44, .data⟩ (by simp) rfl _ rfl) rfl rfl, HQ1.out, addr0])
            · intro ac w' hb hp
              have gg := wd_get (hp ⟨38, .guard⟩ (by simp) rfl _ rfl) rfl rfl
              exact wd_run rfl (by simp [Region.wanted, yielded, bool_at gg]) (by simp [execOp, go_sem, Act.eval, wd_get (hp ⟨45, .data⟩ (by simp) rfl _ rfl) rfl rfl])
            · intro ac w' hb hp
              have gg := wd_get (hp ⟨38, .guard⟩ (by simp) rfl _ rfl) rfl rfl
              have qq := (HPC.out _ hb.ext).1
              exact wd_run rfl (by simp [Region.wanted, yielded, bool_at gg]) (by simp [execOp, go_sem, Act.eval, wd_get (hp ⟨46, .data⟩ (by simp) rfl _ rfl) rfl rfl, qq])
            · intro ac w' hb hp
              have gg := wd_get (hp ⟨38, .guard⟩ (by simp) rfl _ rfl) rfl rfl
              exact wd_run rfl (by simp [Region.wanted, yielded, bool_at gg]) (by simp [execOp, go_sem, Act.eval, wd_get (hp ⟨40, .data⟩ (by simp) rfl _ rfl) rfl rfl, wd_get (hp ⟨47, .data⟩ (by simp) rfl _ rfl) rfl rfl, H7.out])
            · intro ac w' hb hp
              have gg := wd_get (hp ⟨38, .guard⟩ (by simp) rfl _ rfl) rfl rfl
              exact wd_run rfl (by simp [Region.wanted, yielded, bool_at gg]) (by simp [execOp, go_sem, Act.eval, wd_get (hp ⟨48, .data⟩ (by simp) rfl _ rfl) rfl rfl])
            · intro ac w' hb hp
              have gg := wd_get (hp ⟨49, .guard⟩ (by simp) rfl _ rfl) rfl rfl
              exact wd_offd rfl (by simp [Region.wanted, yielded, bool_at gg])
            · intro ac w' hb hp
              have gg := wd_get (hp ⟨49, .guard⟩ (by simp) rfl _ rfl) rfl rfl
              exact wd_offd rfl (by simp [Region.wanted, yielded, bool_at gg])
            · intro ac w' hb hp
              have gg := wd_get (hp ⟨49, .guard⟩ (by simp) rfl _ rfl) rfl rfl
              exact wd_offd rfl (by simp [Region.wanted, yielded, bool_at gg])
            · intro ac w' hb hp
              have gg := wd_get (hp ⟨49, .guard⟩ (by simp) rfl _ rfl) rfl rfl
              exact wd_offd rfl (by simp [Region.wanted, yielded, bool_at gg])
            · intro ac w' hb hp
              have gg := wd_get (hp ⟨49, .guard⟩ (by simp) rfl _ rfl) rfl rfl
              exact wd_offd rfl (by simp [Region.wanted, yielded, bool_at gg])
            · intro ac w' hb hp
              have gg := wd_get (hp ⟨49, .guard⟩ (by simp) rfl _ rfl) rfl rfl
              exact wd_offd rfl (by simp [Region.wanted, yielded, bool_at gg])
            · intro ac w' hb hp
              have gg := wd_get (hp ⟨49, .guard⟩ (by simp) rfl _ rfl) rfl rfl
              exact wd_offd rfl (by simp [Region.wanted, yielded, bool_at gg])
            · intro ac w' hb hp
              have gg := wd_get (hp ⟨49, .guard⟩ (by simp) rfl _ rfl) rfl rfl
              exact wd_offd rfl (by simp [Region.wanted, yielded, bool_at gg])
            · intro ac w' hb hp
              have gg := wd_get (hp ⟨49, .guard⟩ (by simp) rfl _ rfl) rfl rfl
              exact wd_offd rfl (by simp [Region.wanted, yielded, bool_at gg])
            · intro ac w' hb hp
              have gg := wd_get (hp ⟨49, .guard⟩ (by simp) rfl _ rfl) rfl rfl
              exact wd_offd rfl (by simp [Region.wanted, yielded, bool_at gg])
            · intro ac w' hb hp
              have gg := wd_get (hp ⟨38, .guard⟩ (by simp) rfl _ rfl) rfl rfl
              exact wd_run rfl (by simp [Region.wanted, yielded, bool_at gg]) (by simp [execOp, go_sem, Act.eval, wd_get (hp ⟨49, .data⟩ (by simp) rfl _ rfl) rfl rfl])
            · intro ac w' hb hp
              have gg := wd_get (hp ⟨27, .guard⟩ (by simp) rfl _ rfl) rfl rfl
              exact wd_run rfl (by simp [Region.wanted, yielded, bool_at gg]) (by simp [execOp, go_sem, Act.eval, wd_get (hp ⟨38, .data⟩ (by simp) rfl _ rfl) rfl rfl, wd_get (hp ⟨60, .data⟩ (by simp) rfl _ rfl) rfl rfl])
            · intro ac w' hb hp
              have gg := wd_get (hp ⟨24, .guard⟩ (by simp) rfl _ rfl) rfl rfl
              exact wd_run rfl (by simp [Region.wanted, yielded, bool_at gg]) (by simp [execOp, go_sem, Act.eval, wd_get (hp ⟨27, .data⟩ (by simp) rfl _ rfl) rfl rfl, wd_get (hp ⟨61, .data⟩ (by simp) rfl _ rfl) rfl rfl])
            · exact fun ac w' hb hp => wd_run rfl rfl (by simp [execOp, go_sem, Act.eval, wd_get (hp ⟨24, .data⟩ (by simp) rfl _ rfl) rfl rfl, wd_get (hp ⟨62, .data⟩ (by simp) rfl _ rfl) rfl rfl])
          · intro vz w7 hext hall
            have HEXT := Lib.hid hext
            have e63 : vz 63 = .bool false := hall 63 (by decide) rfl
            clear hext hall
            simp only [putAll, Act.put, List.setIfInBounds_toArray, List.set_cons_zero, List.set_cons_succ, Nat.zero_add, Nat.reduceAdd, e63]
            clear e63
            have HB2 := Lib.hid (below_ext2 HBY.out HEXT.out)
            clear HEXT HSC HYC HYB HBY H1 H2 H3 H4 H5 H6 H7 HQ HQ1 HPC hka
            go_wp2_with fail
            go_roundw
            case rel => exact ⟨k + 1, by omega, by go_num, HB2⟩
            case measure => simp [intOf]; omega
    · obtain rfl : k = A.length := by omega
      have HSB1 := Lib.hid (HSB0.out.below HB.out)
      have BZ1 := Lib.hid (below_ext2 BZ.out HB.out)
      have HX1 := Lib.hid (HXZ.out.below HB.out)
      clear HSB0 BZ HXZ HB
      obtain ⟨s0, s1, s2⟩ := HSB1.out.cells
      go_wp2_with fail
      clear s0 s1 s2
      generalize wr = wa at *
      go_loopw [141] (fun j wr => ∃ i : Nat, i ≤ SS.length ∧ j = .int .i64 (i : Int) ∧ Hid (Below wa.heap.size wa wr)) (fun j _ => SS.length - (intOf j).toNat)
      case atStart => exact ⟨0, Nat.zero_le _, rfl, Lib.hid (Below.refl _ _)⟩
      case round =>
        obtain ⟨i, hi, rfl, HB⟩ := hrel
        by_cases hlt : i < SS.length
        · have dk : decide ((i : Int) < (SS.length : Int)) = true := decide_eq_true (by omega)
          have HSB2 := Lib.hid (HSB1.out.below HB.out)
          obtain ⟨s0, s1, s2⟩ := HSB2.out.cells
          have hic : (i : Int) ≤ (cS : Int) := by have := HSB2.out.cap; omega
          go_wp2_with fail
          clear s0 s1 s2
          generalize wr = wb at *
          go_loopw [149] (fun j wr => ∃ k : Nat, k ≤ i ∧ j = .int .i64 (k : Int) ∧ Hid (Below wb.heap.size wb wr)) (fun j _ => i - (intOf j).toNat)
          case atStart => exact ⟨0, Nat.zero_le _, rfl, Lib.hid (Below.refl _ _)⟩
          case round =>
            obtain ⟨k, hk, rfl, HBb⟩ := hrel
            by_cases hlk : k < i
            · have dkk : decide ((k : Int) < (i : Int)) = true := decide_eq_true (by omega)
              have HSB3 := Lib.hid (HSB2.out.below HBb.out)
              obtain ⟨ui, hui, -⟩ := HSB3.out.set i hlt
              obtain ⟨uk, huk, -⟩ := HSB3.out.set k (by omega)
              have HUI := Lib.hid hui
              have HUK := Lib.hid huk
              have HSC := Lib.hid (show ∀ w', Below wr.heap.size wr w' → _ from fun w' h => (HSB3.out.below h).cells)
              have HI1 := Lib.hid (show (i : Int) < (SS.length : Int) by omega)
              have HK1 := Lib.hid (show (k : Int) < (SS.length : Int) by omega)
              have hwi := HWF.out SS[i] (List.getElem_mem hlt)
              have hwk := HWF.out (SS[k]'(by omega)) (List.getElem_mem _)
              have hne : SS[i] ≠ SS[k]'(by omega) := fun e => List.pairwise_iff_getElem.1 (show List.Pairwise (· ≠ ·) SS from HND.out) k i (by omega) hlt hlk e.symm
              have HEQ := Lib.hid (show ∀ w', Below wr.heap.size wr w' → Calls Tryd.prog 12 #[ui, uk] w' fun e w'' => e = .returned (.bool false) ∧ Below w'.heap.size w' w'' from fun w' h => equal_no (HUI.out w' h).2 (HUK.out w' h).2 hwi.1 hwk.1 hwi.2.2 hwk.2.2 hne)
              clear hui huk hwi hwk hne
              go_wp2_with fail
              refine region_phi (n := 282) (Wd [(false, .pointer (some ⟨sb, 0, none⟩)),
                  (false, .slice (some ⟨gs, 0, none⟩) SS.length cS),
                  (false, .int .i64 ((i : Int))),
                  (false, .pointer (some ⟨gs, i, none⟩)),
                  (false, ui),
                  (false, .pointer (some ⟨sb, 0, none⟩)),
                  (false, .slice (some ⟨gs, 0, none⟩) SS.length cS),
                  (false, .int .i64 ((k : Int))),
                  (false, .pointer (some ⟨gs, k, none⟩)),
                  (false, uk),
                  (false, .bool false)]) (by kernel_rfl) (by kernel_rfl) rfl (fun _ _ _ _ h _ => h) (allOps_spec ?_) ?_
              · refine ⟨?_, ?_, ?_, ?_, ?_, ?_, ?_, ?_, ?_, ?_, ?_, trivial⟩
                · intro ac w' hb hp
                  have b6 : ac.tmps[6]?.getD undef = .pointer (some ⟨sb, 0, none⟩) := hb.at 6 (by kernel_rfl)
                  exact wd_run rfl rfl (by simp [execOp, go_sem, Act.eval, b6])
                · intro ac w' hb hp
                  have qq := (HSC.out _ hb.ext).1
                  exact wd_run rfl rfl (by simp [execOp, go_sem, Act.eval, wd_get (hp ⟨0, .data⟩ (by simp) rfl _ rfl) rfl rfl, qq])
                · intro ac w' hb hp
                  have b10 : ac.tmps[10]?.getD undef = .int .i64 ((i : Int)) := hb.at 10 (by kernel_rfl)
                  exact wd_run rfl rfl (by simp [execOp, go_sem, Act.eval, b10])
                · exact fun ac w' hb hp => wd_run rfl rfl (by simp [execOp, go_sem, Act.eval, wd_get (hp ⟨1, .data⟩ (by simp) rfl _ rfl) rfl rfl, wd_get (hp ⟨2, .data⟩ (by simp) rfl _ rfl) rfl rfl, HI1.out, addr0])
                · intro ac w' hb hp
                  have qq := (HUI.out _ hb.ext).1
                  exact wd_run rfl rfl (by simp [execOp, go_sem, Act.eval, wd_get (hp ⟨3, .data⟩ (by simp) rfl _ rfl) rfl rfl, qq])
                · intro ac w' hb hp
                  have b6 : ac.tmps[6]?.getD undef = .pointer (some ⟨sb, 0, none⟩) := hb.at 6 (by kernel_rfl)
                  exact wd_run rfl rfl (by simp [execOp, go_sem, Act.eval, b6])
                · intro ac w' hb hp
                  have qq := (HSC.out _ hb.ext).1
                  exact wd_run rfl rfl (by simp [execOp, go_sem, Act.eval, wd_get (hp ⟨5, .data⟩ (by simp) rfl _ rfl) rfl rfl, qq])
                · intro ac w' hb hp
                  have b11 : ac.tmps[11]?.getD undef = .int .i64 ((k : Int)) := hb.at 11 (by kernel_rfl)
                  exact wd_run rfl rfl (by simp [execOp, go_sem, Act.eval, b11])
                · exact fun ac w' hb hp => wd_run rfl rfl (by simp [execOp, go_sem, Act.eval, wd_get (hp ⟨6, .data⟩ (by simp) rfl _ rfl) rfl rfl, wd_get (hp ⟨7, .data⟩ (by simp) rfl _ rfl) rfl rfl, HK1.out, addr0])
                · intro ac w' hb hp
                  have qq := (HUK.out _ hb.ext).1
                  exact wd_run rfl rfl (by simp [execOp, go_sem, Act.eval, wd_get (hp ⟨8, .data⟩ (by simp) rfl _ rfl) rfl rfl, qq])
                · intro ac w' hb hp
                  refine step_call (f := 12) (args := #[ui, uk]) rfl (by simp [go_sem, wd_get (hp ⟨4, .data⟩ (by simp) rfl _ rfl) rfl rfl, wd_get (hp ⟨9, .data⟩ (by simp) rfl _ rfl) rfl rfl]) ?_
                  exact (HEQ.out w' hb.ext).mono fun e w9 h9 => ⟨_, h9.1, h9.2, wd_mk rfl fun _ => rfl⟩
              · intro vz w7 hext hall
                have HEXT := Lib.hid hext
                have e10 : vz 10 = .bool false := hall 10 (by decide) rfl
                clear hext hall
                simp only [putAll, Act.put, List.setIfInBounds_toArray, List.set_cons_zero, List.set_cons_succ, Nat.zero_add, Nat.reduceAdd, e10]
                clear e10
                have HB2 := Lib.hid (below_ext2 HBb.out HEXT.out)
                clear HEXT HSC HUI HUK HI1 HK1 HEQ HSB3
                go_wp2_with fail
                go_roundw
                case rel => exact ⟨k + 1, by omega, by go_num, HB2⟩
                case measure => simp [intOf]; omega
            · obtain rfl : k = i := by omega
              have HB2 := Lib.hid (below_ext2 HB.out HBb.out)
              go_wp2_with fail
              go_roundw
              case rel => exact ⟨k + 1, by omega, by go_num, HB2⟩
              case measure => simp [intOf]; omega
        · obtain rfl : i = SS.length := by omega
          have HSB2 := Lib.hid (HSB1.out.below HB.out)
          have BZ2 := Lib.hid (below_ext2 BZ1.out HB.out)
          have HX2 := Lib.hid (HX1.out.below HB.out)
          clear HSB1 BZ1 HX1 HB HND
          obtain ⟨y0, y1, y2, y3⟩ := HX2.out.cells
          obtain ⟨x0, x1, x2, x3⟩ := KX.out _ BZ2.out
          go_wp2_with fail
          refine (HX2.out.clo Hv.out A1 c1 st HX2.out.s (by omega) Hv.out.bds).mono ?_
          rintro e w6 ⟨vn, wn, rfl, hset, hb⟩
          have HSB3 := Lib.hid (HSB2.out.below hb)
          have BZ3 := Lib.hid (below_ext2 BZ2.out hb)
          have HX3 := Lib.hid (HX2.out.below hb)
          have hw0 : wordsOf (fun n => Rc ar st n) = wn := wordsOf_eq hset.of
          have hd0 := HDI.out.hd
          rw [hw0] at hd0
          obtain ⟨u0, hu0, -⟩ := HSB3.out.set 0 hpos
          have he0 : SS[0] = wn := by
            rw [List.getElem?_eq_getElem hpos] at hd0
            exact Option.some.inj hd0
          rw [he0] at hu0
          have HS := Lib.hid hset
          have HAT := Lib.hid (show At SS wn false 0 from .inl ⟨rfl, hd0⟩)
          obtain ⟨q0, q1⟩ := hu0 w6 (Below.refl _ _)
          have HU0 := Lib.hid q1
          have ha0 := addr0 gs 0
          obtain ⟨s0, s1, s2⟩ := HSB3.out.cells
          have hp0 : (0 : Int) < (SS.length : Int) := by omega
          clear hb hset hw0 hd0 hu0 he0 q1 x0 x1 x2 x3 y0 y1 y2 y3 HSB2 BZ2 HX2
          go_wp2_with fail
          refine (equal_yes HS.out.st HU0.out HS.out.len).mono ?_
          rintro e w7 ⟨rfl, hb⟩
          have HSB4 := Lib.hid (HSB3.out.below hb)
          have BZ4 := Lib.hid (below_ext2 BZ3.out hb)
          have HX4 := Lib.hid (HX3.out.below hb)
          have HS4 := Lib.hid (HS.out.below hb)
          clear hb s0 s1 s2 q0 ha0 HSB3 BZ3 HX3 HS HU0
          go_wp2_with fail
          have HS0 := Lib.hid (HS4.out.congr (Q := fun m => Run ar (Cl ar (fun x => x ∈ st)) (word.take 0) m) (fun m => rc_cl))
          clear HS4
          have hwl := HWL.out
          go_loopw [12, 13, 14, 185] (fun a l v j wr => ∃ (i at_ : Nat) (lost : Bool) (wn : List Nat), i ≤ word.length ∧ j = .int .i64 (i : Int) ∧ a = .int .i64 (at_ : Int) ∧ l = .bool lost ∧ at_ < SS.length ∧ Hid (SetIs wr v wn (fun m => Run ar (Cl ar (fun x => x ∈ st)) (word.take i) m)) ∧ Hid (At SS wn lost at_) ∧ Hid (Below w7.heap.size w7 wr)) (fun _ _ _ j _ => word.length - (intOf j).toNat)
          case atStart => exact ⟨0, 0, false, wn, Nat.zero_le _, rfl, rfl, rfl, hpos, HS0, HAT, Lib.hid (Below.refl _ _)⟩
          case round =>
            clear HS0 HAT
            obtain ⟨i, at_, lost, wn, hi, rfl, rfl, rfl, hat, HS, HAT, HB⟩ := hrel
            have HSB5 := Lib.hid (HSB4.out.below HB.out)
            have BZ5 := Lib.hid (below_ext2 BZ4.out HB.out)
            have HX5 := Lib.hid (HX4.out.below HB.out)
            obtain ⟨An, cn, hvn⟩ := wst_shape HS.out.st
            subst hvn
            by_cases hlt : i < word.length
            · have dk : decide ((i : Int) < (word.length : Int)) = true := decide_eq_true (by omega)
              obtain ⟨ad, c', hs, hcap, hcell⟩ := sl_cell (Hx.out.below BZ5.out) i hlt
              simp only [Value.slice.injEq, true_and] at hs
              obtain ⟨rfl, rfl⟩ := hs
              obtain ⟨ch, hch⟩ : ∃ ch, ch = word[i] := ⟨_, rfl⟩
              rw [← hch] at hcell
              have HCH := Lib.hid hch
              unfold iv at hcell
              have hi1 : (i : Int) < (word.length : Int) := by omega
              have KY := Lib.hid (show ∀ w', Below wr.heap.size wr w' → w'.cell? ⟨xb, 0, none⟩ = some (.int .i64 (n : Int)) ∧ w'.cell? ⟨xb, 1, none⟩ = some (.slice A1 st.length c1) ∧ w'.cell? ⟨xb, 2, none⟩ = some (.slice A2 fin.length c2) ∧ w'.cell? ⟨xb, 3, none⟩ = some (.slice A5 ar.length c5) from fun w' h => (HX5.out.below h).cells)
              have hd1 := Below.drewN' (Below.refl wr.heap.size wr) 1
              clear hch
              go_wp2_with fail
              clear hcell
              go_region_held3 (fun w' => w'.cell? ⟨xb, 0, none⟩ = some (.int .i64 (n : Int)) ∧ w'.cell? ⟨xb, 1, none⟩ = some (.slice A1 st.length c1) ∧ w'.cell? ⟨xb, 2, none⟩ = some (.slice A2 fin.length c2) ∧ w'.cell? ⟨xb, 3, none⟩ = some (.slice A5 ar.length c5))
                (first | (exact KY.out _ hb7) | (exact KY.out _ hb6) | (exact KY.out _ hd1))
                (first
                  | (go_at_call 10; refine (listI_any _ wn _ (HS.out.below hd1).st HS.out.wds HS.out.len (HX5.out.below hd1).t).mono ?_; rintro e w6 ⟨A6, c6, rfl, hs6, hb6'⟩; have hb6 : Below wr.heap.size wr w6 := hd1.trans hb6'; have H6 := Lib.hid hs6)
                  | (go_at_call 11; refine ((HX5.out.below hb6).step Hv.out A6 c6 (elsI wn) ch H6.out (by have := elsI_le wn; omega) (HS.out.bd (fun m hm => by have := (run_bd Hv.out.va Hv.out.bds _ hm).2; omega))).mono ?_; rintro e w7 ⟨vd, nw, rfl, hsd, hb7'⟩; have hb7 : Below wr.heap.size wr w7 := below_ext2 hb6 hb7'))
              obtain ⟨hwd, hrun⟩ := step_words Hv.out.va Hv.out.bds hlt HCH.out HS.out hsd
              have HWD := Lib.hid hwd
              have HRUN := Lib.hid hrun
              obtain ⟨Ad, cd, hvd⟩ := wst_shape hsd.st
              subst hvd
              have HSB6 := Lib.hid (HSB5.out.below hb7)
              have HB6 := Lib.hid (below_ext2 HB.out hb7)
              clear hb6 hb6' hb7 hb7' hs6 hsd H6 KY hd1 hwd hrun HS HX5 BZ5 HB HSB5 hcap
              have hal := HAL.out
              obtain ⟨s0, s1, s2⟩ := HSB6.out.cells
              go_wp2_with fail
              clear s0 s1 s2
              generalize w7 = wd at *
              go_loopw [19, 200] (fun t j wr => ∃ (m : Nat) (to : Int), m ≤ A.length ∧ j = .int .i64 (m : Int) ∧ t = .int .i64 to ∧ Hid (Fnd A lost (at_ : Int) ch m to) ∧ Hid (Below wd.heap.size wd wr)) (fun _ j _ => A.length - (intOf j).toNat)
              case atStart => exact ⟨0, -1, Nat.zero_le _, rfl, rfl, Lib.hid (Fnd.start _ _ _ _), Lib.hid (Below.refl _ _)⟩
              case round =>
                obtain ⟨m, to, hm, rfl, rfl, HF, HBd⟩ := hrel
                by_cases hlm : m < A.length
                · have dm : decide ((m : Int) < (A.length : Int)) = true := decide_eq_true (by omega)
                  cases hlo : lost with
                  | true =>
                    have HF2 := Lib.hid (HF.out.miss hlm (.inl hlo))
                    subst hlo
                    clear HF
                    go_wp2_with fail
                    go_roundw
                    case rel => exact ⟨m + 1, to, by omega, by go_num, rfl, HF2, HBd⟩
                    case measure => simp [intOf]; omega
                  | false =>
                    subst hlo
                    obtain ⟨ga, hga, hcA, hac⟩ := (HSB6.out.below HBd.out).arc m hlm
                    subst hga
                    obtain ⟨y0, y1, y2⟩ := hac wr (Below.refl _ _)
                    obtain ⟨s0, s1, s2⟩ := (HSB6.out.below HBd.out).cells
                    obtain ⟨x, hx⟩ : ∃ x, x = A[m] := ⟨_, rfl⟩
                    have HXE := Lib.hid hx
                    rw [← hx] at y0 y1 y2
                    clear hx hac
                    obtain ⟨x0, x1, x2⟩ := x
                    dsimp only at y0 y1 y2
                    have hma : (m : Int) < (A.length : Int) := by omega
                    have ha0 := addr0 ga (m * 3)
                    by_cases e0 : x0 = (at_ : Int)
                    · by_cases e1 : x1 = ch
                      · have HF2 := Lib.hid (show Fnd A false (at_ : Int) ch (m + 1) x2 from by
                          have h := HXE.out
                          have h2 := Fnd.hit (at_ := (at_ : Int)) (c := ch) hlm (by rw [← h]; exact e0) (by rw [← h]; exact e1)
                          rw [← h] at h2
                          exact h2)
                        subst e0 e1
                        clear HF
                        go_wp2_with fail
                        go_roundw
                        case rel => exact ⟨m + 1, x2, by omega, by go_num, rfl, HF2, HBd⟩
                        case measure => simp [intOf]; omega
                      · have HF2 := Lib.hid (HF.out.miss hlm (.inr (by have h := HXE.out; rw [← h]; exact fun h => e1 h.2)))
                        have d1 : (x1 == ch) = false := beq_eq_false_iff_ne.2 e1
                        subst e0
                        clear HF e1
                        go_wp2_with fail
                        go_roundw
                        case rel => exact ⟨m + 1, to, by omega, by go_num, rfl, HF2, HBd⟩
                        case measure => simp [intOf]; omega
                    · have HF2 := Lib.hid (HF.out.miss hlm (.inr (by have h := HXE.out; rw [← h]; exact fun h => e0 h.1)))
                      have d1 : (x0 == (at_ : Int)) = false := beq_eq_false_iff_ne.2 e0
                      clear HF e0
                      go_wp2_with fail
                      go_roundw
                      case rel => exact ⟨m + 1, to, by omega, by go_num, rfl, HF2, HBd⟩
                      case measure => simp [intOf]; omega
                · obtain rfl : m = A.length := by omega
                  have HR6 := Lib.hid (HRUN.out.below HBd.out)
                  have HBn := Lib.hid (below_ext2 HB6.out HBd.out)
                  have hrl := HR6.out.len
                  rcases at_next Hv.out.va HDI.out HAT.out HWD.out HF.out with ⟨rfl, hz, hat2⟩ | ⟨xn, rfl, hnz, hxn⟩
                  · have HAT2 := Lib.hid hat2
                    clear hat2 HF HAT HWD
                    go_wp2_with fail
                    refine (len_any _ nw wr HR6.out.st.sl (by unfold Room2; omega) HR6.out.wds).mono ?_
                    rintro e w9 ⟨rfl, rfl⟩
                    rw [hz]
                    go_wp2_with fail
                    go_roundw
                    case rel => exact ⟨i + 1, 0, true, nw, by omega, by go_num, rfl, rfl, hpos, HR6, HAT2, HBn⟩
                    case measure => simp [intOf]; omega
                  · have hxl := (List.getElem?_eq_some_iff.1 hxn).1
                    have hxe : SS[xn] = nw := by
                      rw [List.getElem?_eq_getElem hxl] at hxn
                      exact Option.some.inj hxn
                    have HAT2 := Lib.hid (show At SS nw false xn from .inl ⟨rfl, hxn⟩)
                    have HSB7 := Lib.hid (HSB6.out.below HBd.out)
                    obtain ⟨u, hu, -⟩ := HSB7.out.set xn hxl
                    rw [hxe] at hu
                    obtain ⟨q0, q1⟩ := hu wr (Below.refl _ _)
                    have HU := Lib.hid q1
                    obtain ⟨s0, s1, s2⟩ := HSB7.out.cells
                    have dz : ((slen nw : Int) == 0) = false := by rw [beq_eq_false_iff_ne]; omega
                    have hxi : (xn : Int) < (SS.length : Int) := by omega
                    have ha0 := addr0 gs xn
                    clear HF HAT HWD hxn hxe hu q1 hnz
                    go_wp2_with fail
                    refine (len_any _ nw wr HR6.out.st.sl (by unfold Room2; omega) HR6.out.wds).mono ?_
                    rintro e w9 ⟨rfl, rfl⟩
                    go_wp2_with fail
                    refine (equal_yes HU.out HR6.out.st hrl).mono ?_
                    rintro e w9 ⟨rfl, hb⟩
                    have HR7 := Lib.hid (HR6.out.below hb)
                    have HBn2 := Lib.hid (below_ext2 HBn.out hb)
                    clear hb s0 s1 s2 q0 ha0 HU HSB7 HR6 HBn
                    go_wp2_with fail
                    go_roundw
                    case rel => exact ⟨i + 1, xn, false, nw, by omega, by go_num, by go_num, rfl, hxl, HR7, HAT2, HBn2⟩
                    case measure => simp [intOf]; omega
            · obtain rfl : i = word.length := by omega
              have dk : decide ((word.length : Int) < (word.length : Int)) = false := decide_eq_false (by omega)
              have htk : word.take word.length = word := List.take_length
              have hrun := HS.out.has
              rw [htk] at hrun
              obtain ⟨y0, y1, y2, y3⟩ := HX5.out.cells
              go_wp2_with fail
              refine (accepts_ok n st fin ar _ _ _ A4 c4 word wr Hv.out HX5.out.s HX5.out.f HX5.out.a (Hx.out.below BZ5.out) (by omega) HX5.out.t).mono ?_
              rintro e w9 ⟨b, rfl, hbb, hb⟩
              have HBz := Lib.hid (below_ext2 BZ5.out hb)
              have HSB6 := Lib.hid (HSB5.out.below hb)
              clear hb y0 y1 y2 y3
              rcases HAT.out with ⟨rfl, h2⟩ | ⟨rfl, h2⟩
              · have hfb : b = FinB fin wn := by
                  rw [Bool.eq_iff_iff, hbb, fin_has]
                  unfold AccP
                  exact ⟨fun ⟨n, h1, h3⟩ => ⟨n, (hrun n).2 h1, h3⟩, fun ⟨n, h1, h3⟩ => ⟨n, (hrun n).1 h1, h3⟩⟩
                subst hfb
                obtain ⟨adF, cF', hsF, _, hcF⟩ := sl_cell HSB6.out.f at_ (by rw [List.length_map]; exact hat)
                simp only [Value.slice.injEq] at hsF
                obtain ⟨rfl, -, -⟩ := hsF
                rw [List.getElem_map] at hcF
                have hae : SS[at_] = wn := by
                  rw [List.getElem?_eq_getElem hat] at h2
                  exact Option.some.inj h2
                rw [hae] at hcF
                unfold bl at hcF
                have hai : (at_ : Int) < (SS.length : Int) := by omega
                obtain ⟨s0, s1, s2⟩ := HSB6.out.cells
                generalize FinB fin wn = fb at *
                clear hbb hrun h2 hae HS HAT
                go_wp2_with fail
                go_ret
                exact HE.out _ _ (by simp) HBz.out
              · have hfb : b = false := by
                  cases b with
                  | false => rfl
                  | true =>
                    obtain ⟨n, h1, _⟩ := hbb.1 rfl
                    have h4 := (hrun n).2 h1
                    rw [h2 n] at h4; cases h4
                subst hfb
                clear hbb hrun h2 HS HAT
                go_wp2_with fail
                go_ret
                exact HE.out _ _ rfl HBz.out
end Go.Proofs.YtfiekckcgafaoaaDoor
