/- WireCanonical: the law's walk. -/
import Derived.Test.YtlbgfjgpdjcogaaWireIts
import Derived.Test.YtlbgfjgpdjcogaaOpen
namespace Go.Proofs.Ytlbgfjgpdjcogaa
open Go.RowKit
theorem Rdr.other {w w' : World} {g g' n c k : Nat} {A : Option Addr} {xs : List Nat} {fl : Bool} (h : Rdr w g A n c xs k fl) (ho : Only g' w w') (hne : g' ≠ g) (hd : xs = [] ∨ ∀ ad, A = some ad → ad.block ≠ g') : Rdr w' g A n c xs k fl := by
  refine ⟨(ho.block g h.lt (fun e => hne e.symm)).trans h.blk, h.len, h.cap, h.off, ?_, h.byt, h.room⟩
  rcases h.data with h0 | ⟨ad, hA, h1, h2, h3⟩
  · exact .inl h0
  · rcases hd with h0 | hd
    · exact .inl h0
    · have hlt := hd ad hA
      refine .inr ⟨ad, hA, h1, Nat.lt_of_lt_of_le h2 ho.size, fun j b' hj => ?_⟩
      rw [World.cell?_of_block (w := w) (by rw [addr_add_block]; exact ho.block _ h2 hlt)]
      exact h3 j b' hj
theorem Rdr.dblk {w : World} {g n c k : Nat} {A : Option Addr} {xs : List Nat} {fl : Bool} (h : Rdr w g A n c xs k fl) : xs = [] ∨ ∀ ad, A = some ad → ad.block < w.heap.size := by
  rcases h.data with h0 | ⟨ad, hA, h1, h2, h3⟩
  · exact .inl h0
  · exact .inr fun ad' h' => by rw [hA] at h'; cases h'; exact h2
theorem Below.drewN' {B : Nat} {a w : World} (h : Below B a w) (m : Nat) : Below B a (w.drewN m) := ⟨h.os, h.tape, h.output, h.size, h.block⟩
theorem end_b {w : World} {g n c k : Nat} {A : Option Addr} {xs : List Nat} {fl : Bool} (h : Rdr w g A n c xs k fl) : Calls Try.prog 22 #[.pointer (some ⟨g, 0, none⟩)] w fun e w' => e = .returned (.int .i64 (endOf n k fl)) ∧ Below w.heap.size w w' := by
  refine (end_any h).mono ?_
  rintro e w' ⟨rfl, m, rfl⟩
  exact ⟨rfl, Below.drewN' (Below.refl _ _) m⟩
section
variable (A : Option Addr) (c : Nat) (xs : List Nat) (w : World)
set_option maxHeartbeats 4000000 in
theorem canon_main (hx : Bsl w (.slice A xs.length c) xs) (hb : Byt xs) (hl : xs.length ≤ 600) :
    Calls Try.prog 4 #[.slice A xs.length c] w (Ok w) := by
  have z0 : decide ((600 : Int) < (xs.length : Int)) = false := by simp; omega
  have Hx := Lib.hid hx; clear hx
  go_enter Try.func4, Try.ntmps4
  go_wp2_with fail
  refine (awake_any _).mono ?_
  rintro e w1 ⟨rfl, hb1⟩
  have Hb1 := Lib.hid hb1
  clear hb1
  go_wp2_with fail
  refine (new_any _ xs w1 (Hx.out.below Hb1.out) hb (by unfold Room2; omega)).mono ?_
  rintro e w2 ⟨g1, A1, c1, rfl, hg1, hd1, hR1, hb2⟩
  have HR1 := Lib.hid hR1; have Hd1 := Lib.hid hd1; have Hg1 := Lib.hid hg1; have Hb2 := Lib.hid hb2
  clear hR1 hd1 hg1 hb2
  go_wp2_with fail
  refine (new_any _ xs w2 ((Hx.out.below Hb1.out).below Hb2.out) hb (by unfold Room2; omega)).mono ?_
  rintro e w3 ⟨g2, A2, c2, rfl, hg2, hd2, hR2, hb3⟩
  have HR2 := Lib.hid hR2; have Hd2 := Lib.hid hd2; have Hg2 := Lib.hid hg2; have Hb3 := Lib.hid hb3
  clear hR2 hd2 hg2 hb3
  go_wp2_with fail
  refine (new_any _ xs w3 (((Hx.out.below Hb1.out).below Hb2.out).below Hb3.out) hb (by unfold Room2; omega)).mono ?_
  rintro e w4 ⟨g3, A3, c3, rfl, hg3, hd3, hR3, hb4⟩
  have HR3 := Lib.hid hR3; have Hd3 := Lib.hid hd3; have Hg3 := Lib.hid hg3; have Hb4 := Lib.hid hb4
  clear hR3 hd3 hg3 hb4
  have L1 : g1 < w2.heap.size := HR1.out.lt
  have L2 : g2 < w3.heap.size := HR2.out.lt
  have L3 : g3 < w4.heap.size := HR3.out.lt
  have S3 := Hb3.out.size; have S4 := Hb4.out.size; have S2 := Hb2.out.size
  have G1 := Hg1.out; have G2 := Hg2.out; have G3 := Hg3.out
  have T1 := Lib.hid ((HR1.out.below Hb3.out).below Hb4.out)
  have T2 := Lib.hid (HR2.out.below Hb4.out)
  obtain ⟨z1, hz1⟩ : ∃ z, z = out ev0 false 0 (pEvent xs 0) := ⟨_, rfl⟩
  have e1 := event_any T1.out
  rw [← hz1] at e1
  have Hz1 := Lib.hid hz1; clear hz1
  obtain ⟨⟨x0, x1, x2, x3, l⟩, k1, f1⟩ := z1
  go_wp2_with fail
  refine e1.mono ?_
  rintro e w5 ⟨v1, rfl, hV1, hR1, ho1⟩
  obtain ⟨Av, cv, rfl⟩ := hV1.shape
  have V1 := Lib.hid hV1; have R1 := Lib.hid hR1; have O1 := Lib.hid ho1
  have S5 := ho1.size
  clear hV1 hR1 ho1 e1
  obtain ⟨z2, hz2⟩ : ∃ z, z = out [] false 0 (pIts 600 xs 0) := ⟨_, rfl⟩
  have U2 := Lib.hid (T2.out.other O1.out (by omega) (Hd2.out.imp id fun h ad ha e => by have := h ad ha; omega))
  have U3 := Lib.hid (HR3.out.other O1.out (by omega) (Hd3.out.imp id fun h ad ha e => by have := h ad ha; omega))
  have e2 := ints_any 600 U2.out (by decide)
  rw [← hz2] at e2
  have Hz2 := Lib.hid hz2; clear hz2
  obtain ⟨li, k2, f2⟩ := z2
  go_wp2_with fail
  refine e2.mono ?_
  rintro e w6 ⟨v2, rfl, hV2, hR2, ho2⟩
  have V2 := Lib.hid hV2; have R2 := Lib.hid hR2; have O2 := Lib.hid ho2
  have S6 := ho2.size
  clear hV2 hR2 ho2 e2
  obtain ⟨z3, hz3⟩ : ∃ z, z = out [] false 0 (pLst 600 xs 0) := ⟨_, rfl⟩
  have W3 := Lib.hid (U3.out.other O2.out (by omega) (Hd3.out.imp id fun h ad ha e => by have := h ad ha; omega))
  have e3 := values_any 600 W3.out (by decide)
  rw [← hz3] at e3
  have Hz3 := Lib.hid hz3; clear hz3
  obtain ⟨lv, k3, f3⟩ := z3
  go_wp2_with fail
  refine e3.mono ?_
  rintro e w7 ⟨v3, rfl, hV3, hR3, ho3⟩
  have V3 := Lib.hid hV3; have R3 := Lib.hid hR3; have O3 := Lib.hid ho3
  have S7 := ho3.size
  clear hV3 hR3 ho3 e3
  have X1 := Lib.hid ((R1.out.other O2.out (by omega) (HR1.out.dblk.imp id fun h ad ha e => by have := h ad ha; omega)).other O3.out (by omega) (HR1.out.dblk.imp id fun h ad ha e => by have := h ad ha; omega))
  have X2 := Lib.hid (R2.out.other O3.out (by omega) (HR2.out.dblk.imp id fun h ad ha e => by have := h ad ha; omega))
  have Y1 := Lib.hid ((V1.out.only O2.out (by omega)).only O3.out (by omega))
  have Y2 := Lib.hid (V2.out.only O3.out (by omega))
  have B7 := Lib.hid (show Below w.heap.size w w7 from (Hb1.out.trans ((Hb2.out.trans ((Hb3.out.mono S2).trans ((Hb4.out.mono (by omega)).trans ((O1.out.toBelow (by omega) (by omega)).trans ((O2.out.toBelow (by omega) (by omega)).trans (O3.out.toBelow (by omega) (by omega))))))).mono Hb1.out.size)))
  have N1 := Lib.hid (Vals.of_row Y1.out); have N2 := Lib.hid (Nsl.of_row Y2.out); have N3 := Lib.hid (Vals.of_row V3.out)
  obtain ⟨A6, c6, rfl⟩ := N2.out.shape
  obtain ⟨A7, c7, rfl⟩ := N3.out.shape
  have Z3 := Lib.hid R3.out
  clear T1 T2 U2 U3 W3 R1 R2 V1 V2 Y1 Y2 V3 O1 O2 O3 R3 HR1 HR2 HR3 Hd1 Hd2 Hd3 Hb2 Hb3 Hb4
  simp only
  obtain ⟨w8, hw8⟩ : ∃ w8, w8 = w7.alloc (.cells #[.int .i64 x0, .bool x1, .int .i64 x2, .int .i64 x3, .slice Av l.length cv] 45) := ⟨_, rfl⟩
  have hb8 : Below w7.heap.size w7 w8 := by rw [hw8]; exact (Below.refl _ _).alloc (Nat.le_refl _) _
  have hblk : w8.heap[w7.heap.size]? = some (.cells #[.int .i64 x0, .bool x1, .int .i64 x2, .int .i64 x3, .slice Av l.length cv] 45 (0, 0)) := by rw [hw8]; exact heap_alloc_new w7 _
  have B8 := Lib.hid (below_ext2 B7.out hb8)
  have K0 := Lib.hid (show ∀ w', Below w8.heap.size w8 w' → w'.heap[w7.heap.size]? = some (.cells #[.int .i64 x0, .bool x1, .int .i64 x2, .int .i64 x3, .slice Av l.length cv] 45 (0, 0)) from fun w' h => (h.block _ (lt_of_some hblk)).trans hblk)
  have K1 := Lib.hid (show ∀ w', Below w8.heap.size w8 w' → Rdr w' g1 A1 xs.length c1 xs k1 f1 from fun w' h => (X1.out.below hb8).below h)
  have K2 := Lib.hid (show ∀ w', Below w8.heap.size w8 w' → Rdr w' g2 A2 xs.length c2 xs k2 f2 from fun w' h => (X2.out.below hb8).below h)
  have K3 := Lib.hid (show ∀ w', Below w8.heap.size w8 w' → Rdr w' g3 A3 xs.length c3 xs k3 f3 from fun w' h => (Z3.out.below hb8).below h)
  have KE := Lib.hid (show ∀ w', Below w8.heap.size w8 w' → Vals w' (.slice Av l.length cv) l from fun w' h => (N1.out.below hb8).below h)
  have KI := Lib.hid (show ∀ w', Below w8.heap.size w8 w' → Nsl w' (.slice A6 li.length c6) li from fun w' h => (N2.out.below hb8).below h)
  have KV := Lib.hid (show ∀ w', Below w8.heap.size w8 w' → Vals w' (.slice A7 lv.length c7) lv from fun w' h => (N3.out.below hb8).below h)
  have KB := Lib.hid (show ∀ w', Below w8.heap.size w8 w' → Bsl w' (.slice A xs.length c) xs from fun w' h => (Hx.out.below B8.out).below h)
  clear hb8 hblk X1 X2 Z3 N1 N2 N3 L1 L2 L3 S2 S3 S4 S5 S6 S7 G1 G2 G3
  go_wp2_with fail
  rw [← hw8]
  clear hw8
  have E1 := end_b (K1.out _ (Below.refl _ _))
  by_cases q1 : f1 = true ∨ k1 < xs.length
  · rw [show endOf xs.length k1 f1 = 4 from if_pos q1] at E1
    refine E1.mono ?_
    rintro e w9 ⟨rfl, hb9⟩
    have B9 := Lib.hid (below_ext2 (Below.refl _ _) hb9)
    clear hb9 E1
    go_wp2_with fail
    have E2 := end_b (K2.out _ B9.out)
    by_cases q2 : f2 = true ∨ k2 < xs.length
    · rw [show endOf xs.length k2 f2 = 4 from if_pos q2] at E2
      refine E2.mono ?_
      rintro e w10 ⟨rfl, hb10⟩
      have B10 := Lib.hid (below_ext2 B9.out hb10)
      clear hb10 E2
      go_wp2_with fail
      have E3 := end_b (K3.out _ B10.out)
      by_cases q3 : f3 = true ∨ k3 < xs.length
      · rw [show endOf xs.length k3 f3 = 4 from if_pos q3] at E3
        refine E3.mono ?_
        rintro e w11 ⟨rfl, hb11⟩
        have B11 := Lib.hid (below_ext2 B10.out hb11)
        clear hb11 E3
        go_wp2
        go_ret
        exact ⟨rfl, below_ext2 B8.out B11.out⟩
      · rw [show endOf xs.length k3 f3 = 0 from if_neg q3] at E3
        refine E3.mono ?_
        rintro e w11 ⟨rfl, hb11⟩
        have B11 := Lib.hid (below_ext2 B10.out hb11)
        clear hb11 E3
        obtain rfl : f3 = false := by cases f3 with | false => rfl | true => exact absurd (.inl rfl) q3
        have hp := out_ok Hz3.out
        have Hq := Lib.hid (ok_lst hp)
        have He := Lib.hid (can_all (can_lst 600) hb hp (fun h => q3 (.inr h)))
        clear hp
        go_wp2_with fail
        refine (vals_nil_any A7 c7 lv w11 (KV.out _ B11.out) (by have := Hq.out.1; omega) Hq.out.2.2 Hq.out.2.1).mono ?_
        rintro e w12 ⟨vv, rfl, hb12, hs12⟩
        rw [He.out] at hs12
        have Hs12 := Lib.hid hs12
        have B12 := Lib.hid (below_ext2 B11.out hb12)
        clear hb12 hs12
        go_wp2_with fail
        refine (same_any vv _ xs xs w12 Hs12.out (KB.out _ B12.out) hb hb true (by simp)).mono ?_
        rintro e w13 ⟨rfl, hww⟩
        obtain rfl := hww
        clear Hq He
        go_wp2
        go_ret
        exact ⟨rfl, below_ext2 B8.out B12.out⟩
    · rw [show endOf xs.length k2 f2 = 0 from if_neg q2] at E2
      refine E2.mono ?_
      rintro e w10 ⟨rfl, hb10⟩
      have B10 := Lib.hid (below_ext2 B9.out hb10)
      clear hb10 E2
      obtain rfl : f2 = false := by cases f2 with | false => rfl | true => exact absurd (.inl rfl) q2
      have hp := out_ok Hz2.out
      have Hq := Lib.hid (ok_its hp)
      have He := Lib.hid (can_all (can_its 600) hb hp (fun h => q2 (.inr h)))
      clear hp
      go_wp2_with fail
      refine (ints_nil_any A6 c6 li w10 (KI.out _ B10.out) (by have := Hq.out.1; omega) Hq.out.2).mono ?_
      rintro e w11 ⟨vv, rfl, hb11, hs11⟩
      rw [He.out] at hs11
      have Hs11 := Lib.hid hs11
      have B11 := Lib.hid (below_ext2 B10.out hb11)
      clear hb11 hs11
      go_wp2_with fail
      refine (same_any vv _ xs xs w11 Hs11.out (KB.out _ B11.out) hb hb true (by simp)).mono ?_
      rintro e w12 ⟨rfl, hww⟩
      obtain rfl := hww
      clear Hq He
      go_wp2_with fail
      have E3 := end_b (K3.out _ B11.out)
      by_cases q3 : f3 = true ∨ k3 < xs.length
      · rw [show endOf xs.length k3 f3 = 4 from if_pos q3] at E3
        refine E3.mono ?_
        rintro e w13 ⟨rfl, hb13⟩
        have B13 := Lib.hid (below_ext2 B11.out hb13)
        clear hb13 E3
        go_wp2
        go_ret
        exact ⟨rfl, below_ext2 B8.out B13.out⟩
      · rw [show endOf xs.length k3 f3 = 0 from if_neg q3] at E3
        refine E3.mono ?_
        rintro e w13 ⟨rfl, hb13⟩
        have B13 := Lib.hid (below_ext2 B11.out hb13)
        clear hb13 E3
        obtain rfl : f3 = false := by cases f3 with | false => rfl | true => exact absurd (.inl rfl) q3
        have hp := out_ok Hz3.out
        have Hq := Lib.hid (ok_lst hp)
        have He := Lib.hid (can_all (can_lst 600) hb hp (fun h => q3 (.inr h)))
        clear hp
        go_wp2_with fail
        refine (vals_nil_any A7 c7 lv w13 (KV.out _ B13.out) (by have := Hq.out.1; omega) Hq.out.2.2 Hq.out.2.1).mono ?_
        rintro e w14 ⟨vv, rfl, hb14, hs14⟩
        rw [He.out] at hs14
        have Hs14 := Lib.hid hs14
        have B14 := Lib.hid (below_ext2 B13.out hb14)
        clear hb14 hs14
        go_wp2_with fail
        refine (same_any vv _ xs xs w14 Hs14.out (KB.out _ B14.out) hb hb true (by simp)).mono ?_
        rintro e w15 ⟨rfl, hww⟩
        obtain rfl := hww
        clear Hq He
        go_wp2
        go_ret
        exact ⟨rfl, below_ext2 B8.out B14.out⟩
  · rw [show endOf xs.length k1 f1 = 0 from if_neg q1] at E1
    refine E1.mono ?_
    rintro e w9 ⟨rfl, hb9⟩
    have B9 := Lib.hid (below_ext2 (Below.refl _ _) hb9)
    clear hb9 E1
    obtain rfl : f1 = false := by cases f1 with | false => rfl | true => exact absurd (.inl rfl) q1
    have hp := out_ok Hz1.out
    have cz0 := cell_of_row w9 w7.heap.size 0 _ _ _ (K0.out _ B9.out)
    have cz1 := cell_of_row w9 w7.heap.size 1 _ _ _ (K0.out _ B9.out)
    have cz2 := cell_of_row w9 w7.heap.size 2 _ _ _ (K0.out _ B9.out)
    have cz3 := cell_of_row w9 w7.heap.size 3 _ _ _ (K0.out _ B9.out)
    have cz4 := cell_of_row w9 w7.heap.size 4 _ _ _ (K0.out _ B9.out)
    have Hq := Lib.hid (ok_event hp)
    have He := Lib.hid (can_all can_event hb hp (fun h => q1 (.inr h)))
    clear hp
    go_wp2_with fail
    refine (event_nil_any x0 x1 x2 x3 Av cv l w9 Hq.out.1 Hq.out.2.1 Hq.out.2.2.1 (KE.out _ B9.out) Hq.out.2.2.2.1 Hq.out.2.2.2.2.1 Hq.out.2.2.2.2.2).mono ?_
    rintro e w10 ⟨vv, rfl, hb10, hs10⟩
    rw [He.out] at hs10
    have Hs10 := Lib.hid hs10
    have B10 := Lib.hid (below_ext2 B9.out hb10)
    clear hb10 hs10
    go_wp2_with fail
    refine (same_any vv _ xs xs w10 Hs10.out (KB.out _ B10.out) hb hb true (by simp)).mono ?_
    rintro e w11 ⟨rfl, hww⟩
    obtain rfl := hww
    clear cz0 cz1 cz2 cz3 cz4
    clear Hq He
    go_wp2_with fail
    have E2 := end_b (K2.out _ B10.out)
    by_cases q2 : f2 = true ∨ k2 < xs.length
    · rw [show endOf xs.length k2 f2 = 4 from if_pos q2] at E2
      refine E2.mono ?_
      rintro e w12 ⟨rfl, hb12⟩
      have B12 := Lib.hid (below_ext2 B10.out hb12)
      clear hb12 E2
      go_wp2_with fail
      have E3 := end_b (K3.out _ B12.out)
      by_cases q3 : f3 = true ∨ k3 < xs.length
      · rw [show endOf xs.length k3 f3 = 4 from if_pos q3] at E3
        refine E3.mono ?_
        rintro e w13 ⟨rfl, hb13⟩
        have B13 := Lib.hid (below_ext2 B12.out hb13)
        clear hb13 E3
        go_wp2
        go_ret
        exact ⟨rfl, below_ext2 B8.out B13.out⟩
      · rw [show endOf xs.length k3 f3 = 0 from if_neg q3] at E3
        refine E3.mono ?_
        rintro e w13 ⟨rfl, hb13⟩
        have B13 := Lib.hid (below_ext2 B12.out hb13)
        clear hb13 E3
        obtain rfl : f3 = false := by cases f3 with | false => rfl | true => exact absurd (.inl rfl) q3
        have hp := out_ok Hz3.out
        have Hq := Lib.hid (ok_lst hp)
        have He := Lib.hid (can_all (can_lst 600) hb hp (fun h => q3 (.inr h)))
        clear hp
        go_wp2_with fail
        refine (vals_nil_any A7 c7 lv w13 (KV.out _ B13.out) (by have := Hq.out.1; omega) Hq.out.2.2 Hq.out.2.1).mono ?_
        rintro e w14 ⟨vv, rfl, hb14, hs14⟩
        rw [He.out] at hs14
        have Hs14 := Lib.hid hs14
        have B14 := Lib.hid (below_ext2 B13.out hb14)
        clear hb14 hs14
        go_wp2_with fail
        refine (same_any vv _ xs xs w14 Hs14.out (KB.out _ B14.out) hb hb true (by simp)).mono ?_
        rintro e w15 ⟨rfl, hww⟩
        obtain rfl := hww
        clear Hq He
        go_wp2
        go_ret
        exact ⟨rfl, below_ext2 B8.out B14.out⟩
    · rw [show endOf xs.length k2 f2 = 0 from if_neg q2] at E2
      refine E2.mono ?_
      rintro e w12 ⟨rfl, hb12⟩
      have B12 := Lib.hid (below_ext2 B10.out hb12)
      clear hb12 E2
      obtain rfl : f2 = false := by cases f2 with | false => rfl | true => exact absurd (.inl rfl) q2
      have hp := out_ok Hz2.out
      have Hq := Lib.hid (ok_its hp)
      have He := Lib.hid (can_all (can_its 600) hb hp (fun h => q2 (.inr h)))
      clear hp
      go_wp2_with fail
      refine (ints_nil_any A6 c6 li w12 (KI.out _ B12.out) (by have := Hq.out.1; omega) Hq.out.2).mono ?_
      rintro e w13 ⟨vv, rfl, hb13, hs13⟩
      rw [He.out] at hs13
      have Hs13 := Lib.hid hs13
      have B13 := Lib.hid (below_ext2 B12.out hb13)
      clear hb13 hs13
      go_wp2_with fail
      refine (same_any vv _ xs xs w13 Hs13.out (KB.out _ B13.out) hb hb true (by simp)).mono ?_
      rintro e w14 ⟨rfl, hww⟩
      obtain rfl := hww
      clear Hq He
      go_wp2_with fail
      have E3 := end_b (K3.out _ B13.out)
      by_cases q3 : f3 = true ∨ k3 < xs.length
      · rw [show endOf xs.length k3 f3 = 4 from if_pos q3] at E3
        refine E3.mono ?_
        rintro e w15 ⟨rfl, hb15⟩
        have B15 := Lib.hid (below_ext2 B13.out hb15)
        clear hb15 E3
        go_wp2
        go_ret
        exact ⟨rfl, below_ext2 B8.out B15.out⟩
      · rw [show endOf xs.length k3 f3 = 0 from if_neg q3] at E3
        refine E3.mono ?_
        rintro e w15 ⟨rfl, hb15⟩
        have B15 := Lib.hid (below_ext2 B13.out hb15)
        clear hb15 E3
        obtain rfl : f3 = false := by cases f3 with | false => rfl | true => exact absurd (.inl rfl) q3
        have hp := out_ok Hz3.out
        have Hq := Lib.hid (ok_lst hp)
        have He := Lib.hid (can_all (can_lst 600) hb hp (fun h => q3 (.inr h)))
        clear hp
        go_wp2_with fail
        refine (vals_nil_any A7 c7 lv w15 (KV.out _ B15.out) (by have := Hq.out.1; omega) Hq.out.2.2 Hq.out.2.1).mono ?_
        rintro e w16 ⟨vv, rfl, hb16, hs16⟩
        rw [He.out] at hs16
        have Hs16 := Lib.hid hs16
        have B16 := Lib.hid (below_ext2 B15.out hb16)
        clear hb16 hs16
        go_wp2_with fail
        refine (same_any vv _ xs xs w16 Hs16.out (KB.out _ B16.out) hb hb true (by simp)).mono ?_
        rintro e w17 ⟨rfl, hww⟩
        obtain rfl := hww
        clear Hq He
        go_wp2
        go_ret
        exact ⟨rfl, below_ext2 B8.out B16.out⟩
theorem canon_long (h : 600 < xs.length) (hl : xs.length ≤ 140737488351232) :
    Calls Try.prog 4 #[.slice A xs.length c] w (Ok w) := by
  have z0 : decide ((600 : Int) < (xs.length : Int)) = true := by simp; omega
  go_enter Try.func4, Try.ntmps4
  go_wp2_with fail
  refine (awake_any _).mono ?_
  rintro e w1 ⟨rfl, hb1⟩
  have Hb1 := Lib.hid hb1
  clear hb1
  go_wp2
  go_ret
  exact ⟨rfl, Hb1.out⟩
theorem canon_walk (hx : Bsl w (.slice A xs.length c) xs) (hb : Byt xs) (hl : xs.length ≤ 140737488351232) :
    Calls Try.prog 4 #[.slice A xs.length c] w (Ok w) := by
  by_cases h : xs.length ≤ 600
  · exact canon_main A c xs w hx hb h
  · exact canon_long A c xs w (by omega) hl
end
end Go.Proofs.Ytlbgfjgpdjcogaa
