/- The reference's Before and Concurrent (tools/ordrb_gen.py). -/
import Derived.Test.YtiaidkdpfmbemaaOrdRef
namespace Go.Proofs.Ytiaidkdpfmbemaa
open Go.RowKit

set_option maxHeartbeats 4000000 in
theorem rbefore_any (N a b : Int) (v : Value) (es : List (Int × Int)) (w : World) (h : Prs w v es) (hl : es.length ≤ 100000) : Calls Try.prog 16 #[.agg #[.int .i64 N, v], .int .i64 a, .int .i64 b] w fun e w' => e = .returned (.bool (befO N es a b)) ∧ Below w.heap.size w w' := by
  have H := Lib.hid h; clear h
  obtain ⟨R, hR⟩ : ∃ R, R = befO N es a b := ⟨_, rfl⟩
  rw [← hR]
  unfold befO at hR
  have HR := Lib.hid hR; clear hR
  cases hv : valO N es with
  | false =>
    have hr : R = false := by rw [HR.out, hv]; rfl
    subst hr
    have Hv := Lib.hid hv; clear hv
    go_enter Try.func16, Try.ntmps16
    go_wp2_with fail
    refine (rvalid_any N v es _ (H.out.below (below_alloc _ _)) hl).mono ?_
    rintro e w1 ⟨rfl, hb1⟩
    rw [Hv.out]
    have B1 := Lib.hid hb1
    clear hb1
    go_wp2
    go_ret
    exact ⟨rfl, box_low B1.out⟩
  | true =>
    rw [hv, Bool.true_and] at HR
    have Hv := Lib.hid hv
    obtain ⟨⟨n0, n1, n2⟩, hed, _⟩ := valO_parts hv
    obtain ⟨n, rfl⟩ : ∃ n : Nat, N = n := ⟨N.toNat, by omega⟩
    have hn : n ≤ 60 := by omega
    have Hed := Lib.hid hed
    clear hv hed n0 n1
    cases ha : inB n a with
    | false =>
      have hr : R = false := by rw [HR.out, ha]; rfl
      subst hr
      have Ha := Lib.hid ha; clear ha
      go_enter Try.func16, Try.ntmps16
      go_wp2_with fail
      refine (rvalid_any n v es _ (H.out.below (below_alloc _ _)) hl).mono ?_
      rintro e w1 ⟨rfl, hb1⟩
      rw [Hv.out]
      have B1 := Lib.hid hb1
      clear hb1
      have hx := box_keep B1.out
      have x0 := cell_of_row _ _ 0 _ _ _ hx
      have x1 := cell_of_row _ _ 1 _ _ _ hx
      go_wp2_with fail
      refine (rexists_any _ _ _ _).mono ?_
      rintro e w2 ⟨rfl, hb2⟩
      rw [Ha.out]
      have B2 := Lib.hid (bl2 B1.out hb2)
      clear hb2
      clear hx x0 x1
      go_wp2
      go_ret
      exact ⟨rfl, box_low B2.out⟩
    | true =>
      rw [ha, Bool.true_and] at HR
      have Ha := Lib.hid ha
      obtain ⟨a0, a1⟩ := inB_iff.1 ha
      obtain ⟨a, rfl⟩ : ∃ m : Nat, a = m := ⟨a.toNat, by omega⟩
      clear ha
      cases hbb : inB n b with
      | false =>
        have hr : R = false := by rw [HR.out, hbb]; rfl
        subst hr
        have Hbb := Lib.hid hbb; clear hbb
        go_enter Try.func16, Try.ntmps16
        go_wp2_with fail
        refine (rvalid_any n v es _ (H.out.below (below_alloc _ _)) hl).mono ?_
        rintro e w1 ⟨rfl, hb1⟩
        rw [Hv.out]
        have B1 := Lib.hid hb1
        clear hb1
        have hx := box_keep B1.out
        have x0 := cell_of_row _ _ 0 _ _ _ hx
        have x1 := cell_of_row _ _ 1 _ _ _ hx
        go_wp2_with fail
        refine (rexists_any _ _ _ _).mono ?_
        rintro e w2 ⟨rfl, hb2⟩
        rw [Ha.out]
        have B2 := Lib.hid (bl2 B1.out hb2)
        clear hb2
        clear hx x0 x1
        have hx := box_keep B2.out
        have x0 := cell_of_row _ _ 0 _ _ _ hx
        have x1 := cell_of_row _ _ 1 _ _ _ hx
        go_wp2_with fail
        refine (rexists_any _ _ _ _).mono ?_
        rintro e w3 ⟨rfl, hb3⟩
        rw [Hbb.out]
        have B3 := Lib.hid (bl2 B2.out hb3)
        clear hb3
        clear hx x0 x1
        go_wp2
        go_ret
        exact ⟨rfl, box_low B3.out⟩
      | true =>
        rw [hbb, Bool.true_and] at HR
        have Hbb := Lib.hid hbb
        obtain ⟨b0, b1⟩ := inB_iff.1 hbb
        obtain ⟨b, rfl⟩ : ∃ m : Nat, b = m := ⟨b.toNat, by omega⟩
        clear hbb
        have hal : a < n := by omega
        have hbl : b < n := by omega
        rw [Int.toNat_natCast, Int.toNat_natCast] at HR
        go_enter Try.func16, Try.ntmps16
        go_wp2_with fail
        refine (rvalid_any n v es _ (H.out.below (below_alloc _ _)) hl).mono ?_
        rintro e w1 ⟨rfl, hb1⟩
        rw [Hv.out]
        have B1 := Lib.hid hb1
        clear hb1
        have hx := box_keep B1.out
        have x0 := cell_of_row _ _ 0 _ _ _ hx
        have x1 := cell_of_row _ _ 1 _ _ _ hx
        go_wp2_with fail
        refine (rexists_any _ _ _ _).mono ?_
        rintro e w2 ⟨rfl, hb2⟩
        rw [Ha.out]
        have B2 := Lib.hid (bl2 B1.out hb2)
        clear hb2
        clear hx x0 x1
        have hx := box_keep B2.out
        have x0 := cell_of_row _ _ 0 _ _ _ hx
        have x1 := cell_of_row _ _ 1 _ _ _ hx
        go_wp2_with fail
        refine (rexists_any _ _ _ _).mono ?_
        rintro e w3 ⟨rfl, hb3⟩
        rw [Hbb.out]
        have B3 := Lib.hid (bl2 B2.out hb3)
        clear hb3
        clear hx x0 x1
        have hx := box_keep B3.out
        have x0 := cell_of_row _ _ 0 _ _ _ hx
        have x1 := cell_of_row _ _ 1 _ _ _ hx
        go_wp2_with fail
        refine (behind_any n v es _ (H.out.below (box_low B3.out)) hl hn Hed.out).mono ?_
        rintro e w4 ⟨g, rfl, hb4, hM⟩
        have co := hM.cellO hal
        have ci := hM.cellI hal hbl
        have B4 := Lib.hid (bl2 B3.out hb4)
        clear hb4 hM
        clear hx x0 x1
        rw [← HR.out] at ci
        go_wp2
        go_ret
        exact ⟨rfl, box_low B4.out⟩
set_option maxHeartbeats 4000000 in
theorem rconc_any (N a b : Int) (v : Value) (es : List (Int × Int)) (w : World) (h : Prs w v es) (hl : es.length ≤ 100000) : Calls Try.prog 18 #[.agg #[.int .i64 N, v], .int .i64 a, .int .i64 b] w fun e w' => e = .returned (.bool (conO N es a b)) ∧ Below w.heap.size w w' := by
  have H := Lib.hid h; clear h
  obtain ⟨R, hR⟩ : ∃ R, R = conO N es a b := ⟨_, rfl⟩
  rw [← hR]
  unfold conO at hR
  have HR := Lib.hid hR; clear hR
  cases hv : valO N es with
  | false =>
    have hr : R = false := by rw [HR.out, hv]; rfl
    subst hr
    have Hv := Lib.hid hv; clear hv
    go_enter Try.func18, Try.ntmps18
    go_wp2_with fail
    refine (rvalid_any N v es _ (H.out.below (below_alloc _ _)) hl).mono ?_
    rintro e w1 ⟨rfl, hb1⟩
    rw [Hv.out]
    have B1 := Lib.hid hb1
    clear hb1
    go_wp2
    go_ret
    exact ⟨rfl, box_low B1.out⟩
  | true =>
    rw [hv, Bool.true_and] at HR
    have Hv := Lib.hid hv
    obtain ⟨⟨n0, n1, n2⟩, hed, _⟩ := valO_parts hv
    obtain ⟨n, rfl⟩ : ∃ n : Nat, N = n := ⟨N.toNat, by omega⟩
    have hn : n ≤ 60 := by omega
    have Hed := Lib.hid hed
    clear hv hed n0 n1
    cases ha : inB n a with
    | false =>
      have hr : R = false := by rw [HR.out, ha]; rfl
      subst hr
      have Ha := Lib.hid ha; clear ha
      go_enter Try.func18, Try.ntmps18
      go_wp2_with fail
      refine (rvalid_any n v es _ (H.out.below (below_alloc _ _)) hl).mono ?_
      rintro e w1 ⟨rfl, hb1⟩
      rw [Hv.out]
      have B1 := Lib.hid hb1
      clear hb1
      have hx := box_keep B1.out
      have x0 := cell_of_row _ _ 0 _ _ _ hx
      have x1 := cell_of_row _ _ 1 _ _ _ hx
      go_wp2_with fail
      refine (rexists_any _ _ _ _).mono ?_
      rintro e w2 ⟨rfl, hb2⟩
      rw [Ha.out]
      have B2 := Lib.hid (bl2 B1.out hb2)
      clear hb2
      clear hx x0 x1
      go_wp2
      go_ret
      exact ⟨rfl, box_low B2.out⟩
    | true =>
      rw [ha, Bool.true_and] at HR
      have Ha := Lib.hid ha
      obtain ⟨a0, a1⟩ := inB_iff.1 ha
      obtain ⟨a, rfl⟩ : ∃ m : Nat, a = m := ⟨a.toNat, by omega⟩
      clear ha
      cases hbb : inB n b with
      | false =>
        have hr : R = false := by rw [HR.out, hbb]; rfl
        subst hr
        have Hbb := Lib.hid hbb; clear hbb
        go_enter Try.func18, Try.ntmps18
        go_wp2_with fail
        refine (rvalid_any n v es _ (H.out.below (below_alloc _ _)) hl).mono ?_
        rintro e w1 ⟨rfl, hb1⟩
        rw [Hv.out]
        have B1 := Lib.hid hb1
        clear hb1
        have hx := box_keep B1.out
        have x0 := cell_of_row _ _ 0 _ _ _ hx
        have x1 := cell_of_row _ _ 1 _ _ _ hx
        go_wp2_with fail
        refine (rexists_any _ _ _ _).mono ?_
        rintro e w2 ⟨rfl, hb2⟩
        rw [Ha.out]
        have B2 := Lib.hid (bl2 B1.out hb2)
        clear hb2
        clear hx x0 x1
        have hx := box_keep B2.out
        have x0 := cell_of_row _ _ 0 _ _ _ hx
        have x1 := cell_of_row _ _ 1 _ _ _ hx
        go_wp2_with fail
        refine (rexists_any _ _ _ _).mono ?_
        rintro e w3 ⟨rfl, hb3⟩
        rw [Hbb.out]
        have B3 := Lib.hid (bl2 B2.out hb3)
        clear hb3
        clear hx x0 x1
        go_wp2
        go_ret
        exact ⟨rfl, box_low B3.out⟩
      | true =>
        rw [hbb, Bool.true_and] at HR
        have Hbb := Lib.hid hbb
        obtain ⟨b0, b1⟩ := inB_iff.1 hbb
        obtain ⟨b, rfl⟩ : ∃ m : Nat, b = m := ⟨b.toNat, by omega⟩
        clear hbb
        have hal : a < n := by omega
        have hbl : b < n := by omega
        rw [Int.toNat_natCast, Int.toNat_natCast] at HR
        by_cases hab : a = b
        · subst hab
          have hr : R = false := by rw [HR.out]; simp
          subst hr
          go_enter Try.func18, Try.ntmps18
          go_wp2_with fail
          refine (rvalid_any n v es _ (H.out.below (below_alloc _ _)) hl).mono ?_
          rintro e w1 ⟨rfl, hb1⟩
          rw [Hv.out]
          have B1 := Lib.hid hb1
          clear hb1
          have hx := box_keep B1.out
          have x0 := cell_of_row _ _ 0 _ _ _ hx
          have x1 := cell_of_row _ _ 1 _ _ _ hx
          go_wp2_with fail
          refine (rexists_any _ _ _ _).mono ?_
          rintro e w2 ⟨rfl, hb2⟩
          rw [Ha.out]
          have B2 := Lib.hid (bl2 B1.out hb2)
          clear hb2
          clear hx x0 x1
          have hx := box_keep B2.out
          have x0 := cell_of_row _ _ 0 _ _ _ hx
          have x1 := cell_of_row _ _ 1 _ _ _ hx
          go_wp2_with fail
          refine (rexists_any _ _ _ _).mono ?_
          rintro e w3 ⟨rfl, hb3⟩
          rw [Hbb.out]
          have B3 := Lib.hid (bl2 B2.out hb3)
          clear hb3
          clear hx x0 x1
          go_wp2
          go_ret
          exact ⟨rfl, box_low B3.out⟩
        · have hne' : ((a : Int) != (b : Int)) = true := by rw [bne_iff_ne]; omega
          rw [decide_eq_true (show (a : Int) ≠ (b : Int) by omega), Bool.true_and] at HR
          cases h1 : Bf n es a b with
          | true =>
            have hr : R = false := by rw [HR.out, h1]; simp
            subst hr
            go_enter Try.func18, Try.ntmps18
            go_wp2_with fail
            refine (rvalid_any n v es _ (H.out.below (below_alloc _ _)) hl).mono ?_
            rintro e w1 ⟨rfl, hb1⟩
            rw [Hv.out]
            have B1 := Lib.hid hb1
            clear hb1
            have hx := box_keep B1.out
            have x0 := cell_of_row _ _ 0 _ _ _ hx
            have x1 := cell_of_row _ _ 1 _ _ _ hx
            go_wp2_with fail
            refine (rexists_any _ _ _ _).mono ?_
            rintro e w2 ⟨rfl, hb2⟩
            rw [Ha.out]
            have B2 := Lib.hid (bl2 B1.out hb2)
            clear hb2
            clear hx x0 x1
            have hx := box_keep B2.out
            have x0 := cell_of_row _ _ 0 _ _ _ hx
            have x1 := cell_of_row _ _ 1 _ _ _ hx
            go_wp2_with fail
            refine (rexists_any _ _ _ _).mono ?_
            rintro e w3 ⟨rfl, hb3⟩
            rw [Hbb.out]
            have B3 := Lib.hid (bl2 B2.out hb3)
            clear hb3
            clear hx x0 x1
            have hx := box_keep B3.out
            have x0 := cell_of_row _ _ 0 _ _ _ hx
            have x1 := cell_of_row _ _ 1 _ _ _ hx
            go_wp2_with fail
            refine (behind_any n v es _ (H.out.below (box_low B3.out)) hl hn Hed.out).mono ?_
            rintro e w4 ⟨g, rfl, hb4, hM⟩
            have co := hM.cellO hal
            have ci := hM.cellI hal hbl
            have B4 := Lib.hid (bl2 B3.out hb4)
            clear hb4 hM
            clear hx x0 x1
            rw [h1] at ci
            go_wp2
            go_ret
            exact ⟨rfl, box_low B4.out⟩
          | false =>
            have hr : R = !Bf n es b a := by rw [HR.out, h1]; simp
            have Hr := Lib.hid hr
            clear hr
            go_enter Try.func18, Try.ntmps18
            go_wp2_with fail
            refine (rvalid_any n v es _ (H.out.below (below_alloc _ _)) hl).mono ?_
            rintro e w1 ⟨rfl, hb1⟩
            rw [Hv.out]
            have B1 := Lib.hid hb1
            clear hb1
            have hx := box_keep B1.out
            have x0 := cell_of_row _ _ 0 _ _ _ hx
            have x1 := cell_of_row _ _ 1 _ _ _ hx
            go_wp2_with fail
            refine (rexists_any _ _ _ _).mono ?_
            rintro e w2 ⟨rfl, hb2⟩
            rw [Ha.out]
            have B2 := Lib.hid (bl2 B1.out hb2)
            clear hb2
            clear hx x0 x1
            have hx := box_keep B2.out
            have x0 := cell_of_row _ _ 0 _ _ _ hx
            have x1 := cell_of_row _ _ 1 _ _ _ hx
            go_wp2_with fail
            refine (rexists_any _ _ _ _).mono ?_
            rintro e w3 ⟨rfl, hb3⟩
            rw [Hbb.out]
            have B3 := Lib.hid (bl2 B2.out hb3)
            clear hb3
            clear hx x0 x1
            have hx := box_keep B3.out
            have x0 := cell_of_row _ _ 0 _ _ _ hx
            have x1 := cell_of_row _ _ 1 _ _ _ hx
            go_wp2_with fail
            refine (behind_any n v es _ (H.out.below (box_low B3.out)) hl hn Hed.out).mono ?_
            rintro e w4 ⟨g, rfl, hb4, hM⟩
            have co := hM.cellO hal
            have ci := hM.cellI hal hbl
            have B4 := Lib.hid (bl2 B3.out hb4)
            clear hb4 hM
            clear hx x0 x1
            rw [h1] at ci
            have hx := box_keep B4.out
            have x0 := cell_of_row _ _ 0 _ _ _ hx
            have x1 := cell_of_row _ _ 1 _ _ _ hx
            go_wp2_with fail
            refine (behind_any n v es _ (H.out.below (box_low B4.out)) hl hn Hed.out).mono ?_
            rintro e w5 ⟨g2, rfl, hb5, hM⟩
            clear co ci
            have co := hM.cellO hbl
            have ci := hM.cellI hbl hal
            have B5 := Lib.hid (bl2 B4.out hb5)
            clear hb5 hM hx x0 x1
            go_wp2
            go_ret
            exact ⟨ret_b Hr.out.symm, box_low B5.out⟩
end Go.Proofs.Ytiaidkdpfmbemaa
