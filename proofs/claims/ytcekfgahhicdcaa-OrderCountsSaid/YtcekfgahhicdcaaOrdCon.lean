/- Concurrent of order (tools/ordfn_gen.py). -/
import Derived.Test.YtcekfgahhicdcaaOrdVal
namespace Go.Proofs.Ytcekfgahhicdcaa
open Go.RowKit

theorem psts_word {n : Nat} {es : List (Int × Int)} {b : Nat} (hb : b < (psts (n : Int) es).length) : (psts (n : Int) es)[b] = pst n es b := by
  have e1 : (psts (n : Int) es)[b] = (psts n es).getD b 0 := by rw [List.getD_eq_getElem?_getD, List.getElem?_eq_getElem hb]; rfl
  have h2 : b < n := by rw [psts_len, Int.toNat_natCast] at hb; exact hb
  rw [e1, psts_at (by omega)]
theorem words_cell {n : Nat} {es : List (Int × Int)} {w : World} {v : Value} (h : Sl uv w v (psts (n : Int) es)) (hn : n ≤ 60) {b : Nat} (hb : b < n) : ∃ ad c, v = .slice (some ad) n c ∧ n ≤ c ∧ w.cell? (ad.add b) = some (.int .u64 (pst n es b : Nat)) ∧ pst n es b < 2 ^ 64 := by
  have hl : b < (psts (n : Int) es).length := by rw [psts_len]; omega
  obtain ⟨ad, c, hv, hcap, hcell⟩ := sl_cell h b hl
  rw [psts_word hl] at hcell
  rw [psts_len, Int.toNat_natCast] at hv hcap
  exact ⟨ad, c, hv, hcap, hcell, setOf_u64 (by omega) _⟩
theorem bf_bit {n : Nat} {es : List (Int × Int)} {a b : Nat} (ha : a < n) : (pst (n : Int) es b).testBit a = Bf n es a b := pst_bit (by omega)

set_option maxHeartbeats 4000000 in
theorem conc_any (N a b : Int) (v : Value) (es : List (Int × Int)) (w : World) (h : Prs w v es) (hl : es.length ≤ 100000) : Calls Try.prog 17 #[.agg #[.int .i64 N, v], .int .i64 a, .int .i64 b] w fun e w' => e = .returned (.bool (conO N es a b)) ∧ Below w.heap.size w w' := by
  have H := Lib.hid h; clear h
  obtain ⟨R, hR⟩ : ∃ R, R = conO N es a b := ⟨_, rfl⟩
  rw [← hR]
  unfold conO at hR
  have HR := Lib.hid hR; clear hR
  cases hv : valO N es with
  | false =>
    have hr : R = false := by rw [HR.out, hv]; rfl
    subst hr
    have Hv := Lib.hid hv; clear hv
    go_enter Try.func17, Try.ntmps17
    go_wp2_with fail
    refine (pastsof_any N v es _ (H.out.below (below_alloc _ _)) hl).mono ?_
    rintro e w1 ⟨v1, rfl, hb, _⟩
    rw [Hv.out]
    have Hb := Lib.hid (box_low hb)
    clear hb
    go_wp2
    go_ret
    exact ⟨rfl, Hb.out⟩
  | true =>
    rw [hv, Bool.true_and] at HR
    have Hv := Lib.hid hv
    obtain ⟨⟨n0, n1, n2⟩, _, _⟩ := valO_parts hv
    obtain ⟨n, rfl⟩ : ∃ n : Nat, N = n := ⟨N.toNat, by omega⟩
    clear hv
    cases ha : inB n a with
    | false =>
      have hr : R = false := by rw [HR.out, ha]; rfl
      subst hr
      have Ha := Lib.hid ha; clear ha
      go_enter Try.func17, Try.ntmps17
      go_wp2_with fail
      refine (pastsof_any n v es _ (H.out.below (below_alloc _ _)) hl).mono ?_
      rintro e w1 ⟨v1, rfl, hb, hs⟩
      have hx := box_keep hb
      have x0 := cell_of_row _ _ 0 _ _ _ hx
      have x1 := cell_of_row _ _ 1 _ _ _ hx
      rw [Hv.out]
      have Hbox := Lib.hid hb
      clear hb hs
      go_wp2_with fail
      refine (exists_any _ _ _ _).mono ?_
      rintro e w2 ⟨rfl, hb2⟩
      rw [Ha.out]
      have Hbx2 := Lib.hid (bl2 Hbox.out hb2)
      clear hb2 hx x0 x1
      go_wp2
      go_ret
      exact ⟨rfl, box_low Hbx2.out⟩
    | true =>
      rw [ha, Bool.true_and] at HR
      have Ha := Lib.hid ha
      obtain ⟨a0, a1⟩ := inB_iff.1 ha
      obtain ⟨a, rfl⟩ : ∃ m : Nat, a = m := ⟨a.toNat, by omega⟩
      clear ha
      cases hbb : inB n b with
      | false =>
        have hr : R = false := by rw [HR.out, hbb]; rfl
        subst hr
        have Hbb := Lib.hid hbb; clear hbb
        go_enter Try.func17, Try.ntmps17
        go_wp2_with fail
        refine (pastsof_any n v es _ (H.out.below (below_alloc _ _)) hl).mono ?_
        rintro e w1 ⟨v1, rfl, hb, hs⟩
        have hx := box_keep hb
        have x0 := cell_of_row _ _ 0 _ _ _ hx
        have x1 := cell_of_row _ _ 1 _ _ _ hx
        rw [Hv.out]
        have Hbox := Lib.hid hb
        clear hb hs
        go_wp2_with fail
        refine (exists_any _ _ _ _).mono ?_
        rintro e w2 ⟨rfl, hb2⟩
        rw [Ha.out]
        have Hbx2 := Lib.hid (bl2 Hbox.out hb2)
        clear hb2 hx x0 x1
        have hx := box_keep Hbx2.out
        have x0 := cell_of_row _ _ 0 _ _ _ hx
        have x1 := cell_of_row _ _ 1 _ _ _ hx
        go_wp2_with fail
        refine (exists_any _ _ _ _).mono ?_
        rintro e w3 ⟨rfl, hb3⟩
        rw [Hbb.out]
        have Hbx3 := Lib.hid (bl2 Hbx2.out hb3)
        clear hb3 hx x0 x1
        go_wp2
        go_ret
        exact ⟨rfl, box_low Hbx3.out⟩
      | true =>
        rw [hbb, Bool.true_and] at HR
        have Hbb := Lib.hid hbb
        obtain ⟨b0, b1⟩ := inB_iff.1 hbb
        obtain ⟨b, rfl⟩ : ∃ m : Nat, b = m := ⟨b.toNat, by omega⟩
        clear hbb
        have hn : n ≤ 60 := by omega
        have hal : a < n := by omega
        have hbl : b < n := by omega
        rw [Int.toNat_natCast, Int.toNat_natCast] at HR
        by_cases hab : a = b
        · subst hab
          have hr : R = false := by rw [HR.out]; simp
          subst hr
          go_enter Try.func17, Try.ntmps17
          go_wp2_with fail
          refine (pastsof_any n v es _ (H.out.below (below_alloc _ _)) hl).mono ?_
          rintro e w1 ⟨v1, rfl, hb, hs⟩
          have hx := box_keep hb
          have x0 := cell_of_row _ _ 0 _ _ _ hx
          have x1 := cell_of_row _ _ 1 _ _ _ hx
          rw [Hv.out]
          have Hbox := Lib.hid hb
          clear hb hs
          go_wp2_with fail
          refine (exists_any _ _ _ _).mono ?_
          rintro e w2 ⟨rfl, hb2⟩
          rw [Ha.out]
          have Hbx2 := Lib.hid (bl2 Hbox.out hb2)
          clear hb2 hx x0 x1
          have hx := box_keep Hbx2.out
          have x0 := cell_of_row _ _ 0 _ _ _ hx
          have x1 := cell_of_row _ _ 1 _ _ _ hx
          go_wp2_with fail
          refine (exists_any _ _ _ _).mono ?_
          rintro e w3 ⟨rfl, hb3⟩
          rw [Hbb.out]
          have Hbx3 := Lib.hid (bl2 Hbx2.out hb3)
          clear hb3 hx x0 x1
          go_wp2
          go_ret
          exact ⟨rfl, box_low Hbx3.out⟩
        · have hne : ((a : Int) == (b : Int)) = false := by rw [beq_eq_false_iff_ne]; omega
          have hne' : ((a : Int) != (b : Int)) = true := by rw [bne_iff_ne]; omega
          rw [decide_eq_true (show (a : Int) ≠ (b : Int) by omega), Bool.true_and] at HR
          cases h1 : Bf n es b a with
          | true =>
            have hr : R = false := by rw [HR.out, h1]; rfl
            subst hr
            have H1 := Lib.hid ((bf_bit hbl).trans h1)
            clear h1
            go_enter Try.func17, Try.ntmps17
            go_wp2_with fail
            refine (pastsof_any n v es _ (H.out.below (below_alloc _ _)) hl).mono ?_
            rintro e w1 ⟨v1, rfl, hb, hs⟩
            have Hs := Lib.hid (hs Hv.out)
            have hx := box_keep hb
            have x0 := cell_of_row _ _ 0 _ _ _ hx
            have x1 := cell_of_row _ _ 1 _ _ _ hx
            rw [Hv.out]
            have Hbox := Lib.hid hb
            clear hb hs
            go_wp2_with fail
            refine (exists_any _ _ _ _).mono ?_
            rintro e w2 ⟨rfl, hb2⟩
            rw [Ha.out]
            have Hbx2 := Lib.hid (bl2 Hbox.out hb2)
            have Hs2 := Lib.hid (Hs.out.below hb2)
            clear hb2 hx x0 x1
            have hx := box_keep Hbx2.out
            have x0 := cell_of_row _ _ 0 _ _ _ hx
            have x1 := cell_of_row _ _ 1 _ _ _ hx
            go_wp2_with fail
            refine (exists_any _ _ _ _).mono ?_
            rintro e w3 ⟨rfl, hb3⟩
            rw [Hbb.out]
            have Hbx3 := Lib.hid (bl2 Hbx2.out hb3)
            have Hs3 := Lib.hid (Hs2.out.below hb3)
            clear hb3 hx x0 x1
            obtain ⟨ad, c', rfl, hcap, hcell, hxl⟩ := words_cell Hs3.out hn hal
            generalize pst (n : Int) es a = x at *
            go_wp2_with fail
            refine (has_any x b _ hxl (by omega)).mono ?_
            rintro r w4 ⟨rfl, rfl⟩
            rw [H1.out]
            go_wp2
            go_ret
            exact ⟨rfl, box_low Hbx3.out⟩
          | false =>
            cases h2 : Bf n es a b with
            | true =>
              have hr : R = false := by rw [HR.out, h1, h2]; rfl
              subst hr
              have H1 := Lib.hid ((bf_bit hbl).trans h1)
              have H2 := Lib.hid ((bf_bit hal).trans h2)
              clear h1 h2
              go_enter Try.func17, Try.ntmps17
              go_wp2_with fail
              refine (pastsof_any n v es _ (H.out.below (below_alloc _ _)) hl).mono ?_
              rintro e w1 ⟨v1, rfl, hb, hs⟩
              have Hs := Lib.hid (hs Hv.out)
              have hx := box_keep hb
              have x0 := cell_of_row _ _ 0 _ _ _ hx
              have x1 := cell_of_row _ _ 1 _ _ _ hx
              rw [Hv.out]
              have Hbox := Lib.hid hb
              clear hb hs
              go_wp2_with fail
              refine (exists_any _ _ _ _).mono ?_
              rintro e w2 ⟨rfl, hb2⟩
              rw [Ha.out]
              have Hbx2 := Lib.hid (bl2 Hbox.out hb2)
              have Hs2 := Lib.hid (Hs.out.below hb2)
              clear hb2 hx x0 x1
              have hx := box_keep Hbx2.out
              have x0 := cell_of_row _ _ 0 _ _ _ hx
              have x1 := cell_of_row _ _ 1 _ _ _ hx
              go_wp2_with fail
              refine (exists_any _ _ _ _).mono ?_
              rintro e w3 ⟨rfl, hb3⟩
              rw [Hbb.out]
              have Hbx3 := Lib.hid (bl2 Hbx2.out hb3)
              have Hs3 := Lib.hid (Hs2.out.below hb3)
              clear hb3 hx x0 x1
              obtain ⟨ad, c', rfl, hcap, hcell, hxl⟩ := words_cell Hs3.out hn hal
              generalize pst (n : Int) es a = x at *
              go_wp2_with fail
              refine (has_any x b _ hxl (by omega)).mono ?_
              rintro r w4 ⟨rfl, rfl⟩
              rw [H1.out]
              clear hcell
              obtain ⟨ad2, c2, hv2, hcap2, hcell, hyl⟩ := words_cell Hs3.out hn hbl
              simp only [Value.slice.injEq, Option.some.injEq, true_and] at hv2
              obtain ⟨rfl, rfl⟩ := hv2
              generalize pst (n : Int) es b = y at *
              go_wp2_with fail
              refine (has_any y a _ hyl (by omega)).mono ?_
              rintro r w4 ⟨rfl, rfl⟩
              rw [H2.out]
              go_wp2
              go_ret
              exact ⟨rfl, box_low Hbx3.out⟩
            | false =>
              have hr : R = true := by rw [HR.out, h1, h2]; rfl
              subst hr
              have H1 := Lib.hid ((bf_bit hbl).trans h1)
              have H2 := Lib.hid ((bf_bit hal).trans h2)
              clear h1 h2
              go_enter Try.func17, Try.ntmps17
              go_wp2_with fail
              refine (pastsof_any n v es _ (H.out.below (below_alloc _ _)) hl).mono ?_
              rintro e w1 ⟨v1, rfl, hb, hs⟩
              have Hs := Lib.hid (hs Hv.out)
              have hx := box_keep hb
              have x0 := cell_of_row _ _ 0 _ _ _ hx
              have x1 := cell_of_row _ _ 1 _ _ _ hx
              rw [Hv.out]
              have Hbox := Lib.hid hb
              clear hb hs
              go_wp2_with fail
              refine (exists_any _ _ _ _).mono ?_
              rintro e w2 ⟨rfl, hb2⟩
              rw [Ha.out]
              have Hbx2 := Lib.hid (bl2 Hbox.out hb2)
              have Hs2 := Lib.hid (Hs.out.below hb2)
              clear hb2 hx x0 x1
              have hx := box_keep Hbx2.out
              have x0 := cell_of_row _ _ 0 _ _ _ hx
              have x1 := cell_of_row _ _ 1 _ _ _ hx
              go_wp2_with fail
              refine (exists_any _ _ _ _).mono ?_
              rintro e w3 ⟨rfl, hb3⟩
              rw [Hbb.out]
              have Hbx3 := Lib.hid (bl2 Hbx2.out hb3)
              have Hs3 := Lib.hid (Hs2.out.below hb3)
              clear hb3 hx x0 x1
              obtain ⟨ad, c', rfl, hcap, hcell, hxl⟩ := words_cell Hs3.out hn hal
              generalize pst (n : Int) es a = x at *
              go_wp2_with fail
              refine (has_any x b _ hxl (by omega)).mono ?_
              rintro r w4 ⟨rfl, rfl⟩
              rw [H1.out]
              clear hcell
              obtain ⟨ad2, c2, hv2, hcap2, hcell, hyl⟩ := words_cell Hs3.out hn hbl
              simp only [Value.slice.injEq, Option.some.injEq, true_and] at hv2
              obtain ⟨rfl, rfl⟩ := hv2
              generalize pst (n : Int) es b = y at *
              go_wp2_with fail
              refine (has_any y a _ hyl (by omega)).mono ?_
              rintro r w4 ⟨rfl, rfl⟩
              rw [H2.out]
              go_wp2
              go_ret
              exact ⟨rfl, box_low Hbx3.out⟩
end Go.Proofs.Ytcekfgahhicdcaa
