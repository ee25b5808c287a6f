/- GraphOrders: for every input the law returns true. -/
import Derived.Test.YtnhhhnhakpambaaGraphAwake
import Derived.Test.YtnhhhnhakpambaaGraphOrdM
namespace Go.Proofs.Ytnhhhnhakpambaa
open Go.RowKit

theorem all_neg {A : List Int} {n : Nat} (h : A.length = n) (hh : ∀ j, j < n → dat A j = -1) : A = List.replicate n (-1) := by
  refine List.ext_getElem (by simp [h]) fun j h1 h2 => ?_
  have := hh j (by omega)
  unfold dat at this
  rw [List.getElem?_eq_getElem h1] at this
  simpa using this
theorem rhas_mem {l : List Nat} {x : Nat} (h : x ∈ l) : rhas l (x : Int) = true := by
  unfold rhas
  rw [List.any_eq_true]
  exact ⟨x, h, by simp⟩
theorem rhas_q {v : Value} {l : List Nat} {n : Int} {bb : Bool} {w : World} (hb : rhas l n = bb) (h : Sl nv w v l) (hl : l.length ≤ 10000) :
    Calls Try.prog 36 #[v, .int .i64 n] w fun e w' => e = .returned (.bool bb) ∧ w' = w :=
  (rhas_any v l n w h hl).mono fun _ _ ⟨h1, h2⟩ => ⟨by rw [h1, hb], h2.symm⟩
set_option maxRecDepth 100000 in
set_option maxHeartbeats 4000000 in
theorem graphorders_walk (A : Option Addr) (c : Nat) (g : List (List Int)) (w : World) (h : Gr iv w (.slice A g.length c) g) (hl : g.length ≤ 17592186044000) :
    Calls Try.prog 10 #[.slice A g.length c] w (Ok w) := by
  have H := Lib.hid h
  have HB := Lib.hid (Below.refl w.heap.size w)
  clear h
  cases hfew : fewb g with
  | false =>
    have Hfew := Lib.hid hfew
    clear hfew
    go_enter Try.func10, Try.ntmps10
    go_wp2_with fail
    refine (awake_any _).mono ?_
    rintro e w1 ⟨rfl, hb⟩
    replace HB := Lib.hid (HB.out.trans (hb.mono HB.out.size))
    replace H := Lib.hid (H.out.below hb)
    clear hb
    go_wp2_with fail
    refine (few_any _ _ _ H.out hl).mono ?_
    rintro e w2 ⟨rfl, rfl⟩
    rw [Hfew.out]
    go_wp2
    go_ret
    exact ⟨rfl, HB.out⟩
  | true =>
    have Hfew := Lib.hid hfew
    have hL := few_lim hfew
    have hn60 := few_len hfew
    have HL := Lib.hid hL
    clear hfew hL
    by_cases hv : VldI g
    · obtain ⟨gn, rfl, hvg⟩ := hv.vg
      have Hvb := Lib.hid (vb_true hv)
      have Hg := Lib.hid hvg
      clear hv hvg
      rw [cst_len] at hl hn60 ⊢
      have Hn : Hid (Gr nv w (.slice A gn.length c) gn) := by have := H.out; rw [cst_len] at this; exact this.uncst
      clear H
      obtain ⟨i0, hi, hz0, hz1, hz2⟩ := info_parts info_int
      go_enter Try.func10, Try.ntmps10
      go_wp2_with fail
      refine (awake_any _).mono ?_
      rintro e w1 ⟨rfl, hb⟩
      replace HB := Lib.hid (HB.out.trans (hb.mono HB.out.size))
      replace Hn := Lib.hid (Hn.out.below hb)
      clear hb
      go_wp2_with fail
      refine (few_any _ _ _ Hn.out.cst (by rw [cst_len]; exact hl)).mono ?_
      rintro e w2 ⟨rfl, rfl⟩
      rw [Hfew.out]
      go_wp2_with fail
      refine (rvalid_any _ _ _ Hn.out.cst HL.out).mono ?_
      rintro e w2 ⟨rfl, hb⟩
      rw [Hvb.out]
      replace HB := Lib.hid (HB.out.trans (hb.mono HB.out.size))
      replace Hn := Lib.hid (Hn.out.below hb)
      clear hb
      go_wp2_with fail
      refine (order_any _ gn _ Hn.out Hg.out).mono ?_
      rintro e w3 (⟨l, v, hl1, rfl, hsl, hb⟩ | ⟨_, rfl, hb⟩)
      · have Ho := Lib.hid (ordM_ord hl1)
        replace HB := Lib.hid (HB.out.trans (hb.mono HB.out.size))
        replace Hn := Lib.hid (Hn.out.below hb)
        obtain ⟨Al, cl, rfl⟩ := hsl.shape
        have Hsl := Lib.hid hsl
        have hll : l.length = gn.length := Ho.out.len
        rw [hll] at Hsl ⊢
        have Hll := Lib.hid hll
        clear hb hl1 hsl hll
        go_wp2_with (at_make; refine wpList_make_full _ rfl _ _ _ rfl w3.heap.size 3 i0 _ 1 (by kernel_rfl) hi hz0 hz1 _ _ _ _ gn.length rfl rfl rfl rfl (by rw [hz2]; omega) (by unfold maxLen; omega) (Nat.le_refl _) ?_; intro w4 hown hgr; have Hb4 := Lib.hid (made_below hgr); have Hr4 := Lib.hid (made_row hown); clear hown hgr)
        have Hrz : Hid (Row w4 w3.heap.size 3 ((List.replicate gn.length (0 : Int)).map iv)) := by show Row _ _ _ _; rw [List.map_replicate]; exact Hr4.out
        clear Hr4
        have hHs := HB.out.size
        go_loopw [42] (fun i wr => ∃ (k : Nat) (A : List Int), k ≤ gn.length ∧ i = .int .i64 k ∧ A.length = gn.length ∧ Hid (∀ j, j < k → dat A j = -1) ∧ Row wr w3.heap.size 3 (A.map iv) ∧ Below w3.heap.size w3 wr) (fun i _ => gn.length - (intOf i).toNat)
        case atStart => exact ⟨0, _, Nat.zero_le _, rfl, by simp, Lib.hid (by intro j hj; omega), Hrz.out, Hb4.out⟩
        case round =>
          clear Hrz Hb4
          obtain ⟨k, A5, hk, rfl, hal, hall, hrow, hbel⟩ := hrel
          have Hrw := Lib.hid hrow; have Hbel := Lib.hid hbel
          by_cases hlt : k < gn.length
          · have hck := dat_cell hrow (by rw [hal]; exact hlt : k < A5.length)
            have hfr := hrow.free k
            have hn5 : Hid (∀ j, j < k + 1 → dat (A5.set k (-1)) j = -1) := fun j hj => by
              rw [dat_set (by rw [hal]; exact hlt)]
              split
              · rfl
              · exact hall.out j (by omega)
            have Hr5 := Lib.hid (row_set_iv hrow k (-1))
            clear hrow hbel
            generalize dat A5 k = d at *
            go_wp2
            go_roundw
            case rel => exact ⟨k + 1, _, by omega, by go_num, by simp [hal], hn5, Hr5.out, Hbel.out.setCell (p := ⟨w3.heap.size, k, none⟩) (Nat.le_refl _) _⟩
            case measure => simp [intOf]; omega
          · obtain rfl : k = gn.length := by omega
            have hA := all_neg hal hall.out
            rw [hA] at Hrw
            clear hrow hbel hA hall hal
            go_wp2
            go_loopw [51] (fun i wr => ∃ (k : Nat) (A : List Int), k ≤ gn.length ∧ i = .int .i64 k ∧ AtInv gn.length l k A ∧ Row wr w3.heap.size 3 (A.map iv) ∧ Below w3.heap.size w3 wr) (fun i _ => gn.length - (intOf i).toNat)
            case atStart => exact ⟨0, _, Nat.zero_le _, rfl, AtInv.start, Hrw.out, Hbel.out⟩
            case round =>
              clear Hrw Hbel
              obtain ⟨k, A5, hk, rfl, hat, hrow, hbel⟩ := hrel
              have Hrw := Lib.hid hrow; have Hbel := Lib.hid hbel; have Hat := Lib.hid hat
              by_cases hlt : k < gn.length
              · have hkl : k < l.length := by rw [Hll.out]; exact hlt
                obtain ⟨adl, cl', hsq, hcapl, hcelll⟩ := sl_cell (Hsl.out.below hbel) k hkl
                rw [Hll.out] at hsq hcapl
                simp only [Value.slice.injEq, true_and] at hsq
                obtain ⟨rfl, rfl⟩ := hsq
                have hxn := Ho.out.node _ (List.getElem_mem hkl)
                obtain ⟨hd1, hst⟩ := hat.step (List.getElem?_eq_getElem hkl) hxn Ho.out.nodup
                generalize l[k] = x at *
                have hck := dat_cell hrow (by rw [hat.len]; exact hxn : x < A5.length)
                rw [hd1] at hck
                have hfr := hrow.free x
                have Hst := Lib.hid hst
                have Hr5 := Lib.hid (row_set_iv hrow x (k : Int))
                unfold nv at hcelll
                clear hrow hbel hat hst hd1
                go_wp2
                go_roundw
                case rel => exact ⟨k + 1, _, by omega, by go_num, Hst.out, Hr5.out, Hbel.out.setCell (p := ⟨w3.heap.size, x, none⟩) (Nat.le_refl _) _⟩
                case measure => simp [intOf]; omega
              · obtain rfl : k = gn.length := by omega
                have Hat2 : Hid (∀ x, x < gn.length → ∃ a : Nat, l[a]? = some x ∧ dat A5 x = a) := fun x hx => by
                  obtain ⟨a, ha, e⟩ := List.getElem_of_mem (Ho.out.all x hx)
                  have e2 : l[a]? = some x := by rw [← e]; exact List.getElem?_eq_getElem ha
                  exact ⟨a, e2, Hat.out.on a x (by rw [← Hll.out]; exact ha) e2⟩
                have hal := hat.len
                clear hrow hbel hat Hat
                go_wp2
                go_loopw [78] (fun i wr => ∃ (k : Nat), k ≤ gn.length ∧ i = .int .i64 k ∧ Row wr w3.heap.size 3 (A5.map iv) ∧ Below w3.heap.size w3 wr) (fun i _ => gn.length - (intOf i).toNat)
                case atStart => exact ⟨0, Nat.zero_le _, rfl, Hrw.out, Hbel.out⟩
                case round =>
                  clear Hrw Hbel
                  obtain ⟨k, hk, rfl, hrow, hbel⟩ := hrel
                  have Hrw := Lib.hid hrow; have Hbel := Lib.hid hbel
                  by_cases hlt : k < gn.length
                  · obtain ⟨a, ha, hda⟩ := Hat2.out k hlt
                    have hck := dat_cell hrow (by rw [hal]; exact hlt : k < A5.length)
                    rw [hda] at hck
                    obtain ⟨ad, c', A', cr, hsq, hcap, hcell0, hrow0⟩ := gr_cell Hn.out k hlt
                    simp only [Value.slice.injEq, true_and] at hsq
                    obtain ⟨rfl, rfl⟩ := hsq
                    have hcell := (hbel.cell (World.block_lt_of_cell? _ _ hcell0)).trans hcell0
                    have Hrow0 := Lib.hid hrow0
                    have Ha := Lib.hid ha
                    have Hda := Lib.hid hda
                    have hrl := Hg.out.row_len k
                    clear hrow hbel hcell0 hrow0 ha hda
                    obtain ⟨wo, rfl⟩ : ∃ wo : World, wo = wr := ⟨_, rfl⟩
                    go_wp2
                    go_loopw [91] (fun i wr => ∃ (m : Nat), m ≤ (row gn k).length ∧ i = .int .i64 m ∧ Row wr w3.heap.size 3 (A5.map iv) ∧ Below w3.heap.size w3 wr) (fun i _ => (row gn k).length - (intOf i).toNat)
                    case atStart => exact ⟨0, Nat.zero_le _, rfl, Hrw.out, Hbel.out⟩
                    case round =>
                      clear Hrw Hbel hck hcell
                      obtain ⟨m, hm, rfl, hrow, hbel⟩ := hrel
                      have Hrw := Lib.hid hrow; have Hbel := Lib.hid hbel
                      by_cases hltm : m < (row gn k).length
                      · obtain ⟨adr, cr', hsr, hcapr, hcellr⟩ := sl_cell (Hrow0.out.below hbel) m hltm
                        simp only [Value.slice.injEq, true_and] at hsr
                        obtain ⟨rfl, rfl⟩ := hsr
                        have hyn := Hg.out.node k _ (List.getElem_mem hltm)
                        have hymem := List.getElem_mem hltm
                        generalize (row gn k)[m] = y at *
                        obtain ⟨b, hb2, hdb⟩ := Hat2.out y hyn
                        have hab := Ho.out.edge a b k y Ha.out hb2 hymem
                        have hcy := dat_cell hrow (by rw [hal]; exact hyn : y < A5.length)
                        rw [hdb] at hcy
                        have hck := dat_cell hrow (by rw [hal]; exact hlt : k < A5.length)
                        rw [Hda.out] at hck
                        have d1 : decide (b ≤ a) = false := decide_eq_false (by omega)
                        unfold nv at hcellr
                        clear hrow hbel hymem hb2 hdb
                        go_wp2
                        go_quiet (fail)
                        go_wp2
                        go_roundw
                        case rel => exact ⟨m + 1, by omega, by go_num, Hrw.out, below_drew Hbel.out _⟩
                        case measure => simp [intOf]; omega
                      · obtain rfl : m = (row gn k).length := by omega
                        clear hrow hbel
                        go_wp2
                        go_roundw
                        case rel => exact ⟨k + 1, by omega, by go_num, Hrw.out, Hbel.out⟩
                        case measure => simp [intOf]; omega
                  · obtain rfl : k = gn.length := by omega
                    clear hrow hbel Hrw
                    go_wp2
                    go_loopw [12] (fun i wr => ∃ (k : Nat), 1 ≤ k ∧ k ≤ gn.length + 1 ∧ i = .int .i64 k ∧ Below w3.heap.size w3 wr) (fun i _ => gn.length + 1 - (intOf i).toNat)
                    case atStart => exact ⟨1, Nat.le_refl _, by omega, rfl, Hbel.out⟩
                    case round =>
                      clear Hbel
                      obtain ⟨k, hk1, hk, rfl, hbel⟩ := hrel
                      have Hbel := Lib.hid hbel
                      by_cases hlt : k < gn.length
                      · have hkl : k < l.length := by rw [Hll.out]; exact hlt
                        obtain ⟨adl, cl', hsq, hcapl, hcelll⟩ := sl_cell (Hsl.out.below hbel) k hkl
                        rw [Hll.out] at hsq hcapl
                        simp only [Value.slice.injEq, true_and] at hsq
                        obtain ⟨rfl, rfl⟩ := hsq
                        obtain ⟨adl', cl2, hsq, _, hcellp⟩ := sl_cell (Hsl.out.below hbel) (k - 1) (by omega)
                        rw [Hll.out] at hsq
                        simp only [Value.slice.injEq, true_and, Option.some.injEq] at hsq
                        obtain ⟨rfl, rfl⟩ := hsq
                        have hxn := Ho.out.node _ (List.getElem_mem (show k - 1 < l.length by omega))
                        have hadj := Ho.out.adj (k - 1) _ _ (List.getElem?_eq_getElem (show k - 1 < l.length by omega)) (by rw [show k - 1 + 1 = k by omega]; exact List.getElem?_eq_getElem hkl)
                        generalize l[k - 1] = x at *
                        generalize l[k] = y at *
                        have i1 : (1 : Int) ≤ (k : Int) := by omega
                        have i2 : (k : Int) - 1 < (gn.length : Int) := by omega
                        have i3 : ((k : Int) - 1).toNat = k - 1 := by omega
                        have i4 : IntKind.i64.wrap ((k : Int) - 1) = (k : Int) - 1 := IntWalk.i64_in _ (by omega)
                        have i5 : (0 : Int) ≤ (k : Int) - 1 := by omega
                        obtain ⟨ad, c', A', cr, hsq, hcap, hcell0, hrow0⟩ := gr_cell Hn.out x hxn
                        simp only [Value.slice.injEq, true_and] at hsq
                        obtain ⟨rfl, rfl⟩ := hsq
                        have hcell := (hbel.cell (World.block_lt_of_cell? _ _ hcell0)).trans hcell0
                        have Hrow0 := Lib.hid (hrow0.below hbel)
                        have hrl := Hg.out.row_len x
                        unfold nv at hcelll hcellp
                        clear hbel hcell0 hrow0
                        by_cases hlt2 : y < x
                        · have d1 : decide (y < x) = true := decide_eq_true hlt2
                          have Hm := Lib.hid (rhas_mem (hadj hlt2))
                          clear hadj
                          go_wp2
                          go_quiet ((go_at_call 36; exact Calls.quiet_of_same (rhas_q Hm.out (Hrow0.out.drewN _) (by omega))))
                          go_wp2
                          go_roundw
                          case rel => exact ⟨k + 1, by omega, by omega, by go_num, below_drew Hbel.out _⟩
                          case measure => simp [intOf]; omega
                        · have d1 : decide (y < x) = false := decide_eq_false hlt2
                          clear hadj
                          go_wp2
                          go_quiet (fail)
                          go_wp2
                          go_roundw
                          case rel => exact ⟨k + 1, by omega, by omega, by go_num, below_drew Hbel.out _⟩
                          case measure => simp [intOf]; omega
                      · have d1 : decide (k < gn.length) = false := decide_eq_false hlt
                        clear hbel
                        go_wp2
                        go_ret
                        exact ⟨rfl, HB.out.trans (Hbel.out.mono hHs)⟩
      · replace HB := Lib.hid (HB.out.trans (hb.mono HB.out.size))
        clear hb
        go_wp2
        go_ret
        exact ⟨rfl, HB.out⟩
    · have Hvb := Lib.hid (vb_false hv)
      clear hv
      go_enter Try.func10, Try.ntmps10
      go_wp2_with fail
      refine (awake_any _).mono ?_
      rintro e w1 ⟨rfl, hb⟩
      replace HB := Lib.hid (HB.out.trans (hb.mono HB.out.size))
      replace H := Lib.hid (H.out.below hb)
      clear hb
      go_wp2_with fail
      refine (few_any _ _ _ H.out hl).mono ?_
      rintro e w2 ⟨rfl, rfl⟩
      rw [Hfew.out]
      go_wp2_with fail
      refine (rvalid_any _ _ _ H.out HL.out).mono ?_
      rintro e w2 ⟨rfl, hb⟩
      rw [Hvb.out]
      replace HB := Lib.hid (HB.out.trans (hb.mono HB.out.size))
      clear hb
      go_wp2
      go_ret
      exact ⟨rfl, HB.out⟩
end Go.Proofs.Ytnhhhnhakpambaa
