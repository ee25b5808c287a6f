/- The contract of the reference's Dist on valid graphs, and its errors. -/
import Derived.Test.YtnhhhnhakpambaaGraphCloM
namespace Go.Proofs.Ytnhhhnhakpambaa
open Go.RowKit

theorem zeros_at {S : List Nat} {D : List Int} {n k : Nat} (hk : k < S.length) (hl : D.length = n) (h : ∀ v, v < n → dat D v = if v ∈ S.take k then 0 else -1) (hn : S[k] < n) : ∀ v, v < n → dat (D.set S[k] 0) v = if v ∈ S.take (k + 1) then 0 else -1 := by
  intro v hv
  rw [dat_set (by omega), h v hv]
  by_cases e : v = S[k]
  · rw [if_pos e, if_pos ((take_succ_mem hk v).2 (.inr e))]
  · rw [if_neg e]
    have : v ∈ S.take (k + 1) ↔ v ∈ S.take k := by rw [take_succ_mem hk v]; exact or_iff_left e
    simp only [this]
theorem RndI.lo {g : List (List Nat)} {S : List Nat} {D : List Int} {d i k : Nat} (h : RndI g S D d i k) {v : Nat} (hv : v < g.length) : -1 ≤ dat D v ∧ dat D v ≤ d + 1 := by
  rcases h.lbl v hv with h | ⟨k, hk, h, _⟩ <;> omega
set_option maxRecDepth 20000 in
set_option maxHeartbeats 2000000 in
theorem rdist_ok (v vl : Value) (g : List (List Nat)) (S : List Nat) (w : World) (h : Gr nv w v g) (hg : VG g) (hS : Sl nv w vl S) (hl : S.length ≤ 10000) (hn : ∀ x ∈ S, x < g.length) :
    Calls Try.prog 24 #[v, vl] w (DistR g S w) := by
  obtain ⟨A, c, rfl⟩ := h.shape
  obtain ⟨A2, c2, rfl⟩ := hS.shape
  have H := Lib.hid h; have Hg := Lib.hid hg; have HS := Lib.hid hS; have Hn := Lib.hid hn
  have hgl := hg.len
  have Hvb := Lib.hid (vb_true hg.vldI)
  have Hnb := Lib.hid (nb_true (n := g.length) (l := S.map fun n : Nat => (n : Int)) (by intro x hx; obtain ⟨y, hy, rfl⟩ := List.mem_map.1 hx; have := hn y hy; omega))
  obtain ⟨i0, hi, hz0, hz1, hz2⟩ := info_parts info_int
  clear h hg hS hn
  go_enter Try.func24, Try.ntmps24
  go_wp2_with fail
  refine (rvalid_any _ _ _ H.out.cst Hg.out.lim.cst).mono ?_
  rintro e w0 ⟨rfl, hb0⟩
  rw [Hvb.out]
  have Hb0 := Lib.hid hb0
  have hs0 := hb0.size
  clear hb0 Hvb
  go_wp2_with fail
  refine (rnodes_any _ _ g _ _ (H.out.below Hb0.out) (HS.out.below Hb0.out).nv_iv (by rw [List.length_map]; exact hl)).mono ?_
  rintro e w1 ⟨rfl, hb1⟩
  rw [Hnb.out]
  have Hb1 := Lib.hid (Hb0.out.trans (hb1.mono hs0))
  have hs1 := Nat.le_trans hs0 hb1.size
  clear hb1 Hnb Hb0 hs0
  go_wp2_with (at_make; refine wpList_make_full _ rfl _ _ _ rfl w1.heap.size 3 i0 _ 1 (by kernel_rfl) hi hz0 hz1 _ _ _ _ g.length rfl rfl rfl rfl (by rw [hz2]; omega) (by unfold maxLen; omega) (Nat.le_refl _) ?_; intro w4 hown hgr; have Hb4 := Lib.hid (made_below hgr); have Hr4 := Lib.hid (made_row hown); clear hown hgr)
  have Hrz : Hid (Row w4 w1.heap.size 3 ((List.replicate g.length (0 : Int)).map iv)) := by show Row _ _ _ _; rw [List.map_replicate]; exact Hr4.out
  clear Hr4
  go_loopw [7] (fun i wr => ∃ (k : Nat) (A : List Int), k ≤ g.length ∧ i = .int .i64 k ∧ A.length = g.length ∧ Hid (∀ j, j < k → dat A j = -1) ∧ Row wr w1.heap.size 3 (A.map iv) ∧ Below w1.heap.size w1 wr) (fun i _ => g.length - (intOf i).toNat)
  case atStart => exact ⟨0, _, Nat.zero_le _, rfl, by simp, Lib.hid (by intro j hj; omega), Hrz.out, Hb4.out⟩
  case round =>
    clear Hrz Hb4
    obtain ⟨k, A5, hk, rfl, hal, hall, hrow, hbel⟩ := hrel
    have Hrw := Lib.hid hrow; have Hbel := Lib.hid hbel
    by_cases hlt : k < g.length
    · have hck := dat_cell hrow (by rw [hal]; exact hlt : k < A5.length)
      have hfr := hrow.free k
      have hn5 : Hid (∀ j, j < k + 1 → dat (A5.set k (-1)) j = -1) := fun j hj => by
        rw [dat_set (by rw [hal]; exact hlt)]
        split
        · rfl
        · exact hall.out j (by omega)
      have Hr5 := Lib.hid (row_set_iv hrow k (-1))
      clear hrow hbel
      generalize dat A5 k = d at *
      go_wp2
      go_roundw
      case rel => exact ⟨k + 1, _, by omega, by go_num, by simp [hal], hn5, Hr5.out, Hbel.out.setCell (p := ⟨w1.heap.size, k, none⟩) (Nat.le_refl _) _⟩
      case measure => simp [intOf]; omega
    · obtain rfl : k = g.length := by omega
      have Hst : Hid (∀ v, v < g.length → dat A5 v = if v ∈ S.take 0 then 0 else -1) := fun v hv => by simpa using hall.out v hv
      clear hrow hbel hall
      go_wp2
      go_loopw [8] (fun i wr => ∃ (k : Nat) (D : List Int), k ≤ S.length ∧ i = .int .i64 k ∧ D.length = g.length ∧ Hid (∀ v, v < g.length → dat D v = if v ∈ S.take k then 0 else -1) ∧ Row wr w1.heap.size 3 (D.map iv) ∧ Below w1.heap.size w1 wr) (fun i _ => S.length - (intOf i).toNat)
      case atStart => exact ⟨0, _, Nat.zero_le _, rfl, hal, Hst, Hrw.out, Hbel.out⟩
      case round =>
        clear Hrw Hbel Hst hal
        obtain ⟨k, D, hk, rfl, hdl, hst, hrow, hbel⟩ := hrel
        have Hrw := Lib.hid hrow; have Hbel := Lib.hid hbel
        by_cases hlt : k < S.length
        · obtain ⟨ad, c', hsq, hcap, hcell⟩ := sl_cell ((HS.out.below Hb1.out).below hbel) k hlt
          simp only [Value.slice.injEq, true_and] at hsq
          obtain ⟨rfl, rfl⟩ := hsq
          have hxn := Hn.out _ (List.getElem_mem hlt)
          have Hst2 := Lib.hid (zeros_at hlt hdl hst.out hxn)
          generalize S[k] = x at *
          have hfr := hrow.free x
          have hck := dat_cell hrow (by rw [hdl]; exact hxn : x < D.length)
          have Hr5 := Lib.hid (row_set_iv hrow x 0)
          unfold nv at hcell
          clear hrow hbel hst
          generalize dat D x = d at *
          go_wp2
          go_roundw
          case rel => exact ⟨k + 1, _, by omega, by go_num, by simp [hdl], Hst2, Hr5.out, Hbel.out.setCell (p := ⟨w1.heap.size, x, none⟩) (Nat.le_refl _) _⟩
          case measure => simp [intOf]; omega
        · obtain rfl : k = S.length := by omega
          have Hrn : Hid (Rnd g S D 0) := Lib.hid (Rnd.start hdl (fun v hv => by have := hst.out v hv; rwa [List.take_length] at this) Hn.out)
          clear hrow hbel hst hdl
          go_wp2
          go_loopw [9] (fun i wr => ∃ (d : Nat) (D : List Int), d ≤ g.length ∧ i = .int .i64 d ∧ Hid (Rnd g S D d) ∧ Row wr w1.heap.size 3 (D.map iv) ∧ Below w1.heap.size w1 wr) (fun i _ => g.length - (intOf i).toNat)
          case atStart => exact ⟨0, _, Nat.zero_le _, rfl, Hrn, Hrw.out, Hbel.out⟩
          case round =>
            clear Hrw Hbel Hrn
            obtain ⟨d, D, hd, rfl, hrn, hrow, hbel⟩ := hrel
            have Hrw := Lib.hid hrow; have Hbel := Lib.hid hbel
            clear hrow hbel
            by_cases hlt : d < g.length
            · have Hen := Lib.hid hrn.out.enter
              go_wp2
              go_loopw [10] (fun i wr => ∃ (u : Nat) (D : List Int), u ≤ g.length ∧ i = .int .i64 u ∧ Hid (RndI g S D d u 0) ∧ Row wr w1.heap.size 3 (D.map iv) ∧ Below w1.heap.size w1 wr) (fun i _ => g.length - (intOf i).toNat)
              case atStart => exact ⟨0, _, Nat.zero_le _, rfl, Hen, Hrw.out, Hbel.out⟩
              case round =>
                clear Hrw Hbel Hen hrn
                obtain ⟨u, D, hu, rfl, hrn, hrow, hbel⟩ := hrel
                have Hrw := Lib.hid hrow; have Hbel := Lib.hid hbel
                by_cases hun : u < g.length
                · obtain ⟨adg, cg, A', cr, hsq, hcapg, hcellg0, hrowg0⟩ := gr_cell (H.out.below Hb1.out) u hun
                  simp only [Value.slice.injEq, true_and] at hsq
                  obtain ⟨rfl, rfl⟩ := hsq
                  have hbg := World.block_lt_of_cell? _ _ hcellg0
                  have Hcellg : Hid (∀ W, Below w1.heap.size w1 W → W.cell? (adg.add u) = some (.slice A' (row g u).length cr)) := fun W hW => (hW.cell hbg).trans hcellg0
                  have Hrow0 := Lib.hid hrowg0
                  have hrl := Hg.out.row_len u
                  clear hrow hbel hcellg0 hrowg0 hbg
                  go_wp2
                  go_loopw [11] (fun i wr => ∃ (m : Nat) (D : List Int), m ≤ (row g u).length ∧ i = .int .i64 m ∧ Hid (RndI g S D d u m) ∧ Row wr w1.heap.size 3 (D.map iv) ∧ Below w1.heap.size w1 wr) (fun i _ => (row g u).length - (intOf i).toNat)
                  case atStart => exact ⟨0, _, Nat.zero_le _, rfl, hrn, Hrw.out, Hbel.out⟩
                  case round =>
                    clear Hrw Hbel hrn
                    obtain ⟨m, D, hm, rfl, hrn, hrow, hbel⟩ := hrel
                    have Hrw := Lib.hid hrow; have Hbel := Lib.hid hbel
                    have hdl := hrn.out.len
                    have hcg := Hcellg.out _ hbel
                    have hcu := dat_cell hrow (by rw [hdl]; exact hun : u < D.length)
                    by_cases hdu : dat D u = (d : Int)
                    · have hq : (dat D u == (d : Int)) = true := by rw [beq_iff_eq]; exact hdu
                      by_cases hltm : m < (row g u).length
                      · obtain ⟨adr, cr', hsr, hcapr, hcellr⟩ := sl_cell (Hrow0.out.below hbel) m hltm
                        simp only [Value.slice.injEq, true_and] at hsr
                        obtain ⟨rfl, rfl⟩ := hsr
                        have hxn := Hg.out.node u _ (List.getElem_mem hltm)
                        have Hold := Lib.hid (fun h => hrn.out.old hltm h)
                        have Hnew := Lib.hid (fun h => hrn.out.new Hg.out hltm hdu h)
                        have hlo := hrn.out.lo hxn
                        generalize (row g u)[m] = x at *
                        have hck := dat_cell hrow (by rw [hdl]; exact hxn : x < D.length)
                        have hfr := hrow.free x
                        have Hr5 := Lib.hid (row_set_iv hrow x ((d + 1 : Nat) : Int))
                        unfold nv at hcellr
                        by_cases he : dat D x = -1
                        · have he2 : decide (dat D x < 0) = true := decide_eq_true (by omega)
                          have Hn2 := Lib.hid (Hnew.out he)
                          have hw : ((d + 1 : Nat) : Int) = (d : Int) + 1 := by omega
                          rw [hw] at Hr5 Hn2
                          clear he Hold Hnew hrn hrow hbel hdu hw hlo
                          generalize dat D x = dx at *
                          generalize dat D u = du at *
                          go_wp2
                          go_roundw
                          case rel => exact ⟨m + 1, _, by omega, by go_num, Hn2, Hr5.out, Hbel.out.setCell (p := ⟨w1.heap.size, x, none⟩) (Nat.le_refl _) _⟩
                          case measure => simp [intOf]; omega
                        · have he2 : decide (dat D x < 0) = false := decide_eq_false (by omega)
                          have Ho2 := Lib.hid (Hold.out he)
                          clear he Hold Hnew hrn hrow hbel hdu hlo Hr5
                          generalize dat D x = dx at *
                          generalize dat D u = du at *
                          go_wp2
                          go_roundw
                          case rel => exact ⟨m + 1, _, by omega, by go_num, Ho2, Hrw.out, Hbel.out⟩
                          case measure => simp [intOf]; omega
                      · obtain rfl : m = (row g u).length := by omega
                        have Hsk := Lib.hid (hrn.out.skip (.inr (Nat.le_refl _)))
                        clear hrn hrow hbel hdu
                        generalize dat D u = du at *
                        go_wp2
                        go_roundw
                        case rel => exact ⟨u + 1, _, by omega, by go_num, Hsk, Hrw.out, Hbel.out⟩
                        case measure => simp [intOf]; omega
                    · have hq : (dat D u == (d : Int)) = false := by rw [beq_eq_false_iff_ne]; exact hdu
                      have Hsk := Lib.hid (hrn.out.skip (.inl hdu))
                      clear hrn hrow hbel hdu
                      generalize dat D u = du at *
                      go_wp2
                      go_roundw
                      case rel => exact ⟨u + 1, _, by omega, by go_num, Hsk, Hrw.out, Hbel.out⟩
                      case measure => simp [intOf]; omega
                · obtain rfl : u = g.length := by omega
                  have Hlv := Lib.hid (hrn.out.leave Hg.out Hn.out)
                  clear hrn hrow hbel
                  go_wp2
                  go_roundw
                  case rel => exact ⟨d + 1, _, by omega, by go_num, Hlv, Hrw.out, Hbel.out⟩
                  case measure => simp [intOf]; omega
            · obtain rfl : d = g.length := by omega
              have Hfin := Lib.hid (hrn.out.fin Hg.out Hn.out)
              clear hrn
              go_wp2
              go_ret2
              exact ⟨D, w1.heap.size, rfl, Hfin.out, Hrw.out, Hb1.out.trans (Hbel.out.mono hs1)⟩
end Go.Proofs.Ytnhhhnhakpambaa
