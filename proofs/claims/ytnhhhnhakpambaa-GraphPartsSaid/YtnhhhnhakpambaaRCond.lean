/- The reference's Condense on valid graphs. -/
import Derived.Test.YtnhhhnhakpambaaRComps
import Derived.Deep.RegionHeld3
namespace Go.Proofs.Ytnhhhnhakpambaa
open Go.RowKit

theorem edM_snoc {n : Nat} {es : List (Nat × Nat)} {a b : Nat} : edM n (es ++ [(a, b)]) = (edM n es).set a (rwith (row (edM n es) a) b) := by
  unfold edM
  rw [List.foldl_append]; rfl
def RCondR (g : List (List Nat)) (M : List Nat) (w : World) (e : Ending) (w' : World) : Prop := ∃ pv, e = .returned (.tuple #[pv, .int .i64 0]) ∧ Gr nv w' pv (edC g M) ∧ Below w.heap.size w w'
set_option maxRecDepth 20000 in
set_option maxHeartbeats 4000000 in
theorem rcond_ok (v : Value) (g : List (List Nat)) (M : List Nat) (w : World) (h : Gr nv w v g) (hg : VG g) (hM : LdM g M) (h60 : g.length ≤ 60) :
    Calls Try.prog 31 #[v] w (RCondR g M w) := by
  obtain ⟨A, c, rfl⟩ := h.shape
  have H := Lib.hid h; have Hg := Lib.hid hg; have HM := Lib.hid hM
  obtain ⟨i0, hi, hz0, hz1, hz2⟩ := info_parts info_int
  obtain ⟨j0, hj, hy0, hy1, hy2⟩ := info_parts info_ints
  clear h hg hM
  go_enter Try.func31, Try.ntmps31
  go_wp2_with fail
  refine (rcomps_ok _ g M _ H.out Hg.out HM.out h60).mono ?_
  rintro e w1 ⟨pv, rfl, h7, hb⟩
  have HC := Lib.hid h7
  obtain ⟨Ap, cp, rfl⟩ := h7.shape
  have HB := Lib.hid hb
  have hs1 := hb.size
  replace H := Lib.hid (H.out.below hb)
  have hcl := compS_len M g.length
  clear h7 hb
  go_wp2_with (at_make; refine wpList_make_full _ rfl _ _ _ rfl w1.heap.size 3 i0 _ 1 (by kernel_rfl) hi hz0 hz1 _ _ _ _ g.length rfl rfl rfl rfl (by rw [hz2]; omega) (by unfold maxLen; omega) (Nat.le_refl _) ?_; intro w4 hown hgr; have Hb4 := Lib.hid (made_below hgr); have Hr4 := Lib.hid (made_row hown); clear hown hgr)
  have Hrz : Hid (Row w4 w1.heap.size 3 ((List.replicate g.length (0 : Int)).map iv)) := by show Row _ _ _ _; rw [List.map_replicate]; exact Hr4.out
  clear Hr4
  go_loopw [7] (fun i wr => ∃ (k : Nat) (A : List Int), k ≤ (compS M g.length).length ∧ i = .int .i64 k ∧ Hid (PInv M g.length k 0 A) ∧ Row wr w1.heap.size 3 (A.map iv) ∧ Below w1.heap.size w1 wr) (fun i _ => (compS M g.length).length - (intOf i).toNat)
  case atStart => exact ⟨0, _, Nat.zero_le _, rfl, Lib.hid (PInv.start (by simp)), Hrz.out, Hb4.out⟩
  case round =>
    clear Hrz Hb4
    obtain ⟨k, A5, hk, rfl, hpi, hrow, hbel⟩ := hrel
    have Hrw := Lib.hid hrow; have Hbel := Lib.hid hbel
    by_cases hlt : k < (compS M g.length).length
    · obtain ⟨ad, c', A', cr, hsq, hcap, hcell0, hrow0⟩ := gr_cell HC.out k hlt
      simp only [Value.slice.injEq, true_and] at hsq
      obtain ⟨rfl, rfl⟩ := hsq
      have hbg := World.block_lt_of_cell? _ _ hcell0
      have Hcellg : Hid (∀ W, Below w1.heap.size w1 W → W.cell? (ad.add k) = some (.slice A' (row (compS M g.length) k).length cr)) := fun W hW => (hW.cell hbg).trans hcell0
      have Hrow0 := Lib.hid hrow0
      have hrl : (row (compS M g.length) k).length ≤ g.length := nodup_lt (comp_nodup M g.length k) (fun x hx => ((mem_comp M).1 hx).1)
      clear hrow hbel hcell0 hrow0 hbg
      go_wp2
      go_loopw [8] (fun i wr => ∃ (m : Nat) (A : List Int), m ≤ (row (compS M g.length) k).length ∧ i = .int .i64 m ∧ Hid (PInv M g.length k m A) ∧ Row wr w1.heap.size 3 (A.map iv) ∧ Below w1.heap.size w1 wr) (fun i _ => (row (compS M g.length) k).length - (intOf i).toNat)
      case atStart => exact ⟨0, _, Nat.zero_le _, rfl, hpi, Hrw.out, Hbel.out⟩
      case round =>
        clear Hrw Hbel hpi
        obtain ⟨m, A6, hm, rfl, hpi, hrow, hbel⟩ := hrel
        have Hrw := Lib.hid hrow; have Hbel := Lib.hid hbel
        have hcg := Hcellg.out _ hbel
        by_cases hltm : m < (row (compS M g.length) k).length
        · obtain ⟨adr, cr', hsr, hcapr, hcellr⟩ := sl_cell (Hrow0.out.below hbel) m hltm
          simp only [Value.slice.injEq, true_and] at hsr
          obtain ⟨rfl, rfl⟩ := hsr
          have hxn := ((mem_comp M).1 (List.getElem_mem hltm)).1
          have Hpi2 := Lib.hid (hpi.out.step hltm)
          generalize (row (compS M g.length) k)[m] = x at *
          have hck := dat_cell hrow (by rw [hpi.out.len]; exact hxn : x < A6.length)
          have hfr := hrow.free x
          have Hr5 := Lib.hid (row_set_iv hrow x (k : Int))
          unfold nv at hcellr
          clear hrow hbel hpi
          generalize dat A6 x = d at *
          go_wp2
          go_roundw
          case rel => exact ⟨m + 1, _, by omega, by go_num, Hpi2, Hr5.out, Hbel.out.setCell (p := ⟨w1.heap.size, x, none⟩) (Nat.le_refl _) _⟩
          case measure => simp [intOf]; omega
        · obtain rfl : m = (row (compS M g.length) k).length := by omega
          clear hrow hbel
          go_wp2
          go_roundw
          case rel => exact ⟨k + 1, _, by omega, by go_num, Lib.hid hpi.out.next, Hrw.out, Hbel.out⟩
          case measure => simp [intOf]; omega
    · obtain rfl : k = (compS M g.length).length := by omega
      have Hpt := Lib.hid (fun x (hx : x < g.length) => hpi.out.fin hx)
      have Hpl := Lib.hid (fun x (hx : x < g.length) => partOf_lt M hx)
      have hal := hpi.out.len
      have hwr := hrow.lt
      have hws := hbel.size
      clear hrow hbel hpi
      obtain ⟨wA, rfl⟩ : ∃ wA : World, wA = wr := ⟨_, rfl⟩
      have HA := Lib.hid (HB.out.trans (Hbel.out.mono hs1))
      replace H := Lib.hid (H.out.below Hbel.out)
      have Hedv := Lib.hid (edC_vg Hg.out M)
      generalize hP : partOf M g.length = P at *
      generalize hCn : (compS M g.length).length = C at *
      generalize hob1 : w1.heap.size = ob at *
      clear Hbel HC
      go_wp2_with (at_make; refine wpList_make_full _ rfl _ _ _ rfl wA.heap.size 38 j0 _ 1 (by kernel_rfl) hj hy0 hy1 _ _ _ _ C rfl rfl rfl rfl (by rw [hy2]; omega) (by unfold maxLen; omega) (Nat.le_refl _) ?_; intro w5 hown hgr)
      have hb5 : Below wA.heap.size wA w5 := (Below.refl _ wA).grown hgr (Nat.le_refl _) (fun k e => by cases e)
      have hrow5 : Row w5 wA.heap.size 38 (List.replicate C (.slice none 0 0)) := Row.of_own (by
        have e := toList_madeCells_one (.slice none 0 0) C
        rw [← e]
        simpa [Value.cells] using hown)
      have HG0 := Lib.hid (RRows.start hrow5)
      have Hb50 := Lib.hid hb5
      clear hown hgr hb5 hrow5
      generalize hgdd : wA.heap.size = gd at *
      go_wp2
      go_loopw [10] (fun i wr => ∃ (k : Nat) (vals : List Value), k ≤ g.length ∧ i = .int .i64 k ∧ RRows wr gd vals (edM C (edE g P k)) ∧ Below gd wA wr) (fun i _ => g.length - (intOf i).toNat)
      case atStart => exact ⟨0, _, Nat.zero_le _, rfl, HG0.out, Hb50.out⟩
      case round =>
        clear HG0 Hb50
        obtain ⟨k, vals, hk, rfl, hG, hbel⟩ := hrel
        have HG := Lib.hid hG; have Hbel := Lib.hid hbel
        by_cases hlt : k < g.length
        · obtain ⟨ad, c', A', cr, hsq, hcap, hcell0, hrow0⟩ := gr_cell H.out k hlt
          simp only [Value.slice.injEq, true_and] at hsq
          obtain ⟨rfl, rfl⟩ := hsq
          have hbg := World.block_lt_of_cell? _ _ hcell0
          rw [hgdd] at hbg
          have Hcellg : Hid (∀ W, Below gd wA W → W.cell? (ad.add k) = some (.slice A' (row g k).length cr)) := fun W hW => (hW.cell hbg).trans hcell0
          have Hrow0 := Lib.hid hrow0
          have hrl := Hg.out.row_len k
          have Hnx := Lib.hid (edE_next g P k)
          clear hG hbel hcell0 hrow0
          go_wp2
          go_loopw [11] (fun i wr => ∃ (m : Nat) (vals : List Value), m ≤ (row g k).length ∧ i = .int .i64 m ∧ RRows wr gd vals (edM C (edE g P k ++ rowE P k ((row g k).take m))) ∧ Below gd wA wr) (fun i _ => (row g k).length - (intOf i).toNat)
          case atStart => exact ⟨0, _, Nat.zero_le _, rfl, by have h := HG.out; simpa [rowE] using h, Hbel.out⟩
          case round =>
            clear HG Hbel
            obtain ⟨m, vals, hm, rfl, hG, hbel⟩ := hrel
            have HG := Lib.hid hG; have Hbel := Lib.hid hbel
            have hcg := Hcellg.out _ hbel
            by_cases hltm : m < (row g k).length
            · obtain ⟨adr, cr', hsr, hcapr, hcellr0⟩ := sl_cell Hrow0.out m hltm
              simp only [Value.slice.injEq, true_and] at hsr
              obtain ⟨rfl, rfl⟩ := hsr
              have hbr := World.block_lt_of_cell? _ _ hcellr0
              rw [hgdd] at hbr
              have hcellr := (hbel.cell hbr).trans hcellr0
              have hxn := Hg.out.node k _ (List.getElem_mem hltm)
              have hst := rowE_next (P := P) (n := k) hltm
              generalize (row g k)[m] = x at *
              have hobg : ob < gd := hwr
              have Hrw2 : Hid (Row wr ob 3 (A5.map iv)) := Lib.hid (Hrw.out.below hbel hobg)
              have hck := dat_cell Hrw2.out (by rw [hal]; exact hlt : k < A5.length)
              have hcx := dat_cell Hrw2.out (by rw [hal]; exact hxn : x < A5.length)
              rw [Hpt.out k hlt] at hck
              rw [Hpt.out x hxn] at hcx
              have hpk := Hpl.out k hlt
              have hpx := Hpl.out x hxn
              have hk0 : (0 : Int) ≤ (k : Int) := by omega
              have hk2 : (k : Int) < (g.length : Int) := by omega
              have hx0 : (0 : Int) ≤ (x : Int) := by omega
              have hx2 : (x : Int) < (g.length : Int) := by omega
              have hm0 : (0 : Int) ≤ (m : Int) := by omega
              have hm2 : (m : Int) < ((row g k).length : Int) := by omega
              unfold nv at hcellr
              clear hG hbel hcellr0
              by_cases he : P k = P x
              · have hd : ((P k : Int) != (P x : Int)) = false := by rw [bne_eq_false_iff_eq, he]
                rw [if_pos he] at hst
                have Hst := Lib.hid hst
                clear he hst
                generalize P k = pk at *
                generalize P x = px at *
                go_wp2
                go_quiet (fail)
                go_wp2
                go_roundw
                case rel => exact ⟨m + 1, vals, by omega, by go_num, by rw [Hst.out]; exact ⟨HG.out.row, HG.out.len, HG.out.sl⟩, below_drew Hbel.out _⟩
                case measure => simp [intOf]; omega
              · have hd : ((P k : Int) != (P x : Int)) = true := by rw [bne_iff_ne]; omega
                rw [if_neg he] at hst
                have hvgk : VG (edM C (edE g P k ++ rowE P k ((row g k).take m))) := edM_vg (by omega) (fun e he => by
                  rcases List.mem_append.1 he with h1 | h1
                  · obtain ⟨n, y, hn, hy, _, rfl⟩ := edE_mem.1 h1
                    exact ⟨Hpl.out n (by omega), Hpl.out y (Hg.out.node n y hy)⟩
                  · unfold rowE at h1
                    obtain ⟨y, hy, rfl⟩ := List.mem_map.1 h1
                    exact ⟨hpk, Hpl.out y (Hg.out.node k y (List.mem_of_mem_take (List.mem_filter.1 hy).1))⟩)
                have hgkl := edM_len C (edE g P k ++ rowE P k ((row g k).take m))
                have hst2 : edM C (edE g P k ++ rowE P k ((row g k).take (m + 1))) = (edM C (edE g P k ++ rowE P k ((row g k).take m))).set (P k) (rwith (row (edM C (edE g P k ++ rowE P k ((row g k).take m))) (P k)) (P x)) := by
                  rw [hst, ← List.append_assoc]; exact edM_snoc
                generalize edM C (edE g P k ++ rowE P k ((row g k).take m)) = gk at *
                have Hst := Lib.hid hst2
                clear he hst hst2
                generalize P k = pk at *
                generalize P x = px at *
                have hla : gk[pk]? = some (row gk pk) := by rw [row_get (by omega), List.getElem?_eq_getElem (by omega)]
                obtain ⟨vx, hvx⟩ : ∃ vx, vals[pk]? = some vx := ⟨_, List.getElem?_eq_getElem (by rw [HG.out.len]; omega)⟩
                have Hvx := Lib.hid hvx; have Hla := Lib.hid hla
                have hrlk := hvgk.row_len pk
                clear hla hvx hvgk
                go_wp2
                go_quiet (fail)
                go_wp2
                obtain ⟨wq, hwq⟩ : ∃ wq : World, wq = wr.drewN nq := ⟨_, rfl⟩
                have HGq : Hid (RRows wq gd vals gk) := Lib.hid (by rw [hwq]; exact ⟨HG.out.row, HG.out.len, HG.out.sl⟩)
                have Hbelq : Hid (Below gd wA wq) := Lib.hid (by rw [hwq]; exact below_drew Hbel.out nq)
                have hck9 : wq.cell? ⟨ob, k, none⟩ = some (.int .i64 pk) := by rw [hwq]; exact hck
                have hcg9 : wq.cell? (ad.add k) = some (.slice (some adr) (row g k).length cr) := by rw [hwq]; exact hcg
                have hcr9 : wq.cell? (adr.add m) = some (.int .i64 x) := by rw [hwq]; exact hcellr
                have hcx9 : wq.cell? ⟨ob, x, none⟩ = some (.int .i64 px) := by rw [hwq]; exact hcx
                rw [← hwq]
                clear hwq hck hcg hcellr hcx HG Hbel
                have hck := hck9; have hcg := hcg9; have hcellr := hcr9; have hcx := hcx9
                clear hck9 hcg9 hcr9 hcx9
                have hckv := HGq.out.row.cell Hvx.out
                have hfrv := HGq.out.row.free pk
                have hgq := HGq.out.row.lt
                have hszq : gd ≤ wq.heap.size := by omega
                have Hslx := Lib.hid (HGq.out.sl pk vx _ Hvx.out Hla.out)
                have hob : (⟨ob, k, none⟩ : Addr).block < wq.heap.size := by show ob < _; omega
                have hbg2 : (ad.add k).block < wq.heap.size := by omega
                have hbr2 : (adr.add m).block < wq.heap.size := by omega
                have hne1 : gd ≠ ob := by omega
                have hne2 : gd ≠ (ad.add k).block := by omega
                have hne3 : gd ≠ (adr.add m).block := by omega
                have hgdb : gd ≤ gd := Nat.le_refl _
                have hpk0 : (0 : Int) ≤ (pk : Int) := by omega
                have hpk1 : (pk : Int) < (C : Int) := by omega
                have hvl : vals.length = C := by rw [HGq.out.len]; exact hgkl
                refine wp_region_noPanic ?_
                refine wp_region_held_drew (S := fun w' => w'.cell? ⟨ob, k, none⟩ = some (.int .i64 pk) ∧ w'.cell? (ad.add k) = some (.slice (some adr) (row g k).length cr) ∧ w'.cell? (adr.add m) = some (.int .i64 x) ∧ w'.cell? ⟨ob, x, none⟩ = some (.int .i64 px)) (by kernel_rfl) ⟨hck, hcg, hcellr, hcx⟩ (fun hHeld => ?_)
                refine wpAnyH_take (i := 0) (v := ?_) rfl (by kernel_rfl) (by kernel_rfl) (by kernel_rfl) (fun _ _ _ h => h) (Or.inl ⟨by rfl, ?_⟩) hHeld ?_
                rotate_left
                focus ((intro w hSw; (try dsimp only at hSw); go_simp); try with_reducible rfl)
                try simp only [Act.put]
                refine wpAnyH_take (i := 1) (v := ?_) rfl (by kernel_rfl) (by kernel_rfl) (by kernel_rfl) (fun _ _ _ h => h) (Or.inl ⟨by rfl, ?_⟩) hHeld ?_
                rotate_left
                focus ((intro w hSw; (try dsimp only at hSw); go_simp); try with_reducible rfl)
                try simp only [Act.put]
                refine wpAnyH_take (i := 2) (v := ?_) rfl (by kernel_rfl) (by kernel_rfl) (by kernel_rfl) (fun _ _ _ h => h) (Or.inl ⟨by rfl, ?_⟩) hHeld ?_
                rotate_left
                focus ((intro w hSw; (try dsimp only at hSw); go_simp); try with_reducible rfl)
                try simp only [Act.put]
                refine wpAnyH_take (i := 3) (v := ?_) rfl (by kernel_rfl) (by kernel_rfl) (by kernel_rfl) (fun _ _ _ h => h) (Or.inl ⟨by rfl, ?_⟩) hHeld ?_
                rotate_left
                focus ((intro w hSw; (try dsimp only at hSw); go_simp); try with_reducible rfl)
                try simp only [Act.put]
                refine wpAnyH_take (i := 4) (v := ?_) rfl (by kernel_rfl) (by kernel_rfl) (by kernel_rfl) (fun _ _ _ h => h) (Or.inl ⟨by rfl, ?_⟩) hHeld ?_
                rotate_left
                focus ((intro w hSw; (try dsimp only at hSw); go_simp); try with_reducible rfl)
                try simp only [Act.put]
                refine wpAnyH_take (i := 5) (v := ?_) rfl (by kernel_rfl) (by kernel_rfl) (by kernel_rfl) (fun _ _ _ h => h) (Or.inl ⟨by rfl, ?_⟩) hHeld ?_
                rotate_left
                focus ((intro w hSw; (try dsimp only at hSw); go_simp); try with_reducible rfl)
                try simp only [Act.put]
                refine wpAnyH_take (i := 6) (v := ?_) rfl (by kernel_rfl) (by kernel_rfl) (by kernel_rfl) (fun _ _ _ h => h) (Or.inl ⟨by rfl, ?_⟩) hHeld ?_
                rotate_left
                focus ((intro w hSw; (try dsimp only at hSw); go_simp); try with_reducible rfl)
                try simp only [Act.put]
                refine wpAnyH_take (i := 7) (v := ?_) rfl (by kernel_rfl) (by kernel_rfl) (by kernel_rfl) (fun _ _ _ h => h) (Or.inl ⟨by rfl, ?_⟩) hHeld ?_
                rotate_left
                focus ((intro w hSw; (try dsimp only at hSw); go_simp); try with_reducible rfl)
                try simp only [Act.put]
                refine wpAnyH_take (i := 8) (v := ?_) rfl (by kernel_rfl) (by kernel_rfl) (by kernel_rfl) (fun _ _ _ h => h) (Or.inl ⟨by rfl, ?_⟩) hHeld ?_
                rotate_left
                focus ((intro w hSw; (try dsimp only at hSw); go_simp); try with_reducible rfl)
                try simp only [Act.put]
                refine wpAnyH_take (i := 9) (v := ?_) rfl (by kernel_rfl) (by kernel_rfl) (by kernel_rfl) (fun _ _ _ h => h) (Or.inl ⟨by rfl, ?_⟩) hHeld ?_
                rotate_left
                focus ((intro w hSw; (try dsimp only at hSw); go_simp); try with_reducible rfl)
                try simp only [Act.put]
                refine wpAnyH_take (i := 10) (v := ?_) rfl (by kernel_rfl) (by kernel_rfl) (by kernel_rfl) (fun _ _ _ h => h) (Or.inl ⟨by rfl, ?_⟩) hHeld ?_
                rotate_left
                focus ((intro w hSw; (try dsimp only at hSw); go_simp); try with_reducible rfl)
                try simp only [Act.put]
                refine wpAnyH_take (i := 12) (v := ?_) rfl (by kernel_rfl) (by kernel_rfl) (by kernel_rfl) (fun _ _ _ h => h) (Or.inl ⟨by rfl, ?_⟩) hHeld ?_
                rotate_left
                focus ((intro w hSw; (try dsimp only at hSw); go_simp); try with_reducible rfl)
                try simp only [Act.put]
                refine wpAnyH_take (i := 13) (v := ?_) rfl (by kernel_rfl) (by kernel_rfl) (by kernel_rfl) (fun _ _ _ h => h) (Or.inl ⟨by rfl, ?_⟩) hHeld ?_
                rotate_left
                focus ((intro w hSw; (try dsimp only at hSw); go_simp); try with_reducible rfl)
                try simp only [Act.put]
                refine wpAnyH_take (i := 14) (v := ?_) rfl (by kernel_rfl) (by kernel_rfl) (by kernel_rfl) (fun _ _ _ h => h) (Or.inl ⟨by rfl, ?_⟩) hHeld ?_
                rotate_left
                focus ((intro w hSw; (try dsimp only at hSw); go_simp); try with_reducible rfl)
                try simp only [Act.put]
                refine wpAnyH_take (i := 15) (v := ?_) rfl (by kernel_rfl) (by kernel_rfl) (by kernel_rfl) (fun _ _ _ h => h) (Or.inl ⟨by rfl, ?_⟩) hHeld ?_
                rotate_left
                focus ((intro w hSw; (try dsimp only at hSw); go_simp); try with_reducible rfl)
                try simp only [Act.put]
                refine wpAnyH_take (i := 16) (v := ?_) rfl (by kernel_rfl) (by kernel_rfl) (by kernel_rfl) (fun _ _ _ h => h) (Or.inl ⟨by rfl, ?_⟩) hHeld ?_
                rotate_left
                focus ((intro w hSw; (try dsimp only at hSw); go_simp); try with_reducible rfl)
                try simp only [Act.put]
                refine wpAnyH_take (i := 17) (v := ?_) rfl (by kernel_rfl) (by kernel_rfl) (by kernel_rfl) (fun _ _ _ h => h) (Or.inl ⟨by rfl, ?_⟩) hHeld ?_
                rotate_left
                focus ((intro w hSw; (try dsimp only at hSw); go_simp); try with_reducible rfl)
                try simp only [Act.put]
                refine wpAnyH_take (i := 18) (v := ?_) rfl (by kernel_rfl) (by kernel_rfl) (by kernel_rfl) (fun _ _ _ h => h) (Or.inl ⟨by rfl, ?_⟩) hHeld ?_
                rotate_left
                focus ((intro w hSw; (try dsimp only at hSw); go_simp); try with_reducible rfl)
                try simp only [Act.put]
                refine wpAnyH_take (i := 19) (v := ?_) rfl (by kernel_rfl) (by kernel_rfl) (by kernel_rfl) (fun _ _ _ h => h) (Or.inl ⟨by rfl, ?_⟩) hHeld ?_
                rotate_left
                focus ((intro w hSw; (try dsimp only at hSw); go_simp); try with_reducible rfl)
                try simp only [Act.put]
                refine wpAnyH_take (i := 20) (v := ?_) rfl (by kernel_rfl) (by kernel_rfl) (by kernel_rfl) (fun _ _ _ h => h) (Or.inl ⟨by rfl, ?_⟩) hHeld ?_
                rotate_left
                focus ((intro w hSw; (try dsimp only at hSw); go_simp); try with_reducible rfl)
                try simp only [Act.put]
                refine wpAnyH_take (i := 21) (v := ?_) rfl (by kernel_rfl) (by kernel_rfl) (by kernel_rfl) (fun _ _ _ h => h) (Or.inl ⟨by rfl, ?_⟩) hHeld ?_
                rotate_left
                focus ((intro w hSw; (try dsimp only at hSw); go_simp); try with_reducible rfl)
                try simp only [Act.put]
                refine wpAnyH_ready (rs := [11]) (by kernel_rfl) (by simp) ?_
                refine AllReadyH.cons rfl (fun K hK => ?_) ?_
                focus (go_simp; refine hK.out _ _ ⟨hck, hcg, hcellr, hcx⟩ (fun hHeld => ?_); clear hK K; try simp only [Act.put])
                rotate_left
                exact AllReadyH.nil
                refine wpAnyH_ready (rs := [22]) (by kernel_rfl) (by simp) ?_
                refine AllReadyH.cons rfl (fun K hK => ?_) ?_
                focus ((go_simp; refine (rwith_any _ (row gk pk) px _ (by exact Hslx.out) (by omega)).mono ?_; rintro e w5 ⟨v', rfl, hs', hb5⟩; have hb6 : Below wq.heap.size wq w5 := ⟨hb5.os, hb5.tape, hb5.output, hb5.size, hb5.block⟩; have k1 := (hb6.cell (p := ⟨ob, k, none⟩) hob).trans hck; have k2 := (hb6.cell (p := ad.add k) hbg2).trans hcg; have k3 := (hb6.cell (p := adr.add m) hbr2).trans hcellr; have k4 := (hb6.cell (p := ⟨ob, x, none⟩) hob).trans hcx; have HG5 := Lib.hid (HGq.out.below hb6); have hck5 := HG5.out.row.cell Hvx.out; have hfr5 := HG5.out.row.free pk; obtain ⟨Av, cv, rfl⟩ := hs'.shape; have Hs5 := Lib.hid hs'; have Hb5 := Lib.hid (Hbelq.out.trans (hb6.mono hszq)); clear hs' hb5 hb6; try go_wp2_with fail); refine hK.out _ _ ⟨k1, k2, k3, k4⟩ (fun hHeld => ?_); clear hK K; try simp only [Act.put])
                rotate_left
                exact AllReadyH.nil
                refine wpAnyH_take (i := 23) (v := ?_) rfl (by kernel_rfl) (by kernel_rfl) (by kernel_rfl) (fun _ _ _ h => h) (Or.inl ⟨by rfl, ?_⟩) hHeld ?_
                rotate_left
                focus ((intro w hSw; (try dsimp only at hSw); go_simp); try with_reducible rfl)
                try simp only [Act.put]
                refine wpAnyH_ready (rs := [24]) (by kernel_rfl) (by simp) ?_
                refine AllReadyH.cons rfl (fun K hK => ?_) ?_
                focus (go_simp; refine hK.out _ _ ⟨(World.cell?_setCell_far _ _ _ _ hne1).trans k1, (World.cell?_setCell_far _ _ _ _ hne2).trans k2, (World.cell?_setCell_far _ _ _ _ hne3).trans k3, (World.cell?_setCell_far _ _ _ _ hne1).trans k4⟩ (fun hHeld => ?_); clear hK K; try simp only [Act.put])
                rotate_left
                exact AllReadyH.nil
                refine wpAnyH_done (by kernel_rfl) ?_ _
                refine NoPanic.normal ?_
                clear k1 k2 k3 k4 hck5 hfr5 hHeld hck hcg hcellr hcx hckv hfrv
                go_wp2
                go_roundw
                case rel => exact ⟨m + 1, _, by omega, by go_num, by rw [Hst.out]; exact HG5.out.put Hvx.out Hla.out Hs5.out, Hb5.out.setCell (p := ⟨gd, pk, none⟩) hgdb _⟩
                case measure => simp [intOf]; omega
            · obtain rfl : m = (row g k).length := by omega
              have hG2 := hG
              rw [List.take_length, ← Hnx.out] at hG2
              have HG2 := Lib.hid hG2
              clear hG hbel hG2
              go_wp2
              go_roundw
              case rel => exact ⟨k + 1, vals, by omega, by go_num, HG2.out, Hbel.out⟩
              case measure => simp [intOf]; omega
        · obtain rfl : k = g.length := by omega
          have hgr := hG.gr (edM_len C (edE g P g.length))
          have Hgr := Lib.hid hgr
          have hedl : edC g M = edM C (edE g P g.length) := by unfold edC; rw [hP, hCn]
          have Hedl := Lib.hid hedl
          have hwA : w.heap.size ≤ gd := by rw [← hgdd]; exact HA.out.size
          clear hG hbel hgr hedl
          go_wp2
          go_ret2
          exact ⟨_, rfl, by rw [Hedl.out]; exact Hgr.out, HA.out.trans (Hbel.out.mono hwA)⟩
end Go.Proofs.Ytnhhhnhakpambaa
