/- The contract of the reference's Back on valid graphs. -/
import Derived.Test.YtnhhhnhakpambaaRefDist
import Derived.Deep.RegionHeld3
import Derived.Deep.AppendLies
namespace Go.Proofs.Ytnhhhnhakpambaa
open Go.RowKit

theorem far_cell {w0 w1 w2 : World} {B e n : Nat} {v u : Value} {xs : List Value} {a : Addr} (hown : w0.ownsRow B e 1 v n xs) (hgr : w1.grownBy w2 v.ownBlock) (hb : a.block < B) (h : w1.cell? a = some u) : w2.cell? a = some u :=
  hgr.cell h fun e => by have := (hown.lt a.block e.symm).1; omega
set_option maxRecDepth 20000 in
set_option maxHeartbeats 2000000 in
theorem rback_ok (v : Value) (g : List (List Nat)) (w : World) (h : Gr nv w v g) (hg : VG g) :
    Calls Try.prog 16 #[v] w (GOk w (revM g)) := by
  obtain ⟨A, c, rfl⟩ := h.shape
  have H := Lib.hid h; have Hg := Lib.hid hg
  have hl := hg.len
  have Hvb := Lib.hid (vb_true hg.vldI)
  clear h hg
  obtain ⟨i0, hi, hz0, hz1, hz2⟩ := info_parts info_ints
  obtain ⟨j0, hj, hy0, hy1, hy2⟩ := info_parts info_int
  go_enter Try.func16, Try.ntmps16
  go_wp2_with fail
  refine (rvalid_any _ _ _ H.out.cst Hg.out.lim.cst).mono ?_
  rintro e w0 ⟨rfl, hb0⟩
  rw [Hvb.out]
  have Hb0 := Lib.hid hb0
  have hs0 := hb0.size
  replace H := Lib.hid (H.out.below hb0)
  clear hb0 Hvb
  go_wp2_with (at_make; refine wpList_make_full _ rfl _ _ _ rfl w0.heap.size 38 i0 _ 1 (by kernel_rfl) hi hz0 hz1 _ _ _ _ g.length rfl rfl rfl rfl (by rw [hz2]; omega) (by unfold maxLen; omega) (Nat.le_refl _) ?_; intro w1 hown hgr)
  have hb1 : Below w0.heap.size w0 w1 := (Below.refl _ w0).grown hgr (Nat.le_refl _) (fun k e => by cases e)
  have hrow : Row w1 w0.heap.size 38 (List.replicate g.length (.slice none 0 0)) := Row.of_own (by
    have e := toList_madeCells_one (.slice none 0 0) g.length
    rw [← e]
    simpa [Value.cells] using hown)
  have hG : GRows w1 (w0.heap.size + 1) w0.heap.size (List.replicate g.length (.slice none 0 0)) (rowsR g 0 0) := by
    rw [rowsR_start]
    exact GRows.start hrow (Nat.lt_succ_self _) hrow.lt
  have HG := Lib.hid hG
  clear hG hrow hown hgr
  go_wp2
  go_loopw [5] (fun i wr => ∃ (k : Nat) (vals : List Value), k ≤ g.length ∧ i = .int .i64 k ∧ GRows wr (w0.heap.size + 1) w0.heap.size vals (rowsR g k 0) ∧ Below w0.heap.size w0 wr) (fun i _ => g.length - (intOf i).toNat)
  case atStart => exact ⟨0, _, Nat.zero_le _, rfl, HG.out, hb1⟩
  case round =>
    obtain ⟨k, vals, hk, rfl, hG, hbel⟩ := hrel
    have HG2 := Lib.hid hG
    have Hbel := Lib.hid hbel
    clear hG
    by_cases hlt : k < g.length
    · obtain ⟨ad, c', A', cr, hs, hcap, hcell0, hrow⟩ := gr_cell H.out k hlt
      simp only [Value.slice.injEq, true_and] at hs
      obtain ⟨rfl, rfl⟩ := hs
      have hbg := World.block_lt_of_cell? _ _ hcell0
      have Hcellg : Hid (∀ W, Below w0.heap.size w0 W → W.cell? (ad.add k) = some (.slice A' (row g k).length cr)) := fun W hW => (hW.cell hbg).trans hcell0
      have Hrow := Lib.hid hrow
      have hrl := Hg.out.row_len k
      clear hbel hrow hcell0 hb1 HG
      go_wp2
      go_loopw [6] (fun i wr => ∃ (m : Nat) (vals : List Value), m ≤ (row g k).length ∧ i = .int .i64 m ∧ GRows wr (w0.heap.size + 1) w0.heap.size vals (rowsR g k m) ∧ Below w0.heap.size w0 wr) (fun i _ => (row g k).length - (intOf i).toNat)
      case atStart => exact ⟨0, _, Nat.zero_le _, rfl, HG2.out, Hbel.out⟩
      case round =>
        clear HG2 Hbel
        obtain ⟨m, vs, hm, rfl, hG, hbel⟩ := hrel
        have HG3 := Lib.hid hG
        have Hbel2 := Lib.hid hbel
        have hcg := Hcellg.out _ hbel
        clear hG
        by_cases hltm : m < (row g k).length
        · obtain ⟨adr, cr', hsr, hcapr, hcellr0⟩ := sl_cell Hrow.out m hltm
          simp only [Value.slice.injEq, true_and] at hsr
          obtain ⟨rfl, rfl⟩ := hsr
          have hbr := World.block_lt_of_cell? _ _ hcellr0
          have hcellr := (hbel.cell hbr).trans hcellr0
          have hxn := Hg.out.node k _ (List.getElem_mem hltm)
          have hsucc := Lib.hid (rowsR_succ Hg.out hltm)
          have hat := Lib.hid (rowsR_at (i := k) (k := m) hxn)
          have hlen := Lib.hid (rv_len g k m (row g k)[m])
          generalize (row g k)[m] = x at *
          unfold nv at hcellr
          obtain ⟨vx, hvx⟩ : ∃ vx, vs[x]? = some vx := ⟨_, List.getElem?_eq_getElem (by rw [HG3.out.len, rowsR_len]; exact hxn)⟩
          have hck := HG3.out.row.cell hvx
          have hfr := HG3.out.row.free x
          have hown := HG3.out.own x vx _ hvx hat.out
          have Hvx := Lib.hid hvx
          have Hown := Lib.hid hown
          have hbase := HG3.out.base
          have hvlen : vs.length = g.length := by rw [HG3.out.len, rowsR_len]
          have hx0 : (0 : Int) ≤ (x : Int) := by omega
          have hx1 : (x : Int) < (g.length : Int) := by omega
          have hk0 : (0 : Int) ≤ (k : Int) := by omega
          have hk1 : (k : Int) < (g.length : Int) := by omega
          have hm0 : (0 : Int) ≤ (m : Int) := by omega
          have hm1 : (m : Int) < ((row g k).length : Int) := by omega
          clear hbel hvx hown hcellr0
          go_wp2
          have hlen0 := hlen.out
          have hck3 : (wr.alloc (.cells #[.int .i64 (k : Int)] 3)).cell? ⟨w0.heap.size, x, none⟩ = some vx := ((below_alloc wr _).cell (p := ⟨w0.heap.size, x, none⟩) (by simp; omega)).trans hck
          have hcg3 : (wr.alloc (.cells #[.int .i64 (k : Int)] 3)).cell? (ad.add k) = some (.slice (some adr) (row g k).length cr) := ((below_alloc wr _).cell (p := ad.add k) (by omega)).trans hcg
          have hcr3 : (wr.alloc (.cells #[.int .i64 (k : Int)] 3)).cell? (adr.add m) = some (.int .i64 x) := ((below_alloc wr _).cell (p := adr.add m) (by omega)).trans hcellr
          refine wp_region_noPanic ?_
          refine wp_region_held_drew (S := fun w' => w'.cell? (ad.add k) = some (.slice (some adr) (row g k).length cr) ∧ w'.cell? (adr.add m) = some (.int .i64 x)) (by kernel_rfl) ⟨hcg, hcellr⟩ (fun hHeld => ?_)
          refine wpAnyH_take (i := 0) (v := ?_) rfl (by kernel_rfl) (by kernel_rfl) (by kernel_rfl) (fun _ _ _ h => h) (Or.inl ⟨by rfl, ?_⟩) hHeld ?_
          rotate_left
          focus ((intro w hSw; (try dsimp only at hSw); go_simp); try with_reducible rfl)
          try simp only [Act.put]
          refine wpAnyH_take (i := 1) (v := ?_) rfl (by kernel_rfl) (by kernel_rfl) (by kernel_rfl) (fun _ _ _ h => h) (Or.inl ⟨by rfl, ?_⟩) hHeld ?_
          rotate_left
          focus ((intro w hSw; (try dsimp only at hSw); go_simp); try with_reducible rfl)
          try simp only [Act.put]
          refine wpAnyH_take (i := 2) (v := ?_) rfl (by kernel_rfl) (by kernel_rfl) (by kernel_rfl) (fun _ _ _ h => h) (Or.inl ⟨by rfl, ?_⟩) hHeld ?_
          rotate_left
          focus ((intro w hSw; (try dsimp only at hSw); go_simp); try with_reducible rfl)
          try simp only [Act.put]
          refine wpAnyH_take (i := 3) (v := ?_) rfl (by kernel_rfl) (by kernel_rfl) (by kernel_rfl) (fun _ _ _ h => h) (Or.inl ⟨by rfl, ?_⟩) hHeld ?_
          rotate_left
          focus ((intro w hSw; (try dsimp only at hSw); go_simp); try with_reducible rfl)
          try simp only [Act.put]
          refine wpAnyH_take (i := 4) (v := ?_) rfl (by kernel_rfl) (by kernel_rfl) (by kernel_rfl) (fun _ _ _ h => h) (Or.inl ⟨by rfl, ?_⟩) hHeld ?_
          rotate_left
          focus ((intro w hSw; (try dsimp only at hSw); go_simp); try with_reducible rfl)
          try simp only [Act.put]
          refine wpAnyH_take (i := 5) (v := ?_) rfl (by kernel_rfl) (by kernel_rfl) (by kernel_rfl) (fun _ _ _ h => h) (Or.inl ⟨by rfl, ?_⟩) hHeld ?_
          rotate_left
          focus ((intro w hSw; (try dsimp only at hSw); go_simp); try with_reducible rfl)
          try simp only [Act.put]
          refine wpAnyH_take (i := 6) (v := ?_) rfl (by kernel_rfl) (by kernel_rfl) (by kernel_rfl) (fun _ _ _ h => h) (Or.inl ⟨by rfl, ?_⟩) hHeld ?_
          rotate_left
          focus ((intro w hSw; (try dsimp only at hSw); go_simp); try with_reducible rfl)
          try simp only [Act.put]
          refine wpAnyH_take (i := 7) (v := ?_) rfl (by kernel_rfl) (by kernel_rfl) (by kernel_rfl) (fun _ _ _ h => h) (Or.inl ⟨by rfl, ?_⟩) hHeld ?_
          rotate_left
          focus ((intro w hSw; (try dsimp only at hSw); go_simp); try with_reducible rfl)
          try simp only [Act.put]
          refine wpAnyH_take (i := 8) (v := ?_) rfl (by kernel_rfl) (by kernel_rfl) (by kernel_rfl) (fun _ _ _ h => h) (Or.inl ⟨by rfl, ?_⟩) hHeld ?_
          rotate_left
          focus ((intro w hSw; (try dsimp only at hSw); go_simp); try with_reducible rfl)
          try simp only [Act.put]
          refine wpAnyH_take (i := 9) (v := ?_) rfl (by kernel_rfl) (by kernel_rfl) (by kernel_rfl) (fun _ _ _ h => h) (Or.inl ⟨by rfl, ?_⟩) hHeld ?_
          rotate_left
          focus ((intro w hSw; (try dsimp only at hSw); go_simp); try with_reducible rfl)
          try simp only [Act.put]
          refine wpAnyH_take (i := 10) (v := ?_) rfl (by kernel_rfl) (by kernel_rfl) (by kernel_rfl) (fun _ _ _ h => h) (Or.inl ⟨by rfl, ?_⟩) hHeld ?_
          rotate_left
          focus ((intro w hSw; (try dsimp only at hSw); go_simp); try with_reducible rfl)
          try simp only [Act.put]
          refine wpAnyH_take (i := 11) (v := ?_) rfl (by kernel_rfl) (by kernel_rfl) (by kernel_rfl) (fun _ _ _ h => h) (Or.inl ⟨by rfl, ?_⟩) hHeld ?_
          rotate_left
          focus ((intro w hSw; (try dsimp only at hSw); go_simp); try with_reducible rfl)
          try simp only [Act.put]
          refine wpAnyH_take (i := 12) (v := ?_) rfl (by kernel_rfl) (by kernel_rfl) (by kernel_rfl) (fun _ _ _ h => h) (Or.inl ⟨by rfl, ?_⟩) hHeld ?_
          rotate_left
          focus ((intro w hSw; (try dsimp only at hSw); go_simp); try with_reducible rfl)
          try simp only [Act.put]
          refine wpAnyH_take (i := 13) (v := ?_) rfl (by kernel_rfl) (by kernel_rfl) (by kernel_rfl) (fun _ _ _ h => h) (Or.inl ⟨by rfl, ?_⟩) hHeld ?_
          rotate_left
          focus ((intro w hSw; (try dsimp only at hSw); go_simp); try with_reducible rfl)
          try simp only [Act.put]
          refine wpAnyH_take (i := 14) (v := ?_) rfl (by kernel_rfl) (by kernel_rfl) (by kernel_rfl) (fun _ _ _ h => h) (Or.inl ⟨by rfl, ?_⟩) hHeld ?_
          rotate_left
          focus ((intro w hSw; (try dsimp only at hSw); go_simp); try with_reducible rfl)
          try simp only [Act.put]
          refine wpAnyH_take (i := 15) (v := ?_) rfl (by kernel_rfl) (by kernel_rfl) (by kernel_rfl) (fun _ _ _ h => h) (Or.inl ⟨by rfl, ?_⟩) hHeld ?_
          rotate_left
          focus ((intro w hSw; (try dsimp only at hSw); go_simp); try with_reducible rfl)
          try simp only [Act.put]
          refine wpAnyH_take (i := 16) (v := ?_) rfl (by kernel_rfl) (by kernel_rfl) (by kernel_rfl) (fun _ _ _ h => h) (Or.inl ⟨by rfl, ?_⟩) hHeld ?_
          rotate_left
          focus ((intro w hSw; (try dsimp only at hSw); go_simp); try with_reducible rfl)
          try simp only [Act.put]
          refine wpAnyH_take (i := 18) (v := ?_) rfl (by kernel_rfl) (by kernel_rfl) (by kernel_rfl) (fun _ _ _ h => h) (Or.inl ⟨by rfl, ?_⟩) hHeld ?_
          rotate_left
          focus ((intro w hSw; (try dsimp only at hSw); go_simp); try with_reducible rfl)
          try simp only [Act.put]
          refine wpAnyH_ready (rs := [17, 19]) (by kernel_rfl) (by simp) ?_
          refine AllReadyH.cons rfl (fun K hK => ?_) ?_
          focus (go_simp; refine hK.out _ _ ⟨hcg, hcellr⟩ (fun hHeld => ?_); clear hK K; try simp only [Act.put])
          · refine wpAnyH_ready (rs := [19]) (by kernel_rfl) (by simp) ?_
            refine AllReadyH.cons rfl (fun K hK => ?_) ?_
            focus (go_simp; refine hK.out _ _ ⟨hcg3, hcr3⟩ (fun hHeld => ?_); clear hK K; try simp only [Act.put])
            rotate_left
            exact AllReadyH.nil
            refine wpAnyH_ready (rs := [20]) (by kernel_rfl) (by simp) ?_
            refine AllReadyH.cons rfl (fun K hK => ?_) ?_
            focus ((refine step_append_lies _ (by rfl) _ _ _ (by rfl) (w0.heap.size + 1) 3 j0 _ 1 8 (by kernel_rfl) hj hy0 hy1 hy2 rfl (by omega) vx _ _ (by rfl) (by exact Hown.out.alloc _) ⟨wr.heap.size, 0, none⟩ 1 1 [.int .i64 k] (by rfl) (by rfl) (World.news_of_block (cs := #[.int .i64 k]) (t := 3) (fr := (0, 0)) (heap_alloc_new wr _)) (by simp [Value.oneCell']) (by omega) (by unfold maxLen; omega) (by omega) (by simp; omega) (wr.heap.size + 1) (by simp) ?_; intro gg cap w2 hown2 hgrow hat2 hlt2; have hgr2 : wr.grownBy w2 vx.ownBlock := ⟨hgrow.os, hgrow.tape, hgrow.output, Nat.le_trans (by simp) hgrow.size, fun i hi hne => (hgrow.block i (by simp; omega) hne).trans (Below.heap_alloc wr _ i hi)⟩; have hrow2 := HG3.out.after Hvx.out hat.out hgr2; have hck2 := hrow2.cell Hvx.out; have hfr2 := hrow2.free x; have k1 := far_cell Hown.out hgr2 (by omega) hcg; have k2 := far_cell Hown.out hgr2 (by omega) hcellr; clear hrow2); refine hK.out _ _ ⟨k1, k2⟩ (fun hHeld => ?_); clear hK K; try simp only [Act.put])
            rotate_left
            exact AllReadyH.nil
            refine wpAnyH_take (i := 21) (v := ?_) rfl (by kernel_rfl) (by kernel_rfl) (by kernel_rfl) (fun _ _ _ h => h) (Or.inl ⟨by rfl, ?_⟩) hHeld ?_
            rotate_left
            focus ((intro w hSw; (try dsimp only at hSw); go_simp); try with_reducible rfl)
            try simp only [Act.put]
            refine wpAnyH_ready (rs := [22]) (by kernel_rfl) (by simp) ?_
            refine AllReadyH.cons rfl (fun K hK => ?_) ?_
            focus (go_simp; refine hK.out _ _ ⟨(World.cell?_setCell_far _ _ _ _ (by simp; omega)).trans k1, (World.cell?_setCell_far _ _ _ _ (by simp; omega)).trans k2⟩ (fun hHeld => ?_); clear hK K; try simp only [Act.put])
            rotate_left
            exact AllReadyH.nil
            refine wpAnyH_done (by kernel_rfl) ?_ _
            refine NoPanic.normal ?_
            have Hown2 := Lib.hid hown2; have Hgr2 := Lib.hid hgr2
            have Hfresh : Hid (Fresh wr vx (.slice (some ⟨gg, 0, none⟩) ((rv g k m x).length + 1) cap)) := ⟨gg, rfl, hat2.imp id (fun e => by omega)⟩
            clear hown2 hgr2 hgrow hat2 k1 k2 hck2 hfr2 hHeld hck3 hcg3 hcr3 hcg hcellr hck hfr hlen0 hx0 hx1 hk0 hk1 hm0 hm1
            go_wp2
            go_roundw
            case rel => exact ⟨m + 1, _, by omega, by go_num, by rw [hsucc.out]; exact HG3.out.push Hvx.out hat.out Hown2.out Hgr2.out Hfresh, push_below Hbel2.out (by omega) Hown.out Hgr2.out (Nat.le_refl _) (by omega)⟩
            case measure => simp [intOf]; omega
          refine AllReadyH.cons rfl (fun K hK => ?_) ?_
          focus (go_simp; refine hK.out _ _ ⟨hcg3, hcr3⟩ (fun hHeld => ?_); clear hK K; try simp only [Act.put])
          · refine wpAnyH_ready (rs := [17]) (by kernel_rfl) (by simp) ?_
            refine AllReadyH.cons rfl (fun K hK => ?_) ?_
            focus (go_simp; refine hK.out _ _ ⟨hcg3, hcr3⟩ (fun hHeld => ?_); clear hK K; try simp only [Act.put])
            rotate_left
            exact AllReadyH.nil
            refine wpAnyH_ready (rs := [20]) (by kernel_rfl) (by simp) ?_
            refine AllReadyH.cons rfl (fun K hK => ?_) ?_
            focus ((refine step_append_lies _ (by rfl) _ _ _ (by rfl) (w0.heap.size + 1) 3 j0 _ 1 8 (by kernel_rfl) hj hy0 hy1 hy2 rfl (by omega) vx _ _ (by rfl) (by exact Hown.out.alloc _) ⟨wr.heap.size, 0, none⟩ 1 1 [.int .i64 k] (by rfl) (by rfl) (World.news_of_block (cs := #[.int .i64 k]) (t := 3) (fr := (0, 0)) (heap_alloc_new wr _)) (by simp [Value.oneCell']) (by omega) (by unfold maxLen; omega) (by omega) (by simp; omega) (wr.heap.size + 1) (by simp) ?_; intro gg cap w2 hown2 hgrow hat2 hlt2; have hgr2 : wr.grownBy w2 vx.ownBlock := ⟨hgrow.os, hgrow.tape, hgrow.output, Nat.le_trans (by simp) hgrow.size, fun i hi hne => (hgrow.block i (by simp; omega) hne).trans (Below.heap_alloc wr _ i hi)⟩; have hrow2 := HG3.out.after Hvx.out hat.out hgr2; have hck2 := hrow2.cell Hvx.out; have hfr2 := hrow2.free x; have k1 := far_cell Hown.out hgr2 (by omega) hcg; have k2 := far_cell Hown.out hgr2 (by omega) hcellr; clear hrow2); refine hK.out _ _ ⟨k1, k2⟩ (fun hHeld => ?_); clear hK K; try simp only [Act.put])
            rotate_left
            exact AllReadyH.nil
            refine wpAnyH_take (i := 21) (v := ?_) rfl (by kernel_rfl) (by kernel_rfl) (by kernel_rfl) (fun _ _ _ h => h) (Or.inl ⟨by rfl, ?_⟩) hHeld ?_
            rotate_left
            focus ((intro w hSw; (try dsimp only at hSw); go_simp); try with_reducible rfl)
            try simp only [Act.put]
            refine wpAnyH_ready (rs := [22]) (by kernel_rfl) (by simp) ?_
            refine AllReadyH.cons rfl (fun K hK => ?_) ?_
            focus (go_simp; refine hK.out _ _ ⟨(World.cell?_setCell_far _ _ _ _ (by simp; omega)).trans k1, (World.cell?_setCell_far _ _ _ _ (by simp; omega)).trans k2⟩ (fun hHeld => ?_); clear hK K; try simp only [Act.put])
            rotate_left
            exact AllReadyH.nil
            refine wpAnyH_done (by kernel_rfl) ?_ _
            refine NoPanic.normal ?_
            have Hown2 := Lib.hid hown2; have Hgr2 := Lib.hid hgr2
            have Hfresh : Hid (Fresh wr vx (.slice (some ⟨gg, 0, none⟩) ((rv g k m x).length + 1) cap)) := ⟨gg, rfl, hat2.imp id (fun e => by omega)⟩
            clear hown2 hgr2 hgrow hat2 k1 k2 hck2 hfr2 hHeld hck3 hcg3 hcr3 hcg hcellr hck hfr hlen0 hx0 hx1 hk0 hk1 hm0 hm1
            go_wp2
            go_roundw
            case rel => exact ⟨m + 1, _, by omega, by go_num, by rw [hsucc.out]; exact HG3.out.push Hvx.out hat.out Hown2.out Hgr2.out Hfresh, push_below Hbel2.out (by omega) Hown.out Hgr2.out (Nat.le_refl _) (by omega)⟩
            case measure => simp [intOf]; omega
          exact AllReadyH.nil
        · obtain rfl : m = (row g k).length := by omega
          have HN := Lib.hid (rowsR_next g k)
          clear hbel
          go_wp2
          go_roundw
          case rel => exact ⟨k + 1, vs, by omega, by go_num, by rw [← HN.out]; exact HG3.out, Hbel2.out⟩
          case measure => simp [intOf]; omega
    · obtain rfl : k = g.length := by omega
      have hfin : Gr nv wr (.slice (some ⟨w0.heap.size, 0, none⟩) g.length g.length) (revM g) := HG2.out.gr (rowsR_len _ _ _)
      have hll := revM_len g
      have Hfin := Lib.hid hfin
      have Hll := Lib.hid hll
      clear hfin hll hbel
      go_wp2
      go_ret2
      exact ⟨_, _, by rw [Hll.out]; rfl, by rw [Hll.out]; exact Hfin.out, Hb0.out.trans (Hbel.out.mono hs0)⟩
end Go.Proofs.Ytnhhhnhakpambaa
