/- The contract of withEdges. -/
import Derived.Test.YtnhhhnhakpambaaEdges
import Derived.Deep.RegionHeld3
namespace Go.Proofs.Ytnhhhnhakpambaa
open Go.RowKit

theorem info_pair : (Try.prog.info? 55).map (fun i => (i.zero, i.size, i.bytes)) = some (some (.agg #[.int .i64 0, .int .i64 0]), 2, 16) := by kernel_rfl
set_option maxRecDepth 20000 in
set_option maxHeartbeats 2000000 in
theorem withedges_any (n : Nat) (v : Value) (es : List (Nat × Nat)) (w : World) (h : Prs w v (castP es)) (hn : n ≤ 400) (hes : ∀ e ∈ es, e.1 < n ∧ e.2 < n) (hl : es.length ≤ 1000000) :
    Calls Try.prog 38 #[.int .i64 (n : Int), v] w (GGot w (edM n es)) := by
  obtain ⟨A, c, rfl⟩ := h.shape
  have H := Lib.hid h; have He := Lib.hid hes
  rw [castP_len]
  clear h hes
  obtain ⟨i0, hi, hz0, hz1, hz2⟩ := info_parts info_ints
  go_enter Try.func38, Try.ntmps38
  go_wp2_with (at_make; refine wpList_make_full _ rfl _ _ _ rfl w.heap.size 38 i0 _ 1 (by kernel_rfl) hi hz0 hz1 _ _ _ _ n rfl rfl rfl rfl (by rw [hz2]; omega) (by unfold maxLen; omega) (Nat.le_refl _) ?_; intro w1 hown hgr)
  have hb1 : Below w.heap.size w w1 := (Below.refl _ w).grown hgr (Nat.le_refl _) (fun k e => by cases e)
  have hrow : Row w1 w.heap.size 38 (List.replicate n (.slice none 0 0)) := Row.of_own (by
    have e := toList_madeCells_one (.slice none 0 0) n
    rw [← e]
    simpa [Value.cells] using hown)
  have hG : GRows w1 (w.heap.size + 1) w.heap.size (List.replicate n (.slice none 0 0)) (edM n (es.take 0)) := GRows.start hrow (Nat.lt_succ_self _) hrow.lt
  have HG := Lib.hid hG
  clear hG hrow hown hgr
  go_wp2
  go_loopw [15] (fun i wr => ∃ (k : Nat) (vals : List Value), k ≤ es.length ∧ i = .int .i64 k ∧ GRows wr (w.heap.size + 1) w.heap.size vals (edM n (es.take k)) ∧ Below w.heap.size w wr) (fun i _ => es.length - (intOf i).toNat)
  case atStart => exact ⟨0, _, Nat.zero_le _, rfl, HG.out, hb1⟩
  case round =>
    clear HG hb1
    obtain ⟨k, vals, hk, rfl, hG, hbel⟩ := hrel
    have HG := Lib.hid hG
    have Hbel := Lib.hid hbel
    by_cases hlt : k < es.length
    · have hvg := edM_vg hn (es := es.take k) (fun e he => He.out e (List.mem_of_mem_take he))
      obtain ⟨ad, c', hs, hcap, hc1, hc2⟩ := prs_cell (H.out.below hbel) k (by rw [castP_len]; exact hlt)
      rw [castP_len] at hs hcap
      simp only [Value.slice.injEq, true_and] at hs
      obtain ⟨rfl, rfl⟩ := hs
      have hex : (castP es)[k]'(by rw [castP_len]; exact hlt) = ((es[k].1 : Int), (es[k].2 : Int)) := by simp [castP]
      rw [hex] at hc1 hc2
      obtain ⟨ha, hb⟩ := He.out _ (List.getElem_mem hlt)
      have hnx := edM_next (n := n) hlt
      generalize es[k] = ed at *
      obtain ⟨a, b⟩ := ed
      dsimp only at hc1 hc2 ha hb
      have hgl := edM_len n (es.take k)
      have Hnx := Lib.hid hnx
      have Hvg := Lib.hid hvg
      generalize hgk : edM n (es.take k) = gk at *
      have hla : gk[a]? = some (row gk a) := by rw [row_get (by omega), List.getElem?_eq_getElem (by omega)]
      obtain ⟨vx, hvx⟩ : ∃ vx, vals[a]? = some vx := ⟨_, List.getElem?_eq_getElem (by rw [hG.len, hgl]; exact ha)⟩
      have hck := hG.row.cell hvx
      have hfr := hG.row.free a
      have Hown := Lib.hid (hG.own a vx _ hvx hla)
      have Hvx := Lib.hid hvx
      have Hla := Lib.hid hla
      have hbase := hG.base
      have hvl : vals.length = n := by rw [hG.len, hgl]
      have hrl := hvg.row_len a
      have Hasc : Hid (Asc (row gk a)) := hvg.asc a
      clear hG hbel hnx hvg hgk hla hvx hex
      have hcka : (wr.alloc (.cells #[.int .i64 (a : Int), .int .i64 (b : Int)] 55)).cell? ⟨w.heap.size, a, none⟩ = some vx := ((below_alloc wr _).cell (p := ⟨w.heap.size, a, none⟩) (by simp; omega)).trans hck
      go_wp2_with fail
      refine (bsearch_own _ (w.heap.size + 1) vx (row gk a) b (Hown.out.alloc _) Hasc.out (by omega)).mono ?_
      rintro e w3 ⟨rfl, q, rfl⟩
      have Hb3 : Hid (Below w.heap.size w ((wr.alloc (.cells #[.int .i64 (a : Int), .int .i64 (b : Int)] 55)).drewN q)) := Lib.hid (below_drew (Hbel.out.alloc (by omega) _) q)
      have HG3 : Hid (GRows ((wr.alloc (.cells #[.int .i64 (a : Int), .int .i64 (b : Int)] 55)).drewN q) (w.heap.size + 1) w.heap.size vals gk) := Lib.hid ((HG.out.alloc _).drewN q)
      have hrk := rank_le (row gk a) b
      by_cases hm : b ∈ row gk a
      · have hmt : decide (b ∈ row gk a) = true := decide_eq_true hm
        have Hsame : Hid (withE gk (a, b) = gk) := Lib.hid (by
          refine graph_ext (withE_len _ _) fun i hi => ?_
          rw [row_withE gk (a, b) (by show a < _; omega)]
          split
          · rename_i e; subst e; exact rgo_old b _ Hasc.out hm
          · rfl)
        rw [hmt]
        clear hm hmt hck hfr hcka hc1 hc2
        generalize rank (row gk a) b = rk at *
        go_wp2
        go_roundw
        case rel => exact ⟨k + 1, vals, by omega, by go_num, by rw [Hnx.out, Hsame.out]; exact HG3.out, Hb3.out⟩
        case measure => simp [intOf]; omega
      · have hmt : decide (b ∈ row gk a) = false := decide_eq_false hm
        have Hi := Lib.hid (ins_rwith Hasc.out hm)
        rw [hmt]
        clear hm hmt
        generalize rank (row gk a) b = rk at *
        go_wp2
        have hbx : ((wr.alloc (.cells #[.int .i64 (a : Int), .int .i64 (b : Int)] 55)).drewN q).heap[wr.heap.size]? = some (.cells #[.int .i64 (a : Int), .int .i64 (b : Int)] 55 (0, 0)) := heap_alloc_new wr _
        have hvne : vx.ownBlock ≠ some wr.heap.size := fun e => by have := (Hown.out.lt _ e).2; omega
        have hnb : wr.heap.size < ((wr.alloc (.cells #[.int .i64 (a : Int), .int .i64 (b : Int)] 55)).drewN q).heap.size := by simp
        generalize wr.heap.size = nb at *
        generalize (wr.alloc (.cells #[.int .i64 (a : Int), .int .i64 (b : Int)] 55)).drewN q = w4 at *
        have Hown4 : Hid (w4.ownsRow (w.heap.size + 1) 3 1 vx (row gk a).length (((row gk a).map fun n : Nat => (n : Int)).map iv)) := Lib.hid (by rw [List.map_map]; exact HG3.out.own a vx _ Hvx.out Hla.out)
        have hx0 := cell_of_heap hbx 0
        have hx1 := cell_of_heap hbx 1
        simp only [List.getElem?_toArray, List.getElem?_cons_zero, List.getElem?_cons_succ] at hx0 hx1
        have Hne := Lib.hid hvne
        have hnw : w.heap.size ≠ nb := by omega
        have hs4 := HG3.out.base
        have Hlen : Hid ((rwith (row gk a) b).length = (row gk a).length + 1) := Lib.hid (by have h := congrArg List.length Hi.out; rw [insM_len (by simpa using hrk), List.length_map, List.length_map] at h; exact h.symm)
        clear hck hfr hcka hc1 hc2 hbx hvne Hown Hbel HG
        go_region_held3 (fun w' => w'.cell? ⟨nb, 0, none⟩ = some (.int .i64 a) ∧ w'.cell? ⟨nb, 1, none⟩ = some (.int .i64 b))
          (first | exact ⟨k1, k2⟩ | exact ⟨(World.cell?_setCell_far _ _ _ _ hnw).trans k1, (World.cell?_setCell_far _ _ _ _ hnw).trans k2⟩ | go_keep)
          ((go_at_call 53; refine (insert_own _ (w.heap.size + 1) vx (row gk a).length ((row gk a).map fun n : Nat => (n : Int)) rk (b : Int) w4.heap.size 1 (by exact Hown4.out.alloc _) hrk (by exact heap_alloc_new w4 _) (fun e => by have := (Hown4.out.lt _ e).2; omega) (by simp; omega) (by omega)).mono ?_; rintro e w5 ⟨v', rfl, ho, hgr, hf⟩; obtain ⟨g2, cap2, rfl, _, _, _⟩ := own_shape ho (by omega); have hgr2 : w4.grownBy w5 vx.ownBlock := ⟨hgr.os, hgr.tape, hgr.output, Nat.le_trans (by simp) hgr.size, fun i hi hne => (hgr.block i (by simp; omega) hne).trans (Below.heap_alloc w4 _ i hi)⟩; have hrow2 := HG3.out.after Hvx.out Hla.out hgr2; have hck2 := hrow2.cell Hvx.out; have hfr2 := hrow2.free a; have k1 := hgr2.cell hx0 (fun e => Hne.out e.symm); have k2 := hgr2.cell hx1 (fun e => Hne.out e.symm); clear hrow2))
        have Hg2 := Lib.hid hgr2
        have Hfr : Hid (Fresh w4 vx (.slice (some ⟨g2, 0, none⟩) ((row gk a).length + 1) cap2)) := Lib.hid (by obtain ⟨bk, h1, h2⟩ := hf; exact ⟨bk, h1, h2.imp id (fun h => by simp at h; omega)⟩)
        have Ho2 : Hid (w5.ownsRow (w.heap.size + 1) 3 1 (.slice (some ⟨g2, 0, none⟩) ((row gk a).length + 1) cap2) (rwith (row gk a) b).length ((rwith (row gk a) b).map nv)) := Lib.hid (by
          have h := ho
          rw [Hi.out, List.map_map] at h
          rw [Hlen.out]
          exact h)
        clear hgr hgr2 hf ho k1 k2 hck2 hfr2 hx0 hx1
        go_wp2
        go_roundw
        case rel => exact ⟨k + 1, _, by omega, by go_num, by rw [Hnx.out]; exact HG3.out.put Hvx.out Hla.out Ho2.out Hg2.out Hfr.out, push_below Hb3.out (by omega) (HG3.out.own a vx _ Hvx.out Hla.out) Hg2.out (Nat.le_refl _) (by omega)⟩
        case measure => simp [intOf]; omega
    · obtain rfl : k = es.length := by omega
      have hfin : Gr nv wr (.slice (some ⟨w.heap.size, 0, none⟩) n n) (edM n es) := by
        have := HG.out.gr (n := n) (by rw [edM_len])
        rwa [List.take_length] at this
      have Hfin := Lib.hid hfin
      have Hll := Lib.hid (edM_len n es)
      clear hfin hG hbel
      go_wp2
      go_ret
      exact ⟨_, _, by rw [Hll.out]; rfl, by rw [Hll.out]; exact Hfin.out, Hbel.out⟩
end Go.Proofs.Ytnhhhnhakpambaa
