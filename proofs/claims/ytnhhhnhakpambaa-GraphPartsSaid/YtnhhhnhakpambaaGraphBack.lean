/- The contracts of reversed and Back. -/
import Derived.Test.YtnhhhnhakpambaaGraphValid
import Derived.Test.YtnhhhnhakpambaaGrOwn
namespace Go.Proofs.Ytnhhhnhakpambaa
open Go.RowKit

/-- A call that returns a graph. -/
def GGot (w : World) (g : List (List Nat)) (e : Ending) (w' : World) : Prop := ∃ A c, e = .returned (.slice (some A) g.length c) ∧ Gr nv w' (.slice (some A) g.length c) g ∧ Below w.heap.size w w'
theorem rowsR_at {g : List (List Nat)} {i k j : Nat} (hj : j < g.length) : (rowsR g i k)[j]? = some (rv g i k j) := by
  unfold rowsR; rw [List.getElem?_map, List.getElem?_range hj]; rfl
set_option maxHeartbeats 2000000 in
theorem reversed_any (v : Value) (g : List (List Nat)) (w : World) (h : Gr nv w v g) (hg : VG g) :
    Calls Try.prog 41 #[v] w (GGot w (revM g)) := by
  obtain ⟨A, c, rfl⟩ := h.shape
  have H := Lib.hid h; have Hg := Lib.hid hg
  have hl := hg.len
  clear h hg
  obtain ⟨i0, hi, hz0, hz1, hz2⟩ := info_parts info_ints
  go_enter Try.func41, Try.ntmps41
  go_wp2_with (at_make; refine wpList_make_full _ rfl _ _ _ rfl w.heap.size 38 i0 _ 1 (by kernel_rfl) hi hz0 hz1 _ _ _ _ g.length rfl rfl rfl rfl (by rw [hz2]; omega) (by unfold maxLen; omega) (Nat.le_refl _) ?_; intro w1 hown hgr)
  have hb1 : Below w.heap.size w w1 := (Below.refl _ w).grown hgr (Nat.le_refl _) (fun k e => by cases e)
  have hrow : Row w1 w.heap.size 38 (List.replicate g.length (.slice none 0 0)) := Row.of_own (by
    have e := toList_madeCells_one (.slice none 0 0) g.length
    rw [← e]
    simpa [Value.cells] using hown)
  have hG : GRows w1 (w.heap.size + 1) w.heap.size (List.replicate g.length (.slice none 0 0)) (rowsR g 0 0) := by
    rw [rowsR_start]
    exact GRows.start hrow (Nat.lt_succ_self _) hrow.lt
  have HG := Lib.hid hG
  clear hG hrow hown hgr
  go_wp2
  go_loopw [13] (fun i wr => ∃ (k : Nat) (vals : List Value), k ≤ g.length ∧ i = .int .i64 k ∧ GRows wr (w.heap.size + 1) w.heap.size vals (rowsR g k 0) ∧ Below w.heap.size w wr) (fun i _ => g.length - (intOf i).toNat)
  case atStart => exact ⟨0, _, Nat.zero_le _, rfl, HG.out, hb1⟩
  case round =>
    obtain ⟨k, vals, hk, rfl, hG, hbel⟩ := hrel
    have HG2 := Lib.hid hG
    have Hbel := Lib.hid hbel
    clear hG
    by_cases hlt : k < g.length
    · obtain ⟨ad, c', A', cr, hs, hcap, hcell0, hrow⟩ := gr_cell H.out k hlt
      simp only [Value.slice.injEq, true_and] at hs
      obtain ⟨rfl, rfl⟩ := hs
      have hcell := (hbel.cell (World.block_lt_of_cell? _ _ hcell0)).trans hcell0
      have Hrow := Lib.hid hrow
      have hrl := Hg.out.row_len k
      clear hbel hrow hcell0 hb1 HG
      obtain ⟨wo, rfl⟩ : ∃ wo : World, wo = wr := ⟨_, rfl⟩
      go_wp2
      go_loopw [20] (fun i wr => ∃ (m : Nat) (vals : List Value), m ≤ (row g k).length ∧ i = .int .i64 m ∧ GRows wr (w.heap.size + 1) w.heap.size vals (rowsR g k m) ∧ Below w.heap.size w wr) (fun i _ => (row g k).length - (intOf i).toNat)
      case atStart => exact ⟨0, _, Nat.zero_le _, rfl, HG2.out, Hbel.out⟩
      case round =>
        obtain ⟨m, vs, hm, rfl, hG, hbel⟩ := hrel
        have HG3 := Lib.hid hG
        have Hbel2 := Lib.hid hbel
        clear hG
        by_cases hltm : m < (row g k).length
        · obtain ⟨adr, cr', hsr, hcapr, hcellr⟩ := sl_cell (Hrow.out.below hbel) m hltm
          simp only [Value.slice.injEq, true_and] at hsr
          obtain ⟨rfl, rfl⟩ := hsr
          have hxn := Hg.out.node k _ (List.getElem_mem hltm)
          have hsucc := Lib.hid (rowsR_succ Hg.out hltm)
          have hat := Lib.hid (rowsR_at (i := k) (k := m) hxn)
          have hlen := Lib.hid (rv_len g k m (row g k)[m])
          generalize (row g k)[m] = x at *
          unfold nv at hcellr
          obtain ⟨vx, hvx⟩ : ∃ vx, vs[x]? = some vx := ⟨_, List.getElem?_eq_getElem (by rw [HG3.out.len, rowsR_len]; exact hxn)⟩
          have hck := HG3.out.row.cell hvx
          have hfr := HG3.out.row.free x
          have hown := HG3.out.own x vx _ hvx hat.out
          have Hvx := Lib.hid hvx
          have Hown := Lib.hid hown
          have hbase := HG3.out.base
          have hvlen : vs.length = g.length := by rw [HG3.out.len, rowsR_len]
          clear hbel hvx hown
          go_wp2_with (at_builtin; refine app1T rfl _ _ 38 rfl 3 (.int .i64 0) 8 info_int rfl (by kernel_rfl) (w.heap.size + 1) _ _ _ rfl Hown.out (.int .i64 (k : Int)) rfl rfl (by have := hlen.out; omega) (by have := hlen.out; omega) hbase ?_; intro v' w2 hown2 hgr2 hfresh; obtain ⟨g2, cap2, rfl, _, _, _⟩ := own_shape hown2 (by omega); have hrow2 := HG3.out.after Hvx.out hat.out hgr2; have hck2 := hrow2.cell Hvx.out; have hfr2 := hrow2.free x; have Hown2 := Lib.hid hown2; have Hgr2 := Lib.hid hgr2; have Hfresh := Lib.hid hfresh; clear hown2 hgr2 hfresh hrow2)
          go_roundw
          case rel => exact ⟨m + 1, _, by omega, by go_num, by rw [hsucc.out]; exact HG3.out.push Hvx.out hat.out Hown2.out Hgr2.out Hfresh.out, push_below Hbel2.out (by omega) Hown.out Hgr2.out (Nat.le_refl _) (by omega)⟩
          case measure => simp [intOf]; omega
        · obtain rfl : m = (row g k).length := by omega
          have HN := Lib.hid (rowsR_next g k)
          go_wp2
          go_roundw
          case rel => exact ⟨k + 1, vs, by omega, by go_num, by rw [← HN.out]; exact HG3.out, Hbel2.out⟩
          case measure => simp [intOf]; omega
    · obtain rfl : k = g.length := by omega
      have hfin : Gr nv wr (.slice (some ⟨w.heap.size, 0, none⟩) g.length g.length) (revM g) := HG2.out.gr (rowsR_len _ _ _)
      have hll := revM_len g
      have Hfin := Lib.hid hfin
      have Hll := Lib.hid hll
      clear hfin hll hbel
      go_wp2
      go_ret
      exact ⟨_, _, by rw [Hll.out]; rfl, by rw [Hll.out]; exact Hfin.out, Hbel.out⟩
end Go.Proofs.Ytnhhhnhakpambaa
