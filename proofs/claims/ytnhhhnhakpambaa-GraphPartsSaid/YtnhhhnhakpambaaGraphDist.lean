/- The contract of distances. -/
import Derived.Test.YtnhhhnhakpambaaRepeat
namespace Go.Proofs.Ytnhhhnhakpambaa
open Go.RowKit

/-- A row of distances. -/
def DistP (g : List (List Nat)) (S : List Nat) (w : World) (e : Ending) (w' : World) : Prop := ∃ D b, e = .returned (.slice (some ⟨b, 0, none⟩) g.length g.length) ∧ IsDist g S D ∧ w.heap.size ≤ b ∧ Row w' b 3 (D.map iv) ∧ Below w.heap.size w w'
theorem dat_cell {D : List Int} {w : World} {b t v : Nat} (h : Row w b t (D.map iv)) (hv : v < D.length) : w.cell? ⟨b, v, none⟩ = some (.int .i64 (dat D v)) := h.cell (by rw [List.getElem?_map, dat_get hv]; rfl)
theorem size_setCell (w : World) (a : Addr) (v : Value) : (w.setCell a v).heap.size = w.heap.size := by simp [World.setCell]
theorem map_set_iv (D : List Int) (v : Nat) (x : Int) : (D.map iv).set v (.int .i64 x) = (D.set v x).map iv := by rw [List.map_set]; rfl
theorem row_set_iv {D : List Int} {w : World} {b t : Nat} (h : Row w b t (D.map iv)) (v : Nat) (x : Int) : Row (w.setCell ⟨b, v, none⟩ (.int .i64 x)) b t ((D.set v x).map iv) := by
  rw [← map_set_iv]; exact h.set v _
set_option maxHeartbeats 4000000 in
theorem distances_any (v vl : Value) (g : List (List Nat)) (S : List Nat) (w : World) (h : Gr nv w v g) (hg : VG g) (hS : Sl nv w vl S) (hl : S.length ≤ 10000) (hn : ∀ x ∈ S, x < g.length) :
    Calls Try.prog 44 #[v, vl] w (DistP g S w) := by
  obtain ⟨A, c, rfl⟩ := h.shape
  obtain ⟨A2, c2, rfl⟩ := hS.shape
  have H := Lib.hid h; have Hg := Lib.hid hg; have HS := Lib.hid hS; have Hn := Lib.hid hn
  have hgl := hg.len
  clear h hg hS hn
  go_enter Try.func44, Try.ntmps44
  go_wp2_with fail
  refine (repeat_any (-1) g.length _ _ (lit_sl iv w _ _ 1 [-1] rfl rfl _) (by omega)).mono ?_
  rintro e w1 ⟨gd, rfl, hgd, hrow, hb⟩
  have hgd0 : w.heap.size ≤ gd := by simp at hgd; omega
  have hb1 : Below w.heap.size w w1 := (below_alloc w _).trans (hb.mono (by simp))
  have hgd1 := hrow.lt
  have Hrow := Lib.hid hrow
  have HB1 := Lib.hid hb1
  clear hrow hb hb1 hgd
  go_wp2
  go_loopw [6, 19] (fun qv i wr => ∃ (k : Nat) (D : List Int) (q : List Nat), k ≤ S.length ∧ i = .int .i64 k ∧ wr.ownsRow w1.heap.size 3 1 qv q.length (q.map nv) ∧ Row wr gd 3 (D.map iv) ∧ Bfs0 g S D q k ∧ Below w.heap.size w wr ∧ w1.heap.size ≤ wr.heap.size) (fun _ i _ => S.length - (intOf i).toNat)
  case atStart => exact ⟨0, _, [], Nat.zero_le _, rfl, World.ownsRow_nil _ _ _ _, Hrow.out, Bfs0.start g S, HB1.out, Nat.le_refl _⟩
  case round =>
    obtain ⟨k, D, q, hk, rfl, hown, hrow, hbfs, hbel, hsz⟩ := hrel
    have Hown := Lib.hid hown
    have Hrw := Lib.hid hrow
    have Hbfs := Lib.hid hbfs
    have Hbel := Lib.hid hbel
    by_cases hlt : k < S.length
    · obtain ⟨ad, c', hs, hcap, hcell⟩ := sl_cell (HS.out.below hbel) k hlt
      simp only [Value.slice.injEq, true_and] at hs
      obtain ⟨rfl, rfl⟩ := hs
      have hxn := Hn.out _ (List.getElem_mem hlt)
      have Hold := Lib.hid (fun h => hbfs.old hlt hxn h)
      have Hnew := Lib.hid (fun h => hbfs.new hlt hxn h)
      have hdl : D.length = g.length := hbfs.len
      have hql := hbfs.qlen
      generalize S[k] = x at *
      have hck := dat_cell hrow (by rw [hdl]; exact hxn : x < D.length)
      have hfr := hrow.free x
      unfold nv at hcell
      clear hown hrow hbfs hbel
      by_cases he : dat D x = -1
      · have he2 : (dat D x == -1) = true := by rw [beq_iff_eq]; exact he
        have Hn2 := Lib.hid (Hnew.out he)
        clear he Hold Hnew
        generalize dat D x = d at *
        go_wp2_with (at_builtin; refine app1S rfl _ _ 38 rfl 3 (.int .i64 0) 8 info_int rfl (by kernel_rfl) w1.heap.size _ _ _ rfl (ownsRow_setCell_below Hown.out (a := ⟨gd, x, none⟩) hgd1 _) (.int .i64 (x : Int)) (by rw [size_setCell]; rfl) rfl (by omega) (by omega) (by rw [size_setCell]; exact hsz) ?_; intro v' w2 hown2 hfr2)
        have hb2 := hfr2.below (by simp [World.setCell]; omega)
        have hrow2 := (row_set_iv Hrw.out x 0).below hb2 hgd1
        have hbl2 : Below w.heap.size w w2 := (Hbel.out.setCell (p := ⟨gd, x, none⟩) hgd0 (.int .i64 0)).trans (hb2.mono (Nat.le_trans HB1.out.size (Nat.le_refl _)))
        have hsz2 : w1.heap.size ≤ w2.heap.size := Nat.le_trans (by simp [World.setCell]; omega) hb2.size
        have Hown2 := Lib.hid hown2; have Hrow2 := Lib.hid hrow2; have Hbl2 := Lib.hid hbl2
        clear hown2 hfr2 hb2 hrow2 hbl2
        go_wp2
        go_roundw
        case rel => exact ⟨k + 1, _, _, by omega, by go_num, by rw [List.length_append, List.map_append]; exact Hown2.out, Hrow2.out, Hn2.out, Hbl2.out, hsz2⟩
        case measure => simp [intOf]; omega
      · have he2 : (dat D x == -1) = false := by rw [beq_eq_false_iff_ne]; exact he
        have Ho2 := Lib.hid (Hold.out he)
        clear he Hold Hnew
        generalize dat D x = d at *
        go_wp2
        go_roundw
        case rel => exact ⟨k + 1, _, _, by omega, by go_num, Hown.out, Hrw.out, Ho2.out, Hbel.out, hsz⟩
        case measure => simp [intOf]; omega
    · obtain rfl : k = S.length := by omega
      have Hh := Lib.hid hbfs.next
      clear hown hrow hbfs hbel Hbfs
      go_wp2
      go_loopw [6, 9] (fun qv i wr => ∃ (k : Nat) (D : List Int) (q : List Nat), k ≤ q.length ∧ i = .int .i64 k ∧ wr.ownsRow w1.heap.size 3 1 qv q.length (q.map nv) ∧ Row wr gd 3 (D.map iv) ∧ BfsH g S D q k ∧ Below w.heap.size w wr ∧ w1.heap.size ≤ wr.heap.size) (fun _ i _ => g.length - (intOf i).toNat)
      case atStart => exact ⟨0, _, _, Nat.zero_le _, rfl, Hown.out, Hrw.out, Hh.out, Hbel.out, hsz⟩
      case round =>
        clear Hown Hrw Hh Hbel hsz
        obtain ⟨k, D, q, hk, rfl, hown, hrow, hbfs, hbel, hsz⟩ := hrel
        have Hown := Lib.hid hown
        have Hrw := Lib.hid hrow
        have Hbfs := Lib.hid hbfs
        have Hbel := Lib.hid hbel
        have hql := hbfs.qlen
        have hqs := Sl.of_own hown
        by_cases hlt : k < q.length
        · obtain ⟨adq, cq, rfl, hcapq, hcellq⟩ := sl_cell hqs k hlt
          have hun := hbfs.node _ (List.getElem_mem hlt)
          have hqk := List.getElem?_eq_getElem hlt
          have hlev := hbfs.lev k _ hqk
          have Hj := Lib.hid (hbfs.enter hqk)
          have Hqk := Lib.hid hqk
          generalize q[k] = u at *
          obtain ⟨ad, c', A', cr, hs, hcap, hcell0, hrow0⟩ := gr_cell H.out u hun
          simp only [Value.slice.injEq, true_and] at hs
          obtain ⟨rfl, rfl⟩ := hs
          have hcell := (hbel.cell (World.block_lt_of_cell? _ _ hcell0)).trans hcell0
          have Hrow0 := Lib.hid hrow0
          have hrl := Hg.out.row_len u
          unfold nv at hcellq
          clear hown hrow hbfs hbel hqs hqk hcell0 hrow0 Hbfs
          obtain ⟨wo, rfl⟩ : ∃ wo : World, wo = wr := ⟨_, rfl⟩
          go_wp2
          go_loopw [6, 51] (fun qv i wr => ∃ (m : Nat) (D : List Int) (q : List Nat), m ≤ (row g u).length ∧ i = .int .i64 m ∧ wr.ownsRow w1.heap.size 3 1 qv q.length (q.map nv) ∧ Row wr gd 3 (D.map iv) ∧ BfsJ g S D q k u m ∧ Below w.heap.size w wr ∧ w1.heap.size ≤ wr.heap.size) (fun _ i _ => (row g u).length - (intOf i).toNat)
          case atStart => exact ⟨0, _, _, Nat.zero_le _, rfl, Hown.out, Hrw.out, Hj.out, Hbel.out, hsz⟩
          case round =>
            clear Hown Hrw Hj Hbel hsz hlev Hqk hcellq hcapq hlt hk hql
            obtain ⟨m, D, q, hm, rfl, hown, hrow, hbfs, hbel, hsz⟩ := hrel
            have Hown := Lib.hid hown
            have Hrw := Lib.hid hrow
            have Hbfs := Lib.hid hbfs
            have Hbel := Lib.hid hbel
            have hql := hbfs.qlen
            by_cases hltm : m < (row g u).length
            · obtain ⟨adr, cr', hsr, hcapr, hcellr⟩ := sl_cell (Hrow0.out.below hbel) m hltm
              simp only [Value.slice.injEq, true_and] at hsr
              obtain ⟨rfl, rfl⟩ := hsr
              have hxn := Hg.out.node u _ (List.getElem_mem hltm)
              have Hold := Lib.hid (fun h => hbfs.old Hg.out hltm h)
              have Hnew := Lib.hid (fun h => hbfs.new Hg.out hltm h)
              have hdl : D.length = g.length := hbfs.len
              have hd1 := hbfs.toBfs.lo u
              have hd2 := hbfs.lev k u hbfs.cur
              have hkq := (List.getElem?_eq_some_iff.1 hbfs.cur).1
              generalize (row g u)[m] = x at *
              have hck := dat_cell hrow (by rw [hdl]; exact hxn : x < D.length)
              have hcu := dat_cell hrow (by rw [hdl]; exact hun : u < D.length)
              have hfr := hrow.free x
              unfold nv at hcellr
              clear hown hrow hbfs hbel Hbfs
              by_cases he : dat D x = -1
              · have he2 : (dat D x == -1) = true := by rw [beq_iff_eq]; exact he
                have Hn2 := Lib.hid (Hnew.out he)
                clear he Hold Hnew
                obtain ⟨du, hdu⟩ : ∃ du, du = dat D u := ⟨_, rfl⟩
                rw [← hdu] at hcu hd1 hd2 Hn2
                clear hdu
                generalize dat D x = d at *
                go_wp2_with (at_builtin; refine app1S rfl _ _ 38 rfl 3 (.int .i64 0) 8 info_int rfl (by kernel_rfl) w1.heap.size _ _ _ rfl (ownsRow_setCell_below Hown.out (a := ⟨gd, x, none⟩) hgd1 _) (.int .i64 (x : Int)) (by rw [size_setCell]; rfl) rfl (by omega) (by omega) (by rw [size_setCell]; exact hsz) ?_; intro v' w2 hown2 hfr2)
                have hb2 := hfr2.below (by rw [size_setCell]; exact hsz)
                have hrow2 := (row_set_iv Hrw.out x (du + 1)).below hb2 hgd1
                have hbl2 : Below w.heap.size w w2 := (Hbel.out.setCell (p := ⟨gd, x, none⟩) hgd0 (.int .i64 (du + 1))).trans (hb2.mono HB1.out.size)
                have hsz2 : w1.heap.size ≤ w2.heap.size := Nat.le_trans (by rw [size_setCell]; exact hsz) hb2.size
                have Hown2 := Lib.hid hown2; have Hrow2 := Lib.hid hrow2; have Hbl2 := Lib.hid hbl2
                clear hown2 hfr2 hb2 hrow2 hbl2
                go_wp2
                go_roundw
                case rel => exact ⟨m + 1, _, _, by omega, by go_num, by rw [List.length_append, List.map_append]; exact Hown2.out, Hrow2.out, Hn2.out, Hbl2.out, hsz2⟩
                case measure => simp [intOf]; omega
              · have he2 : (dat D x == -1) = false := by rw [beq_eq_false_iff_ne]; exact he
                have Ho2 := Lib.hid (Hold.out he)
                clear he Hold Hnew
                generalize dat D x = d at *
                go_wp2
                go_roundw
                case rel => exact ⟨m + 1, _, _, by omega, by go_num, Hown.out, Hrw.out, Ho2.out, Hbel.out, hsz⟩
                case measure => simp [intOf]; omega
            · obtain rfl : m = (row g u).length := by omega
              have hkq := (List.getElem?_eq_some_iff.1 hbfs.cur).1
              have Hnx := Lib.hid hbfs.leave
              clear hown hrow hbfs hbel Hbfs
              go_wp2
              go_roundw
              case rel => exact ⟨k + 1, _, _, by omega, by go_num, Hown.out, Hrw.out, Hnx.out, Hbel.out, hsz⟩
              case measure => simp [intOf]; omega
        · obtain rfl : k = q.length := by omega
          have Hfin := Lib.hid hbfs.fin
          obtain ⟨Aq, cq, rfl⟩ := hqs.shape
          clear hown hrow hbfs hbel hqs Hbfs
          go_wp2
          go_ret
          exact ⟨_, _, rfl, Hfin.out, hgd0, Hrw.out, Hbel.out⟩
end Go.Proofs.Ytnhhhnhakpambaa
