/- The contracts of slices.Index and Order. -/
import Derived.Test.YtnhhhnhakpambaaGraphDist
import Derived.Test.YtnhhhnhakpambaaGraphValid
namespace Go.Proofs.Ytnhhhnhakpambaa
open Go.RowKit

/-- r is the first place of x in l, or -1. -/
def IsIdx (l : List Int) (x r : Int) : Prop := (r = -1 ∧ ∀ k, k < l.length → l[k]? ≠ some x) ∨ ∃ k : Nat, r = k ∧ k < l.length ∧ l[k]? = some x ∧ ∀ j, j < k → l[j]? ≠ some x
def IdxP (l : List Int) (x : Int) (w : World) (e : Ending) (w' : World) : Prop := ∃ r, e = .returned (.int .i64 r) ∧ IsIdx l x r ∧ w = w'
set_option maxHeartbeats 1000000 in
theorem index_any (v : Value) (l : List Int) (x : Int) (w : World) (h : Sl iv w v l) (hl : l.length ≤ 10000) :
    Calls Try.prog 50 #[v, .int .i64 x] w (IdxP l x w) := by
  obtain ⟨A, c, rfl⟩ := h.shape
  have H := Lib.hid h
  clear h
  go_enter Try.func50, Try.ntmps50
  go_wp2
  go_loop [8] (fun i => ∃ k : Nat, k ≤ l.length ∧ i = .int .i64 k ∧ Hid (∀ j, j < k → l[j]? ≠ some x)) (fun i => l.length - (intOf i).toNat)
  case atStart => exact ⟨0, Nat.zero_le _, rfl, Lib.hid (by intro j hj; omega)⟩
  case round =>
    obtain ⟨k, hk, rfl, hall⟩ := hrel
    by_cases hlt : k < l.length
    · obtain ⟨ad, c', hs, hcap, hcell⟩ := sl_cell H.out k hlt
      simp only [Value.slice.injEq, true_and] at hs
      obtain ⟨rfl, rfl⟩ := hs
      have Hk := Lib.hid (List.getElem?_eq_getElem hlt)
      generalize l[k] = y at *
      unfold iv at hcell
      by_cases he : x = y
      · have he2 : (x == y) = true := by rw [beq_iff_eq]; exact he
        have HI : Hid (IsIdx l x (k : Int)) := .inr ⟨k, rfl, hlt, by rw [he]; exact Hk.out, hall.out⟩
        clear he
        go_wp2
        go_ret
        exact ⟨_, rfl, HI.out, rfl⟩
      · have he2 : (x == y) = false := by rw [beq_eq_false_iff_ne]; exact he
        have hn : Hid (∀ j, j < k + 1 → l[j]? ≠ some x) := fun j hj => by
          rcases Nat.lt_succ_iff_lt_or_eq.1 hj with h1 | rfl
          · exact hall.out j h1
          · rw [Hk.out]; intro e; exact he (Option.some.inj e).symm
        clear he
        go_wp2
        go_round
        case rel => exact ⟨k + 1, by omega, by go_num, hn⟩
        case measure => simp [intOf]; omega
    · obtain rfl : k = l.length := by omega
      have HI : Hid (IsIdx l x (-1)) := .inl ⟨rfl, hall.out⟩
      go_wp2
      go_ret
      exact ⟨_, rfl, HI.out, rfl⟩
theorem Ahd.none {g : List (List Nat)} {out : List Nat} {A : List Int} (h : Ahd g out A) (hi : IsIdx A 0 (-1)) : nxtO g out = .none := by
  unfold nxtO
  rw [List.find?_eq_none]
  intro x hx hc
  have hx := List.mem_range.1 hx
  rcases hi with ⟨_, h1⟩ | ⟨k, h1, _⟩
  · have := h1 x (by rw [h.len]; exact hx)
    rw [dat_get (by rw [h.len]; exact hx), (h.zero hx).2 hc] at this
    exact this rfl
  · omega
theorem Ahd.some {g : List (List Nat)} {out : List Nat} {A : List Int} (h : Ahd g out A) {k : Nat} (hi : IsIdx A 0 (k : Int)) : k < g.length ∧ cand g out k = true ∧ nxtO g out = .some k := by
  rcases hi with ⟨h0, _⟩ | ⟨k', h1, h2, h3, h4⟩
  · omega
  · obtain rfl : k' = k := by omega
    have hk : k' < g.length := by rw [← h.len]; exact h2
    have hc := (h.zero hk).1 (by rw [dat_get h2] at h3; exact Option.some.inj h3)
    refine ⟨hk, hc, ?_⟩
    unfold nxtO
    rw [List.find?_range_eq_some]
    refine ⟨hc, by simpa using hk, fun j hj => ?_⟩
    rw [Bool.not_eq_true']
    cases hcj : cand g out j with
    | false => rfl
    | true =>
      have hjn : j < g.length := by omega
      have := h4 j hj
      rw [dat_get (by rw [h.len]; exact hjn), (h.zero hjn).2 hcj] at this
      exact absurd rfl this
theorem cnt_le (g : List (List Nat)) (out : List Nat) (i : Nat) : cnt g out i ≤ g.length := by
  unfold cnt
  have := List.length_filter_le (fun m => decide (i ∈ row g m ∧ m ∉ out)) (List.range g.length)
  simpa using this
theorem AhdK.bd {g : List (List Nat)} {out : List Nat} {A : List Int} {x k : Nat} (h : AhdK g out x k A) {i : Nat} (hi : i < g.length) : -1 ≤ dat A i ∧ dat A i ≤ 400 + g.length := by
  have := cnt_le g out i
  rw [h.at_ i hi]
  split
  · omega
  · split <;> omega
theorem AhdP.bd {g : List (List Nat)} {A : List Int} {i k : Nat} (h : AhdP g i k A) {j : Nat} (hj : j < g.length) : 0 ≤ dat A j ∧ dat A j ≤ i + 1 := by
  have := rv_len g i k j
  rw [h.at_ j hj]
  unfold pre
  omega
theorem ordM_some {g : List (List Nat)} {out : List Nat} {k x : Nat} (hk : k < g.length) (hn : nxtO g out = .some x) : ordM g (g.length - k) out = ordM g (g.length - (k + 1)) (out ++ [x]) := by
  rw [show g.length - k = (g.length - (k + 1)) + 1 by omega]
  conv => lhs; unfold ordM
  rw [hn]
theorem ordM_none {g : List (List Nat)} {out : List Nat} {k : Nat} (hk : k < g.length) (hn : nxtO g out = .none) : ordM g (g.length - k) out = .none := by
  rw [show g.length - k = (g.length - (k + 1)) + 1 by omega]
  unfold ordM
  rw [hn]
theorem VG.chk {g : List (List Nat)} (hg : VG g) (l : List Nat) (hl : ∀ x ∈ l, x < g.length) : Proofs.Ytnhhhnhakpambaa.chk (cst g) (l.map fun n : Nat => (n : Int)) = 0 := by
  unfold Proofs.Ytnhhhnhakpambaa.chk
  rw [vb_true hg.vldI, if_neg (by decide), if_pos]
  refine nb_true fun x hx => ?_
  obtain ⟨y, hy, rfl⟩ := List.mem_map.1 hx
  have := hl y hy
  rw [cst_len]; omega
/-- What Order returns of a valid graph. -/
def OrdP (g : List (List Nat)) (w : World) (e : Ending) (w' : World) : Prop :=
  (∃ l v, ordM g g.length [] = .some l ∧ e = .returned (.tuple #[v, .int .i64 0]) ∧ Sl nv w' v l ∧ Below w.heap.size w w') ∨ (ordM g g.length [] = .none ∧ e = .returned (.tuple #[.slice .none 0 0, .int .i64 6]) ∧ Below w.heap.size w w')
set_option maxHeartbeats 4000000 in
theorem order_any (v : Value) (g : List (List Nat)) (w : World) (h : Gr nv w v g) (hg : VG g) :
    Calls Try.prog 32 #[v] w (OrdP g w) := by
  obtain ⟨A, c, rfl⟩ := h.shape
  have H := Lib.hid h; have Hg := Lib.hid hg
  have hgl := hg.len
  clear h hg
  obtain ⟨i0, hi, hz0, hz1, hz2⟩ := info_parts info_int
  have hchk : chk (cst g) [] = 0 := Hg.out.chk [] (by simp)
  have Hchk := Lib.hid hchk
  clear hchk
  go_enter Try.func32, Try.ntmps32
  go_wp2_with fail
  refine (check_any _ _ _ [] _ H.out.cst Hg.out.lim.cst Sl.nil (by simp)).mono ?_
  rintro e w0 ⟨rfl, hb0⟩
  rw [Hchk.out]
  have Hb0 := Lib.hid hb0
  have hb0s := hb0.size
  clear hb0
  go_wp2_with (at_make; refine wpList_make_full _ rfl _ _ _ rfl w0.heap.size 3 i0 _ 1 (by kernel_rfl) hi hz0 hz1 _ _ _ _ g.length rfl rfl rfl rfl (by rw [hz2]; omega) (by unfold maxLen; omega) (Nat.le_refl _) ?_; intro w1 hown hgr; have Hb1 := Lib.hid (made_below hgr); have Hrow := Lib.hid (made_row hown); clear hown hgr)
  have hgd1 := Hrow.out.lt
  have hbw : Below w.heap.size w w1 := Hb0.out.trans (Hb1.out.mono hb0s)
  have Hbw := Lib.hid hbw
  have hrw0 : Row w1 w0.heap.size 3 ((List.replicate g.length (0 : Int)).map iv) := by rw [List.map_replicate]; exact Hrow.out
  have Hrw0 := Lib.hid hrw0
  clear hbw hrw0 Hrow
  obtain ⟨gd, hgd⟩ : ∃ gd, gd = w0.heap.size := ⟨_, rfl⟩
  have hgd0 : w.heap.size ≤ gd := by omega
  go_wp2
  go_loopw [24] (fun i wr => ∃ (k : Nat) (A : List Int), k ≤ g.length ∧ i = .int .i64 k ∧ Row wr w0.heap.size 3 (A.map iv) ∧ AhdP g k 0 A ∧ Below w.heap.size w wr ∧ w1.heap.size ≤ wr.heap.size) (fun i _ => g.length - (intOf i).toNat)
  case atStart => exact ⟨0, _, Nat.zero_le _, rfl, Hrw0.out, AhdP.start g, Hbw.out, Nat.le_refl _⟩
  case round =>
    obtain ⟨k, A, hk, rfl, hrow, hahd, hbel, hsz⟩ := hrel
    have Hrw := Lib.hid hrow
    have Hahd := Lib.hid hahd
    have Hbel := Lib.hid hbel
    by_cases hlt : k < g.length
    · obtain ⟨ad, c', A', cr, hs, hcap, hcell0, hrow0⟩ := gr_cell H.out k hlt
      simp only [Value.slice.injEq, true_and] at hs
      obtain ⟨rfl, rfl⟩ := hs
      have hcell := (hbel.cell (World.block_lt_of_cell? _ _ hcell0)).trans hcell0
      have Hrow0 := Lib.hid hrow0
      have hrl := Hg.out.row_len k
      clear hrow hahd hbel hcell0 hrow0
      obtain ⟨wo, rfl⟩ : ∃ wo : World, wo = wr := ⟨_, rfl⟩
      go_wp2
      go_loopw [30] (fun i wr => ∃ (m : Nat) (A : List Int), m ≤ (row g k).length ∧ i = .int .i64 m ∧ Row wr w0.heap.size 3 (A.map iv) ∧ AhdP g k m A ∧ Below w.heap.size w wr ∧ w1.heap.size ≤ wr.heap.size) (fun i _ => (row g k).length - (intOf i).toNat)
      case atStart => exact ⟨0, _, Nat.zero_le _, rfl, Hrw.out, Hahd.out, Hbel.out, hsz⟩
      case round =>
        clear Hrw Hahd Hbel hsz
        obtain ⟨m, A, hm, rfl, hrow, hahd, hbel, hsz⟩ := hrel
        have Hrw := Lib.hid hrow
        have Hbel := Lib.hid hbel
        by_cases hltm : m < (row g k).length
        · obtain ⟨adr, cr', hsr, hcapr, hcellr⟩ := sl_cell (Hrow0.out.below hbel) m hltm
          simp only [Value.slice.injEq, true_and] at hsr
          obtain ⟨rfl, rfl⟩ := hsr
          have hxn := Hg.out.node k _ (List.getElem_mem hltm)
          have Hst := Lib.hid (hahd.step Hg.out hltm)
          have hbd := hahd.bd hxn
          have hdl : A.length = g.length := hahd.len
          generalize (row g k)[m] = x at *
          have hck := dat_cell hrow (by rw [hdl]; exact hxn : x < A.length)
          have hfr := hrow.free x
          have Hr2 := Lib.hid (row_set_iv hrow x (dat A x + 1))
          unfold nv at hcellr
          clear hrow hahd hbel
          generalize dat A x = d at *
          obtain ⟨hbd1, hbd2⟩ := hbd
          go_wp2
          go_roundw
          case rel => exact ⟨m + 1, _, by omega, by go_num, Hr2.out, Hst.out, Hbel.out.setCell (p := ⟨w0.heap.size, x, none⟩) (by show w.heap.size ≤ w0.heap.size; omega) _, by rw [size_setCell]; exact hsz⟩
          case measure => simp [intOf]; omega
        · obtain rfl : m = (row g k).length := by omega
          have Hnx := Lib.hid hahd.next
          clear hrow hahd hbel
          go_wp2
          go_roundw
          case rel => exact ⟨k + 1, _, by omega, by go_num, Hrw.out, Hnx.out, Hbel.out, hsz⟩
          case measure => simp [intOf]; omega
    · obtain rfl : k = g.length := by omega
      have Hf := Lib.hid hahd.fin
      clear hrow hahd hbel Hahd
      go_wp2
      go_loopw [10, 44] (fun ov i wr => ∃ (k : Nat) (A : List Int) (out : List Nat), k ≤ g.length ∧ i = .int .i64 k ∧ out.length = k ∧ wr.ownsRow w1.heap.size 3 1 ov k (out.map nv) ∧ Row wr w0.heap.size 3 (A.map iv) ∧ Ahd g out A ∧ Hid (ordM g g.length [] = ordM g (g.length - k) out) ∧ Below w.heap.size w wr ∧ w1.heap.size ≤ wr.heap.size) (fun _ i _ => g.length - (intOf i).toNat)
      case atStart => exact ⟨0, _, [], Nat.zero_le _, rfl, rfl, World.ownsRow_nil _ _ _ _, Hrw.out, Hf.out, Lib.hid rfl, Hbel.out, hsz⟩
      case round =>
        clear Hrw Hbel hsz Hf
        obtain ⟨k, A, out, hk, rfl, hol, hown, hrow, hahd, hord, hbel, hsz⟩ := hrel
        have Hown := Lib.hid hown
        have Hrw := Lib.hid hrow
        have Hahd := Lib.hid hahd
        have Hbel := Lib.hid hbel
        have Hol := Lib.hid hol
        have hdl : A.length = g.length := hahd.len
        by_cases hlt : k < g.length
        · clear hown hrow hahd hbel hol
          go_wp2_with fail
          refine (index_any _ A 0 _ (Hrw.out.sl hdl) (by omega)).mono ?_
          rintro e w5 ⟨r, rfl, hidx, rfl⟩
          by_cases hr : r = -1
          · subst hr
            have Hno := Lib.hid (hord.out.trans (ordM_none hlt (Hahd.out.none hidx)))
            clear hidx
            go_wp2
            go_ret2
            exact .inr ⟨Hno.out, rfl, Hbel.out⟩
          · obtain ⟨x, rfl⟩ : ∃ x : Nat, r = x := by
              rcases hidx with ⟨h, _⟩ | ⟨k', h, _⟩
              · exact absurd h hr
              · exact ⟨k', h⟩
            obtain ⟨hxn, hcand, hnxt⟩ := Hahd.out.some hidx
            have Hord2 := Lib.hid (hord.out.trans (ordM_some hlt hnxt))
            have hck := dat_cell Hrw.out (by rw [hdl]; exact hxn : x < A.length)
            have hd0 := (Hahd.out.zero hxn).2 hcand
            have Hd0 := Lib.hid hd0
            rw [hd0] at hck
            have hfr := Hrw.out.free x
            have Hl0 : Hid (AhdK g out x 0 (A.set x (-1))) := by
              have := Hahd.out.list hxn hcand
              rw [hd0] at this
              exact this
            have Hfree := Lib.hid (Hahd.out.free hcand)
            have Hcand := Lib.hid hcand
            obtain ⟨ad, c', A', cr, hs, hcap, hcell0, hrow0⟩ := gr_cell H.out x hxn
            simp only [Value.slice.injEq, true_and] at hs
            obtain ⟨rfl, rfl⟩ := hs
            have Hrow0 := Lib.hid hrow0
            have Hcell0 := Lib.hid hcell0
            have hrl := Hg.out.row_len x
            clear hidx hnxt hcand hd0 hr hrow0 hcell0
            go_wp2_with (at_builtin; refine app1S rfl _ _ 38 rfl 3 (.int .i64 0) 8 info_int rfl (by kernel_rfl) w1.heap.size _ _ _ rfl Hown.out (.int .i64 (x : Int)) rfl rfl (by omega) (by omega) hsz ?_; intro v' w2 hown2 hfr2; have Hb2 := Lib.hid (hfr2.below hsz); have Hrw2 := Lib.hid (Hrw.out.below Hb2.out hgd1); have hck2 : w2.cell? ⟨w0.heap.size, x, none⟩ = .some (.int .i64 0) := (dat_cell Hrw2.out (Nat.lt_of_lt_of_eq hxn hdl.symm)).trans (congrArg (fun d => Option.some (Value.int .i64 d)) Hd0.out); have hfr3 := Hrw2.out.free x; have Hcell2 := Lib.hid (((Hbel.out.trans (Hb2.out.mono (Nat.le_trans Hbw.out.size (Nat.le_refl _)))).setCell (p := ⟨w0.heap.size, x, none⟩) (by show w.heap.size ≤ w0.heap.size; omega) (.int .i64 (-1))).cell (World.block_lt_of_cell? _ _ Hcell0.out)); have hcell2 := Hcell2.out.trans Hcell0.out; have Hown2 := Lib.hid hown2; clear hown2 hfr2)
            have Hr3 := Lib.hid (row_set_iv Hrw2.out x (-1))
            have Hbel3 := Lib.hid ((Hbel.out.trans (Hb2.out.mono Hbw.out.size)).setCell (p := ⟨w0.heap.size, x, none⟩) (by show w.heap.size ≤ w0.heap.size; omega) (.int .i64 (-1)))
            have hsz3 : w1.heap.size ≤ (w2.setCell ⟨w0.heap.size, x, none⟩ (.int .i64 (-1))).heap.size := by rw [size_setCell]; exact Nat.le_trans hsz Hb2.out.size
            have Hown3 := Lib.hid (ownsRow_setCell_below Hown2.out (a := ⟨w0.heap.size, x, none⟩) hgd1 (.int .i64 (-1)))
            have Hsz3 := Lib.hid hsz3
            clear hck2 hfr3 hcell2 Hcell2 hck hfr hsz3 hdl
            go_loopw [65] (fun i wr => ∃ (m : Nat) (A : List Int), m ≤ (row g x).length ∧ i = .int .i64 m ∧ wr.ownsRow w1.heap.size 3 1 v' (k + 1) (out.map nv ++ [.int .i64 (x : Int)]) ∧ Row wr w0.heap.size 3 (A.map iv) ∧ AhdK g out x m A ∧ Below w.heap.size w wr ∧ w1.heap.size ≤ wr.heap.size) (fun i _ => (row g x).length - (intOf i).toNat)
            case atStart => exact ⟨0, _, Nat.zero_le _, rfl, Hown3.out, Hr3.out, Hl0.out, Hbel3.out, Hsz3.out⟩
            case round =>
              clear Hown3 Hr3 Hl0 Hbel3 Hsz3 Hown2 Hrw2 Hb2
              obtain ⟨m, A3, hm, rfl, hown, hrow, hahd, hbel, hsz3⟩ := hrel
              have Hown3 := Lib.hid hown
              have Hrw3 := Lib.hid hrow
              have Hbel3 := Lib.hid hbel
              by_cases hltm : m < (row g x).length
              · obtain ⟨adr, cr', hsr, hcapr, hcellr⟩ := sl_cell (Hrow0.out.below hbel) m hltm
                simp only [Value.slice.injEq, true_and] at hsr
                obtain ⟨rfl, rfl⟩ := hsr
                have hyn := Hg.out.node x _ (List.getElem_mem hltm)
                have Hst := Lib.hid (hahd.step Hg.out Hfree.out hltm)
                have hbd := hahd.bd hyn
                have hdl : A3.length = g.length := hahd.len
                generalize (row g x)[m] = y at *
                have hck := dat_cell hrow (by rw [hdl]; exact hyn : y < A3.length)
                have hfr := hrow.free y
                have Hr2 := Lib.hid (row_set_iv hrow y (dat A3 y - 1))
                have Hown4 := Lib.hid (ownsRow_setCell_below hown (a := ⟨w0.heap.size, y, none⟩) hgd1 (.int .i64 (dat A3 y - 1)))
                unfold nv at hcellr
                clear hown hrow hahd hbel
                generalize dat A3 y = d at *
                obtain ⟨hbd1, hbd2⟩ := hbd
                go_wp2
                go_roundw
                case rel => exact ⟨m + 1, _, by omega, by go_num, Hown4.out, Hr2.out, Hst.out, Hbel3.out.setCell (p := ⟨w0.heap.size, y, none⟩) (by show w.heap.size ≤ w0.heap.size; omega) _, by rw [size_setCell]; exact hsz3⟩
                case measure => simp [intOf]; omega
              · obtain rfl : m = (row g x).length := by omega
                have Hnx := Lib.hid (hahd.fin Hahd.out hxn Hcand.out)
                clear hown hrow hahd hbel
                go_wp2
                go_roundw
                case rel => exact ⟨k + 1, _, out ++ [x], by omega, by go_num, by rw [List.length_append, Hol.out]; rfl, by rw [List.map_append]; exact Hown3.out, Hrw3.out, Hnx.out, Hord2, Hbel3.out, hsz3⟩
                case measure => simp [intOf]; omega
        · obtain rfl : k = g.length := by omega
          have Hfin : Hid (ordM g g.length [] = .some out) := by
            have := hord.out
            rw [Nat.sub_self] at this
            exact this
          clear hown hrow hahd hbel hol
          go_wp2
          go_ret2
          exact .inl ⟨_, _, Hfin.out, rfl, Sl.of_own Hown.out, Hbel.out⟩
end Go.Proofs.Ytnhhhnhakpambaa
