/- The contracts of Reach and Equal. -/
import Derived.Test.YtnhhhnhakpambaaGraphFns
import Derived.Test.YtnhhhnhakpambaaGraphSame
namespace Go.Proofs.Ytnhhhnhakpambaa
open Go.RowKit

set_option maxHeartbeats 400000 in
theorem sleq_any (va vb : Value) (a b : List Int) (w : World) (ha : Sl iv w va a) (hb : Sl iv w vb b) (la : Room2 a.length) (lb : Room2 b.length) :
    Calls Try.prog 43 #[va, vb] w fun e w' => e = .returned (.bool (decide (a = b))) ∧ ∃ m, w' = w.drewN m := by
  obtain ⟨A, c, rfl⟩ := ha.shape
  obtain ⟨A2, c2, rfl⟩ := hb.shape
  have Ha := Lib.hid ha; have Hb := Lib.hid hb
  unfold Room2 at la lb
  clear ha hb
  by_cases hl : a.length = b.length
  · go_enter Try.func43, Try.ntmps43
    have Hl := Lib.hid hl
    rw [← hl] at Hb ⊢
    clear hl
    go_wp2
    go_loopw [13] (fun i wr => ∃ k : Nat, k ≤ a.length ∧ i = .int .i64 k ∧ a.take k = b.take k ∧ ∃ m, wr = w.drewN m) (fun i _ => a.length - (intOf i).toNat)
    case atStart => exact ⟨0, Nat.zero_le _, rfl, rfl, 0, rfl⟩
    case round =>
      obtain ⟨k, hk, rfl, hall, m, rfl⟩ := hrel
      have Hall := Lib.hid hall; clear hall
      by_cases hlt : k < a.length
      · obtain ⟨ad, c', hs, hcap, hcell⟩ := sl_cell Ha.out k hlt
        simp only [Value.slice.injEq, true_and] at hs
        obtain ⟨rfl, rfl⟩ := hs
        obtain ⟨ad2, c2', hs, hcap2, hcell2⟩ := sl_cell Hb.out k (by have := Hl.out; omega)
        simp only [Value.slice.injEq] at hs
        obtain ⟨rfl, hl2, rfl⟩ := hs
        clear hl2
        have hab : a.take (k + 1) = b.take (k + 1) ↔ a[k] = b[k]'(by have := Hl.out; omega) := by
          have := Hl.out
          rw [List.take_succ_eq_append_getElem hlt, List.take_succ_eq_append_getElem (l := b) (by omega), Hall.out]
          exact ⟨fun h => by simpa using List.append_cancel_left h, fun h => by rw [h]⟩
        have Hab := Lib.hid hab; clear hab
        have hne : ¬ a[k] = b[k]'(by have := Hl.out; omega) → a ≠ b := fun h e => by subst e; exact h rfl
        have Hne := Lib.hid hne; clear hne
        generalize a[k] = x at *
        generalize b[k]'(by have := Hl.out; omega) = y at *
        unfold iv at hcell hcell2
        by_cases hxy : x = y
        · have hn := Lib.hid (Hab.out.2 hxy)
          have hne : (x != y) = false := by rw [bne_eq_false_iff_eq]; omega
          clear hxy
          go_wp2
          go_quiet (fail)
          go_wp2
          go_roundw
          case rel => exact ⟨k + 1, by omega, by go_num, hn.out, _, rfl⟩
          case measure => simp [intOf]; omega
        · have hd : decide (a = b) = false := decide_eq_false (Hne.out hxy)
          have hne : (x != y) = true := by rw [bne_iff_ne]; omega
          have Hd := Lib.hid hd
          clear hxy hd
          go_wp2
          go_quiet (fail)
          go_wp2
          go_ret
          exact ⟨by rw [Hd.out]; rfl, m + nq, by simp⟩
      · have hd : decide (a = b) = true := by
          rw [decide_eq_true_iff]
          have := Hall.out
          have h2 := Hl.out
          rwa [List.take_of_length_le (by omega), List.take_of_length_le (by omega)] at this
        have Hd := Lib.hid hd
        clear hd
        go_wp2
        go_ret
        exact ⟨by rw [Hd.out]; rfl, _, rfl⟩
  · have hd : decide (a = b) = false := decide_eq_false fun h => hl (congrArg List.length h)
    rw [hd]
    have hne : ((a.length : Int) != (b.length : Int)) = true := by rw [bne_iff_ne]; omega
    clear hd hl
    go_enter Try.func43, Try.ntmps43
    go_wp2
    go_ret
    exact ⟨rfl, 0, rfl⟩
theorem sleq_b {va vb : Value} {a b : List Int} {w : World} {bb : Bool} (hd : decide (a = b) = bb) (ha : Sl iv w va a) (hb : Sl iv w vb b) (la : a.length ≤ 10000) (lb : b.length ≤ 10000) :
    Calls Try.prog 43 #[va, vb] w (BoolB bb w) :=
  (sleq_any va vb a b w ha hb (by unfold Room2; omega) (by unfold Room2; omega)).mono fun _ _ ⟨h1, m, h2⟩ => ⟨by rw [h1, hd], by rw [h2]; exact Below.drewNs w m⟩
set_option maxHeartbeats 1000000 in
theorem eqfunc_any (va vb : Value) (a b : List (List Int)) (w : World) (ha : Gr iv w va a) (hb : Gr iv w vb b) (la : Lim a) (lb : Lim b) :
    Calls Try.prog 42 #[va, vb, .func (.func 43) #[] #[]] w (BoolB (decide (a = b)) w) := by
  obtain ⟨A, c, rfl⟩ := ha.shape
  obtain ⟨A2, c2, rfl⟩ := hb.shape
  have Ha := Lib.hid ha; have Hb := Lib.hid hb; have La := Lib.hid la.2; have Lb := Lib.hid lb.2
  have hla := la.1
  have hlb := lb.1
  clear ha hb la lb
  by_cases hl : a.length = b.length
  · have Hl := Lib.hid hl
    rw [← hl] at Hb ⊢
    clear hl
    go_enter Try.func42, Try.ntmps42
    go_wp2
    go_loopw [17] (fun i wr => ∃ k : Nat, k ≤ a.length ∧ i = .int .i64 k ∧ Hid (a.take k = b.take k) ∧ Below w.heap.size w wr) (fun i _ => a.length - (intOf i).toNat)
    case atStart => exact ⟨0, Nat.zero_le _, rfl, Lib.hid rfl, Below.refl _ _⟩
    case round =>
      obtain ⟨k, hk, rfl, Hall, hbel⟩ := hrel
      have Hbel := Lib.hid hbel
      by_cases hlt : k < a.length
      · obtain ⟨ad, c', A', cr, hs, hcap, hcell0, hrow⟩ := gr_cell Ha.out k hlt
        simp only [Value.slice.injEq, true_and] at hs
        obtain ⟨rfl, rfl⟩ := hs
        obtain ⟨ad2, c2', A2', cr2, hs, hcap2, hcell20, hrow2⟩ := gr_cell Hb.out k (by have := Hl.out; omega)
        simp only [Value.slice.injEq] at hs
        obtain ⟨rfl, hl2, rfl⟩ := hs
        have hcell := (hbel.cell (World.block_lt_of_cell? _ _ hcell0)).trans hcell0
        have hcell2 := (hbel.cell (World.block_lt_of_cell? _ _ hcell20)).trans hcell20
        have Hab := Lib.hid (graph_take hlt (by have := Hl.out; omega) Hall.out)
        have hne : ¬ row a k = row b k → a ≠ b := fun h e => by subst e; exact h rfl
        have Hne := Lib.hid hne
        have Hra := Lib.hid (hrow.below hbel); have Hrb := Lib.hid (hrow2.below hbel)
        have hl1 := La.out k
        have hl3 := Lb.out k
        rw [← Hl.out] at hcap2
        clear hne hrow hrow2 hcell0 hcell20 hl2 hbel
        generalize row a k = x at *
        generalize row b k = y at *
        by_cases hxy : x = y
        · have hn := Lib.hid (Hab.out.2 hxy)
          have Hd := Lib.hid (decide_eq_true hxy)
          clear hxy Hne Hab
          go_wp2_with fail
          refine (sleq_b Hd.out Hra.out Hrb.out (by omega) (by omega)).mono ?_
          rintro e w5 ⟨rfl, hb5⟩
          have Hb5 := Lib.hid (Hbel.out.trans (hb5.mono Hbel.out.size))
          clear hb5
          go_wp2
          go_roundw
          case rel => exact ⟨k + 1, by omega, by go_num, hn, Hb5.out⟩
          case measure => simp [intOf]; omega
        · have Hde := Lib.hid (decide_eq_false (Hne.out hxy))
          have Hd := Lib.hid (decide_eq_false hxy)
          clear hxy Hne Hab
          go_wp2_with fail
          refine (sleq_b Hd.out Hra.out Hrb.out (by omega) (by omega)).mono ?_
          rintro e w5 ⟨rfl, hb5⟩
          have Hb5 := Lib.hid (Hbel.out.trans (hb5.mono Hbel.out.size))
          clear hb5
          go_wp2
          go_ret
          exact ⟨by rw [Hde.out]; rfl, Hb5.out⟩
      · have hd : decide (a = b) = true := by
          rw [decide_eq_true_iff]
          have := Hall.out
          have h2 := Hl.out
          rwa [List.take_of_length_le (by omega), List.take_of_length_le (by omega)] at this
        have Hd := Lib.hid hd
        clear hd hbel
        go_wp2
        go_ret
        exact ⟨by rw [Hd.out]; rfl, Hbel.out⟩
  · have hd : decide (a = b) = false := decide_eq_false fun h => hl (congrArg List.length h)
    rw [hd]
    have hne : ((a.length : Int) != (b.length : Int)) = true := by rw [bne_iff_ne]; omega
    clear hd hl
    go_enter Try.func42, Try.ntmps42
    go_wp2
    go_ret
    exact ⟨rfl, Below.refl _ _⟩
theorem gequal_any (va vb : Value) (a b : List (List Int)) (w : World) (ha : Gr iv w va a) (hb : Gr iv w vb b) (la : Lim a) (lb : Lim b) :
    Calls Try.prog 20 #[va, vb] w (BoolB (decide (a = b)) w) := by
  obtain ⟨bb, hbb⟩ : ∃ bb, bb = decide (a = b) := ⟨_, rfl⟩
  rw [← hbb]
  obtain ⟨A, c, rfl⟩ := ha.shape
  obtain ⟨A2, c2, rfl⟩ := hb.shape
  have H := Lib.hid (eqfunc_any _ _ a b w ha hb la lb)
  rw [← hbb] at H
  clear ha hb la lb hbb
  go_enter Try.func20, Try.ntmps20
  go_wp2_with fail
  refine H.out.mono ?_
  rintro e w1 ⟨rfl, hb⟩
  have Hb := Lib.hid hb
  clear hb H
  go_wp2
  go_ret
  exact ⟨rfl, Hb.out⟩
/-- The nodes with a distance. -/
def rchM (n : Nat) (D : List Int) : List Nat := (List.range n).filter fun v => decide (dat D v ≠ -1)
theorem rchM_len (n : Nat) (D : List Int) : (rchM n D).length ≤ n := by
  have := List.length_filter_le (fun v => decide (dat D v ≠ -1)) (List.range n)
  unfold rchM
  simpa using this
theorem rchM_next (D : List Int) (k : Nat) : rchM (k + 1) D = if dat D k = -1 then rchM k D else rchM k D ++ [k] := by
  unfold rchM
  rw [List.range_succ, List.filter_append]
  split
  · rename_i h; simp [h]
  · rename_i h; simp [h]
theorem rchM_mem {n : Nat} {D : List Int} {x : Nat} : x ∈ rchM n D ↔ x < n ∧ dat D x ≠ -1 := by
  unfold rchM
  rw [List.mem_filter, List.mem_range]
  simp
theorem IsDist.rch {g : List (List Nat)} {S : List Nat} {D : List Int} (h : IsDist g S D) {x : Nat} (hx : x < g.length) : dat D x ≠ -1 ↔ ∃ k, RchN g S k x := by
  rcases h.at_ x hx with ⟨h1, h2⟩ | ⟨k, h1, h2⟩
  · exact ⟨fun h => absurd h1 h, fun ⟨k, hk⟩ => absurd hk (h2 k)⟩
  · exact ⟨fun _ => ⟨k, h2.1⟩, fun _ => by omega⟩
def ReachR (g : List (List Nat)) (S : List Nat) (w : World) (e : Ending) (w' : World) : Prop := ∃ D v, e = .returned (.tuple #[v, .int .i64 0]) ∧ IsDist g S D ∧ Sl nv w' v (rchM g.length D) ∧ Below w.heap.size w w'
set_option maxHeartbeats 1000000 in
theorem reach_ok (v vl : Value) (g : List (List Nat)) (S : List Nat) (w : World) (h : Gr nv w v g) (hg : VG g) (hS : Sl nv w vl S) (hl : S.length ≤ 10000) (hn : ∀ x ∈ S, x < g.length) :
    Calls Try.prog 21 #[v, vl] w (ReachR g S w) := by
  obtain ⟨A, c, rfl⟩ := h.shape
  obtain ⟨A2, c2, rfl⟩ := hS.shape
  have H := Lib.hid h; have Hg := Lib.hid hg; have HS := Lib.hid hS; have Hn := Lib.hid hn
  have hgl := hg.len
  have Hchk := Lib.hid (hg.chk S hn)
  clear h hg hS hn
  go_enter Try.func21, Try.ntmps21
  go_wp2_with fail
  refine (check_any _ _ _ (S.map fun n : Nat => (n : Int)) _ H.out.cst Hg.out.lim.cst HS.out.nv_iv (by rw [List.length_map]; exact hl)).mono ?_
  rintro e w0 ⟨rfl, hb0⟩
  rw [Hchk.out]
  have Hb0 := Lib.hid hb0
  have hb0s := hb0.size
  clear hb0
  go_wp2_with fail
  refine (distances_any _ _ g S _ (H.out.below Hb0.out) Hg.out (HS.out.below Hb0.out) hl Hn.out).mono ?_
  rintro e w1 ⟨D, b, rfl, hD, hb, hrow, hb1⟩
  have HD := Lib.hid hD; have Hrow := Lib.hid hrow; have Hb1 := Lib.hid (Hb0.out.trans (hb1.mono hb0s))
  have hbl := hrow.lt
  have hdl := hD.len
  clear hD hrow hb1
  go_wp2
  go_loopw [7, 20] (fun o i wr => ∃ k : Nat, k ≤ g.length ∧ i = .int .i64 k ∧ wr.ownsRow w1.heap.size 3 1 o (rchM k D).length ((rchM k D).map nv) ∧ Row wr b 3 (D.map iv) ∧ Below w.heap.size w wr ∧ w1.heap.size ≤ wr.heap.size) (fun _ i _ => g.length - (intOf i).toNat)
  case atStart => exact ⟨0, Nat.zero_le _, rfl, World.ownsRow_nil _ _ _ _, Hrow.out, Hb1.out, Nat.le_refl _⟩
  case round =>
    obtain ⟨k, hk, rfl, hown, hrow, hbel, hsz⟩ := hrel
    have Hown := Lib.hid hown; have Hrw := Lib.hid hrow; have Hbel := Lib.hid hbel
    by_cases hlt : k < g.length
    · have hck := dat_cell hrow (by rw [hdl]; exact hlt : k < D.length)
      have hnx := rchM_next D k
      have hlen := rchM_len k D
      clear hown hrow hbel
      by_cases he : dat D k = -1
      · have he2 : (dat D k != -1) = false := by rw [bne_eq_false_iff_eq]; exact he
        rw [if_pos he] at hnx
        have Hnx := Lib.hid hnx
        clear hnx he
        generalize dat D k = d at *
        go_wp2
        go_roundw
        case rel => exact ⟨k + 1, by omega, by go_num, by rw [Hnx.out]; exact Hown.out, Hrw.out, Hbel.out, hsz⟩
        case measure => simp [intOf]; omega
      · have he2 : (dat D k != -1) = true := by rw [bne_iff_ne]; exact he
        rw [if_neg he] at hnx
        have Hnx := Lib.hid hnx
        clear hnx he
        generalize dat D k = d at *
        go_wp2_with (at_builtin; refine app1S rfl _ _ 38 rfl 3 (.int .i64 0) 8 info_int rfl (by kernel_rfl) w1.heap.size _ _ _ rfl Hown.out (.int .i64 (k : Int)) rfl rfl (by omega) (by omega) hsz ?_; intro v' w2 hown2 hfr)
        have hb2 := hfr.below hsz
        have Hown2 := Lib.hid hown2
        have Hrw2 := Lib.hid (Hrw.out.below hb2 hbl)
        have Hbel2 := Lib.hid (Hbel.out.trans (hb2.mono Hb1.out.size))
        have hsz2 := Nat.le_trans hsz hb2.size
        clear hown2 hfr hb2
        go_roundw
        case rel => exact ⟨k + 1, by omega, by go_num, by rw [Hnx.out, List.length_append, List.map_append]; exact Hown2.out, Hrw2.out, Hbel2.out, hsz2⟩
        case measure => simp [intOf]; omega
    · obtain rfl : k = g.length := by omega
      clear hown hrow hbel
      go_wp2
      go_ret2
      exact ⟨D, _, rfl, HD.out, Sl.of_own Hown.out, Hbel.out⟩
end Go.Proofs.Ytnhhhnhakpambaa
