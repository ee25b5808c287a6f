/- The contract of the reference's Path on valid graphs. -/
import Derived.Test.YtnhhhnhakpambaaRefErr
namespace Go.Proofs.Ytnhhhnhakpambaa
open Go.RowKit

/-- The first successor that is nearer by 1, as the reference looks for it: behind m successors. -/
def NxtI (r s m : Nat) (x : Int) : Prop := (m ≤ r ∧ x = -1) ∨ (r < m ∧ x = s)
set_option maxRecDepth 20000 in
set_option maxHeartbeats 4000000 in
theorem rpath_ok (v : Value) (g : List (List Nat)) (u t : Nat) (w : World) (h : Gr nv w v g) (hg : VG g) (hu : u < g.length) (ht : t < g.length) :
    Calls Try.prog 27 #[v, .int .i64 (u : Int), .int .i64 (t : Int)] w (PathR g u t w) := by
  obtain ⟨A, c, rfl⟩ := h.shape
  have H := Lib.hid h; have Hg := Lib.hid hg
  have hgl := hg.len
  have Hnb := Lib.hid (nb_true (n := g.length) (l := [u, t].map fun n : Nat => (n : Int)) (by intro x hx; simp at hx; rcases hx with rfl | rfl <;> omega))
  clear h hg
  go_enter Try.func27, Try.ntmps27
  go_wp2_with fail
  refine (rback_ok _ g _ H.out Hg.out).mono ?_
  rintro e w0 ⟨Ab, cb, rfl, hback, hb⟩
  have hrl := revM_len g
  rw [hrl] at hback ⊢
  have HB := Lib.hid hb
  replace H := Lib.hid (H.out.below hb)
  have Hback := Lib.hid hback
  clear hb hback hrl
  go_wp2_with fail
  refine (rnodes_any _ _ g ([u, t].map fun n : Nat => (n : Int)) _ (H.out.below (below_alloc _ _)) (lit_sl nv _ _ _ 2 [u, t] rfl rfl _).nv_iv (by simp)).mono ?_
  rintro e w1 ⟨rfl, hb⟩
  rw [Hnb.out]
  replace hb := (below_alloc w0 _).trans (hb.mono (by simp))
  replace HB := Lib.hid (HB.out.trans (hb.mono HB.out.size))
  replace H := Lib.hid (H.out.below hb)
  replace Hback := Lib.hid (Hback.out.below hb)
  clear hb Hnb
  go_wp2_with fail
  refine (rdist_ok _ _ (revM g) [t] _ (Hback.out.below (below_alloc _ _)) (revM_vg Hg.out) (lit_sl nv _ _ _ 1 [t] rfl rfl _) (by simp) (by simpa [revM_len] using ht)).mono ?_
  rintro e w2 ⟨L, gl, rfl, hL, hrow, hb⟩
  rw [revM_len]
  replace hb := (below_alloc w1 _).trans (hb.mono (by simp))
  replace HB := Lib.hid (HB.out.trans (hb.mono HB.out.size))
  replace H := Lib.hid (H.out.below hb)
  have HL := Lib.hid hL
  have Hrow := Lib.hid hrow
  have hll : L.length = g.length := by rw [hL.len, revM_len]
  have hcu := dat_cell hrow (by rw [hll]; exact hu : u < L.length)
  have hglt := hrow.lt
  have hlo := hL.lo (u := u) (by rw [revM_len]; exact hu)
  clear hb hL hrow Hback
  by_cases he : dat L u = -1
  · have he2 : decide (dat L u < 0) = true := decide_eq_true (by omega)
    have He := Lib.hid he
    clear he hlo
    go_wp2
    go_ret2
    exact ⟨L, HL.out, .inl ⟨He.out, rfl, HB.out⟩⟩
  · have he2 : decide (dat L u < 0) = false := decide_eq_false (by omega)
    obtain ⟨k, hk⟩ : ∃ k : Nat, dat L u = k := by
      rcases HL.out.at_ u (by rw [revM_len]; exact hu) with ⟨h1, _⟩ | ⟨k, h1, _⟩
      · exact absurd h1 he
      · exact ⟨k, h1⟩
    have Hk := Lib.hid hk
    have Hsteps := Lib.hid (step_at Hg.out HL.out hu hk)
    have hkn : k ≤ 400 := by
      rcases HL.out.at_ u (by rw [revM_len]; exact hu) with ⟨h1, _⟩ | ⟨k', h1, h2⟩
      · exact absurd h1 he
      · have := h2.lt (revM_vg Hg.out) (by simpa [revM_len] using ht)
        rw [revM_len] at this
        omega
    clear he hk hlo
    have Hown := Lib.hid (own_litS w2 3 #[.int .i64 (u : Int)] 1 w2.heap.size [.int .i64 (u : Int)] rfl rfl (by decide) rfl)
    have hbs := HB.out.size
    go_wp2
    go_loopw [12, 13] (fun o a wr => ∃ j : Nat, j ≤ k ∧ a = .int .i64 (stepM g L u j) ∧ wr.ownsRow w2.heap.size 3 1 o (j + 1) ((pathM g L u j).map nv) ∧ Below w2.heap.size w2 wr) (fun _ a _ => (dat L (intOf a).toNat).toNat)
    case atStart => exact ⟨0, Nat.zero_le _, rfl, Hown.out, below_alloc _ _⟩
    case round =>
      clear Hown hcu
      obtain ⟨j, hj, rfl, hown, hbel⟩ := hrel
      have Hown := Lib.hid hown; have Hbel := Lib.hid hbel
      have hsz := hbel.size
      obtain ⟨hsn, hsd⟩ := Hsteps.out j hj
      obtain ⟨adg, cg, A', cr, hs, hcapg, hcell0, hrow0⟩ := gr_cell (H.out.below hbel) (stepM g L u j) hsn
      simp only [Value.slice.injEq, true_and] at hs
      obtain ⟨rfl, rfl⟩ := hs
      have hcd := dat_cell (Hrow.out.below hbel hglt) (by rw [hll]; exact hsn : stepM g L u j < L.length)
      by_cases hjk : j = k
      · have hd0 : decide (0 < dat L (stepM g L u j)) = false := decide_eq_false (by omega)
        have Hjk := Lib.hid hjk
        obtain ⟨Ap, cp, rfl⟩ := (Sl.of_own hown).shape
        clear hown hbel hsd hjk hcell0 hrow0
        generalize stepM g L u j = x at *
        generalize dat L x = dx at *
        go_wp2
        go_ret2
        exact ⟨L, HL.out, .inr ⟨k, _, Hk.out, rfl, by rw [← Hjk.out]; exact Sl.of_own Hown.out, HB.out.trans (Hbel.out.mono hbs)⟩⟩
      · have hd0 : decide (0 < dat L (stepM g L u j)) = true := decide_eq_true (by omega)
        obtain ⟨r, hat, hmem, hnd⟩ := near_next Hg.out HL.out (u := stepM g L u j) (d := k - (j + 1)) hsn (by rw [hsd]; omega)
        have Hnext := Lib.hid (pathM_next g L u j)
        have Hstep := Lib.hid (show stepM g L u (j + 1) = nxtS g L (stepM g L u j) from rfl)
        have hmeas : (dat L (nxtS g L (stepM g L u j))).toNat < (dat L (stepM g L u j)).toNat := by rw [hnd, hsd]; omega
        have hdn1 : 1 ≤ dat L (stepM g L u j) ∧ dat L (stepM g L u j) ≤ 1000 := by rw [hsd]; omega
        have hrl := Hg.out.row_len (stepM g L u j)
        have Hrl := Lib.hid (Hg.out.node (stepM g L u j))
        have Hat := Lib.hid hat
        have hrr := (List.getElem?_eq_some_iff.1 hat.1).1
        have hssn := Hg.out.node _ _ hmem
        have Hrow0 := Lib.hid hrow0
        have Hlrow := Lib.hid (Hrow.out.below hbel hglt)
        have HM := Lib.hid hmeas
        have hjk2 : j < k := by omega
        clear hown hbel hsd hjk hrow0 hat hmem hnd hmeas
        generalize nxtS g L (stepM g L u j) = s at *
        generalize stepM g L u j = x at *
        obtain ⟨dn, hdn⟩ : ∃ dn, dn = dat L x := ⟨_, rfl⟩
        rw [← hdn] at hcd hdn1 Hat hd0 HM
        have Hdn := Lib.hid hdn
        clear hdn
        obtain ⟨hdn1, hdn2⟩ := hdn1
        have i4 : IntKind.i64.wrap (dn - 1) = dn - 1 := IntWalk.i64_in _ (by omega)
        have hx0 : (0 : Int) ≤ (x : Int) := by omega
        have hx1 : (x : Int) < (g.length : Int) := by omega
        go_wp2
        go_loopw [14, 15] (fun nx i wi => ∃ (m : Nat) (z : Int), m ≤ (row g x).length ∧ i = .int .i64 m ∧ nx = .int .i64 z ∧ Hid (NxtI r s m z) ∧ ∃ q, wi = wr.drewN q) (fun _ i _ => (row g x).length - (intOf i).toNat)
        case atStart => exact ⟨0, -1, Nat.zero_le _, rfl, rfl, Lib.hid (.inl ⟨Nat.zero_le _, rfl⟩), 0, rfl⟩
        case round =>
          obtain ⟨m, z, hm, rfl, rfl, hnx, q, rfl⟩ := hrel
          by_cases hlt : m < (row g x).length
          · obtain ⟨adr, crr, hsr, hcapr, hcellr⟩ := sl_cell Hrow0.out m hlt
            simp only [Value.slice.injEq, true_and] at hsr
            obtain ⟨rfl, rfl⟩ := hsr
            have hyn := Hrl.out _ (List.getElem_mem hlt)
            have hys : (row g x)[m]? = some (row g x)[m] := List.getElem?_eq_getElem hlt
            have Hys := Lib.hid hys
            generalize (row g x)[m] = y at *
            have hcy := dat_cell Hlrow.out (by rw [hll]; exact hyn : y < L.length)
            have hm0 : (0 : Int) ≤ (m : Int) := by omega
            have hm1 : (m : Int) < ((row g x).length : Int) := by omega
            have hy0 : (0 : Int) ≤ (y : Int) := by omega
            have hy1 : (y : Int) < (g.length : Int) := by omega
            unfold nv at hcellr
            clear hys
            rcases hnx.out with ⟨h1, rfl⟩ | ⟨h1, rfl⟩
            · by_cases hmr : m = r
              · obtain rfl : s = y := by have h2 := Hat.out.1; rw [← hmr, Hys.out] at h2; exact (Option.some.inj h2).symm
                have hdy : dat L s = dn - 1 := Hat.out.2.1
                have d1 : (dat L s == dn - 1) = true := by rw [beq_iff_eq]; exact hdy
                have Hnx2 : Hid (NxtI r s (m + 1) s) := Lib.hid (.inr ⟨by omega, rfl⟩)
                clear hdy hmr hnx Hys
                generalize dat L s = dy at *
                go_wp2
                go_quiet (fail)
                go_wp2
                go_roundw
                case rel => exact ⟨m + 1, s, by omega, by go_num, rfl, Hnx2, _, rfl⟩
                case measure => simp [intOf]; omega
              · have hdy : dat L y ≠ dn - 1 := Hat.out.2.2 m y (by omega) Hys.out
                have d1 : (dat L y == dn - 1) = false := by rw [beq_eq_false_iff_ne]; exact hdy
                have Hnx2 : Hid (NxtI r s (m + 1) (-1)) := Lib.hid (.inl ⟨by omega, rfl⟩)
                clear hdy hmr hnx Hys
                generalize dat L y = dy at *
                go_wp2
                go_quiet (fail)
                go_wp2
                go_roundw
                case rel => exact ⟨m + 1, -1, by omega, by go_num, rfl, Hnx2, _, rfl⟩
                case measure => simp [intOf]; omega
            · have d0 : decide ((s : Int) < 0) = false := decide_eq_false (by omega)
              have Hnx2 : Hid (NxtI r s (m + 1) s) := Lib.hid (.inr ⟨by omega, rfl⟩)
              clear hnx Hys
              generalize dat L y = dy at *
              go_wp2
              go_quiet (fail)
              go_wp2
              go_roundw
              case rel => exact ⟨m + 1, s, by omega, by go_num, rfl, Hnx2, _, rfl⟩
              case measure => simp [intOf]; omega
          · obtain rfl : m = (row g x).length := by omega
            obtain rfl : z = (s : Int) := by
              rcases hnx.out with ⟨h1, _⟩ | ⟨_, h⟩
              · omega
              · exact h
            have hpl := pathM_len g L u j
            clear hnx i4
            go_wp2_with (at_builtin; refine app1S rfl _ _ 38 rfl 3 (.int .i64 0) 8 info_int rfl (by kernel_rfl) w2.heap.size _ _ _ rfl (own_drewN Hown.out q) (.int .i64 (s : Int)) rfl rfl (by omega) (by omega) (by simpa using hsz) ?_; intro v' w5 hown5 hfr5)
            have hb5 := hfr5.below (by simpa using hsz)
            have Hown5 := Lib.hid hown5
            have Hb5 := Lib.hid ((below_drew Hbel.out q).trans hb5)
            clear hown5 hfr5 hb5
            go_roundw
            case rel => exact ⟨j + 1, by omega, by rw [Hstep.out], by rw [Hnext.out, List.map_append]; exact Hown5.out, Hb5.out⟩
            case measure => have hM := HM.out; rw [Hdn.out] at hM; simpa [intOf] using hM
end Go.Proofs.Ytnhhhnhakpambaa
