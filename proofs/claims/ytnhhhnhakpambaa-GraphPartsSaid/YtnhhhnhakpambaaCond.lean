/- The contract of Condense on valid graphs. -/
import Derived.Test.YtnhhhnhakpambaaCondM
import Derived.Deep.RegionHeld3
import Derived.Deep.AppendLies
namespace Go.Proofs.Ytnhhhnhakpambaa
open Go.RowKit

/-- The leaders that a run of the program finds. -/
structure LdM (g : List (List Nat)) (M : List Nat) : Prop where
  run : ∃ s, LOut g g.length s ∧ s.stack = [] ∧ LInv g s ∧ leadM (revM g) s.left.reverse = M.map (fun n : Nat => (n : Int))
  len : M.length = g.length
  lt : ∀ x ∈ M, x < g.length
theorem LdM.scc {g : List (List Nat)} (hg : VG g) {M : List Nat} (h : LdM g M) {x y : Nat} (hx : x < g.length) (hy : y < g.length) : lead M x = lead M y ↔ Rea g x y ∧ Rea g y x := by
  obtain ⟨s, h1, h2, h3, h4⟩ := h.run
  exact leads_scc hg h1 h3 h2 h4 h.len hx hy
theorem LdM.lead_lt {g : List (List Nat)} {M : List Nat} (h : LdM g M) {k : Nat} (hk : k < g.length) : lead M k < g.length := by
  unfold lead
  rw [List.getElem?_eq_getElem (by rw [h.len]; exact hk)]
  exact h.lt _ (List.getElem_mem _)
theorem LdM.comps {g : List (List Nat)} {M : List Nat} (h : LdM g M) : compsM g.length M = compS M g.length := compsM_spec fun _ hk => h.lead_lt hk
def edC (g : List (List Nat)) (M : List Nat) : List (List Nat) := edM (compS M g.length).length (edE g (partOf M g.length) g.length)
theorem edC_ok {g : List (List Nat)} (hg : VG g) {M : List Nat} : ∀ e ∈ edE g (partOf M g.length) g.length, e.1 < (compS M g.length).length ∧ e.2 < (compS M g.length).length := by
  intro e he
  obtain ⟨n, y, hn, hy, _, rfl⟩ := edE_mem.1 he
  exact ⟨partOf_lt M hn, partOf_lt M (hg.node n y hy)⟩
theorem compS_len (M : List Nat) (N : Nat) : (compS M N).length ≤ N := by
  unfold compS firsts
  rw [List.length_map]
  exact Nat.le_trans (List.length_filter_le _ _) (by simp)
def CondR (g : List (List Nat)) (w : World) (e : Ending) (w' : World) : Prop := ∃ M A c, LdM g M ∧ e = .returned (.tuple #[.slice (some A) (compS M g.length).length c, .int .i64 0]) ∧ Gr nv w' (.slice (some A) (compS M g.length).length c) (edC g M) ∧ Below w.heap.size w w'
theorem info_pair2 : (Try.prog.info? 55).map (fun i => (i.zero, i.size, i.bytes)) = some (some (.agg #[.int .i64 0, .int .i64 0]), 2, 16) := by kernel_rfl
theorem far_cell2 {w0 w1 w2 : World} {B e n z : Nat} {v u : Value} {xs : List Value} {a : Addr} (hown : w0.ownsRow B e z v n xs) (hgr : w1.grownBy w2 v.ownBlock) (hb : a.block < B) (h : w1.cell? a = some u) : w2.cell? a = some u :=
  hgr.cell h fun e => by have := (hown.lt a.block e.symm).1; omega
theorem own_drewZ {w : World} {B : Nat} {e : TypeId} {z : Nat} {v : Value} {n : Nat} {xs : List Value} (h : w.ownsRow B e z v n xs) (m : Nat) : (w.drewN m).ownsRow B e z v n xs := h
set_option maxRecDepth 20000 in
set_option maxHeartbeats 4000000 in
theorem condense_ok (v : Value) (g : List (List Nat)) (w : World) (h : Gr nv w v g) (hg : VG g) :
    Calls Try.prog 30 #[v] w (CondR g w) := by
  obtain ⟨A, c, rfl⟩ := h.shape
  have H := Lib.hid h; have Hg := Lib.hid hg
  have hgl := hg.len
  have Hchk := Lib.hid (hg.chk [] (by simp))
  obtain ⟨i0, hi, hz0, hz1, hz2⟩ := info_parts info_int
  obtain ⟨j0, hj, hy0, hy1, hy2⟩ := info_parts info_pair2
  clear h hg
  go_enter Try.func30, Try.ntmps30
  go_wp2_with fail
  refine (check_any _ _ _ [] _ H.out.cst Hg.out.lim.cst Sl.nil (by simp)).mono ?_
  rintro e w0 ⟨rfl, hb0⟩
  rw [show chk (cst g) [] = 0 from Hchk.out]
  have HB := Lib.hid hb0
  replace H := Lib.hid (H.out.below hb0)
  clear hb0
  go_wp2_with fail
  refine (components_any _ g _ H.out Hg.out).mono ?_
  rintro e w1 ⟨s, M, pv, h1, h2, h3, h4, h5, h6, rfl, h7, hb⟩
  have hld : LdM g M := ⟨⟨s, h1, h2, h3, h4⟩, h5, h6⟩
  have Hld := Lib.hid hld
  rw [hld.comps] at h7
  have HC := Lib.hid h7
  obtain ⟨Ap, cp, rfl⟩ := h7.shape
  replace HB := Lib.hid (HB.out.trans (hb.mono HB.out.size))
  replace H := Lib.hid (H.out.below hb)
  have hcl := compS_len M g.length
  have Hpl := Lib.hid (fun x (hx : x < g.length) => partOf_lt M hx)
  clear h1 h2 h3 h4 h5 h6 h7 hb hld
  go_wp2_with (at_make; refine wpList_make_full _ rfl _ _ _ rfl w1.heap.size 3 i0 _ 1 (by kernel_rfl) hi hz0 hz1 _ _ _ _ g.length rfl rfl rfl rfl (by rw [hz2]; omega) (by unfold maxLen; omega) (Nat.le_refl _) ?_; intro w4 hown hgr; have Hb4 := Lib.hid (made_below hgr); have Hr4 := Lib.hid (made_row hown); clear hown hgr)
  have Hrz : Hid (Row w4 w1.heap.size 3 ((List.replicate g.length (0 : Int)).map iv)) := by show Row _ _ _ _; rw [List.map_replicate]; exact Hr4.out
  clear Hr4
  go_loopw [28] (fun i wr => ∃ (k : Nat) (A : List Int), k ≤ (compS M g.length).length ∧ i = .int .i64 k ∧ Hid (PInv M g.length k 0 A) ∧ Row wr w1.heap.size 3 (A.map iv) ∧ Below w1.heap.size w1 wr) (fun i _ => (compS M g.length).length - (intOf i).toNat)
  case atStart => exact ⟨0, _, Nat.zero_le _, rfl, Lib.hid (PInv.start (by simp)), Hrz.out, Hb4.out⟩
  case round =>
    clear Hrz Hb4
    obtain ⟨k, A5, hk, rfl, hpi, hrow, hbel⟩ := hrel
    have Hrw := Lib.hid hrow; have Hbel := Lib.hid hbel
    by_cases hlt : k < (compS M g.length).length
    · obtain ⟨ad, c', A', cr, hsq, hcap, hcell, hrow0⟩ := gr_cell (HC.out.below hbel) k hlt
      simp only [Value.slice.injEq, true_and] at hsq
      obtain ⟨rfl, rfl⟩ := hsq
      have Hrow0 : Hid (Sl nv wr (.slice A' (row (compS M g.length) k).length cr) (row (compS M g.length) k)) := Lib.hid hrow0
      have Hrow1 : Hid (∀ W, Below wr.heap.size wr W → Sl nv W (.slice A' (row (compS M g.length) k).length cr) (row (compS M g.length) k)) := fun W hW => hrow0.below hW
      obtain ⟨_, _, _, _, hsq2, _, hcell2, hrow2⟩ := gr_cell HC.out k hlt
      have Hst1 : Hid (∃ A2 cr2, Sl nv w1 (.slice A2 (row (compS M g.length) k).length cr2) (row (compS M g.length) k) ∧ A2 = A' ∧ cr2 = cr) := by
        refine ⟨_, _, hrow2, ?_, ?_⟩
        all_goals
          simp only [Value.slice.injEq, true_and] at hsq2
          obtain ⟨e1, e2⟩ := hsq2
          cases e1
          have h3 := (hbel.cell (World.block_lt_of_cell? _ _ hcell2)).trans hcell2
          rw [hcell] at h3
          cases h3
          rfl
      have hrl : (row (compS M g.length) k).length ≤ 100000 := by
        have := nodup_lt (l := row (compS M g.length) k) (n := g.length) ?_ (fun x hx => ((mem_comp M).1 hx).1)
        · omega
        · rw [row_get hlt]
          unfold compS at hlt ⊢
          rw [List.getElem_map]
          exact List.Nodup.sublist List.filter_sublist List.nodup_range
      clear hrow hbel hrow0 Hrow0 Hrow1 hsq2 hcell2 hrow2
      obtain ⟨wo, rfl⟩ : ∃ wo : World, wo = wr := ⟨_, rfl⟩
      go_wp2
      go_loopw [35] (fun i wr => ∃ (m : Nat) (A : List Int), m ≤ (row (compS M g.length) k).length ∧ i = .int .i64 m ∧ Hid (PInv M g.length k m A) ∧ Row wr w1.heap.size 3 (A.map iv) ∧ Below w1.heap.size w1 wr) (fun i _ => (row (compS M g.length) k).length - (intOf i).toNat)
      case atStart => exact ⟨0, _, Nat.zero_le _, rfl, hpi, Hrw.out, Hbel.out⟩
      case round =>
        clear Hrw Hbel hpi hcell
        obtain ⟨m, A6, hm, rfl, hpi, hrow, hbel⟩ := hrel
        have Hrw := Lib.hid hrow; have Hbel := Lib.hid hbel
        by_cases hltm : m < (row (compS M g.length) k).length
        · obtain ⟨A2, cr2, hsl2, rfl, rfl⟩ := Hst1.out
          obtain ⟨adr, cr', hsr, hcapr, hcellr⟩ := sl_cell (hsl2.below hbel) m hltm
          simp only [Value.slice.injEq, true_and] at hsr
          obtain ⟨rfl, rfl⟩ := hsr
          have hxn := ((mem_comp M).1 (List.getElem_mem hltm)).1
          have Hpi2 := Lib.hid (hpi.out.step hltm)
          generalize (row (compS M g.length) k)[m] = x at *
          have hck := dat_cell hrow (by rw [hpi.out.len]; exact hxn : x < A6.length)
          have hfr := hrow.free x
          have Hr5 := Lib.hid (row_set_iv hrow x (k : Int))
          unfold nv at hcellr
          clear hrow hbel hpi hsl2
          generalize dat A6 x = d at *
          go_wp2
          go_roundw
          case rel => exact ⟨m + 1, _, by omega, by go_num, Hpi2, Hr5.out, Hbel.out.setCell (p := ⟨w1.heap.size, x, none⟩) (Nat.le_refl _) _⟩
          case measure => simp [intOf]; omega
        · obtain rfl : m = (row (compS M g.length) k).length := by omega
          clear hrow hbel
          go_wp2
          go_roundw
          case rel => exact ⟨k + 1, _, by omega, by go_num, Lib.hid hpi.out.next, Hrw.out, Hbel.out⟩
          case measure => simp [intOf]; omega
    · obtain rfl : k = (compS M g.length).length := by omega
      have Hpt := Lib.hid (fun x (hx : x < g.length) => hpi.out.fin hx)
      have hal := hpi.out.len
      have hwr := hrow.lt
      have hws := hbel.size
      clear hrow hbel hpi
      have hrow4 := Hrw.out
      obtain ⟨wA, rfl⟩ : ∃ wA : World, wA = wr := ⟨_, rfl⟩
      have HA := Lib.hid (HB.out.trans (Hbel.out.mono HB.out.size))
      replace H := Lib.hid (H.out.below Hbel.out)
      have hcl2 : (compS M g.length).length ≤ 400 := by omega
      generalize hP : partOf M g.length = P at *
      have hel := edE_len (g := g) (P := P) Hg.out.row_len
      have Hel := Lib.hid hel
      clear hrow4 hel Hbel
      go_wp2
      go_loopw [11, 47] (fun o i wr => ∃ k : Nat, k ≤ g.length ∧ i = .int .i64 k ∧ wr.ownsRow wA.heap.size 55 2 o (edE g P k).length (flatP (edE g P k)) ∧ Below wA.heap.size wA wr) (fun _ i _ => g.length - (intOf i).toNat)
      case atStart => exact ⟨0, Nat.zero_le _, rfl, World.ownsRow_nil _ _ _ _, Below.refl _ _⟩
      case round =>
        obtain ⟨k, hk, rfl, hown, hbel⟩ := hrel
        have Hown := Lib.hid hown; have Hbel := Lib.hid hbel
        by_cases hlt : k < g.length
        · obtain ⟨ad, c', A', cr, hsq, hcap, hcell0, hrow0⟩ := gr_cell H.out k hlt
          simp only [Value.slice.injEq, true_and] at hsq
          obtain ⟨rfl, rfl⟩ := hsq
          have hcell := (hbel.cell (World.block_lt_of_cell? _ _ hcell0)).trans hcell0
          have Hrow0 := Lib.hid hrow0
          have hrl := Hg.out.row_len k
          have hk1 : k * g.length ≤ 400 * 400 := Nat.mul_le_mul (by omega) hgl
          have hek := Hel.out k
          have Hnx := Lib.hid (edE_next g P k)
          clear hown hbel hcell0 hrow0
          go_wp2
          go_loopw [11, 54] (fun o i wr => ∃ m : Nat, m ≤ (row g k).length ∧ i = .int .i64 m ∧ wr.ownsRow wA.heap.size 55 2 o (edE g P k ++ rowE P k ((row g k).take m)).length (flatP (edE g P k ++ rowE P k ((row g k).take m))) ∧ Below wA.heap.size wA wr) (fun _ i _ => (row g k).length - (intOf i).toNat)
          case atStart => exact ⟨0, Nat.zero_le _, rfl, by have h := Hown.out; simpa [rowE] using h, Hbel.out⟩
          case round =>
            clear Hown Hbel hcell
            obtain ⟨m, hm, rfl, hown, hbel⟩ := hrel
            have Hown := Lib.hid hown; have Hbel := Lib.hid hbel
            have hsz := hbel.size
            by_cases hltm : m < (row g k).length
            · obtain ⟨adr, cr', hsr, hcapr, hcellr⟩ := sl_cell (Hrow0.out.below hbel) m hltm
              simp only [Value.slice.injEq, true_and] at hsr
              obtain ⟨rfl, rfl⟩ := hsr
              have hxn := Hg.out.node k _ (List.getElem_mem hltm)
              have hst := rowE_next (P := P) (n := k) hltm
              have hlm := rowE_len P k ((row g k).take m)
              have hlm2 := List.length_take_le m (row g k)
              generalize (row g k)[m] = x at *
              have hck := dat_cell (Hrw.out.below hbel hwr) (by rw [hal]; exact hlt : k < A5.length)
              have hcx := dat_cell (Hrw.out.below hbel hwr) (by rw [hal]; exact hxn : x < A5.length)
              rw [Hpt.out k hlt] at hck
              rw [Hpt.out x hxn] at hcx
              have hn0 : (edE g P k ++ rowE P k ((row g k).take m)).length ≤ 170000 := by rw [List.length_append]; omega
              have hk0 : (0 : Int) ≤ (k : Int) := by omega
              have hk2 : (k : Int) < (g.length : Int) := by omega
              have hx0 : (0 : Int) ≤ (x : Int) := by omega
              have hx2 : (x : Int) < (g.length : Int) := by omega
              unfold nv at hcellr
              clear hown hbel hlm hlm2
              by_cases he : P k = P x
              · have hd : ((P k : Int) != (P x : Int)) = false := by rw [bne_eq_false_iff_eq, he]
                rw [if_pos he] at hst
                have Hst := Lib.hid hst
                clear he hst
                generalize P k = pk at *
                generalize P x = px at *
                go_wp2
                go_quiet (fail)
                go_wp2
                go_roundw
                case rel => exact ⟨m + 1, by omega, by go_num, by rw [Hst.out]; exact own_drewZ Hown.out _, below_drew Hbel.out _⟩
                case measure => simp [intOf]; omega
              · have hd : ((P k : Int) != (P x : Int)) = true := by rw [bne_iff_ne]; omega
                rw [if_neg he] at hst
                have Hst := Lib.hid hst
                have Hfl := Lib.hid (flatP_snoc (edE g P k ++ rowE P k ((row g k).take m)) (P k) (P x))
                clear he hst
                go_wp2
                go_quiet (fail)
                go_wp2
                obtain ⟨wq, hwq⟩ : ∃ wq : World, wq = wr.drewN nq := ⟨_, rfl⟩
                have hck9 : wq.cell? ⟨w1.heap.size, k, none⟩ = some (.int .i64 (P k)) := by rw [hwq]; exact hck
                have hcx9 : wq.cell? ⟨w1.heap.size, x, none⟩ = some (.int .i64 (P x)) := by rw [hwq]; exact hcx
                have Hown9 := Lib.hid (own_drewZ Hown.out nq)
                rw [← hwq] at Hown9
                have Hbel9 : Hid (Below wA.heap.size wA wq) := by rw [hwq]; exact below_drew Hbel.out nq
                have hsz9 : wA.heap.size ≤ wq.heap.size := by rw [hwq]; exact hsz
                rw [← hwq]
                clear hwq hck hcx Hown Hbel hcellr
                generalize hpk : P k = pk at *
                generalize hpx : P x = px at *
                generalize hes : edE g P k ++ rowE P k ((row g k).take m) = es0 at *
                go_region_held3 (fun w' => w'.cell? ⟨w1.heap.size, k, none⟩ = some (.int .i64 pk) ∧ w'.cell? ⟨w1.heap.size, x, none⟩ = some (.int .i64 px))
                  (first | exact ⟨k1, k2⟩ | go_keep)
                  ((refine step_append_lies _ (by rfl) _ _ _ (by rfl) wA.heap.size 55 j0 _ 2 16 (by kernel_rfl) hj hy0 hy1 hy2 rfl (by omega) _ _ _ (by rfl) (by exact Hown9.out.alloc _) ⟨wq.heap.size, 0, none⟩ 1 1 [.int .i64 pk, .int .i64 px] (by rfl) (by rfl) (World.news_of_block (cs := #[.int .i64 pk, .int .i64 px]) (t := 55) (fr := (0, 0)) (heap_alloc_new wq _)) (by simp [Value.oneCell']) (by omega) (by unfold maxLen; omega) (by omega) (by simp; omega) (wq.heap.size + 1) (by simp) ?_; intro gg cap w2 hown2 hgrow hat2 hlt2; have hgq := (⟨hgrow.os, hgrow.tape, hgrow.output, Nat.le_trans (by simp) hgrow.size, fun i hi hne => (hgrow.block i (by simp; omega) hne).trans (Below.heap_alloc wq _ i hi)⟩ : wq.grownBy w2 _); have k1 := far_cell2 Hown9.out hgq hwr hck9; have k2 := far_cell2 Hown9.out hgq hwr hcx9))
                have Hes2 : Hid (edE g P k ++ rowE P k ((row g k).take (m + 1)) = es0 ++ [(pk, px)]) := Lib.hid (by rw [Hst.out, ← List.append_assoc, hes])
                have Hown2 := Lib.hid hown2
                have Hb2 := Lib.hid (Hbel9.out.grown hgq hsz9 (fun k e => (Hown9.out.lt k e).1))
                clear hown2 hgrow hat2 hgq k1 k2 hck9 hcx9
                go_wp2
                go_roundw
                case rel => exact ⟨m + 1, by omega, by go_num, by rw [Hes2.out, Hfl.out, List.length_append]; exact Hown2.out, Hb2.out⟩
                case measure => simp [intOf]; omega
            · obtain rfl : m = (row g k).length := by omega
              have hown2 := hown
              rw [List.take_length, ← Hnx.out] at hown2
              have Hown2 := Lib.hid hown2
              clear hown hbel hown2
              go_wp2
              go_roundw
              case rel => exact ⟨k + 1, by omega, by go_num, Hown2.out, Hbel.out⟩
              case measure => simp [intOf]; omega
        · obtain rfl : k = g.length := by omega
          have Hprs := Lib.hid (prs_own hown)
          obtain ⟨Ae, ce, he⟩ := (prs_own hown).shape
          have hed := Lib.hid (edC_ok Hg.out (M := M))
          rw [hP] at hed
          have hk1 : g.length * g.length ≤ 400 * 400 := Nat.mul_le_mul hgl hgl
          have hek := Hel.out g.length
          have hsz := hbel.size
          subst he
          clear hown hbel
          go_wp2_with fail
          refine (withedges_any (compS M g.length).length _ (edE g P g.length) _ Hprs.out hcl2 hed.out (by omega)).mono ?_
          rintro e w5 ⟨A2, c2, rfl, hgr, hb⟩
          rw [edM_len] at hgr ⊢
          have Hgr := Lib.hid hgr
          have Hb := Lib.hid (HA.out.trans ((Hbel.out.trans (hb.mono hsz)).mono HA.out.size))
          clear hgr hb
          go_wp2
          go_ret2
          exact ⟨M, A2, c2, Hld.out, rfl, by unfold edC; rw [hP]; exact Hgr.out, Hb.out⟩
end Go.Proofs.Ytnhhhnhakpambaa
