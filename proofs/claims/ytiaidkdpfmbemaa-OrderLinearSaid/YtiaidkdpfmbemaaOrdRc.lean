/- The reference's Cut and IsLinear (tools/ordrc_gen.py). -/
import Derived.Test.YtiaidkdpfmbemaaOrdRl
import Derived.Test.YtiaidkdpfmbemaaOrdCl
import Derived.Test.YtiaidkdpfmbemaaRegion
namespace Go.Proofs.Ytiaidkdpfmbemaa
open Go.RowKit

theorem Row_get {w : World} {b n : Nat} {t : TypeId} {f : Nat → Value} (h : w.rowIs b t n f) {i : Nat} (hi : i < n) : w.cell? ⟨b, i, none⟩ = some (f i) := h.cell hi
set_option maxRecDepth 20000 in
set_option maxHeartbeats 4000000 in
theorem rcut_any (N : Int) (sv : Value) (es : List (Int × Int)) (lv : Value) (l : List Int) (w : World) (h : Prs w sv es) (hl : es.length ≤ 100000) (hs0 : Sl iv w lv l) (hll : l.length ≤ 1000) : Calls Try.prog 25 #[.agg #[.int .i64 N, sv], lv] w fun e w' => e = .returned (.bool (cutO N es l)) ∧ Below w.heap.size w w' := by
  have H := Lib.hid h; clear h
  have HL := Lib.hid hs0; clear hs0
  obtain ⟨A, cL, rfl⟩ := HL.out.shape
  obtain ⟨R, hR⟩ : ∃ R, R = cutO N es l := ⟨_, rfl⟩
  rw [← hR]
  unfold cutO at hR
  have HR := Lib.hid hR; clear hR
  cases hv : valO N es with
  | false =>
    have hr : R = false := by rw [HR.out, hv]; rfl
    subst hr
    have Hv := Lib.hid hv; clear hv
    go_enter Try.func25, Try.ntmps25
    go_wp2_with fail
    refine (rvalid_any N sv es _ (H.out.below (below_alloc _ _)) hl).mono ?_
    rintro e w1 ⟨rfl, hb⟩
    rw [Hv.out]
    have Hb := Lib.hid (box_low hb)
    clear hb
    go_wp2
    go_ret
    exact ⟨rfl, Hb.out⟩
  | true =>
    rw [hv, Bool.true_and] at HR
    have Hv := Lib.hid hv
    obtain ⟨⟨n0, n1, n2⟩, hed, _⟩ := valO_parts hv
    obtain ⟨n, rfl⟩ : ∃ n : Nat, N = n := ⟨N.toNat, by omega⟩
    have hn : n ≤ 60 := by omega
    have Hed := Lib.hid hed
    obtain ⟨j0, hj0, hy0, hy1, hy2⟩ := info_parts info_bool
    clear hv n0 n1 hed
    go_enter Try.func25, Try.ntmps25
    go_wp2_with fail
    refine (rvalid_any n sv es _ (H.out.below (below_alloc _ _)) hl).mono ?_
    rintro e w1 ⟨rfl, hb⟩
    have hx := box_keep hb
    have x0 := cell_of_row _ _ 0 _ _ _ hx
    rw [Hv.out]
    have Hbox := Lib.hid hb
    have KX := Lib.hid (show ∀ w', Below w1.heap.size w1 w' → w'.heap[w.heap.size]? = some (.cells #[.int .i64 (n : Int), sv] 24 (0, 0)) from fun w' h => box_keep (bl2 hb h))
    clear hb
    have Hrow := Lib.hid ((World.rowIs_made w1 (.bool false) n 4).congr (g := fun i => .bool ((0 : Nat).testBit i)) (fun i _ => by rw [Nat.zero_testBit]))
    have Hba := Lib.hid (below_alloc w1 (.cells (madeCells #[.bool false] n) 4))
    go_wp2_with (at_make; refine wpList_make_row _ rfl _ _ 59 rfl 4 j0 (.bool false) (by kernel_rfl) hj0 hy0 hy1 rfl .i64 .i64 n rfl rfl (by rw [hy2]; omega) (by omega) ?_)
    clear hx x0
    go_loopw [6] (fun i wr => ∃ m s : Nat, m ≤ l.length ∧ i = .int .i64 m ∧ Hid (wr.rowIs w1.heap.size 4 n (fun i => .bool (s.testBit i))) ∧ Hid (seW n (l.drop m) s = seW n l 0) ∧ Hid (Below w1.heap.size w1 wr)) (fun i _ => l.length - (intOf i).toNat)
    case atStart => exact ⟨0, 0, Nat.zero_le _, rfl, Hrow, Lib.hid rfl, Hba⟩
    case round =>
      clear Hrow Hba
      obtain ⟨m, s, hm, rfl, Hrow, Hw, Hb⟩ := hrel
      have Hbw := Lib.hid (bl2 Hbox.out Hb.out)
      by_cases hlm : m < l.length
      · obtain ⟨ad, c', hsl, hcap, hcell⟩ := sl_cell (HL.out.below (box_low Hbw.out)) m hlm
        simp only [Value.slice.injEq, true_and] at hsl
        obtain ⟨rfl, rfl⟩ := hsl
        have hw := Hw.out
        rw [seW_drop hlm] at hw
        obtain ⟨x, hxe⟩ : ∃ x, x = l[m] := ⟨_, rfl⟩
        rw [← hxe] at hw hcell
        unfold iv at hcell
        clear hxe
        have HB := Lib.hid (show ∀ w', Below wr.heap.size wr w' → Below w1.heap.size w1 w' from fun w' h => bl2 Hb.out h)
        have HC := Lib.hid (show ∀ w', Below wr.heap.size wr w' → w'.cell? (ad.add m) = some (.int .i64 x) from fun w' h => (h.cell (World.block_lt_of_cell? _ _ hcell)).trans hcell)
        clear hcell
        cases hin : inB n x with
        | false =>
          rw [hin] at hw
          have hr : R = false := by rw [HR.out]; exact cutW_none (by rw [← hw]; rfl)
          subst hr
          have Hin := Lib.hid hin
          clear hin hw
          go_wp2_with fail
          refine region_phi (n := 78) (fun i v w' => match i with
                | 0 => v = .agg #[.int .i64 (n : Int), sv]
                | 1 => v = .slice (some ad) l.length cL
                | 2 => v = .int .i64 (m : Int)
                | 3 => v = .pointer (some (ad.add m))
                | 4 => v = .int .i64 x
                | 5 => v = .bool false
                | 6 => v = .bool true
                | 7 => v = .bool true
                | 8 => v = undef
                | 9 => v = undef
                | 10 => v = undef
                | 11 => v = undef
                | 12 => v = undef
                | 13 => v = undef
                | 14 => v = undef
                | 15 => v = .bool true
                | _ => True) (by kernel_rfl) (by kernel_rfl) rfl ?_ (allOps_spec ?_) ?_
          · intro i v w' w'' h hb
            match i, h with
            | 0, h => exact h
            | 1, h => exact h
            | 2, h => exact h
            | 3, h => exact h
            | 4, h => exact h
            | 5, h => exact h
            | 6, h => exact h
            | 7, h => exact h
            | 8, h => exact h
            | 9, h => exact h
            | 10, h => exact h
            | 11, h => exact h
            | 12, h => exact h
            | 13, h => exact h
            | 14, h => exact h
            | 15, h => exact h
            | _ + 16, _ => trivial
          · refine ⟨?_, ?_, ?_, ?_, ?_, ?_, ?_, ?_, ?_, ?_, ?_, ?_, ?_, ?_, ?_, ?_, trivial⟩
            · intro a w' hb hp
              have b2 : a.tmps[2]?.getD undef = .pointer (some ⟨w.heap.size, 0, none⟩) := hb.at 2 (by kernel_rfl)
              exact step_run (v := .agg #[.int .i64 (n : Int), sv]) rfl (by simp [execOp, go_sem, b2, cell_of_row _ _ 0 _ _ _ (KX.out _ (HB.out _ hb.ext)), cell_of_row _ _ 1 _ _ _ (KX.out _ (HB.out _ hb.ext))]) rfl
            · intro a w' hb hp
              have b1 : a.tmps[1]?.getD undef = .slice (some ad) l.length cL := hb.at 1 (by kernel_rfl)
              exact step_run (v := .slice (some ad) l.length cL) rfl (by simp [execOp, Act.eval, b1]) rfl
            · intro a w' hb hp
              have b6 : a.tmps[6]?.getD undef = .int .i64 (m : Int) := hb.at 6 (by kernel_rfl)
              exact step_run (v := .int .i64 (m : Int)) rfl (by simp [execOp, Act.eval, b6]) rfl
            · intro a w' hb hp
              have h23 : a.tmps[23]?.getD undef = .slice (some ad) l.length cL := slot_eq.symm.trans (hp ⟨1, .data⟩ (by simp) rfl _ rfl)
              have h24 : a.tmps[24]?.getD undef = .int .i64 (m : Int) := slot_eq.symm.trans (hp ⟨2, .data⟩ (by simp) rfl _ rfl)
              exact step_run (v := .pointer (some (ad.add m))) rfl (by simp [execOp, go_sem, h23, h24, show (0 : Int) ≤ (m : Int) by omega, show (m : Int) < (l.length : Int) by omega]) rfl
            · intro a w' hb hp
              have h25 : a.tmps[25]?.getD undef = .pointer (some (ad.add m)) := slot_eq.symm.trans (hp ⟨3, .data⟩ (by simp) rfl _ rfl)
              exact step_run (v := .int .i64 x) rfl (by simp [execOp, go_sem, h25, (HC.out _ hb.ext)]) rfl
            · intro a w' hb hp
              have h22 : a.tmps[22]?.getD undef = .agg #[.int .i64 (n : Int), sv] := slot_eq.symm.trans (hp ⟨0, .data⟩ (by simp) rfl _ rfl)
              have h26 : a.tmps[26]?.getD undef = .int .i64 x := slot_eq.symm.trans (hp ⟨4, .data⟩ (by simp) rfl _ rfl)
              refine step_call (f := 37) (args := #[.agg #[.int .i64 (n : Int), sv], .int .i64 x]) rfl (by simp [go_sem, h22, h26]) ?_
              refine (rexists_any _ _ _ _).mono ?_
              rintro e w8 ⟨h9, hb8⟩
              rw [Hin.out] at h9
              exact ⟨_, h9, hb8, rfl⟩
            · intro a w' hb hp
              have h27 : a.tmps[27]?.getD undef = .bool false := slot_eq.symm.trans (hp ⟨5, .data⟩ (by simp) rfl _ rfl)
              exact step_run (v := .bool true) rfl (by simp [execOp, go_sem, h27]) rfl
            · intro a w' hb hp
              have h28 : a.tmps[28]?.getD undef = .bool true := slot_eq.symm.trans (hp ⟨6, .data⟩ (by simp) rfl _ rfl)
              exact step_run (v := .bool true) rfl (by simp [execOp, Act.eval, h28]) rfl
            · intro a w' hb hp
              have g29 : a.tmps[29]?.getD undef = .bool true := slot_eq.symm.trans (hp ⟨7, .guard⟩ (by simp) rfl _ rfl)
              exact step_off (by simp [Region.wanted, yielded, bool_at g29]) rfl
            · intro a w' hb hp
              have g29 : a.tmps[29]?.getD undef = .bool true := slot_eq.symm.trans (hp ⟨7, .guard⟩ (by simp) rfl _ rfl)
              exact step_off (by simp [Region.wanted, yielded, bool_at g29]) rfl
            · intro a w' hb hp
              have g29 : a.tmps[29]?.getD undef = .bool true := slot_eq.symm.trans (hp ⟨7, .guard⟩ (by simp) rfl _ rfl)
              exact step_off (by simp [Region.wanted, yielded, bool_at g29]) rfl
            · intro a w' hb hp
              have g29 : a.tmps[29]?.getD undef = .bool true := slot_eq.symm.trans (hp ⟨7, .guard⟩ (by simp) rfl _ rfl)
              exact step_off (by simp [Region.wanted, yielded, bool_at g29]) rfl
            · intro a w' hb hp
              have g29 : a.tmps[29]?.getD undef = .bool true := slot_eq.symm.trans (hp ⟨7, .guard⟩ (by simp) rfl _ rfl)
              exact step_off (by simp [Region.wanted, yielded, bool_at g29]) rfl
            · intro a w' hb hp
              have g29 : a.tmps[29]?.getD undef = .bool true := slot_eq.symm.trans (hp ⟨7, .guard⟩ (by simp) rfl _ rfl)
              exact step_off (by simp [Region.wanted, yielded, bool_at g29]) rfl
            · intro a w' hb hp
              have g29 : a.tmps[29]?.getD undef = .bool true := slot_eq.symm.trans (hp ⟨7, .guard⟩ (by simp) rfl _ rfl)
              exact step_off (by simp [Region.wanted, yielded, bool_at g29]) rfl
            · intro a w' hb hp
              have h29 : a.tmps[29]?.getD undef = .bool true := slot_eq.symm.trans (hp ⟨7, .data⟩ (by simp) rfl _ rfl)
              exact step_run (v := .bool true) rfl (by simp [execOp, go_sem, h29]) rfl
          · intro vs w8 hb8 hv
            have h15 : vs 15 = .bool true := hv 15 (by decide)
            simp only [putAll, Act.put, List.setIfInBounds_toArray, List.set_cons_zero, List.set_cons_succ, Nat.zero_add, Nat.reduceAdd, h15]
            clear hv
            have B8 := Lib.hid (box_low (bl2 Hbw.out hb8))
            clear hb8
            go_wp2
            go_ret
            exact ⟨rfl, B8.out⟩
        | true =>
          rw [hin, Bool.true_and] at hw
          have Hin := Lib.hid hin
          obtain ⟨y0, y1⟩ := inB_iff.1 hin
          obtain ⟨x, rfl⟩ : ∃ q : Nat, x = q := ⟨x.toNat, by omega⟩
          rw [Int.toNat_natCast] at hw
          have hxn : x < n := by omega
          obtain ⟨bx, hbx⟩ : ∃ b, b = s.testBit x := ⟨_, rfl⟩
          rw [← hbx] at hw
          have hcd := Row_get Hrow.out hxn
          try dsimp only at hcd
          rw [← hbx] at hcd
          have HD := Lib.hid (show ∀ w', Below wr.heap.size wr w' → w'.cell? ⟨w1.heap.size, x, none⟩ = some (.bool bx) from fun w' h => (h.cell (World.block_lt_of_cell? _ _ hcd)).trans hcd)
          have Hw2 := Lib.hid hw
          clear hin hw hcd hbx
          go_wp2_with fail
          refine region_phi (n := 78) (fun i v w' => match i with
                | 0 => v = .agg #[.int .i64 (n : Int), sv]
                | 1 => v = .slice (some ad) l.length cL
                | 2 => v = .int .i64 (m : Int)
                | 3 => v = .pointer (some (ad.add m))
                | 4 => v = .int .i64 (x : Int)
                | 5 => v = .bool true
                | 6 => v = .bool false
                | 7 => v = .bool false
                | 8 => v = .slice (some ⟨w1.heap.size, 0, none⟩) n n
                | 9 => v = .slice (some ad) l.length cL
                | 10 => v = .int .i64 (m : Int)
                | 11 => v = .pointer (some (ad.add m))
                | 12 => v = .int .i64 (x : Int)
                | 13 => v = .pointer (some ⟨w1.heap.size, x, none⟩)
                | 14 => v = .bool bx
                | 15 => v = .bool bx
                | _ => True) (by kernel_rfl) (by kernel_rfl) rfl ?_ (allOps_spec ?_) ?_
          · intro i v w' w'' h hb
            match i, h with
            | 0, h => exact h
            | 1, h => exact h
            | 2, h => exact h
            | 3, h => exact h
            | 4, h => exact h
            | 5, h => exact h
            | 6, h => exact h
            | 7, h => exact h
            | 8, h => exact h
            | 9, h => exact h
            | 10, h => exact h
            | 11, h => exact h
            | 12, h => exact h
            | 13, h => exact h
            | 14, h => exact h
            | 15, h => exact h
            | _ + 16, _ => trivial
          · refine ⟨?_, ?_, ?_, ?_, ?_, ?_, ?_, ?_, ?_, ?_, ?_, ?_, ?_, ?_, ?_, ?_, trivial⟩
            · intro a w' hb hp
              have b2 : a.tmps[2]?.getD undef = .pointer (some ⟨w.heap.size, 0, none⟩) := hb.at 2 (by kernel_rfl)
              exact step_run (v := .agg #[.int .i64 (n : Int), sv]) rfl (by simp [execOp, go_sem, b2, cell_of_row _ _ 0 _ _ _ (KX.out _ (HB.out _ hb.ext)), cell_of_row _ _ 1 _ _ _ (KX.out _ (HB.out _ hb.ext))]) rfl
            · intro a w' hb hp
              have b1 : a.tmps[1]?.getD undef = .slice (some ad) l.length cL := hb.at 1 (by kernel_rfl)
              exact step_run (v := .slice (some ad) l.length cL) rfl (by simp [execOp, Act.eval, b1]) rfl
            · intro a w' hb hp
              have b6 : a.tmps[6]?.getD undef = .int .i64 (m : Int) := hb.at 6 (by kernel_rfl)
              exact step_run (v := .int .i64 (m : Int)) rfl (by simp [execOp, Act.eval, b6]) rfl
            · intro a w' hb hp
              have h23 : a.tmps[23]?.getD undef = .slice (some ad) l.length cL := slot_eq.symm.trans (hp ⟨1, .data⟩ (by simp) rfl _ rfl)
              have h24 : a.tmps[24]?.getD undef = .int .i64 (m : Int) := slot_eq.symm.trans (hp ⟨2, .data⟩ (by simp) rfl _ rfl)
              exact step_run (v := .pointer (some (ad.add m))) rfl (by simp [execOp, go_sem, h23, h24, show (0 : Int) ≤ (m : Int) by omega, show (m : Int) < (l.length : Int) by omega]) rfl
            · intro a w' hb hp
              have h25 : a.tmps[25]?.getD undef = .pointer (some (ad.add m)) := slot_eq.symm.trans (hp ⟨3, .data⟩ (by simp) rfl _ rfl)
              exact step_run (v := .int .i64 (x : Int)) rfl (by simp [execOp, go_sem, h25, (HC.out _ hb.ext)]) rfl
            · intro a w' hb hp
              have h22 : a.tmps[22]?.getD undef = .agg #[.int .i64 (n : Int), sv] := slot_eq.symm.trans (hp ⟨0, .data⟩ (by simp) rfl _ rfl)
              have h26 : a.tmps[26]?.getD undef = .int .i64 (x : Int) := slot_eq.symm.trans (hp ⟨4, .data⟩ (by simp) rfl _ rfl)
              refine step_call (f := 37) (args := #[.agg #[.int .i64 (n : Int), sv], .int .i64 (x : Int)]) rfl (by simp [go_sem, h22, h26]) ?_
              refine (rexists_any _ _ _ _).mono ?_
              rintro e w8 ⟨h9, hb8⟩
              rw [Hin.out] at h9
              exact ⟨_, h9, hb8, rfl⟩
            · intro a w' hb hp
              have h27 : a.tmps[27]?.getD undef = .bool true := slot_eq.symm.trans (hp ⟨5, .data⟩ (by simp) rfl _ rfl)
              exact step_run (v := .bool false) rfl (by simp [execOp, go_sem, h27]) rfl
            · intro a w' hb hp
              have h28 : a.tmps[28]?.getD undef = .bool false := slot_eq.symm.trans (hp ⟨6, .data⟩ (by simp) rfl _ rfl)
              exact step_run (v := .bool false) rfl (by simp [execOp, Act.eval, h28]) rfl
            · intro a w' hb hp
              have b5 : a.tmps[5]?.getD undef = .slice (some ⟨w1.heap.size, 0, none⟩) n n := hb.at 5 (by kernel_rfl)
              have g29 : a.tmps[29]?.getD undef = .bool false := slot_eq.symm.trans (hp ⟨7, .guard⟩ (by simp) rfl _ rfl)
              exact step_run (v := .slice (some ⟨w1.heap.size, 0, none⟩) n n) (by simp [Region.wanted, yielded, bool_at g29]) (by simp [execOp, Act.eval, b5]) rfl
            · intro a w' hb hp
              have b1 : a.tmps[1]?.getD undef = .slice (some ad) l.length cL := hb.at 1 (by kernel_rfl)
              have g29 : a.tmps[29]?.getD undef = .bool false := slot_eq.symm.trans (hp ⟨7, .guard⟩ (by simp) rfl _ rfl)
              exact step_run (v := .slice (some ad) l.length cL) (by simp [Region.wanted, yielded, bool_at g29]) (by simp [execOp, Act.eval, b1]) rfl
            · intro a w' hb hp
              have b6 : a.tmps[6]?.getD undef = .int .i64 (m : Int) := hb.at 6 (by kernel_rfl)
              have g29 : a.tmps[29]?.getD undef = .bool false := slot_eq.symm.trans (hp ⟨7, .guard⟩ (by simp) rfl _ rfl)
              exact step_run (v := .int .i64 (m : Int)) (by simp [Region.wanted, yielded, bool_at g29]) (by simp [execOp, Act.eval, b6]) rfl
            · intro a w' hb hp
              have h31 : a.tmps[31]?.getD undef = .slice (some ad) l.length cL := slot_eq.symm.trans (hp ⟨9, .data⟩ (by simp) rfl _ rfl)
              have h32 : a.tmps[32]?.getD undef = .int .i64 (m : Int) := slot_eq.symm.trans (hp ⟨10, .data⟩ (by simp) rfl _ rfl)
              have g29 : a.tmps[29]?.getD undef = .bool false := slot_eq.symm.trans (hp ⟨7, .guard⟩ (by simp) rfl _ rfl)
              exact step_run (v := .pointer (some (ad.add m))) (by simp [Region.wanted, yielded, bool_at g29]) (by simp [execOp, go_sem, h31, h32, show (0 : Int) ≤ (m : Int) by omega, show (m : Int) < (l.length : Int) by omega]) rfl
            · intro a w' hb hp
              have h33 : a.tmps[33]?.getD undef = .pointer (some (ad.add m)) := slot_eq.symm.trans (hp ⟨11, .data⟩ (by simp) rfl _ rfl)
              have g29 : a.tmps[29]?.getD undef = .bool false := slot_eq.symm.trans (hp ⟨7, .guard⟩ (by simp) rfl _ rfl)
              exact step_run (v := .int .i64 (x : Int)) (by simp [Region.wanted, yielded, bool_at g29]) (by simp [execOp, go_sem, h33, (HC.out _ hb.ext)]) rfl
            · intro a w' hb hp
              have h30 : a.tmps[30]?.getD undef = .slice (some ⟨w1.heap.size, 0, none⟩) n n := slot_eq.symm.trans (hp ⟨8, .data⟩ (by simp) rfl _ rfl)
              have h34 : a.tmps[34]?.getD undef = .int .i64 (x : Int) := slot_eq.symm.trans (hp ⟨12, .data⟩ (by simp) rfl _ rfl)
              have g29 : a.tmps[29]?.getD undef = .bool false := slot_eq.symm.trans (hp ⟨7, .guard⟩ (by simp) rfl _ rfl)
              exact step_run (v := .pointer (some ⟨w1.heap.size, x, none⟩)) (by simp [Region.wanted, yielded, bool_at g29]) (by simp [execOp, go_sem, h30, h34, show (x : Int) < (n : Int) by omega]) rfl
            · intro a w' hb hp
              have h35 : a.tmps[35]?.getD undef = .pointer (some ⟨w1.heap.size, x, none⟩) := slot_eq.symm.trans (hp ⟨13, .data⟩ (by simp) rfl _ rfl)
              have g29 : a.tmps[29]?.getD undef = .bool false := slot_eq.symm.trans (hp ⟨7, .guard⟩ (by simp) rfl _ rfl)
              exact step_run (v := .bool bx) (by simp [Region.wanted, yielded, bool_at g29]) (by simp [execOp, go_sem, h35, (HD.out _ hb.ext)]) rfl
            · intro a w' hb hp
              have h29 : a.tmps[29]?.getD undef = .bool false := slot_eq.symm.trans (hp ⟨7, .data⟩ (by simp) rfl _ rfl)
              have h36 : a.tmps[36]?.getD undef = .bool bx := slot_eq.symm.trans (hp ⟨14, .data⟩ (by simp) rfl _ rfl)
              exact step_run (v := .bool bx) rfl (by simp [execOp, go_sem, h29, h36]) rfl
          · intro vs w8 hb8 hv
            have h15 : vs 15 = .bool bx := hv 15 (by decide)
            simp only [putAll, Act.put, List.setIfInBounds_toArray, List.set_cons_zero, List.set_cons_succ, Nat.zero_add, Nat.reduceAdd, h15]
            clear hv
            have B8 := Lib.hid (bl2 Hb.out hb8)
            have Hr8 := Lib.hid (Hrow.out.of_block (hb8.block _ Hrow.out.lt))
            have hcx := HC.out _ hb8
            have cd := HD.out _ hb8
            have fd := Hr8.out.frozen x
            clear hb8
            cases hbx : bx with
            | true =>
              rw [hbx] at cd
              have hr : R = false := by rw [HR.out]; exact cutW_none (by rw [← Hw2.out, hbx]; rfl)
              subst hr
              clear hbx
              go_wp2
              go_ret
              exact ⟨rfl, box_low (bl2 Hbox.out B8.out)⟩
            | false =>
              rw [hbx] at cd
              have Hw3 := Lib.hid (show seW n (l.drop (m + 1)) (s ||| 2 ^ x) = seW n l 0 by rw [← Hw2.out, hbx]; rfl)
              have Hnr := Lib.hid ((Hr8.out.set x (.bool true)).congr (g := fun i => .bool ((s ||| 2 ^ x).testBit i)) (fun i _ => by
                rw [or_bit]
                by_cases e : i = x
                · subst e; rw [if_pos rfl]; simp
                · rw [if_neg e, decide_eq_false (fun h => e h.symm), Bool.or_false]))
              have Hnb := Lib.hid (B8.out.setCell (p := ⟨w1.heap.size, x, none⟩) (Nat.le_refl _) (.bool true))
              clear hbx
              go_wp2
              go_roundw
              case rel => exact ⟨m + 1, s ||| 2 ^ x, by omega, by go_num, Hnr, Hw3, Hnb⟩
              case measure => simp [intOf]; omega
      · obtain rfl : m = l.length := by omega
        have hw := Hw.out
        rw [List.drop_length] at hw
        have Hse := Lib.hid (show seW n l 0 = some s from hw.symm)
        have Hcl := Lib.hid (cutW_iff (n := n) (es := es) Hse.out)
        clear hw Hw
        have hx := KX.out _ Hb.out
        have x0 := cell_of_row _ _ 0 _ _ _ hx
        have x1 := cell_of_row _ _ 1 _ _ _ hx
        go_wp2_with fail
        refine (behind_any n sv es _ (H.out.below (box_low Hbw.out)) hl hn Hed.out).mono ?_
        rintro e w3 ⟨g, rfl, hb3, hM⟩
        have HM := Lib.hid hM
        have Hr3 := Lib.hid (Hrow.out.of_block (hb3.block _ Hrow.out.lt))
        have B3 := Lib.hid (bl2 Hb.out hb3)
        clear hb3 hM hx x0 x1 Hrow
        have hx := KX.out _ B3.out
        have x0 := cell_of_row _ _ 0 _ _ _ hx
        have x1 := cell_of_row _ _ 1 _ _ _ hx
        go_wp2
        go_loopw [8] (fun i wr3 => ∃ a : Nat, a ≤ n ∧ i = .int .i64 a ∧ wr3 = w3 ∧ Hid (∀ i, i < a → ∀ k, k < n → Bf n es i k = true → s.testBit k = true → s.testBit i = true)) (fun i _ => n - (intOf i).toNat)
        case atStart => exact ⟨0, Nat.zero_le _, rfl, rfl, Lib.hid (fun i h => absurd h (Nat.not_lt_zero i))⟩
        case round =>
          obtain ⟨a, ha, rfl, hwr, Hdone⟩ := hrel
          subst hwr
          by_cases hla : a < n
          · go_wp2
            go_loopw [9] (fun i wr4 => ∃ b : Nat, b ≤ n ∧ i = .int .i64 b ∧ wr4 = wr ∧ Hid (∀ k, k < b → Bf n es a k = true → s.testBit k = true → s.testBit a = true)) (fun i _ => n - (intOf i).toNat)
            case atStart => exact ⟨0, Nat.zero_le _, rfl, rfl, Lib.hid (fun i h => absurd h (Nat.not_lt_zero i))⟩
            case round =>
              obtain ⟨b, hb, rfl, rfl, Hrow2⟩ := hrel
              by_cases hlb : b < n
              · have co := HM.out.cellO hla
                have ci := HM.out.cellI hla hlb
                have cb := Row_get Hr3.out hlb
                have ca := Row_get Hr3.out hla
                try dsimp only at cb ca
                have a0 : (0 : Int) ≤ (a : Int) := by omega
                have a1 : (a : Int) < (n : Int) := by omega
                have b0 : (0 : Int) ≤ (b : Int) := by omega
                have b1 : (b : Int) < (n : Int) := by omega
                have Hgo := Lib.hid (show ¬ (Bf n es a b = true ∧ s.testBit b = true ∧ s.testBit a = false) → ∀ k, k < b + 1 → Bf n es a k = true → s.testBit k = true → s.testBit a = true from fun hno k hk h1 h2 => by
                  by_cases e : k = b
                  · subst e
                    cases h3 : s.testBit a
                    · exact absurd ⟨h1, h2, h3⟩ hno
                    · rfl
                  · exact Hrow2.out k (by omega) h1 h2)
                cases hbf : Bf n es a b with
                | false =>
                  have Hn := Lib.hid (Hgo.out (by rw [hbf]; rintro ⟨h, _⟩; cases h))
                  rw [hbf] at ci
                  clear hbf ca cb Hgo
                  go_wp2
                  go_roundw
                  case rel => exact ⟨b + 1, by omega, by go_num, (by first | rfl | trivial), Hn⟩
                  case measure => simp [intOf]; omega
                | true =>
                  rw [hbf] at ci
                  cases hsb : s.testBit b with
                  | false =>
                    have Hn := Lib.hid (Hgo.out (by rw [hsb]; rintro ⟨_, h, _⟩; cases h))
                    rw [hsb] at cb
                    clear hbf hsb ca Hgo
                    go_wp2
                    go_roundw
                    case rel => exact ⟨b + 1, by omega, by go_num, (by first | rfl | trivial), Hn⟩
                    case measure => simp [intOf]; omega
                  | true =>
                    rw [hsb] at cb
                    cases hsa : s.testBit a with
                    | true =>
                      have Hn := Lib.hid (Hgo.out (by rw [hsa]; rintro ⟨_, _, h⟩; cases h))
                      rw [hsa] at ca
                      clear hbf hsb hsa Hgo
                      go_wp2
                      go_roundw
                      case rel => exact ⟨b + 1, by omega, by go_num, (by first | rfl | trivial), (by first | exact Hn | exact Lib.hid (fun _ _ _ _ => trivial))⟩
                      case measure => simp [intOf]; omega
                    | false =>
                      have hr : R = false := by
                        rw [HR.out, Bool.eq_false_iff]
                        intro h
                        have := (Hcl.out.1 h) a hla b hlb hbf hsb
                        rw [hsa] at this
                        cases this
                      subst hr
                      rw [hsa] at ca
                      clear hbf hsb hsa Hgo
                      go_wp2
                      go_ret
                      exact ⟨rfl, box_low (bl2 Hbox.out B3.out)⟩
              · obtain rfl : b = n := by omega
                have Hn := Lib.hid (show ∀ i, i < a + 1 → ∀ k, k < b → Bf b es i k = true → s.testBit k = true → s.testBit i = true from fun i hi k hk h1 h2 => by
                  by_cases e : i = a
                  · subst e; exact Hrow2.out k hk h1 h2
                  · exact Hdone.out i (by omega) k hk h1 h2)
                go_wp2
                go_roundw
                case rel => exact ⟨a + 1, by omega, by go_num, (by first | rfl | trivial), Hn⟩
                case measure => simp [intOf]; omega
          · obtain rfl : a = n := by omega
            have hr : R = true := by rw [HR.out]; exact Hcl.out.2 (fun i hi k hk h1 h2 => Hdone.out i hi k hk h1 h2)
            subst hr
            go_wp2
            go_ret
            exact ⟨rfl, box_low (bl2 Hbox.out B3.out)⟩
theorem take_nil0 {l : List Int} (h : l = []) (m : Nat) : l.take m = [] := by rw [h, List.take_nil]
set_option maxRecDepth 20000 in
set_option maxHeartbeats 4000000 in
theorem rislin_any (N : Int) (sv : Value) (es : List (Int × Int)) (lv : Value) (l : List Int) (w : World) (h : Prs w sv es) (hl : es.length ≤ 100000) (hs0 : Sl iv w lv l) : Calls Try.prog 23 #[.agg #[.int .i64 N, sv], lv] w fun e w' => e = .returned (.bool (isO N es l)) ∧ Below w.heap.size w w' := by
  have H := Lib.hid h; clear h
  have HL := Lib.hid hs0; clear hs0
  obtain ⟨A, cL, rfl⟩ := HL.out.shape
  obtain ⟨R, hR⟩ : ∃ R, R = isO N es l := ⟨_, rfl⟩
  rw [← hR]
  unfold isO at hR
  have HR := Lib.hid hR; clear hR
  cases hv : valO N es with
  | false =>
    have hr : R = false := by rw [HR.out, hv]; rfl
    subst hr
    have Hv := Lib.hid hv; clear hv
    go_enter Try.func23, Try.ntmps23
    go_wp2_with fail
    refine (rvalid_any N sv es _ (H.out.below (below_alloc _ _)) hl).mono ?_
    rintro e w1 ⟨rfl, hb⟩
    rw [Hv.out]
    have Hb := Lib.hid (box_low hb)
    clear hb
    go_wp2
    go_ret
    exact ⟨rfl, Hb.out⟩
  | true =>
    rw [hv, Bool.true_and] at HR
    have Hv := Lib.hid hv
    obtain ⟨⟨n0, n1, n2⟩, _, hac⟩ := valO_parts hv
    obtain ⟨n, rfl⟩ : ∃ n : Nat, N = n := ⟨N.toNat, by omega⟩
    have hn : n ≤ 60 := by omega
    have Hac := Lib.hid hac
    clear n0 n1 hac
    by_cases hlen : (l.length : Int) = n
    · rw [decide_eq_true hlen, Bool.true_and] at HR
      have hne : ((l.length : Int) != (n : Int)) = false := by rw [bne_eq_false_iff_eq]; exact hlen
      have Hcv := Lib.hid (show ∀ l', cutO n es l' = cutW n (psts (n : Int) es) l' from fun l' => by unfold cutO; rw [hv]; rfl)
      clear hv
      go_enter Try.func23, Try.ntmps23
      go_wp2_with fail
      refine (rvalid_any n sv es _ (H.out.below (below_alloc _ _)) hl).mono ?_
      rintro e w1 ⟨rfl, hb⟩
      have hx := box_keep hb
      have x0 := cell_of_row _ _ 0 _ _ _ hx
      rw [Hv.out]
      have Hbox := Lib.hid hb
      have KX := Lib.hid (show ∀ w', Below w1.heap.size w1 w' → w'.heap[w.heap.size]? = some (.cells #[.int .i64 (n : Int), sv] 24 (0, 0)) from fun w' h => box_keep (bl2 hb h))
      clear hb
      go_wp2
      clear hx x0
      go_loopw [5] (fun i wr => ∃ m : Nat, m ≤ l.length + 1 ∧ i = .int .i64 m ∧ Hid (∀ q, q < m → cutW n (psts (n : Int) es) (l.take q) = true) ∧ Hid (Below w1.heap.size w1 wr)) (fun i _ => l.length + 1 - (intOf i).toNat)
      case atStart => exact ⟨0, Nat.zero_le _, rfl, Lib.hid (fun q h => absurd h (Nat.not_lt_zero q)), Lib.hid (Below.refl _ _)⟩
      case round =>
        obtain ⟨m, hm', rfl, Hall, Hb⟩ := hrel
        have Hbw := Lib.hid (bl2 Hbox.out Hb.out)
        by_cases hm : m ≤ l.length
        · have HB := Lib.hid (show ∀ w', Below wr.heap.size wr w' → Below w1.heap.size w1 w' from fun w' h => bl2 Hb.out h)
          have Hco := Lib.hid (Hcv.out (l.take m))
          have hLb := HL.out.below (box_low Hbw.out)
          rcases hLb with ⟨h1, h2⟩ | ⟨ad, c', h1, h2, h3⟩
          · simp only [Value.slice.injEq] at h1
            obtain ⟨rfl, h4, rfl⟩ := h1
            have hm0 : m = 0 := by omega
            subst hm0
            rw [h4] at *
            have HLi := Lib.hid (show Sl iv wr (.slice none 0 0) (l.take 0) from by rw [List.take_zero]; exact Sl.nil)
            clear h2
            go_wp2_with fail
            refine region_phi (n := 28) (fun i v w' => match i with
                  | 0 => v = .agg #[.int .i64 (n : Int), sv]
                  | 1 => v = .slice none 0 0
                  | 2 => v = .int .i64 (0 : Int)
                  | 3 => v = .slice none 0 0
                  | 4 => v = .bool (cutO n es (l.take 0))
                  | 5 => v = .bool (!cutO n es (l.take 0))
                  | _ => True) (by kernel_rfl) (by kernel_rfl) rfl ?_ (allOps_spec ?_) ?_
            · intro i v w' w'' h hb
              match i, h with
              | 0, h => exact h
              | 1, h => exact h
              | 2, h => exact h
              | 3, h => exact h
              | 4, h => exact h
              | 5, h => exact h
              | _ + 6, _ => trivial
            · refine ⟨?_, ?_, ?_, ?_, ?_, ?_, trivial⟩
              · intro a w' hb hp
                have b2 : a.tmps[2]?.getD undef = .pointer (some ⟨w.heap.size, 0, none⟩) := hb.at 2 (by kernel_rfl)
                exact step_run (v := .agg #[.int .i64 (n : Int), sv]) rfl (by simp [execOp, go_sem, b2, cell_of_row _ _ 0 _ _ _ (KX.out _ (HB.out _ hb.ext)), cell_of_row _ _ 1 _ _ _ (KX.out _ (HB.out _ hb.ext))]) rfl
              · intro a w' hb hp
                have b1 : a.tmps[1]?.getD undef = .slice none 0 0 := hb.at 1 (by kernel_rfl)
                exact step_run (v := .slice none 0 0) rfl (by simp [execOp, Act.eval, b1]) rfl
              · intro a w' hb hp
                have b5 : a.tmps[5]?.getD undef = .int .i64 (0 : Int) := hb.at 5 (by kernel_rfl)
                exact step_run (v := .int .i64 (0 : Int)) rfl (by simp [execOp, Act.eval, b5]) rfl
              · intro a w' hb hp
                have h23 : a.tmps[23]?.getD undef = .slice none 0 0 := slot_eq.symm.trans (hp ⟨1, .data⟩ (by simp) rfl _ rfl)
                have h24 : a.tmps[24]?.getD undef = .int .i64 (0 : Int) := slot_eq.symm.trans (hp ⟨2, .data⟩ (by simp) rfl _ rfl)
                exact step_run (v := .slice none 0 0) rfl (by simp [execOp, go_sem, h23, h24]) rfl
              · intro a w' hb hp
                have h22 : a.tmps[22]?.getD undef = .agg #[.int .i64 (n : Int), sv] := slot_eq.symm.trans (hp ⟨0, .data⟩ (by simp) rfl _ rfl)
                have h25 : a.tmps[25]?.getD undef = .slice none 0 0 := slot_eq.symm.trans (hp ⟨3, .data⟩ (by simp) rfl _ rfl)
                refine step_call (f := 25) (args := #[.agg #[.int .i64 (n : Int), sv], .slice none 0 0]) rfl (by simp [go_sem, h22, h25]) ?_
                refine (rcut_any n sv es _ (l.take 0) _ (H.out.below (box_low (bl2 Hbw.out hb.ext))) hl (HLi.out.below hb.ext) (by rw [List.length_take]; omega)).mono ?_
                rintro e w8 ⟨h9, hb8⟩
                exact ⟨_, h9, hb8, rfl⟩
              · intro a w' hb hp
                have h26 : a.tmps[26]?.getD undef = .bool (cutO n es (l.take 0)) := slot_eq.symm.trans (hp ⟨4, .data⟩ (by simp) rfl _ rfl)
                exact step_run (v := .bool (!cutO n es (l.take 0))) rfl (by simp [execOp, go_sem, h26]) rfl
            · intro vs w8 hb8 hv
              have h5 : vs 5 = .bool (!cutO n es (l.take 0)) := hv 5 (by decide)
              simp only [putAll, Act.put, List.setIfInBounds_toArray, List.set_cons_zero, List.set_cons_succ, Nat.zero_add, Nat.reduceAdd, h5]
              clear hv
              have B8 := Lib.hid (bl2 Hb.out hb8)
              clear hb8
              rw [Hco.out]
              cases hcw : cutW n (psts (n : Int) es) (l.take 0) with
              | false =>
                have hr : R = false := by
                  rw [HR.out, Bool.eq_false_iff]
                  intro h
                  rw [(isW_cuts Hac.out l).1 h 0 (Nat.zero_le _)] at hcw
                  cases hcw
                subst hr
                clear hcw
                go_wp2
                go_ret
                exact ⟨rfl, box_low (bl2 Hbox.out B8.out)⟩
              | true =>
                have Hn := Lib.hid (show ∀ q, q < 0 + 1 → cutW n (psts (n : Int) es) (l.take q) = true from fun q hq => by
                  by_cases e : q = 0
                  · rw [e]; exact hcw
                  · exact Hall.out q (by omega))
                clear hcw
                go_wp2
                go_roundw
                case rel => exact ⟨0 + 1, by omega, by go_num, Hn, B8⟩
                case measure => simp [intOf]
          · simp only [Value.slice.injEq, true_and] at h1
            obtain ⟨rfl, rfl⟩ := h1
            have HLi := Lib.hid (show Sl iv wr (.slice (some ad) m cL) (l.take m) from (HL.out.below (box_low Hbw.out)).take ad cL l.length m hm)
            clear h3
            go_wp2_with fail
            refine region_phi (n := 28) (fun i v w' => match i with
                  | 0 => v = .agg #[.int .i64 (n : Int), sv]
                  | 1 => v = .slice (some ad) l.length cL
                  | 2 => v = .int .i64 (m : Int)
                  | 3 => v = .slice (some ad) m cL
                  | 4 => v = .bool (cutO n es (l.take m))
                  | 5 => v = .bool (!cutO n es (l.take m))
                  | _ => True) (by kernel_rfl) (by kernel_rfl) rfl ?_ (allOps_spec ?_) ?_
            · intro i v w' w'' h hb
              match i, h with
              | 0, h => exact h
              | 1, h => exact h
              | 2, h => exact h
              | 3, h => exact h
              | 4, h => exact h
              | 5, h => exact h
              | _ + 6, _ => trivial
            · refine ⟨?_, ?_, ?_, ?_, ?_, ?_, trivial⟩
              · intro a w' hb hp
                have b2 : a.tmps[2]?.getD undef = .pointer (some ⟨w.heap.size, 0, none⟩) := hb.at 2 (by kernel_rfl)
                exact step_run (v := .agg #[.int .i64 (n : Int), sv]) rfl (by simp [execOp, go_sem, b2, cell_of_row _ _ 0 _ _ _ (KX.out _ (HB.out _ hb.ext)), cell_of_row _ _ 1 _ _ _ (KX.out _ (HB.out _ hb.ext))]) rfl
              · intro a w' hb hp
                have b1 : a.tmps[1]?.getD undef = .slice (some ad) l.length cL := hb.at 1 (by kernel_rfl)
                exact step_run (v := .slice (some ad) l.length cL) rfl (by simp [execOp, Act.eval, b1]) rfl
              · intro a w' hb hp
                have b5 : a.tmps[5]?.getD undef = .int .i64 (m : Int) := hb.at 5 (by kernel_rfl)
                exact step_run (v := .int .i64 (m : Int)) rfl (by simp [execOp, Act.eval, b5]) rfl
              · intro a w' hb hp
                have h23 : a.tmps[23]?.getD undef = .slice (some ad) l.length cL := slot_eq.symm.trans (hp ⟨1, .data⟩ (by simp) rfl _ rfl)
                have h24 : a.tmps[24]?.getD undef = .int .i64 (m : Int) := slot_eq.symm.trans (hp ⟨2, .data⟩ (by simp) rfl _ rfl)
                exact step_run (v := .slice (some ad) m cL) rfl (by simp [execOp, go_sem, h23, h24, show ¬ (cL < m) by omega]) rfl
              · intro a w' hb hp
                have h22 : a.tmps[22]?.getD undef = .agg #[.int .i64 (n : Int), sv] := slot_eq.symm.trans (hp ⟨0, .data⟩ (by simp) rfl _ rfl)
                have h25 : a.tmps[25]?.getD undef = .slice (some ad) m cL := slot_eq.symm.trans (hp ⟨3, .data⟩ (by simp) rfl _ rfl)
                refine step_call (f := 25) (args := #[.agg #[.int .i64 (n : Int), sv], .slice (some ad) m cL]) rfl (by simp [go_sem, h22, h25]) ?_
                refine (rcut_any n sv es _ (l.take m) _ (H.out.below (box_low (bl2 Hbw.out hb.ext))) hl (HLi.out.below hb.ext) (by rw [List.length_take]; omega)).mono ?_
                rintro e w8 ⟨h9, hb8⟩
                exact ⟨_, h9, hb8, rfl⟩
              · intro a w' hb hp
                have h26 : a.tmps[26]?.getD undef = .bool (cutO n es (l.take m)) := slot_eq.symm.trans (hp ⟨4, .data⟩ (by simp) rfl _ rfl)
                exact step_run (v := .bool (!cutO n es (l.take m))) rfl (by simp [execOp, go_sem, h26]) rfl
            · intro vs w8 hb8 hv
              have h5 : vs 5 = .bool (!cutO n es (l.take m)) := hv 5 (by decide)
              simp only [putAll, Act.put, List.setIfInBounds_toArray, List.set_cons_zero, List.set_cons_succ, Nat.zero_add, Nat.reduceAdd, h5]
              clear hv
              have B8 := Lib.hid (bl2 Hb.out hb8)
              clear hb8
              rw [Hco.out]
              cases hcw : cutW n (psts (n : Int) es) (l.take m) with
              | false =>
                have hr : R = false := by
                  rw [HR.out, Bool.eq_false_iff]
                  intro h
                  rw [(isW_cuts Hac.out l).1 h m hm] at hcw
                  cases hcw
                subst hr
                clear hcw
                go_wp2
                go_ret
                exact ⟨rfl, box_low (bl2 Hbox.out B8.out)⟩
              | true =>
                have Hn := Lib.hid (show ∀ q, q < m + 1 → cutW n (psts (n : Int) es) (l.take q) = true from fun q hq => by
                  by_cases e : q = m
                  · rw [e]; exact hcw
                  · exact Hall.out q (by omega))
                clear hcw
                go_wp2
                go_roundw
                case rel => exact ⟨m + 1, by omega, by go_num, Hn, B8⟩
                case measure => simp [intOf]; omega
        · have hr : R = true := by rw [HR.out]; exact (isW_cuts Hac.out l).2 (fun q hq => Hall.out q (by omega))
          subst hr
          go_wp2
          go_ret
          exact ⟨rfl, box_low Hbw.out⟩
    · have hr : R = false := by rw [HR.out, decide_eq_false hlen]; rfl
      subst hr
      have hne : ((l.length : Int) != (n : Int)) = true := by rw [bne_iff_ne]; exact hlen
      clear hv
      go_enter Try.func23, Try.ntmps23
      go_wp2_with fail
      refine (rvalid_any n sv es _ (H.out.below (below_alloc _ _)) hl).mono ?_
      rintro e w1 ⟨rfl, hb⟩
      have hx := box_keep hb
      have x0 := cell_of_row _ _ 0 _ _ _ hx
      rw [Hv.out]
      have Hb := Lib.hid (box_low hb)
      clear hb
      go_wp2
      go_ret
      exact ⟨rfl, Hb.out⟩
end Go.Proofs.Ytiaidkdpfmbemaa
