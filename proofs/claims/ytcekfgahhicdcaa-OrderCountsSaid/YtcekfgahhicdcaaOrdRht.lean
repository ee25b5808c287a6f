/- The reference's Height. -/
import Derived.Test.YtcekfgahhicdcaaOrdRkf
import Derived.Test.YtcekfgahhicdcaaOrdRl
import Derived.Test.YtcekfgahhicdcaaRegInv
namespace Go.Proofs.Ytcekfgahhicdcaa
open Go.RowKit

theorem eK_ne {n : Nat} {es : List (Int × Int)} (hc : acyc (n : Int) es = true) {q i : Nat} (hq : q < i) (hi : i < n) : eK n es q ≠ eK n es i := by
  intro h
  have h1 := (sK_bits (n := n) (es := es) (j := eK n es i) i).2 ⟨q, hq, h⟩
  rw [eK_out hc hi] at h1
  cases h1
theorem nopeB {b : Bool} {α : Prop} (h : b = false) (k : b = true) : α := by rw [h] at k; cases k
theorem addr_lit0 (b k : Nat) : (⟨b, 0, none⟩ : Addr).add k = ⟨b, k, none⟩ := by unfold Addr.add; split <;> simp_all
/-- Reads in any order. -/
def RdQ (val : Nat → Value) (wd : World) (L : Nat → Bool) (vs : Nat → Value) (w : World) : Prop := (∀ i, L i = true → vs i = val i) ∧ w = wd
theorem RdQ.start {val : Nat → Value} {wd : World} {vs : Nat → Value} : RdQ val wd (fun _ => false) vs wd := ⟨fun _ h => nopeB rfl h, rfl⟩
theorem RdQ.step {val : Nat → Value} {wd w : World} {L : Nat → Bool} {vs : Nat → Value} (h : RdQ val wd L vs w) (i : Nat) {v : Value} (hv : v = val i) : RdQ val wd (updB L i) (updV vs i v) w := by
  refine ⟨fun j hl => ?_, h.2⟩
  by_cases e : j = i
  · subst e; rw [updV_self]; exact hv
  · rw [updV_ne _ _ e]; rw [updB_ne _ e] at hl; exact h.1 j hl
/-- Reads in any order, and a last operation that leaves another world. -/
def RdI (val : Nat → Value) (last : Nat) (wd we : World) (L : Nat → Bool) (vs : Nat → Value) (w : World) : Prop := (∀ i, i < last → L i = true → vs i = val i) ∧ (L last = false → w = wd) ∧ (L last = true → w = we)
theorem RdI.start {val : Nat → Value} {last : Nat} {wd we : World} {vs : Nat → Value} : RdI val last wd we (fun _ => false) vs wd := ⟨fun _ _ h => nopeB rfl h, fun _ => rfl, fun h => nopeB rfl h⟩
theorem RdI.step {val : Nat → Value} {last : Nat} {wd we w : World} {L : Nat → Bool} {vs : Nat → Value} (h : RdI val last wd we L vs w) (i : Nat) (hi : i < last) {v : Value} (hv : v = val i) : RdI val last wd we (updB L i) (updV vs i v) w := by
  refine ⟨fun j hj hl => ?_, ?_, ?_⟩
  · by_cases e : j = i
    · subst e; rw [updV_self]; exact hv
    · rw [updV_ne _ _ e]; rw [updB_ne _ e] at hl; exact h.1 j hj hl
  · rw [updB_ne _ (by omega)]; exact h.2.1
  · rw [updB_ne _ (by omega)]; exact h.2.2
theorem RdI.last {val : Nat → Value} {last : Nat} {wd we w : World} {L : Nat → Bool} {vs : Nat → Value} (h : RdI val last wd we L vs w) : RdI val last wd we (updB L last) (updV vs last undef) we := by
  refine ⟨fun j hj hl => ?_, fun hl => ?_, fun _ => rfl⟩
  · rw [updV_ne _ _ (by omega)]; rw [updB_ne _ (by omega)] at hl; exact h.1 j hj hl
  · rw [updB_self] at hl; cases hl
set_option maxRecDepth 20000 in
set_option maxHeartbeats 4000000 in
theorem rheight_any (N : Int) (v : Value) (es : List (Int × Int)) (w : World) (h : Prs w v es) (hl : es.length ≤ 100000) : Calls Try.prog 31 #[.agg #[.int .i64 N, v]] w (HtP N es w) := by
  have H := Lib.hid h; clear h
  cases hv : valO N es with
  | false =>
    have Hr := Lib.hid (show linR N es = ([], 1) by unfold linR; rw [hv]; rfl)
    have Hv := Lib.hid hv; clear hv
    go_enter Try.func31, Try.ntmps31
    go_wp2_with fail
    refine (rlinear_any N v es _ (H.out.below (below_alloc _ _)) hl).mono ?_
    rintro e w1 ⟨lv, he, _, hb⟩
    rw [Hr.out] at he
    subst he
    have Hb := Lib.hid (box_low hb)
    clear hb
    go_wp2
    go_ret2
    exact ⟨Hb.out, .inl ⟨Hv.out, rfl⟩⟩
  | true =>
    have Hv := Lib.hid hv
    obtain ⟨⟨n0, n1, n2⟩, hed, hac⟩ := valO_parts hv
    obtain ⟨n, rfl⟩ : ∃ n : Nat, N = n := ⟨N.toNat, by omega⟩
    have hn : n ≤ 60 := by omega
    have Hr := Lib.hid (show linR n es = (Lk n es n, 0) by unfold linR Lk; rw [hv, if_pos rfl, Int.toNat_natCast])
    have Hac := Lib.hid hac
    have Hed := Lib.hid hed
    obtain ⟨j0, hj0, hy0, hy1, hy2⟩ := info_parts info_int
    clear hv n0 n1 hac hed
    go_enter Try.func31, Try.ntmps31
    go_wp2_with fail
    refine (rlinear_any n v es _ (H.out.below (below_alloc _ _)) hl).mono ?_
    rintro e w1 ⟨lv, he, hown, hb⟩
    rw [Hr.out] at he hown
    subst he
    have hS := Sl.of_own hown
    obtain ⟨A, cp, hlv⟩ := hS.shape
    dsimp only at hlv hS
    rw [Lk_len] at hlv
    subst hlv
    have Hl := Lib.hid hS
    have hx := box_keep hb
    have x0 := cell_of_row _ _ 0 _ _ _ hx
    have x1 := cell_of_row _ _ 1 _ _ _ hx
    have B1 := Lib.hid hb
    clear hb hown hS hx
    go_wp2_with fail
    refine (behind_any n v es _ (H.out.below (box_low B1.out)) hl hn Hed.out).mono ?_
    rintro e w2 ⟨g, rfl, hb2, hM⟩
    have HM := Lib.hid hM
    have HL := Lib.hid (show ∀ w', Below w2.heap.size w2 w' → Sl iv w' (.slice A n cp) (Lk n es n) from fun w' h => Hl.out.below (bl2 hb2 h))
    have B2 := Lib.hid (bl2 B1.out hb2)
    clear hb2 hM x0 x1
    have x0 := cell_of_row _ _ 0 _ _ _ (box_keep B2.out)
    have Hrow := Lib.hid ((World.rowIs_made w2 (.int .i64 0) n 3).congr (g := fun _ => .int .i64 (((fun _ => 0 : Nat → Nat) 0 : Nat) : Int)) (fun i _ => rfl))
    have Hba := Lib.hid (below_alloc w2 (.cells (madeCells #[.int .i64 0] n) 3))
    go_wp2_with (at_make; refine wpList_make_row _ rfl _ _ 31 rfl 3 j0 (.int .i64 0) (by kernel_rfl) hj0 hy0 hy1 rfl .i64 .i64 n rfl rfl (by rw [hy2]; omega) (by omega) ?_)
    clear x0
    go_loopw [8, 9] (fun mv iv' wr => ∃ (i m : Nat) (hi : Nat → Nat), i ≤ n ∧ iv' = .int .i64 i ∧ mv = .int .i64 m ∧ m ≤ i ∧ Hid (Mst n es (eK n es) i m) ∧ Hid (∀ q, q < i → RK n es (eK n es q) (hi (eK n es q)) ∧ hi (eK n es q) ≤ q + 1) ∧ Hid (wr.rowIs w2.heap.size 3 n (fun j => .int .i64 ((hi j : Nat) : Int))) ∧ Hid (Below w2.heap.size w2 wr)) (fun _ i _ => n - (intOf i).toNat)
    case atStart => exact ⟨0, 0, fun _ => 0, Nat.zero_le _, rfl, rfl, Nat.le_refl _, Lib.hid (Mst.start n es _), Lib.hid (fun q h => absurd h (Nat.not_lt_zero q)), Hrow, Hba⟩
    case round =>
      clear Hrow Hba
      obtain ⟨i, m, hi, hin, rfl, rfl, hmi, HMs, Hrk, Hrow, Hb⟩ := hrel
      by_cases hlt : i < n
      · obtain ⟨he, hrd⟩ := eK_nx Hac.out hlt
        obtain ⟨ad, c', hsl, hcap, hcell⟩ := sl_cell (HL.out _ Hb.out) i (by rw [Lk_len]; exact hlt)
        rw [Lk_len] at hsl hcap
        simp only [Value.slice.injEq, true_and] at hsl
        obtain ⟨rfl, rfl⟩ := hsl
        rw [Lk_at] at hcell
        unfold iv at hcell
        have Hpre := Lib.hid (eK_pre Hac.out hlt)
        have Hle := Lib.hid (fun q (hq : q < n) => (eK_nx Hac.out hq).1)
        have Hne := Lib.hid (fun q (hq : q < i) => eK_ne Hac.out hq hlt)
        have He := Lib.hid (show ∃ e, e = eK n es i from ⟨_, rfl⟩)
        obtain ⟨e, hee⟩ := He.out
        rw [← hee] at he hcell
        have Hee := Lib.hid hee
        have cd := Hrow.out.cell he
        have fd := Hrow.out.frozen e
        have i0 : (0 : Int) ≤ (i : Int) := by omega
        have i1 : (i : Int) < (n : Int) := by omega
        have e0 : (0 : Int) ≤ (e : Int) := by omega
        have e1 : (e : Int) < (n : Int) := by omega
        have Hrow1 := Lib.hid ((Hrow.out.set e (.int .i64 1)).congr (g := fun j => .int .i64 (((if j = e then 1 else hi j : Nat)) : Int)) (fun j _ => by by_cases hj : j = e <;> simp [hj]))
        have Hb1 := Lib.hid (Hb.out.setCell (p := ⟨w2.heap.size, e, none⟩) (Nat.le_refl _) (.int .i64 1))
        clear hrd hee He
        go_wp2
        clear cd fd hcell
        go_loopw [10] (fun kv wr2 => ∃ (k v : Nat), k ≤ i ∧ kv = .int .i64 k ∧ v ≤ k + 1 ∧ Hid (Par n es (eK n es) e k v) ∧ Hid (wr2.rowIs w2.heap.size 3 n (fun j => .int .i64 (((if j = e then v else hi j : Nat)) : Int))) ∧ Hid (Below w2.heap.size w2 wr2)) (fun kv _ => i - (intOf kv).toNat)
        case atStart => exact ⟨0, 1, Nat.zero_le _, rfl, Nat.le_refl _, Lib.hid (Par.start n es _ e), Hrow1, Hb1⟩
        case round =>
          clear Hrow1 Hb1
          obtain ⟨k, v, hk, rfl, hvk, HP, Hrow, Hb⟩ := hrel
          obtain ⟨ad', c', hsl, _, hcell⟩ := sl_cell (HL.out _ Hb.out) i (by rw [Lk_len]; exact hlt)
          rw [Lk_len] at hsl
          simp only [Value.slice.injEq, Option.some.injEq, true_and] at hsl
          obtain ⟨rfl, rfl⟩ := hsl
          rw [Lk_at, ← Hee.out] at hcell
          unfold iv at hcell
          have ce := Hrow.out.cell he
          have fe := Hrow.out.frozen e
          rw [if_pos rfl] at ce
          by_cases hlk : k < i
          · have hkn : k < n := by omega
            obtain ⟨ad', c', hsl, _, hck⟩ := sl_cell (HL.out _ Hb.out) k (by rw [Lk_len]; exact hkn)
            rw [Lk_len] at hsl
            simp only [Value.slice.injEq, Option.some.injEq, true_and] at hsl
            obtain ⟨rfl, rfl⟩ := hsl
            rw [Lk_at] at hck
            unfold iv at hck
            have hp := Hle.out k hkn
            have hnp := Hne.out k hlk
            rw [← Hee.out] at hnp
            obtain ⟨hr1, hr2⟩ := Hrk.out k hlk
            have Hskip := Lib.hid (fun h => HP.out.skip (k := k) h)
            have Hnext := Lib.hid (fun h => HP.out.next (k := k) h hr1)
            generalize eK n es k = p at *
            have cp1 := Hrow.out.cell hp
            rw [if_neg hnp] at cp1
            have co := (HM.out.below Hb.out).cellO hp
            have ci := (HM.out.below Hb.out).cellI hp he
            have p0 : (0 : Int) ≤ (p : Int) := by omega
            have p1 : (p : Int) < (n : Int) := by omega
            have k0 : (0 : Int) ≤ (k : Int) := by omega
            have k1 : (k : Int) < (n : Int) := by omega
            cases hbf : Bf n es p e with
            | false =>
              have Hpar := Lib.hid (Hskip.out hbf)
              rw [hbf] at ci
              clear hbf
              go_wp2_with fail
              refine region_inv (n := 86) (RdQ (fun zz => match zz with | 0 => .slice (some ⟨g, 0, none⟩) n n | 1 => .slice (some ad) n cp | 2 => .int .i64 (k : Int) | 3 => .pointer (some (ad.add k)) | 4 => .int .i64 (p : Int) | 5 => .pointer (some ⟨g, p, none⟩) | 6 => .slice (some ⟨g + 1 + p, 0, none⟩) n n | 7 => .slice (some ad) n cp | 8 => .int .i64 (i : Int) | 9 => .pointer (some (ad.add i)) | 10 => .int .i64 (e : Int) | 11 => .pointer (some ⟨g + 1 + p, e, none⟩) | 12 => .bool false | _ => undef) (wr.drew)) (by kernel_rfl) (by kernel_rfl) rfl ?_ (allOps_spec ?_) ?_
              · intro vs
                exact RdQ.start
              · refine ⟨?_, ?_, ?_, ?_, ?_, ?_, ?_, ?_, ?_, ?_, ?_, ?_, ?_, trivial⟩
                · intro L vs a w6 hB hL hd hI
                  have b6 : a.tmps[6]?.getD undef = .slice (some ⟨g, 0, none⟩) n n := hB.at 6 (by kernel_rfl)
                  exact stepI_run (v := .slice (some ⟨g, 0, none⟩) n n) rfl (by simp [execOp, go_sem, Act.eval, b6]) (hI.step 0 rfl)
                · intro L vs a w6 hB hL hd hI
                  have b4 : a.tmps[4]?.getD undef = .slice (some ad) n cp := hB.at 4 (by kernel_rfl)
                  exact stepI_run (v := .slice (some ad) n cp) rfl (by simp [execOp, go_sem, Act.eval, b4]) (hI.step 1 rfl)
                · intro L vs a w6 hB hL hd hI
                  have b10 : a.tmps[10]?.getD undef = .int .i64 (k : Int) := hB.at 10 (by kernel_rfl)
                  exact stepI_run (v := .int .i64 (k : Int)) rfl (by simp [execOp, go_sem, Act.eval, b10]) (hI.step 2 rfl)
                · intro L vs a w6 hB hL hd hI
                  have b42 : a.tmps[42]?.getD undef = .slice (some ad) n cp := (hB.val 1 (hd ⟨1, .data⟩ (by simp) rfl) 42 rfl).trans (hI.1 1 (hd ⟨1, .data⟩ (by simp) rfl))
                  have b43 : a.tmps[43]?.getD undef = .int .i64 (k : Int) := (hB.val 2 (hd ⟨2, .data⟩ (by simp) rfl) 43 rfl).trans (hI.1 2 (hd ⟨2, .data⟩ (by simp) rfl))
                  exact stepI_run (v := .pointer (some (ad.add k))) rfl (by simp [execOp, go_sem, Act.eval, b42, b43, k0, k1]) (hI.step 3 rfl)
                · intro L vs a w6 hB hL hd hI
                  have b44 : a.tmps[44]?.getD undef = .pointer (some (ad.add k)) := (hB.val 3 (hd ⟨3, .data⟩ (by simp) rfl) 44 rfl).trans (hI.1 3 (hd ⟨3, .data⟩ (by simp) rfl))
                  have hck1 : w6.cell? (ad.add k) = some (.int .i64 (p : Int)) := by rw [hI.2]; exact hck
                  exact stepI_run (v := .int .i64 (p : Int)) rfl (by simp [execOp, go_sem, Act.eval, b44, hck1]) (hI.step 4 rfl)
                · intro L vs a w6 hB hL hd hI
                  have b41 : a.tmps[41]?.getD undef = .slice (some ⟨g, 0, none⟩) n n := (hB.val 0 (hd ⟨0, .data⟩ (by simp) rfl) 41 rfl).trans (hI.1 0 (hd ⟨0, .data⟩ (by simp) rfl))
                  have b45 : a.tmps[45]?.getD undef = .int .i64 (p : Int) := (hB.val 4 (hd ⟨4, .data⟩ (by simp) rfl) 45 rfl).trans (hI.1 4 (hd ⟨4, .data⟩ (by simp) rfl))
                  exact stepI_run (v := .pointer (some ⟨g, p, none⟩)) rfl (by simp [execOp, go_sem, Act.eval, b41, b45, p0, p1, addr_lit0]) (hI.step 5 rfl)
                · intro L vs a w6 hB hL hd hI
                  have b46 : a.tmps[46]?.getD undef = .pointer (some ⟨g, p, none⟩) := (hB.val 5 (hd ⟨5, .data⟩ (by simp) rfl) 46 rfl).trans (hI.1 5 (hd ⟨5, .data⟩ (by simp) rfl))
                  have hco : w6.cell? ⟨g, p, none⟩ = some (.slice (some ⟨g + 1 + p, 0, none⟩) n n) := by rw [hI.2]; exact co
                  exact stepI_run (v := .slice (some ⟨g + 1 + p, 0, none⟩) n n) rfl (by simp [execOp, go_sem, Act.eval, b46, hco]) (hI.step 6 rfl)
                · intro L vs a w6 hB hL hd hI
                  have b4 : a.tmps[4]?.getD undef = .slice (some ad) n cp := hB.at 4 (by kernel_rfl)
                  exact stepI_run (v := .slice (some ad) n cp) rfl (by simp [execOp, go_sem, Act.eval, b4]) (hI.step 7 rfl)
                · intro L vs a w6 hB hL hd hI
                  have b9 : a.tmps[9]?.getD undef = .int .i64 (i : Int) := hB.at 9 (by kernel_rfl)
                  exact stepI_run (v := .int .i64 (i : Int)) rfl (by simp [execOp, go_sem, Act.eval, b9]) (hI.step 8 rfl)
                · intro L vs a w6 hB hL hd hI
                  have b48 : a.tmps[48]?.getD undef = .slice (some ad) n cp := (hB.val 7 (hd ⟨7, .data⟩ (by simp) rfl) 48 rfl).trans (hI.1 7 (hd ⟨7, .data⟩ (by simp) rfl))
                  have b49 : a.tmps[49]?.getD undef = .int .i64 (i : Int) := (hB.val 8 (hd ⟨8, .data⟩ (by simp) rfl) 49 rfl).trans (hI.1 8 (hd ⟨8, .data⟩ (by simp) rfl))
                  exact stepI_run (v := .pointer (some (ad.add i))) rfl (by simp [execOp, go_sem, Act.eval, b48, b49, i0, i1]) (hI.step 9 rfl)
                · intro L vs a w6 hB hL hd hI
                  have b50 : a.tmps[50]?.getD undef = .pointer (some (ad.add i)) := (hB.val 9 (hd ⟨9, .data⟩ (by simp) rfl) 50 rfl).trans (hI.1 9 (hd ⟨9, .data⟩ (by simp) rfl))
                  have hce1 : w6.cell? (ad.add i) = some (.int .i64 (e : Int)) := by rw [hI.2]; exact hcell
                  exact stepI_run (v := .int .i64 (e : Int)) rfl (by simp [execOp, go_sem, Act.eval, b50, hce1]) (hI.step 10 rfl)
                · intro L vs a w6 hB hL hd hI
                  have b47 : a.tmps[47]?.getD undef = .slice (some ⟨g + 1 + p, 0, none⟩) n n := (hB.val 6 (hd ⟨6, .data⟩ (by simp) rfl) 47 rfl).trans (hI.1 6 (hd ⟨6, .data⟩ (by simp) rfl))
                  have b51 : a.tmps[51]?.getD undef = .int .i64 (e : Int) := (hB.val 10 (hd ⟨10, .data⟩ (by simp) rfl) 51 rfl).trans (hI.1 10 (hd ⟨10, .data⟩ (by simp) rfl))
                  exact stepI_run (v := .pointer (some ⟨g + 1 + p, e, none⟩)) rfl (by simp [execOp, go_sem, Act.eval, b47, b51, e0, e1, addr_lit0]) (hI.step 11 rfl)
                · intro L vs a w6 hB hL hd hI
                  have b52 : a.tmps[52]?.getD undef = .pointer (some ⟨g + 1 + p, e, none⟩) := (hB.val 11 (hd ⟨11, .data⟩ (by simp) rfl) 52 rfl).trans (hI.1 11 (hd ⟨11, .data⟩ (by simp) rfl))
                  have hci : w6.cell? ⟨g + 1 + p, e, none⟩ = some (.bool false) := by rw [hI.2]; exact ci
                  exact stepI_run (v := .bool false) rfl (by simp [execOp, go_sem, Act.eval, b52, hci]) (hI.step 12 rfl)
              · intro L vs w6 hall hI
                have h12 := hI.1 12 (hall 12 (by decide))
                have hw6 := hI.2
                subst hw6
                clear hI hall
                simp only [putAll, Act.put, List.setIfInBounds_toArray, List.set_cons_zero, List.set_cons_succ, Nat.zero_add, Nat.reduceAdd, h12]
                clear h12
                go_wp2
                go_roundw
                case rel => exact ⟨k + 1, v, by omega, by go_num, by omega, Hpar, Hrow, Lib.hid (bl_drew Hb.out)⟩
                case measure => simp [intOf]; omega
            | true =>
              have Hpar := Lib.hid (Hnext.out hbf)
              rw [hbf] at ci
              clear hbf
              go_wp2_with fail
              refine region_inv (n := 86) (RdQ (fun zz => match zz with | 0 => .slice (some ⟨g, 0, none⟩) n n | 1 => .slice (some ad) n cp | 2 => .int .i64 (k : Int) | 3 => .pointer (some (ad.add k)) | 4 => .int .i64 (p : Int) | 5 => .pointer (some ⟨g, p, none⟩) | 6 => .slice (some ⟨g + 1 + p, 0, none⟩) n n | 7 => .slice (some ad) n cp | 8 => .int .i64 (i : Int) | 9 => .pointer (some (ad.add i)) | 10 => .int .i64 (e : Int) | 11 => .pointer (some ⟨g + 1 + p, e, none⟩) | 12 => .bool true | _ => undef) (wr.drew)) (by kernel_rfl) (by kernel_rfl) rfl ?_ (allOps_spec ?_) ?_
              · intro vs
                exact RdQ.start
              · refine ⟨?_, ?_, ?_, ?_, ?_, ?_, ?_, ?_, ?_, ?_, ?_, ?_, ?_, trivial⟩
                · intro L vs a w6 hB hL hd hI
                  have b6 : a.tmps[6]?.getD undef = .slice (some ⟨g, 0, none⟩) n n := hB.at 6 (by kernel_rfl)
                  exact stepI_run (v := .slice (some ⟨g, 0, none⟩) n n) rfl (by simp [execOp, go_sem, Act.eval, b6]) (hI.step 0 rfl)
                · intro L vs a w6 hB hL hd hI
                  have b4 : a.tmps[4]?.getD undef = .slice (some ad) n cp := hB.at 4 (by kernel_rfl)
                  exact stepI_run (v := .slice (some ad) n cp) rfl (by simp [execOp, go_sem, Act.eval, b4]) (hI.step 1 rfl)
                · intro L vs a w6 hB hL hd hI
                  have b10 : a.tmps[10]?.getD undef = .int .i64 (k : Int) := hB.at 10 (by kernel_rfl)
                  exact stepI_run (v := .int .i64 (k : Int)) rfl (by simp [execOp, go_sem, Act.eval, b10]) (hI.step 2 rfl)
                · intro L vs a w6 hB hL hd hI
                  have b42 : a.tmps[42]?.getD undef = .slice (some ad) n cp := (hB.val 1 (hd ⟨1, .data⟩ (by simp) rfl) 42 rfl).trans (hI.1 1 (hd ⟨1, .data⟩ (by simp) rfl))
                  have b43 : a.tmps[43]?.getD undef = .int .i64 (k : Int) := (hB.val 2 (hd ⟨2, .data⟩ (by simp) rfl) 43 rfl).trans (hI.1 2 (hd ⟨2, .data⟩ (by simp) rfl))
                  exact stepI_run (v := .pointer (some (ad.add k))) rfl (by simp [execOp, go_sem, Act.eval, b42, b43, k0, k1]) (hI.step 3 rfl)
                · intro L vs a w6 hB hL hd hI
                  have b44 : a.tmps[44]?.getD undef = .pointer (some (ad.add k)) := (hB.val 3 (hd ⟨3, .data⟩ (by simp) rfl) 44 rfl).trans (hI.1 3 (hd ⟨3, .data⟩ (by simp) rfl))
                  have hck1 : w6.cell? (ad.add k) = some (.int .i64 (p : Int)) := by rw [hI.2]; exact hck
                  exact stepI_run (v := .int .i64 (p : Int)) rfl (by simp [execOp, go_sem, Act.eval, b44, hck1]) (hI.step 4 rfl)
                · intro L vs a w6 hB hL hd hI
                  have b41 : a.tmps[41]?.getD undef = .slice (some ⟨g, 0, none⟩) n n := (hB.val 0 (hd ⟨0, .data⟩ (by simp) rfl) 41 rfl).trans (hI.1 0 (hd ⟨0, .data⟩ (by simp) rfl))
                  have b45 : a.tmps[45]?.getD undef = .int .i64 (p : Int) := (hB.val 4 (hd ⟨4, .data⟩ (by simp) rfl) 45 rfl).trans (hI.1 4 (hd ⟨4, .data⟩ (by simp) rfl))
                  exact stepI_run (v := .pointer (some ⟨g, p, none⟩)) rfl (by simp [execOp, go_sem, Act.eval, b41, b45, p0, p1, addr_lit0]) (hI.step 5 rfl)
                · intro L vs a w6 hB hL hd hI
                  have b46 : a.tmps[46]?.getD undef = .pointer (some ⟨g, p, none⟩) := (hB.val 5 (hd ⟨5, .data⟩ (by simp) rfl) 46 rfl).trans (hI.1 5 (hd ⟨5, .data⟩ (by simp) rfl))
                  have hco : w6.cell? ⟨g, p, none⟩ = some (.slice (some ⟨g + 1 + p, 0, none⟩) n n) := by rw [hI.2]; exact co
                  exact stepI_run (v := .slice (some ⟨g + 1 + p, 0, none⟩) n n) rfl (by simp [execOp, go_sem, Act.eval, b46, hco]) (hI.step 6 rfl)
                · intro L vs a w6 hB hL hd hI
                  have b4 : a.tmps[4]?.getD undef = .slice (some ad) n cp := hB.at 4 (by kernel_rfl)
                  exact stepI_run (v := .slice (some ad) n cp) rfl (by simp [execOp, go_sem, Act.eval, b4]) (hI.step 7 rfl)
                · intro L vs a w6 hB hL hd hI
                  have b9 : a.tmps[9]?.getD undef = .int .i64 (i : Int) := hB.at 9 (by kernel_rfl)
                  exact stepI_run (v := .int .i64 (i : Int)) rfl (by simp [execOp, go_sem, Act.eval, b9]) (hI.step 8 rfl)
                · intro L vs a w6 hB hL hd hI
                  have b48 : a.tmps[48]?.getD undef = .slice (some ad) n cp := (hB.val 7 (hd ⟨7, .data⟩ (by simp) rfl) 48 rfl).trans (hI.1 7 (hd ⟨7, .data⟩ (by simp) rfl))
                  have b49 : a.tmps[49]?.getD undef = .int .i64 (i : Int) := (hB.val 8 (hd ⟨8, .data⟩ (by simp) rfl) 49 rfl).trans (hI.1 8 (hd ⟨8, .data⟩ (by simp) rfl))
                  exact stepI_run (v := .pointer (some (ad.add i))) rfl (by simp [execOp, go_sem, Act.eval, b48, b49, i0, i1]) (hI.step 9 rfl)
                · intro L vs a w6 hB hL hd hI
                  have b50 : a.tmps[50]?.getD undef = .pointer (some (ad.add i)) := (hB.val 9 (hd ⟨9, .data⟩ (by simp) rfl) 50 rfl).trans (hI.1 9 (hd ⟨9, .data⟩ (by simp) rfl))
                  have hce1 : w6.cell? (ad.add i) = some (.int .i64 (e : Int)) := by rw [hI.2]; exact hcell
                  exact stepI_run (v := .int .i64 (e : Int)) rfl (by simp [execOp, go_sem, Act.eval, b50, hce1]) (hI.step 10 rfl)
                · intro L vs a w6 hB hL hd hI
                  have b47 : a.tmps[47]?.getD undef = .slice (some ⟨g + 1 + p, 0, none⟩) n n := (hB.val 6 (hd ⟨6, .data⟩ (by simp) rfl) 47 rfl).trans (hI.1 6 (hd ⟨6, .data⟩ (by simp) rfl))
                  have b51 : a.tmps[51]?.getD undef = .int .i64 (e : Int) := (hB.val 10 (hd ⟨10, .data⟩ (by simp) rfl) 51 rfl).trans (hI.1 10 (hd ⟨10, .data⟩ (by simp) rfl))
                  exact stepI_run (v := .pointer (some ⟨g + 1 + p, e, none⟩)) rfl (by simp [execOp, go_sem, Act.eval, b47, b51, e0, e1, addr_lit0]) (hI.step 11 rfl)
                · intro L vs a w6 hB hL hd hI
                  have b52 : a.tmps[52]?.getD undef = .pointer (some ⟨g + 1 + p, e, none⟩) := (hB.val 11 (hd ⟨11, .data⟩ (by simp) rfl) 52 rfl).trans (hI.1 11 (hd ⟨11, .data⟩ (by simp) rfl))
                  have hci : w6.cell? ⟨g + 1 + p, e, none⟩ = some (.bool true) := by rw [hI.2]; exact ci
                  exact stepI_run (v := .bool true) rfl (by simp [execOp, go_sem, Act.eval, b52, hci]) (hI.step 12 rfl)
              · intro L vs w6 hall hI
                have h12 := hI.1 12 (hall 12 (by decide))
                have hw6 := hI.2
                subst hw6
                clear hI hall
                simp only [putAll, Act.put, List.setIfInBounds_toArray, List.set_cons_zero, List.set_cons_succ, Nat.zero_add, Nat.reduceAdd, h12]
                clear h12
                obtain ⟨vi, hvi⟩ : ∃ vi : Int, vi = (v : Int) := ⟨_, rfl⟩
                obtain ⟨ri, hri⟩ : ∃ ri : Int, ri = (hi p : Int) := ⟨_, rfl⟩
                obtain ⟨xi, hxi⟩ : ∃ xi : Int, xi = ((max v (hi p + 1) : Nat) : Int) := ⟨_, rfl⟩
                rw [← hvi] at ce
                rw [← hri] at cp1
                have hw1 : IntKind.i64.wrap (ri + 1) = ri + 1 := by rw [IntKind.wrap_i64]; omega
                have Hrow5 := Lib.hid ((Hrow.out.drew.drew.set e (.int .i64 xi)).congr (g := fun j => .int .i64 (((if j = e then max v (hi p + 1) else hi j : Nat)) : Int)) (fun j _ => by by_cases hj : j = e <;> simp [hj, hxi]))
                have Hb5 := Lib.hid ((bl_drew (bl_drew Hb.out)).setCell (p := ⟨w2.heap.size, e, none⟩) (Nat.le_refl _) (.int .i64 xi))
                go_wp2_with fail
                refine region_inv (n := 86) (RdI (fun zz => match zz with | 0 => .slice (some ⟨w2.heap.size, 0, none⟩) n n | 1 => .slice (some ad) n cp | 2 => .int .i64 (i : Int) | 3 => .pointer (some (ad.add i)) | 4 => .int .i64 (e : Int) | 5 => .slice (some ⟨w2.heap.size, 0, none⟩) n n | 6 => .slice (some ad) n cp | 7 => .int .i64 (i : Int) | 8 => .pointer (some (ad.add i)) | 9 => .int .i64 (e : Int) | 10 => .pointer (some ⟨w2.heap.size, e, none⟩) | 11 => .int .i64 vi | 12 => .slice (some ⟨w2.heap.size, 0, none⟩) n n | 13 => .slice (some ad) n cp | 14 => .int .i64 (k : Int) | 15 => .pointer (some (ad.add k)) | 16 => .int .i64 (p : Int) | 17 => .pointer (some ⟨w2.heap.size, p, none⟩) | 18 => .int .i64 ri | 19 => .int .i64 (ri + 1) | 20 => .int .i64 xi | 21 => .pointer (some ⟨w2.heap.size, e, none⟩) | _ => undef) 22 (wr.drew.drew) (wr.drew.drew.setCell ⟨w2.heap.size, e, none⟩ (.int .i64 xi))) (by kernel_rfl) (by kernel_rfl) rfl ?_ (allOps_spec ?_) ?_
                · intro vs
                  exact RdI.start
                · refine ⟨?_, ?_, ?_, ?_, ?_, ?_, ?_, ?_, ?_, ?_, ?_, ?_, ?_, ?_, ?_, ?_, ?_, ?_, ?_, ?_, ?_, ?_, ?_, trivial⟩
                  · intro L vs a w6 hB hL hd hI
                    have b7 : a.tmps[7]?.getD undef = .slice (some ⟨w2.heap.size, 0, none⟩) n n := hB.at 7 (by kernel_rfl)
                    exact stepI_run (v := .slice (some ⟨w2.heap.size, 0, none⟩) n n) rfl (by simp [execOp, go_sem, Act.eval, b7]) (hI.step 0 (by decide) rfl)
                  · intro L vs a w6 hB hL hd hI
                    have b4 : a.tmps[4]?.getD undef = .slice (some ad) n cp := hB.at 4 (by kernel_rfl)
                    exact stepI_run (v := .slice (some ad) n cp) rfl (by simp [execOp, go_sem, Act.eval, b4]) (hI.step 1 (by decide) rfl)
                  · intro L vs a w6 hB hL hd hI
                    have b9 : a.tmps[9]?.getD undef = .int .i64 (i : Int) := hB.at 9 (by kernel_rfl)
                    exact stepI_run (v := .int .i64 (i : Int)) rfl (by simp [execOp, go_sem, Act.eval, b9]) (hI.step 2 (by decide) rfl)
                  · intro L vs a w6 hB hL hd hI
                    have b55 : a.tmps[55]?.getD undef = .slice (some ad) n cp := (hB.val 1 (hd ⟨1, .data⟩ (by simp) rfl) 55 rfl).trans (hI.1 1 (by decide) (hd ⟨1, .data⟩ (by simp) rfl))
                    have b56 : a.tmps[56]?.getD undef = .int .i64 (i : Int) := (hB.val 2 (hd ⟨2, .data⟩ (by simp) rfl) 56 rfl).trans (hI.1 2 (by decide) (hd ⟨2, .data⟩ (by simp) rfl))
                    exact stepI_run (v := .pointer (some (ad.add i))) rfl (by simp [execOp, go_sem, Act.eval, b55, b56, i0, i1]) (hI.step 3 (by decide) rfl)
                  · intro L vs a w6 hB hL hd hI
                    have b57 : a.tmps[57]?.getD undef = .pointer (some (ad.add i)) := (hB.val 3 (hd ⟨3, .data⟩ (by simp) rfl) 57 rfl).trans (hI.1 3 (by decide) (hd ⟨3, .data⟩ (by simp) rfl))
                    have hce1 : w6.cell? (ad.add i) = some (.int .i64 (e : Int)) := by rw [hI.2.1 (hB.wait 4 22 hL (by kernel_rfl))]; exact hcell
                    exact stepI_run (v := .int .i64 (e : Int)) rfl (by simp [execOp, go_sem, Act.eval, b57, hce1]) (hI.step 4 (by decide) rfl)
                  · intro L vs a w6 hB hL hd hI
                    have b7 : a.tmps[7]?.getD undef = .slice (some ⟨w2.heap.size, 0, none⟩) n n := hB.at 7 (by kernel_rfl)
                    exact stepI_run (v := .slice (some ⟨w2.heap.size, 0, none⟩) n n) rfl (by simp [execOp, go_sem, Act.eval, b7]) (hI.step 5 (by decide) rfl)
                  · intro L vs a w6 hB hL hd hI
                    have b4 : a.tmps[4]?.getD undef = .slice (some ad) n cp := hB.at 4 (by kernel_rfl)
                    exact stepI_run (v := .slice (some ad) n cp) rfl (by simp [execOp, go_sem, Act.eval, b4]) (hI.step 6 (by decide) rfl)
                  · intro L vs a w6 hB hL hd hI
                    have b9 : a.tmps[9]?.getD undef = .int .i64 (i : Int) := hB.at 9 (by kernel_rfl)
                    exact stepI_run (v := .int .i64 (i : Int)) rfl (by simp [execOp, go_sem, Act.eval, b9]) (hI.step 7 (by decide) rfl)
                  · intro L vs a w6 hB hL hd hI
                    have b60 : a.tmps[60]?.getD undef = .slice (some ad) n cp := (hB.val 6 (hd ⟨6, .data⟩ (by simp) rfl) 60 rfl).trans (hI.1 6 (by decide) (hd ⟨6, .data⟩ (by simp) rfl))
                    have b61 : a.tmps[61]?.getD undef = .int .i64 (i : Int) := (hB.val 7 (hd ⟨7, .data⟩ (by simp) rfl) 61 rfl).trans (hI.1 7 (by decide) (hd ⟨7, .data⟩ (by simp) rfl))
                    exact stepI_run (v := .pointer (some (ad.add i))) rfl (by simp [execOp, go_sem, Act.eval, b60, b61, i0, i1]) (hI.step 8 (by decide) rfl)
                  · intro L vs a w6 hB hL hd hI
                    have b62 : a.tmps[62]?.getD undef = .pointer (some (ad.add i)) := (hB.val 8 (hd ⟨8, .data⟩ (by simp) rfl) 62 rfl).trans (hI.1 8 (by decide) (hd ⟨8, .data⟩ (by simp) rfl))
                    have hce1 : w6.cell? (ad.add i) = some (.int .i64 (e : Int)) := by rw [hI.2.1 (hB.wait 9 22 hL (by kernel_rfl))]; exact hcell
                    exact stepI_run (v := .int .i64 (e : Int)) rfl (by simp [execOp, go_sem, Act.eval, b62, hce1]) (hI.step 9 (by decide) rfl)
                  · intro L vs a w6 hB hL hd hI
                    have b59 : a.tmps[59]?.getD undef = .slice (some ⟨w2.heap.size, 0, none⟩) n n := (hB.val 5 (hd ⟨5, .data⟩ (by simp) rfl) 59 rfl).trans (hI.1 5 (by decide) (hd ⟨5, .data⟩ (by simp) rfl))
                    have b63 : a.tmps[63]?.getD undef = .int .i64 (e : Int) := (hB.val 9 (hd ⟨9, .data⟩ (by simp) rfl) 63 rfl).trans (hI.1 9 (by decide) (hd ⟨9, .data⟩ (by simp) rfl))
                    exact stepI_run (v := .pointer (some ⟨w2.heap.size, e, none⟩)) rfl (by simp [execOp, go_sem, Act.eval, b59, b63, e0, e1, addr_lit0]) (hI.step 10 (by decide) rfl)
                  · intro L vs a w6 hB hL hd hI
                    have b64 : a.tmps[64]?.getD undef = .pointer (some ⟨w2.heap.size, e, none⟩) := (hB.val 10 (hd ⟨10, .data⟩ (by simp) rfl) 64 rfl).trans (hI.1 10 (by decide) (hd ⟨10, .data⟩ (by simp) rfl))
                    have hv1 : w6.cell? ⟨w2.heap.size, e, none⟩ = some (.int .i64 vi) := by rw [hI.2.1 (hB.wait 11 22 hL (by kernel_rfl))]; exact ce
                    exact stepI_run (v := .int .i64 vi) rfl (by simp [execOp, go_sem, Act.eval, b64, hv1]) (hI.step 11 (by decide) rfl)
                  · intro L vs a w6 hB hL hd hI
                    have b7 : a.tmps[7]?.getD undef = .slice (some ⟨w2.heap.size, 0, none⟩) n n := hB.at 7 (by kernel_rfl)
                    exact stepI_run (v := .slice (some ⟨w2.heap.size, 0, none⟩) n n) rfl (by simp [execOp, go_sem, Act.eval, b7]) (hI.step 12 (by decide) rfl)
                  · intro L vs a w6 hB hL hd hI
                    have b4 : a.tmps[4]?.getD undef = .slice (some ad) n cp := hB.at 4 (by kernel_rfl)
                    exact stepI_run (v := .slice (some ad) n cp) rfl (by simp [execOp, go_sem, Act.eval, b4]) (hI.step 13 (by decide) rfl)
                  · intro L vs a w6 hB hL hd hI
                    have b10 : a.tmps[10]?.getD undef = .int .i64 (k : Int) := hB.at 10 (by kernel_rfl)
                    exact stepI_run (v := .int .i64 (k : Int)) rfl (by simp [execOp, go_sem, Act.eval, b10]) (hI.step 14 (by decide) rfl)
                  · intro L vs a w6 hB hL hd hI
                    have b67 : a.tmps[67]?.getD undef = .slice (some ad) n cp := (hB.val 13 (hd ⟨13, .data⟩ (by simp) rfl) 67 rfl).trans (hI.1 13 (by decide) (hd ⟨13, .data⟩ (by simp) rfl))
                    have b68 : a.tmps[68]?.getD undef = .int .i64 (k : Int) := (hB.val 14 (hd ⟨14, .data⟩ (by simp) rfl) 68 rfl).trans (hI.1 14 (by decide) (hd ⟨14, .data⟩ (by simp) rfl))
                    exact stepI_run (v := .pointer (some (ad.add k))) rfl (by simp [execOp, go_sem, Act.eval, b67, b68, k0, k1]) (hI.step 15 (by decide) rfl)
                  · intro L vs a w6 hB hL hd hI
                    have b69 : a.tmps[69]?.getD undef = .pointer (some (ad.add k)) := (hB.val 15 (hd ⟨15, .data⟩ (by simp) rfl) 69 rfl).trans (hI.1 15 (by decide) (hd ⟨15, .data⟩ (by simp) rfl))
                    have hck1 : w6.cell? (ad.add k) = some (.int .i64 (p : Int)) := by rw [hI.2.1 (hB.wait 16 22 hL (by kernel_rfl))]; exact hck
                    exact stepI_run (v := .int .i64 (p : Int)) rfl (by simp [execOp, go_sem, Act.eval, b69, hck1]) (hI.step 16 (by decide) rfl)
                  · intro L vs a w6 hB hL hd hI
                    have b66 : a.tmps[66]?.getD undef = .slice (some ⟨w2.heap.size, 0, none⟩) n n := (hB.val 12 (hd ⟨12, .data⟩ (by simp) rfl) 66 rfl).trans (hI.1 12 (by decide) (hd ⟨12, .data⟩ (by simp) rfl))
                    have b70 : a.tmps[70]?.getD undef = .int .i64 (p : Int) := (hB.val 16 (hd ⟨16, .data⟩ (by simp) rfl) 70 rfl).trans (hI.1 16 (by decide) (hd ⟨16, .data⟩ (by simp) rfl))
                    exact stepI_run (v := .pointer (some ⟨w2.heap.size, p, none⟩)) rfl (by simp [execOp, go_sem, Act.eval, b66, b70, p0, p1, addr_lit0]) (hI.step 17 (by decide) rfl)
                  · intro L vs a w6 hB hL hd hI
                    have b71 : a.tmps[71]?.getD undef = .pointer (some ⟨w2.heap.size, p, none⟩) := (hB.val 17 (hd ⟨17, .data⟩ (by simp) rfl) 71 rfl).trans (hI.1 17 (by decide) (hd ⟨17, .data⟩ (by simp) rfl))
                    have hr9 : w6.cell? ⟨w2.heap.size, p, none⟩ = some (.int .i64 ri) := by rw [hI.2.1 (hB.wait 18 22 hL (by kernel_rfl))]; exact cp1
                    exact stepI_run (v := .int .i64 ri) rfl (by simp [execOp, go_sem, Act.eval, b71, hr9]) (hI.step 18 (by decide) rfl)
                  · intro L vs a w6 hB hL hd hI
                    have b72 : a.tmps[72]?.getD undef = .int .i64 ri := (hB.val 18 (hd ⟨18, .data⟩ (by simp) rfl) 72 rfl).trans (hI.1 18 (by decide) (hd ⟨18, .data⟩ (by simp) rfl))
                    exact stepI_run (v := .int .i64 (ri + 1)) rfl (by simp [execOp, go_sem, Act.eval, b72, hw1]) (hI.step 19 (by decide) rfl)
                  · intro L vs a w6 hB hL hd hI
                    have b65 : a.tmps[65]?.getD undef = .int .i64 vi := (hB.val 11 (hd ⟨11, .data⟩ (by simp) rfl) 65 rfl).trans (hI.1 11 (by decide) (hd ⟨11, .data⟩ (by simp) rfl))
                    have b73 : a.tmps[73]?.getD undef = .int .i64 (ri + 1) := (hB.val 19 (hd ⟨19, .data⟩ (by simp) rfl) 73 rfl).trans (hI.1 19 (by decide) (hd ⟨19, .data⟩ (by simp) rfl))
                    exact stepI_run (v := .int .i64 xi) rfl (by simp [go_sem, Act.eval, b65, b73]; split <;> omega) (hI.step 20 (by decide) rfl)
                  · intro L vs a w6 hB hL hd hI
                    have b54 : a.tmps[54]?.getD undef = .slice (some ⟨w2.heap.size, 0, none⟩) n n := (hB.val 0 (hd ⟨0, .data⟩ (by simp) rfl) 54 rfl).trans (hI.1 0 (by decide) (hd ⟨0, .data⟩ (by simp) rfl))
                    have b58 : a.tmps[58]?.getD undef = .int .i64 (e : Int) := (hB.val 4 (hd ⟨4, .data⟩ (by simp) rfl) 58 rfl).trans (hI.1 4 (by decide) (hd ⟨4, .data⟩ (by simp) rfl))
                    exact stepI_run (v := .pointer (some ⟨w2.heap.size, e, none⟩)) rfl (by simp [execOp, go_sem, Act.eval, b54, b58, e0, e1, addr_lit0]) (hI.step 21 (by decide) rfl)
                  · intro L vs a w6 hB hL hd hI
                    have b74 : a.tmps[74]?.getD undef = .int .i64 xi := (hB.val 20 (hd ⟨20, .data⟩ (by simp) rfl) 74 rfl).trans (hI.1 20 (by decide) (hd ⟨20, .data⟩ (by simp) rfl))
                    have b75 : a.tmps[75]?.getD undef = .pointer (some ⟨w2.heap.size, e, none⟩) := (hB.val 21 (hd ⟨21, .data⟩ (by simp) rfl) 75 rfl).trans (hI.1 21 (by decide) (hd ⟨21, .data⟩ (by simp) rfl))
                    have hw := hI.2.1 hL
                    have f1 : w6.cell? ⟨w2.heap.size, e, none⟩ = some (.int .i64 vi) := by rw [hw]; exact ce
                    have f2 : w6.frozen? ⟨w2.heap.size, e, none⟩ = false := by rw [hw]; exact fe
                    exact stepI_skip (w' := w6.setCell ⟨w2.heap.size, e, none⟩ (.int .i64 xi)) rfl (by simp [execOp, go_sem, Act.eval, b74, b75, f1, f2]) (by rw [hw]; exact hI.last)
                · intro L vs w6 hall hI
                  have hw6 := hI.2.2 (hall 22 (by decide))
                  subst hw6
                  clear hI hall
                  simp only [putAll, Act.put, List.setIfInBounds_toArray, List.set_cons_zero, List.set_cons_succ, Nat.zero_add, Nat.reduceAdd]
                  go_wp2
                  go_roundw
                  case rel => exact ⟨k + 1, max v (hi p + 1), by omega, by go_num, by omega, Hpar, Lib.hid (by have h := Hrow5.out; rw [hxi] at h; exact h), Lib.hid (by have h := Hb5.out; rw [hxi] at h; exact h)⟩
                  case measure => simp [intOf]; omega
          · obtain rfl : k = i := by omega
            have hkn : k < n := hlt
            have Hdone := Lib.hid (HP.out.done he (fun q hq => Hle.out q (by omega)) (by rw [Hee.out]; exact Hpre.out))
            have Hms := Lib.hid (HMs.out.next (by rw [← Hee.out]; exact Hdone.out))
            go_wp2
            go_roundw
            case rel => 
              refine ⟨k + 1, max m v, fun j => if j = e then v else hi j, by omega, by go_num, by congr 1; split <;> omega, by omega, Hms, Lib.hid fun q hq => ?_, Hrow, Hb⟩
              by_cases hqk : q = k
              · subst hqk
                rw [← Hee.out]
                show RK n es e (if e = e then v else hi e) ∧ (if e = e then v else hi e) ≤ q + 1
                rw [if_pos rfl]
                exact ⟨Hdone.out, hvk⟩
              · have := Hne.out q (by omega)
                rw [← Hee.out] at this
                show RK n es (eK n es q) (if eK n es q = e then v else hi (eK n es q)) ∧ (if eK n es q = e then v else hi (eK n es q)) ≤ q + 1
                rw [if_neg this]
                exact Hrk.out q (by omega)
            case measure => simp [intOf]; omega
      · obtain rfl : i = n := by omega
        have Hht := Lib.hid (HMs.out.ht (fun q hq => (eK_nx Hac.out hq).1) (eK_all Hac.out))
        go_wp2
        go_ret2
        exact ⟨box_low (bl2 B2.out Hb.out), .inr ⟨Hv.out, m, by rw [Int.toNat_natCast]; exact Hht.out, by rw [Int.toNat_natCast]; exact hmi, rfl⟩⟩
end Go.Proofs.Ytcekfgahhicdcaa
