/- The reference's Extensions. -/
import Derived.Test.YtcekfgahhicdcaaOrdCw
import Derived.Test.YtcekfgahhicdcaaOrdBhn
import Derived.Test.YtcekfgahhicdcaaRegInv
namespace Go.Proofs.Ytcekfgahhicdcaa
open Go.RowKit

theorem nopeB {b : Bool} {α : Prop} (h : b = false) (k : b = true) : α := by rw [h] at k; cases k
theorem nopeT {α : Prop} (h : true = false) : α := by cases h
/-- What holds between the operations of the reference's Extensions. -/
structure RxI (w5 : World) (n b0 : Nat) (sv : Value) (es : List (Int × Int)) (most x : Int) (L : Nat → Bool) (vs : Nat → Value) (w : World) : Prop where
  bel : Below w5.heap.size w5 w
  p0 : L 0 = true → vs 0 = .int .i64 most
  p1 : L 1 = true → vs 1 = .agg #[.int .i64 (n : Int), sv]
  p3 : L 3 = true → vs 3 = .pointer (some ⟨b0, 0, none⟩)
  p4 : L 4 = true → vs 4 = .int .i64 (n : Int)
  p6 : L 6 = true → vs 6 = .pointer (some ⟨b0, 0, none⟩)
  p7 : L 7 = true → vs 7 = .int .i64 (n : Int)
  p8 : L 8 = true → vs 8 = .int .i64 most
  m : L 2 = true → ∃ g, vs 2 = .slice (some ⟨g, 0, none⟩) n n ∧ Mx g n (fun i j => Bf n es i j) w ∧ (L 5 = true → ∃ d, vs 5 = .slice (some ⟨d, 0, none⟩) n n ∧ d ≠ g ∧ ∀ i, i < n → d ≠ g + 1 + i)
  r : L 5 = true → L 9 = false → ∃ d, vs 5 = .slice (some ⟨d, 0, none⟩) n n ∧ w.rowIs d 4 n (fun _ => .bool false)
  x9 : L 9 = true → vs 9 = .int .i64 x
  x10 : L 10 = true → vs 10 = .int .i64 x
  x11 : L 11 = true → vs 11 = .int .i64 x
  x12 : L 12 = true → vs 12 = .int .i64 0
section
variable {w5 w : World} {n b0 : Nat} {sv : Value} {es : List (Int × Int)} {most x : Int} {L : Nat → Bool} {vs : Nat → Value}
theorem RxI.start (h : Below w5.heap.size w5 w) : RxI w5 n b0 sv es most x (fun _ => false) vs w :=
  ⟨h, nopeB rfl, nopeB rfl, nopeB rfl, nopeB rfl, nopeB rfl, nopeB rfl, nopeB rfl, nopeB rfl, nopeB rfl, nopeB rfl, nopeB rfl, nopeB rfl, nopeB rfl⟩
theorem RxI.s0 (hI : RxI w5 n b0 sv es most x L vs w) : RxI w5 n b0 sv es most x (updB L 0) (updV vs 0 (.int .i64 most)) w :=
  ⟨hI.bel, fun _ => rfl, hI.p1, hI.p3, hI.p4, hI.p6, hI.p7, hI.p8, hI.m, hI.r, hI.x9, hI.x10, hI.x11, hI.x12⟩
theorem RxI.s1 (hI : RxI w5 n b0 sv es most x L vs w) : RxI w5 n b0 sv es most x (updB L 1) (updV vs 1 (.agg #[.int .i64 (n : Int), sv])) w :=
  ⟨hI.bel, hI.p0, fun _ => rfl, hI.p3, hI.p4, hI.p6, hI.p7, hI.p8, hI.m, hI.r, hI.x9, hI.x10, hI.x11, hI.x12⟩
theorem RxI.s3 (hI : RxI w5 n b0 sv es most x L vs w) : RxI w5 n b0 sv es most x (updB L 3) (updV vs 3 (.pointer (some ⟨b0, 0, none⟩))) w :=
  ⟨hI.bel, hI.p0, hI.p1, fun _ => rfl, hI.p4, hI.p6, hI.p7, hI.p8, hI.m, hI.r, hI.x9, hI.x10, hI.x11, hI.x12⟩
theorem RxI.s4 (hI : RxI w5 n b0 sv es most x L vs w) : RxI w5 n b0 sv es most x (updB L 4) (updV vs 4 (.int .i64 (n : Int))) w :=
  ⟨hI.bel, hI.p0, hI.p1, hI.p3, fun _ => rfl, hI.p6, hI.p7, hI.p8, hI.m, hI.r, hI.x9, hI.x10, hI.x11, hI.x12⟩
theorem RxI.s6 (hI : RxI w5 n b0 sv es most x L vs w) : RxI w5 n b0 sv es most x (updB L 6) (updV vs 6 (.pointer (some ⟨b0, 0, none⟩))) w :=
  ⟨hI.bel, hI.p0, hI.p1, hI.p3, hI.p4, fun _ => rfl, hI.p7, hI.p8, hI.m, hI.r, hI.x9, hI.x10, hI.x11, hI.x12⟩
theorem RxI.s7 (hI : RxI w5 n b0 sv es most x L vs w) : RxI w5 n b0 sv es most x (updB L 7) (updV vs 7 (.int .i64 (n : Int))) w :=
  ⟨hI.bel, hI.p0, hI.p1, hI.p3, hI.p4, hI.p6, fun _ => rfl, hI.p8, hI.m, hI.r, hI.x9, hI.x10, hI.x11, hI.x12⟩
theorem RxI.s8 (hI : RxI w5 n b0 sv es most x L vs w) : RxI w5 n b0 sv es most x (updB L 8) (updV vs 8 (.int .i64 most)) w :=
  ⟨hI.bel, hI.p0, hI.p1, hI.p3, hI.p4, hI.p6, hI.p7, fun _ => rfl, hI.m, hI.r, hI.x9, hI.x10, hI.x11, hI.x12⟩
theorem RxI.s10 (hI : RxI w5 n b0 sv es most x L vs w) : RxI w5 n b0 sv es most x (updB L 10) (updV vs 10 (.int .i64 x)) w :=
  ⟨hI.bel, hI.p0, hI.p1, hI.p3, hI.p4, hI.p6, hI.p7, hI.p8, hI.m, hI.r, hI.x9, fun _ => rfl, hI.x11, hI.x12⟩
theorem RxI.s11 (hI : RxI w5 n b0 sv es most x L vs w) : RxI w5 n b0 sv es most x (updB L 11) (updV vs 11 (.int .i64 x)) w :=
  ⟨hI.bel, hI.p0, hI.p1, hI.p3, hI.p4, hI.p6, hI.p7, hI.p8, hI.m, hI.r, hI.x9, hI.x10, fun _ => rfl, hI.x12⟩
theorem RxI.s12 (hI : RxI w5 n b0 sv es most x L vs w) : RxI w5 n b0 sv es most x (updB L 12) (updV vs 12 (.int .i64 0)) w :=
  ⟨hI.bel, hI.p0, hI.p1, hI.p3, hI.p4, hI.p6, hI.p7, hI.p8, hI.m, hI.r, hI.x9, hI.x10, hI.x11, fun _ => rfl⟩
theorem RxI.s2 (hI : RxI w5 n b0 sv es most x L vs w) {g : Nat} {w' : World} (hg : w.heap.size ≤ g) (hb : Below w.heap.size w w') (hM : Mx g n (fun i j => Bf n es i j) w') (h9 : L 9 = false) : RxI w5 n b0 sv es most x (updB L 2) (updV vs 2 (.slice (some ⟨g, 0, none⟩) n n)) w' :=
  ⟨bl2 hI.bel hb, hI.p0, hI.p1, hI.p3, hI.p4, hI.p6, hI.p7, hI.p8, fun _ => ⟨g, rfl, hM, fun h5 => by
    obtain ⟨d, h1, h2⟩ := hI.r h5 h9
    have := h2.lt
    exact ⟨d, h1, by omega, fun i _ => by omega⟩⟩, fun h k => by
    obtain ⟨d, h1, h2⟩ := hI.r h k
    exact ⟨d, h1, h2.of_block (hb.block _ h2.lt)⟩, hI.x9, hI.x10, hI.x11, hI.x12⟩
theorem RxI.s5 (hI : RxI w5 n b0 sv es most x L vs w) : RxI w5 n b0 sv es most x (updB L 5) (updV vs 5 (.slice (some ⟨w.heap.size, 0, none⟩) n n)) (w.alloc (.cells (madeCells #[.bool false] n) 4)) :=
  ⟨hI.bel.alloc hI.bel.size _, hI.p0, hI.p1, hI.p3, hI.p4, hI.p6, hI.p7, hI.p8, fun h => by
    obtain ⟨g, h1, h2, _⟩ := hI.m h
    refine ⟨g, h1, h2.below (below_alloc _ _), fun _ => ⟨_, rfl, ?_, fun i hi => ?_⟩⟩
    · have := h2.out.lt; omega
    · have := (h2.row i hi).lt; omega, fun _ _ => ⟨_, rfl, World.rowIs_made w (.bool false) n 4⟩, hI.x9, hI.x10, hI.x11, hI.x12⟩
theorem RxI.s9 (hI : RxI w5 n b0 sv es most x L vs w) {w' : World} (hb : Below w.heap.size w w') : RxI w5 n b0 sv es most x (updB L 9) (updV vs 9 (.int .i64 x)) w' :=
  ⟨bl2 hI.bel hb, hI.p0, hI.p1, hI.p3, hI.p4, hI.p6, hI.p7, hI.p8, fun h => by
    obtain ⟨g, h1, h2, h3⟩ := hI.m h
    exact ⟨g, h1, h2.below hb, h3⟩, fun _ h => nopeT h, fun _ => rfl, hI.x10, hI.x11, hI.x12⟩
theorem mx_off {g d : Nat} {M : Nat → Nat → Bool} {w w' : World} (h : Mx g n M w) (h1 : d ≠ g) (h2 : ∀ i, i < n → d ≠ g + 1 + i) (hk : ∀ k, k < w.heap.size → k ≠ d → w'.heap[k]? = w.heap[k]?) : Mx g n M w' :=
  ⟨h.out.of_block (hk _ h.out.lt fun e => h1 e.symm), fun i hi => (h.row i hi).of_block (hk _ (h.row i hi).lt fun e => h2 i hi e.symm)⟩
end
set_option maxRecDepth 20000 in
set_option maxHeartbeats 4000000 in
theorem rextensions_any (N most : Int) (sv : Value) (es : List (Int × Int)) (w : World) (h : Prs w sv es) (hl : es.length ≤ 100000) : Calls Try.prog 27 #[.agg #[.int .i64 N, sv], .int .i64 most] w (ExtP (extR N es most) w) := by
  have H := Lib.hid h; clear h
  cases hv : valO N es with
  | false =>
    have Hr := Lib.hid (show extR N es most = (0, 1) by unfold extR; rw [hv]; rfl)
    have Hv := Lib.hid hv; clear hv
    go_enter Try.func27, Try.ntmps27
    go_wp2_with fail
    refine (rvalid_any N sv es _ (H.out.below (below_alloc _ _)) hl).mono ?_
    rintro e w1 ⟨rfl, hb⟩
    rw [Hv.out]
    have Hb := Lib.hid (box_low hb)
    clear hb
    go_wp2
    go_ret2
    exact ExtP.of Hr.out Hb.out
  | true =>
    have Hv := Lib.hid hv
    obtain ⟨⟨n0, n1, n2⟩, hed, hac⟩ := valO_parts hv
    obtain ⟨n, rfl⟩ : ∃ n : Nat, N = n := ⟨N.toNat, by omega⟩
    have hn : n ≤ 60 := by omega
    by_cases h1 : most < 1
    · have Hr := Lib.hid (show extR n es most = (0, 2) by unfold extR; rw [hv, if_pos rfl, if_neg (by omega)])
      have d1 : decide (most < 1) = true := decide_eq_true h1
      clear hv
      go_enter Try.func27, Try.ntmps27
      go_wp2_with fail
      refine (rvalid_any n sv es _ (H.out.below (below_alloc _ _)) hl).mono ?_
      rintro e w1 ⟨rfl, hb⟩
      rw [Hv.out]
      have Hb := Lib.hid (box_low hb)
      clear hb
      go_wp2
      go_ret2
      exact ExtP.of Hr.out Hb.out
    · have d1 : decide (most < 1) = false := decide_eq_false h1
      by_cases h2 : 1000 < most
      · have Hr := Lib.hid (show extR n es most = (0, 2) by unfold extR; rw [hv, if_pos rfl, if_neg (by omega)])
        have d2 : decide (1000 < most) = true := decide_eq_true h2
        clear hv
        go_enter Try.func27, Try.ntmps27
        go_wp2_with fail
        refine (rvalid_any n sv es _ (H.out.below (below_alloc _ _)) hl).mono ?_
        rintro e w1 ⟨rfl, hb⟩
        rw [Hv.out]
        have Hb := Lib.hid (box_low hb)
        clear hb
        go_wp2
        go_ret2
        exact ExtP.of Hr.out Hb.out
      · have d2 : decide (1000 < most) = false := decide_eq_false h2
        obtain ⟨x, hx⟩ : ∃ x : Int, x = min most ((wys (psts (n : Int) es) n 0 : Nat) : Int) := ⟨_, rfl⟩
        have Hx := Lib.hid hx
        have Hr := Lib.hid (show extR n es most = (x, 0) by unfold extR; rw [hv, if_pos rfl, if_pos (by omega), cnt_is (by omega), hx])
        have hmin : min most x = x := by omega
        have Hed := Lib.hid hed
        obtain ⟨j0, hj0, hy0, hy1, hy2⟩ := info_parts info_bool
        clear hv hx hed hac n0 n1
        go_enter Try.func27, Try.ntmps27
        go_wp2_with fail
        refine (rvalid_any n sv es _ (H.out.below (below_alloc _ _)) hl).mono ?_
        rintro e w1 ⟨rfl, hb⟩
        rw [Hv.out]
        have B1 := Lib.hid hb
        have KS := Lib.hid (show ∀ w', Below w1.heap.size w1 w' → w'.cell? ⟨w.heap.size, 0, none⟩ = some (.int .i64 (n : Int)) ∧ w'.cell? ⟨w.heap.size, 1, none⟩ = some sv from fun w' h => ⟨cell_of_row _ _ 0 _ _ _ (box_keep (bl2 hb h)), cell_of_row _ _ 1 _ _ _ (box_keep (bl2 hb h))⟩)
        have KP := Lib.hid (show ∀ w', Below w1.heap.size w1 w' → Prs w' sv es from fun w' h => H.out.below (box_low (bl2 hb h)))
        clear hb
        go_wp2_with fail
        refine region_inv (n := 28) (RxI w1 n w.heap.size sv es most x) (by kernel_rfl) (by kernel_rfl) rfl ?_ (allOps_spec ?_) ?_
        · intro vs
          exact RxI.start (bl_drew (Below.refl _ _))
        · refine ⟨?_, ?_, ?_, ?_, ?_, ?_, ?_, ?_, ?_, ?_, ?_, ?_, ?_, trivial⟩
          · intro L vs a w2 hB hL hd hI
            have b1 : a.tmps[1]?.getD undef = .int .i64 most := hB.at 1 (by kernel_rfl)
            exact stepI_run (v := .int .i64 most) rfl (by simp [execOp, go_sem, Act.eval, b1]) (hI.s0)
          · intro L vs a w2 hB hL hd hI
            have b2 : a.tmps[2]?.getD undef = .pointer (some ⟨w.heap.size, 0, none⟩) := hB.at 2 (by kernel_rfl)
            obtain ⟨k0, k1⟩ := KS.out _ hI.bel
            exact stepI_run (v := .agg #[.int .i64 (n : Int), sv]) rfl (by simp [execOp, go_sem, Act.eval, b2, k0, k1]) (hI.s1)
          · intro L vs a w2 hB hL hd hI
            have b18 : a.tmps[18]?.getD undef = .agg #[.int .i64 (n : Int), sv] := (hB.val 1 (hd ⟨1, .data⟩ (by simp) rfl) 18 rfl).trans (hI.p1 (hd ⟨1, .data⟩ (by simp) rfl))
            have h9 : L 9 = false := hB.wait 2 9 hL (by kernel_rfl)
            refine stepI_call (f := 34) (args := #[.agg #[.int .i64 (n : Int), sv]]) rfl (by simp [go_sem, b18]) ?_
            refine (behind_new n sv es _ (KP.out _ hI.bel) hl hn Hed.out).mono ?_
            rintro e w3 ⟨g, rfl, hg, hb, hM⟩
            exact ⟨_, rfl, hI.s2 hg hb hM h9⟩
          · intro L vs a w2 hB hL hd hI
            have b2 : a.tmps[2]?.getD undef = .pointer (some ⟨w.heap.size, 0, none⟩) := hB.at 2 (by kernel_rfl)
            exact stepI_run (v := .pointer (some ⟨w.heap.size, 0, none⟩)) rfl (by simp [execOp, go_sem, Act.eval, b2]) (hI.s3)
          · intro L vs a w2 hB hL hd hI
            have b20 : a.tmps[20]?.getD undef = .pointer (some ⟨w.heap.size, 0, none⟩) := (hB.val 3 (hd ⟨3, .data⟩ (by simp) rfl) 20 rfl).trans (hI.p3 (hd ⟨3, .data⟩ (by simp) rfl))
            obtain ⟨k0, k1⟩ := KS.out _ hI.bel
            exact stepI_run (v := .int .i64 (n : Int)) rfl (by simp [execOp, go_sem, Act.eval, b20, k0]) (hI.s4)
          · intro L vs a w2 hB hL hd hI
            have b21 : a.tmps[21]?.getD undef = .int .i64 (n : Int) := (hB.val 4 (hd ⟨4, .data⟩ (by simp) rfl) 21 rfl).trans (hI.p4 (hd ⟨4, .data⟩ (by simp) rfl))
            have hmk := run_make_row (P := Try.prog) 59 4 j0 (.bool false) (by kernel_rfl) hj0 hy0 hy1 rfl .i64 .i64 n (by rw [hy2]; omega) (by omega) w2
            exact stepI_run (v := .slice (some ⟨w2.heap.size, 0, none⟩) n n) (w' := w2.alloc (.cells (madeCells #[.bool false] n) 4)) rfl (by simp [execOp, Act.eval, b21, hmk, Result.andThen]) hI.s5
          · intro L vs a w2 hB hL hd hI
            have b2 : a.tmps[2]?.getD undef = .pointer (some ⟨w.heap.size, 0, none⟩) := hB.at 2 (by kernel_rfl)
            exact stepI_run (v := .pointer (some ⟨w.heap.size, 0, none⟩)) rfl (by simp [execOp, go_sem, Act.eval, b2]) (hI.s6)
          · intro L vs a w2 hB hL hd hI
            have b23 : a.tmps[23]?.getD undef = .pointer (some ⟨w.heap.size, 0, none⟩) := (hB.val 6 (hd ⟨6, .data⟩ (by simp) rfl) 23 rfl).trans (hI.p6 (hd ⟨6, .data⟩ (by simp) rfl))
            obtain ⟨k0, k1⟩ := KS.out _ hI.bel
            exact stepI_run (v := .int .i64 (n : Int)) rfl (by simp [execOp, go_sem, Act.eval, b23, k0]) (hI.s7)
          · intro L vs a w2 hB hL hd hI
            have b1 : a.tmps[1]?.getD undef = .int .i64 most := hB.at 1 (by kernel_rfl)
            exact stepI_run (v := .int .i64 most) rfl (by simp [execOp, go_sem, Act.eval, b1]) (hI.s8)
          · intro L vs a w2 hB hL hd hI
            have h2 : L 2 = true := hd ⟨2, .data⟩ (by simp) rfl
            have h5 : L 5 = true := hd ⟨5, .data⟩ (by simp) rfl
            obtain ⟨g, hg1, hM, hap⟩ := hI.m h2
            obtain ⟨d, hd1, hr⟩ := hI.r h5 hL
            obtain ⟨d9, hd9, hne, hne2⟩ := hap h5
            obtain rfl : d9 = d := by rw [hd1] at hd9; simpa using hd9.symm
            have b19 : a.tmps[19]?.getD undef = .slice (some ⟨g, 0, none⟩) n n := (hB.val 2 h2 19 rfl).trans hg1
            have b22 : a.tmps[22]?.getD undef = .slice (some ⟨d9, 0, none⟩) n n := (hB.val 5 h5 22 rfl).trans hd1
            have b24 : a.tmps[24]?.getD undef = .int .i64 (n : Int) := (hB.val 7 (hd ⟨7, .data⟩ (by simp) rfl) 24 rfl).trans (hI.p7 (hd ⟨7, .data⟩ (by simp) rfl))
            have b25 : a.tmps[25]?.getD undef = .int .i64 most := (hB.val 8 (hd ⟨8, .data⟩ (by simp) rfl) 25 rfl).trans (hI.p8 (hd ⟨8, .data⟩ (by simp) rfl))
            refine stepI_call (f := 44) (args := #[.slice (some ⟨g, 0, none⟩) n n, .slice (some ⟨d9, 0, none⟩) n n, .int .i64 (n : Int), .int .i64 most]) rfl (by simp [go_sem, b19, b22, b24, b25]) ?_
            refine (count_any (w0 := w2) (Lib.hid fun w' hk => mx_off hM hne hne2 hk) hn n 0 (n : Int) most w2 (Un_all n) rfl hn (by omega) (by omega) (Nat.le_refl _) (fun _ _ _ => rfl) (hr.congr fun i _ => by rw [Nat.zero_testBit])).mono ?_
            rintro e w3 ⟨rfl, hb⟩
            rw [← Hx.out]
            exact ⟨_, rfl, hI.s9 hb⟩
          · intro L vs a w2 hB hL hd hI
            have b17 : a.tmps[17]?.getD undef = .int .i64 most := (hB.val 0 (hd ⟨0, .data⟩ (by simp) rfl) 17 rfl).trans (hI.p0 (hd ⟨0, .data⟩ (by simp) rfl))
            have b26 : a.tmps[26]?.getD undef = .int .i64 x := (hB.val 9 (hd ⟨9, .data⟩ (by simp) rfl) 26 rfl).trans (hI.x9 (hd ⟨9, .data⟩ (by simp) rfl))
            exact stepI_run (v := .int .i64 x) rfl (by simp [go_sem, Act.eval, b17, b26]; omega) hI.s10
          · intro L vs a w2 hB hL hd hI
            have b27 : a.tmps[27]?.getD undef = .int .i64 x := (hB.val 10 (hd ⟨10, .data⟩ (by simp) rfl) 27 rfl).trans (hI.x10 (hd ⟨10, .data⟩ (by simp) rfl))
            exact stepI_run (v := .int .i64 x) rfl (by simp [execOp, go_sem, Act.eval, b27]) (hI.s11)
          · intro L vs a w2 hB hL hd hI
            exact stepI_run (v := .int .i64 0) rfl (by simp [execOp, go_sem, Act.eval]) (hI.s12)
        · intro L vs w2 hall hI
          have h11 := hI.x11 (hall 11 (by decide))
          have h12 := hI.x12 (hall 12 (by decide))
          have Hb2 := Lib.hid (box_low (bl2 B1.out hI.bel))
          clear hI hall
          simp only [putAll, Act.put, List.setIfInBounds_toArray, List.set_cons_zero, List.set_cons_succ, Nat.zero_add, Nat.reduceAdd, h11, h12]
          clear h11 h12
          go_wp2
          go_ret2
          exact ExtP.of Hr.out Hb2.out
end Go.Proofs.Ytcekfgahhicdcaa
