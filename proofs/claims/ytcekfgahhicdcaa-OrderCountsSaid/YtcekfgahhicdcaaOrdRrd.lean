/- The reference's Reduce. -/
import Derived.Test.YtcekfgahhicdcaaOrdBeh
import Derived.Test.YtcekfgahhicdcaaOrdRl
import Derived.Test.YtcekfgahhicdcaaOrdRdc
namespace Go.Proofs.Ytcekfgahhicdcaa
open Go.RowKit

def dK (n : Nat) (es : List (Int × Int)) (a b k : Nat) : Bool := Bf n es a b && !(List.range k).any fun j => Bf n es j b && Bf n es a j
theorem dK_succ (n : Nat) (es : List (Int × Int)) (a b k : Nat) : dK n es a b (k + 1) = (dK n es a b k && !(Bf n es a k && Bf n es k b)) := by
  unfold dK
  rw [List.range_succ, List.any_append, List.any_cons, List.any_nil, Bool.or_false]
  generalize (List.range k).any _ = A
  cases Bf n es a b <;> cases A <;> cases Bf n es a k <;> cases Bf n es k b <;> rfl
theorem dK_last (n : Nat) (es : List (Int × Int)) (a b : Nat) : dK n es a b n = rd n es a b := rfl
/-- The reduction on its way: the box rb holds n and the edges so far. -/
structure Rr (n rb : Nat) (w1 wr : World) (lv : Value) (L : List (Int × Int)) : Prop where
  box : wr.heap[rb]? = some (.cells #[.int .i64 (n : Int), lv] 24 (0, 0))
  own : wr.ownsRow (rb + 1) 50 2 lv L.length (L.flatMap pcells)
  below : Below rb w1 wr
  size : rb + 1 ≤ wr.heap.size
theorem Rr.push {n rb : Nat} {w1 wr w5 : World} {lv lv' : Value} {L : List (Int × Int)} {p : Int × Int} (h : Rr n rb w1 wr lv L) (hf : Frm 50 (rb + 1) wr w5) (ho : w5.ownsRow (rb + 1) 50 2 lv' (L.length + 1) (L.flatMap pcells ++ [.int .i64 p.1, .int .i64 p.2])) : Rr n rb w1 (w5.setCell ⟨rb, 1, none⟩ lv') lv' (L ++ [p]) := by
  have hb : w5.heap[rb]? = some (.cells #[.int .i64 (n : Int), lv] 24 (0, 0)) := (hf.block rb (by have := h.size; omega) (.inl (Nat.lt_succ_self _))).trans h.box
  refine ⟨heap_set_21 hb lv', ?_, ?_, ?_⟩
  · rw [List.length_append, List.flatMap_append]
    have h1 : w5.ownsRow (rb + 1) 50 2 lv' (L.length + [p].length) (L.flatMap pcells ++ [p].flatMap pcells) := by simpa [pcells] using ho
    exact own_keepG h1 fun g hg _ => Below.heap_setCell w5 ⟨rb, 1, none⟩ lv' g (by first | (simp; done) | (show _ ≠ _; omega) | (simp; omega))
  · have h2 : Below rb w1 w5 := ⟨hf.os.trans h.below.os, hf.tape.trans h.below.tape, hf.output.trans h.below.output, Nat.le_trans h.below.size hf.size, fun k hk => (hf.block k (by have := h.size; omega) (.inl (by omega))).trans (h.below.block k hk)⟩
    exact h2.setCell (p := ⟨rb, 1, none⟩) (Nat.le_refl _) _
  · have := hf.size; have := h.size; simp [World.setCell]; omega
set_option maxRecDepth 20000 in
set_option maxHeartbeats 4000000 in
theorem rreduce_any (N : Int) (v : Value) (es : List (Int × Int)) (w : World) (h : Prs w v es) (hl : es.length ≤ 100000) : Calls Try.prog 29 #[.agg #[.int .i64 N, v]] w (RedP (redR N es) w) := by
  have H := Lib.hid h; clear h
  have hb2 : Below w.heap.size w ((w.alloc (.cells #[.int .i64 N, v] 24)).alloc (.cells #[.int .i64 0, .slice none 0 0] 24)) := (below_alloc w _).trans ((below_alloc _ _).mono (by simp))
  have hx : ((w.alloc (.cells #[.int .i64 N, v] 24)).alloc (.cells #[.int .i64 0, .slice none 0 0] 24)).heap[w.heap.size]? = some (.cells #[.int .i64 N, v] 24 (0, 0)) := ((below_alloc (w.alloc (.cells #[.int .i64 N, v] 24)) _).block _ (by simp)).trans (heap_alloc_new w _)
  have hm : ((w.alloc (.cells #[.int .i64 N, v] 24)).alloc (.cells #[.int .i64 0, .slice none 0 0] 24)).heap[w.heap.size + 1]? = some (.cells #[.int .i64 0, .slice none 0 0] 24 (0, 0)) := by
    have := heap_alloc_new (w.alloc (.cells #[.int .i64 N, v] 24)) (.cells #[.int .i64 0, .slice none 0 0] 24)
    simpa using this
  have hsz : ((w.alloc (.cells #[.int .i64 N, v] 24)).alloc (.cells #[.int .i64 0, .slice none 0 0] 24)).heap.size = w.heap.size + 2 := by simp
  obtain ⟨W, hW⟩ : ∃ W, W = (w.alloc (.cells #[.int .i64 N, v] 24)).alloc (.cells #[.int .i64 0, .slice none 0 0] 24) := ⟨_, rfl⟩
  have za := hx
  have za0 := cell_of_row _ _ 0 _ _ _ hx
  have za1 := cell_of_row _ _ 1 _ _ _ hx
  rw [← hW] at hb2 hx hm hsz
  have HW := Lib.hid hW
  have Hb0 := Lib.hid hb2
  have KX := Lib.hid (show ∀ w', Below W.heap.size W w' → w'.heap[w.heap.size]? = some (.cells #[.int .i64 N, v] 24 (0, 0)) ∧ w'.heap[w.heap.size + 1]? = some (.cells #[.int .i64 0, .slice none 0 0] 24 (0, 0)) from fun w' h => ⟨(h.block _ (by omega)).trans hx, (h.block _ (by omega)).trans hm⟩)
  clear hW hb2 hx hm
  cases hv : valO N es with
  | false =>
    have Hr := Lib.hid (show redR N es = (0, [], 1) by unfold redR; rw [hv]; rfl)
    have Hv := Lib.hid hv; clear hv
    go_enter Try.func29, Try.ntmps29
    go_wp2_with fail
    rw [← HW.out]
    refine (rvalid_any N v es _ (H.out.below Hb0.out) hl).mono ?_
    rintro e w1 ⟨rfl, hb⟩
    rw [Hv.out]
    have Hb := Lib.hid (bl2 Hb0.out hb)
    have hr1 := (KX.out _ hb).2
    have r0 := cell_of_row _ _ 0 _ _ _ hr1
    have r1 := cell_of_row _ _ 1 _ _ _ hr1
    have f0 := frozen_ofR hr1 0
    have f1 := frozen_ofR hr1 1
    have Hr1 := Lib.hid hr1
    clear hb za za0 za1 hr1
    go_wp2_with fail
    refine bodyPost_ret (v := .tuple #[.agg #[.int .i64 0, .slice none 0 0], .int .i64 1]) (results_cell_row2 Try.results29 _ _ (w.heap.size + 1) 24 _ (0, 0) _ rfl (heap_set_2 Hr1.out _ _) Try.underlying24 rfl (by kernel_rfl)) rfl ?_
    rw [Hr.out]
    exact ⟨none, 0, rfl, .inl ⟨rfl, rfl⟩, (Hb.out.setCell (p := ⟨w.heap.size + 1, 0, none⟩) (by show w.heap.size ≤ w.heap.size + 1; omega) _).setCell (p := ⟨w.heap.size + 1, 1, none⟩) (by show w.heap.size ≤ w.heap.size + 1; omega) _⟩
  | true =>
    have Hv := Lib.hid hv
    obtain ⟨⟨n0, n1, n2⟩, hed, _⟩ := valO_parts hv
    obtain ⟨n, rfl⟩ : ∃ n : Nat, N = n := ⟨N.toNat, by omega⟩
    have hn : n ≤ 60 := by omega
    have Hed := Lib.hid hed
    have Hr := Lib.hid (show redR n es = ((n : Int), redL n es n, 0) by unfold redR; rw [hv, if_pos rfl, Int.toNat_natCast])
    clear hv n0 n1 hed
    go_enter Try.func29, Try.ntmps29
    go_wp2_with fail
    rw [← HW.out]
    refine (rvalid_any n v es _ (H.out.below Hb0.out) hl).mono ?_
    rintro e w0 ⟨rfl, hb0⟩
    rw [Hv.out]
    have Hb00 := Lib.hid hb0
    have hx0 := (KX.out _ hb0).1
    have x0 := cell_of_row _ _ 0 _ _ _ hx0
    have x1 := cell_of_row _ _ 1 _ _ _ hx0
    clear hb0 hx0 za za0 za1
    go_wp2_with fail
    refine (behind_any n v es _ (H.out.below (bl2 Hb0.out Hb00.out)) hl hn Hed.out).mono ?_
    rintro e w1 ⟨g, rfl, hb, hM⟩
    have HM := Lib.hid hM
    clear x0 x1 hM
    have hb := bl2 Hb00.out hb
    have Hb := Lib.hid (bl2 Hb0.out hb)
    have HbW := Lib.hid hb
    have hx := (KX.out _ hb).1
    have x0 := cell_of_row _ _ 0 _ _ _ hx
    have hrb : w.heap.size + 2 ≤ w1.heap.size := by have := hb.size; omega
    have hnew := heap_alloc_new w1 (.cells #[.int .i64 (n : Int), .slice none 0 0] 24)
    have Hst : Hid (Rr n w1.heap.size w1 (w1.alloc (.cells #[.int .i64 (n : Int), .slice none 0 0] 24)) (.slice none 0 0) (redL n es 0)) := Lib.hid ⟨hnew, World.ownsRow_nil _ _ _ _, below_alloc _ _, by simp⟩
    have y0 : (w1.alloc (.cells #[.int .i64 (n : Int), .slice none 0 0] 24)).cell? ⟨w.heap.size, 0, none⟩ = some (.int .i64 (n : Int)) := cell_of_row _ _ 0 _ _ _ (KX.out _ (hb.alloc hb.size _)).1
    clear hb hnew
    go_wp2_with fail
    generalize hw3 : w1.alloc (.cells #[.int .i64 (n : Int), .slice none 0 0] 24) = w3 at *
    clear hw3
    clear hx x0
    go_loopw [6] (fun i wr => ∃ (a : Nat) (lv : Value), a ≤ n ∧ i = .int .i64 a ∧ Hid (Rr n w1.heap.size w1 wr lv (redL n es a))) (fun i _ => n - (intOf i).toNat)
    case atStart => exact ⟨0, _, Nat.zero_le _, rfl, Hst⟩
    case round =>
      clear y0 Hst
      obtain ⟨a, lv, ha, rfl, HR⟩ := hrel
      have y0 : wr.cell? ⟨w.heap.size, 0, none⟩ = some (.int .i64 (n : Int)) := cell_of_row _ _ 0 _ _ _ (KX.out _ (bl2 HbW.out HR.out.below)).1
      by_cases hla : a < n
      · have HR0 : Hid (Rr n w1.heap.size w1 wr lv (redL n es a ++ rowL n es a 0)) := Lib.hid (by rw [rowL_zero, List.append_nil]; exact HR.out)
        go_wp2
        go_loopw [7] (fun i wr => ∃ (b : Nat) (lv : Value), b ≤ n ∧ i = .int .i64 b ∧ Hid (Rr n w1.heap.size w1 wr lv (redL n es a ++ rowL n es a b))) (fun i _ => n - (intOf i).toNat)
        case atStart => exact ⟨0, _, Nat.zero_le _, rfl, HR0⟩
        case round =>
          clear HR0 HR y0
          obtain ⟨b, lv, hb, rfl, HR⟩ := hrel
          have y0 : wr.cell? ⟨w.heap.size, 0, none⟩ = some (.int .i64 (n : Int)) := cell_of_row _ _ 0 _ _ _ (KX.out _ (bl2 HbW.out HR.out.below)).1
          by_cases hlb : b < n
          · have HMr := Lib.hid (HM.out.below HR.out.below)
            have ca := HMr.out.cellO hla
            have cab := HMr.out.cellI hla hlb
            have a0 : (0 : Int) ≤ (a : Int) := by omega
            have a1 : (a : Int) < (n : Int) := by omega
            have c0 : (0 : Int) ≤ (b : Int) := by omega
            have c1 : (b : Int) < (n : Int) := by omega
            have KY := Lib.hid (show wr.cell? ⟨w.heap.size, 0, none⟩ = some (.int .i64 (n : Int)) from cell_of_row _ _ 0 _ _ _ (KX.out _ (bl2 HbW.out HR.out.below)).1)
            have Hd0 := Lib.hid (show dK n es a b 0 = Bf n es a b by unfold dK; simp)
            have Hsuc := Lib.hid (rowL_succ n es a b)
            rw [← Hd0.out] at cab
            go_wp2
            clear ca cab y0
            go_loopw [8, 9] (fun dv kv w2 => ∃ k : Nat, k ≤ n ∧ kv = .int .i64 k ∧ dv = .bool (dK n es a b k) ∧ w2 = wr) (fun _ kv _ => n - (intOf kv).toNat)
            case atStart => exact ⟨0, Nat.zero_le _, rfl, rfl, rfl⟩
            case round =>
              obtain ⟨k, hk, rfl, rfl, rfl⟩ := hrel
              have y0 := KY.out
              by_cases hlk : k < n
              · have hs := dK_succ n es a b k
                have k0 : (0 : Int) ≤ (k : Int) := by omega
                have k1 : (k : Int) < (n : Int) := by omega
                cases hdk : dK n es a b k with
                | false =>
                  have Hn := Lib.hid (show dK n es a b (k + 1) = false by rw [hs, hdk]; rfl)
                  clear hdk hs
                  go_wp2
                  go_roundw
                  case rel => exact ⟨k + 1, by omega, by go_num, by rw [Hn.out], (by first | rfl | trivial)⟩
                  case measure => simp [intOf]; omega
                | true =>
                  have ca := HMr.out.cellO hla
                  have cak := HMr.out.cellI hla hlk
                  cases hak : Bf n es a k with
                  | false =>
                    have Hn := Lib.hid (show dK n es a b (k + 1) = true by rw [hs, hdk, hak]; rfl)
                    rw [hak] at cak
                    clear hdk hs hak
                    go_wp2
                    go_roundw
                    case rel => exact ⟨k + 1, by omega, by go_num, by rw [Hn.out], (by first | rfl | trivial)⟩
                    case measure => simp [intOf]; omega
                  | true =>
                    have ck := HMr.out.cellO hlk
                    have ckb := HMr.out.cellI hlk hlb
                    have Hn := Lib.hid (show dK n es a b (k + 1) = !Bf n es k b by rw [hs, hdk, hak]; simp)
                    rw [hak] at cak
                    generalize Bf n es k b = bb at ckb Hn
                    clear hdk hs hak
                    go_wp2
                    go_roundw
                    case rel => exact ⟨k + 1, by omega, by go_num, by rw [Hn.out], (by first | rfl | trivial)⟩
                    case measure => simp [intOf]; omega
              · obtain rfl : k = n := by omega
                rw [dK_last]
                cases hrd : rd k es a b with
                | false =>
                  have Hn := Lib.hid (show rowL k es a (b + 1) = rowL k es a b by rw [Hsuc.out, hrd]; simp)
                  clear hrd
                  go_wp2
                  go_roundw
                  case rel => exact ⟨b + 1, lv, by omega, by go_num, by rw [Hn.out]; exact HR⟩
                  case measure => simp [intOf]; omega
                | true =>
                  have Hn := Lib.hid (show redL k es a ++ rowL k es a (b + 1) = (redL k es a ++ rowL k es a b) ++ [((a : Int), (b : Int))] by rw [Hsuc.out, if_pos hrd, List.append_assoc])
                  have hlen : (redL k es a ++ rowL k es a b).length ≤ 3660 := by
                    rw [List.length_append]
                    have h3 := redL_len k es a
                    have h4 := rowL_len k es a b
                    have h5 : a * k ≤ 60 * 60 := Nat.mul_le_mul (by omega) hn
                    omega
                  have hbx := HR.out.box
                  have b1 := cell_of_row _ _ 1 _ _ _ hbx
                  have hsz := HR.out.size
                  have hown := HR.out.own
                  generalize redL k es a ++ rowL k es a b = L at *
                  have Hown := Lib.hid hown
                  clear hrd hown
                  go_wp2_with (at_builtin; refine app1P rfl _ _ 22 rfl 50 _ 16 info_pair rfl Try.underlying22 (w1.heap.size + 1) _ _ _ rfl Hown.out _ _ rfl (by intro c hc; simp at hc; rcases hc with rfl | rfl <;> rfl) (by omega) (by omega) hsz ?_; intro lv2 w5 hown5 hfr5; obtain ⟨A5, c5, rfl⟩ := own_shapeG hown5; have hb5 := (hfr5.block w1.heap.size (by omega) (.inl (Nat.lt_succ_self _))).trans hbx; have d1 := cell_of_row _ _ 1 _ _ _ hb5; have f1 := frozen_ofR hb5 1; have HR5 := Lib.hid (HR.out.push (p := ((a : Int), (b : Int))) hfr5 hown5); clear hown5 hfr5 hb5)
                  go_roundw
                  case rel => exact ⟨b + 1, _, by omega, by go_num, by rw [Hn.out]; exact HR5⟩
                  case measure => simp [intOf]; omega
          · obtain rfl : b = n := by omega
            go_wp2
            go_roundw
            case rel => exact ⟨a + 1, lv, by omega, by go_num, by rw [redL_succ]; exact HR⟩
            case measure => simp [intOf]; omega
      · obtain rfl : a = n := by omega
        have hbx := HR.out.box
        have b0 := cell_of_row _ _ 0 _ _ _ hbx
        have b1 := cell_of_row _ _ 1 _ _ _ hbx
        have hr1 : wr.heap[w.heap.size + 1]? = some (.cells #[.int .i64 0, .slice none 0 0] 24 (0, 0)) := (HR.out.below.block _ (by omega)).trans (KX.out _ HbW.out).2
        have r0 := cell_of_row _ _ 0 _ _ _ hr1
        have r1 := cell_of_row _ _ 1 _ _ _ hr1
        have f0 := frozen_ofR hr1 0
        have f1 := frozen_ofR hr1 1
        have Hr1 := Lib.hid hr1
        obtain ⟨A6, c6, rfl⟩ := own_shapeG HR.out.own
        have HBf := Lib.hid ((bl2 Hb.out HR.out.below).setCell (p := ⟨w.heap.size + 1, 0, none⟩) (by show w.heap.size ≤ w.heap.size + 1; omega) (.int .i64 (a : Int)))
        have HPo := Lib.hid (show Prs ((wr.setCell ⟨w.heap.size + 1, 0, none⟩ (.int .i64 (a : Int))).setCell ⟨w.heap.size + 1, 1, none⟩ (.slice A6 (redL a es a).length c6)) (.slice A6 (redL a es a).length c6) (redL a es a) from Prs.of_own (own_keepG (own_keepG HR.out.own (fun g hg _ => Below.heap_setCell wr ⟨w.heap.size + 1, 0, none⟩ _ g (by first | (simp; done) | (show _ ≠ _; omega) | (simp; omega)))) (fun g hg _ => Below.heap_setCell _ ⟨w.heap.size + 1, 1, none⟩ _ g (by first | (simp; done) | (show _ ≠ _; omega) | (simp; omega)))))
        clear hr1
        go_wp2_with fail
        refine bodyPost_ret (v := .tuple #[.agg #[.int .i64 (a : Int), .slice A6 (redL a es a).length c6], .int .i64 0]) (results_cell_row2 Try.results29 _ _ (w.heap.size + 1) 24 _ (0, 0) _ rfl (heap_set_2 Hr1.out _ _) Try.underlying24 rfl (by kernel_rfl)) rfl ?_
        rw [Hr.out]
        exact ⟨A6, c6, rfl, HPo.out, HBf.out.setCell (p := ⟨w.heap.size + 1, 1, none⟩) (by show w.heap.size ≤ w.heap.size + 1; omega) _⟩
end Go.Proofs.Ytcekfgahhicdcaa
