/- Reduce of order: the contract. -/
import Derived.Test.YtcekfgahhicdcaaOrdRed
import Derived.Laws.ResultCell
import Derived.Laws.Rows
namespace Go.Proofs.Ytcekfgahhicdcaa
open Go.RowKit

def redR (N : Int) (es : List (Int × Int)) : Int × List (Int × Int) × Int := if valO N es = true then (N, redL N.toNat es N.toNat, 0) else (0, [], 1)
def RedP (R : Int × List (Int × Int) × Int) (w : World) (e : Ending) (w' : World) : Prop := ∃ A c, e = .returned (.tuple #[.agg #[.int .i64 R.1, .slice A R.2.1.length c], .int .i64 R.2.2]) ∧ Prs w' (.slice A R.2.1.length c) R.2.1 ∧ Below w.heap.size w w'
theorem results_cell_row2 {P : Program} {fn : Func} {p u : Tmp} {ty : TypeId} (h : fn.results = #[.cell p ty, .tmp u]) (tmps : Array Value) (w : World) (g : Nat) (t : TypeId) (cs : Array Value) (fr : Nat × Nat) (d : TypeDesc)
    (hp : tmps.getD p undef = .pointer (some ⟨g, 0, none⟩)) (hg : w.heap[g]? = some (.cells cs t fr))
    (hu : P.underlying ty = some d) (hd : (match d with | .struct _ | .array _ _ => true | _ => false) = true) (hi : (P.info? ty).map (·.size) = some cs.size) :
    (results fn tmps).run P w = .ok (.tuple #[.agg cs, tmps.getD u undef]) w := by
  rw [results_cell_tmp h]
  simp only [hp]
  simp [asAddr, Result.andThen, run_loadVar_row w g t ty cs fr d hg hu hd hi]
theorem heap_set_2 {w : World} {g t : Nat} {z0 z1 : Value} (h : w.heap[g]? = some (.cells #[z0, z1] t (0, 0))) (b0 b1 : Value) :
    ((w.setCell ⟨g, 0, none⟩ b0).setCell ⟨g, 1, none⟩ b1).heap[g]? = some (.cells #[b0, b1] t (0, 0)) :=
  heap_setCell_same _ g 1 _ _ b1 (heap_setCell_same _ g 0 _ _ b0 h)
theorem heap_set_21 {w : World} {g t : Nat} {z0 z1 : Value} (h : w.heap[g]? = some (.cells #[z0, z1] t (0, 0))) (b1 : Value) :
    (w.setCell ⟨g, 1, none⟩ b1).heap[g]? = some (.cells #[z0, b1] t (0, 0)) := heap_setCell_same _ g 1 _ _ b1 h
theorem frozen_ofR {w : World} {g : Nat} {cs : Array Value} {t : TypeId} (h : w.heap[g]? = some (.cells cs t (0, 0))) (j : Nat) : w.frozen? ⟨g, j, none⟩ = false := by
  simp [World.frozen?, h]
theorem own_shapeG {w : World} {B e sz n : Nat} {v : Value} {xs : List Value} (h : w.ownsRow B e sz v n xs) : ∃ A c, v = .slice A n c := by
  rcases h.2 with ⟨rfl, h0⟩ | ⟨g, cap, cur, rfl, _⟩
  · exact ⟨none, 0, by rw [h0]⟩
  · exact ⟨_, cap, rfl⟩
/-- The reduction on its way: the box rb holds n and the edges so far. -/
structure Rs (n rb : Nat) (w1 wr : World) (lv : Value) (L : List (Int × Int)) : Prop where
  box : wr.heap[rb]? = some (.cells #[.int .i64 (n : Int), lv] 27 (0, 0))
  own : wr.ownsRow (rb + 1) 50 2 lv L.length (L.flatMap pcells)
  below : Below rb w1 wr
  size : rb + 1 ≤ wr.heap.size
theorem Rs.push {n rb : Nat} {w1 wr w5 : World} {lv lv' : Value} {L : List (Int × Int)} {p : Int × Int} (h : Rs n rb w1 wr lv L) (hf : Frm 50 (rb + 1) wr w5) (ho : w5.ownsRow (rb + 1) 50 2 lv' (L.length + 1) (L.flatMap pcells ++ [.int .i64 p.1, .int .i64 p.2])) : Rs n rb w1 (w5.setCell ⟨rb, 1, none⟩ lv') lv' (L ++ [p]) := by
  have hb : w5.heap[rb]? = some (.cells #[.int .i64 (n : Int), lv] 27 (0, 0)) := (hf.block rb (by have := h.size; omega) (.inl (Nat.lt_succ_self _))).trans h.box
  refine ⟨heap_set_21 hb lv', ?_, ?_, ?_⟩
  · rw [List.length_append, List.flatMap_append]
    have h1 : w5.ownsRow (rb + 1) 50 2 lv' (L.length + [p].length) (L.flatMap pcells ++ [p].flatMap pcells) := by simpa [pcells] using ho
    exact own_keepG h1 fun g hg _ => Below.heap_setCell w5 ⟨rb, 1, none⟩ lv' g (by first | (simp; done) | (show _ ≠ _; omega) | (simp; omega))
  · have h2 : Below rb w1 w5 := ⟨hf.os.trans h.below.os, hf.tape.trans h.below.tape, hf.output.trans h.below.output, Nat.le_trans h.below.size hf.size, fun k hk => (hf.block k (by have := h.size; omega) (.inl (by omega))).trans (h.below.block k hk)⟩
    exact h2.setCell (p := ⟨rb, 1, none⟩) (Nat.le_refl _) _
  · have := hf.size; have := h.size; simp [World.setCell]; omega
set_option maxRecDepth 20000 in
set_option maxHeartbeats 4000000 in
theorem reduce_any (N : Int) (v : Value) (es : List (Int × Int)) (w : World) (h : Prs w v es) (hl : es.length ≤ 100000) : Calls Try.prog 28 #[.agg #[.int .i64 N, v]] w (RedP (redR N es) w) := by
  have H := Lib.hid h; clear h
  have hb2 : Below w.heap.size w ((w.alloc (.cells #[.int .i64 N, v] 27)).alloc (.cells #[.int .i64 0, .slice none 0 0] 27)) := (below_alloc w _).trans ((below_alloc _ _).mono (by simp))
  have hx : ((w.alloc (.cells #[.int .i64 N, v] 27)).alloc (.cells #[.int .i64 0, .slice none 0 0] 27)).heap[w.heap.size]? = some (.cells #[.int .i64 N, v] 27 (0, 0)) := ((below_alloc (w.alloc (.cells #[.int .i64 N, v] 27)) _).block _ (by simp)).trans (heap_alloc_new w _)
  have hm : ((w.alloc (.cells #[.int .i64 N, v] 27)).alloc (.cells #[.int .i64 0, .slice none 0 0] 27)).heap[w.heap.size + 1]? = some (.cells #[.int .i64 0, .slice none 0 0] 27 (0, 0)) := by
    have := heap_alloc_new (w.alloc (.cells #[.int .i64 N, v] 27)) (.cells #[.int .i64 0, .slice none 0 0] 27)
    simpa using this
  have hsz : ((w.alloc (.cells #[.int .i64 N, v] 27)).alloc (.cells #[.int .i64 0, .slice none 0 0] 27)).heap.size = w.heap.size + 2 := by simp
  obtain ⟨W, hW⟩ : ∃ W, W = (w.alloc (.cells #[.int .i64 N, v] 27)).alloc (.cells #[.int .i64 0, .slice none 0 0] 27) := ⟨_, rfl⟩
  have za := hx
  have za0 := cell_of_row _ _ 0 _ _ _ hx
  have za1 := cell_of_row _ _ 1 _ _ _ hx
  rw [← hW] at hb2 hx hm hsz
  have HW := Lib.hid hW
  have Hb0 := Lib.hid hb2
  have KX := Lib.hid (show ∀ w', Below W.heap.size W w' → w'.heap[w.heap.size]? = some (.cells #[.int .i64 N, v] 27 (0, 0)) ∧ w'.heap[w.heap.size + 1]? = some (.cells #[.int .i64 0, .slice none 0 0] 27 (0, 0)) from fun w' h => ⟨(h.block _ (by omega)).trans hx, (h.block _ (by omega)).trans hm⟩)
  clear hW hb2 hx hm
  cases hv : valO N es with
  | false =>
    have Hr := Lib.hid (show redR N es = (0, [], 1) by unfold redR; rw [hv]; rfl)
    have Hv := Lib.hid hv; clear hv
    go_enter Try.func28, Try.ntmps28
    go_wp2_with fail
    rw [← HW.out]
    refine (pastsof_sh N v es _ (H.out.below Hb0.out) hl).mono ?_
    rintro e w1 ⟨A1, k1, c1, rfl, hb, _⟩
    rw [Hv.out]
    have Hb := Lib.hid (bl2 Hb0.out hb)
    have hr1 := (KX.out _ hb).2
    have r0 := cell_of_row _ _ 0 _ _ _ hr1
    have r1 := cell_of_row _ _ 1 _ _ _ hr1
    have f0 := frozen_ofR hr1 0
    have f1 := frozen_ofR hr1 1
    have Hr1 := Lib.hid hr1
    clear hb za za0 za1 hr1
    go_wp2_with fail
    refine bodyPost_ret (v := .tuple #[.agg #[.int .i64 0, .slice none 0 0], .int .i64 1]) (results_cell_row2 Try.results28 _ _ (w.heap.size + 1) 27 _ (0, 0) _ rfl (heap_set_2 Hr1.out _ _) Try.underlying27 rfl (by kernel_rfl)) rfl ?_
    rw [Hr.out]
    exact ⟨none, 0, rfl, .inl ⟨rfl, rfl⟩, (Hb.out.setCell (p := ⟨w.heap.size + 1, 0, none⟩) (by show w.heap.size ≤ w.heap.size + 1; omega) _).setCell (p := ⟨w.heap.size + 1, 1, none⟩) (by show w.heap.size ≤ w.heap.size + 1; omega) _⟩
  | true =>
    have Hv := Lib.hid hv
    obtain ⟨⟨n0, n1, n2⟩, _, _⟩ := valO_parts hv
    obtain ⟨n, rfl⟩ : ∃ n : Nat, N = n := ⟨N.toNat, by omega⟩
    have hn : n ≤ 60 := by omega
    have Hr := Lib.hid (show redR n es = ((n : Int), redL n es n, 0) by unfold redR; rw [hv, if_pos rfl, Int.toNat_natCast])
    clear hv n0 n1
    go_enter Try.func28, Try.ntmps28
    go_wp2_with fail
    rw [← HW.out]
    refine (pastsof_sh n v es _ (H.out.below Hb0.out) hl).mono ?_
    rintro e w1 ⟨A1, k1, c1, rfl, hb, hs⟩
    rw [Hv.out]
    have Hs := Lib.hid (hs Hv.out)
    have hk1 : n = k1 := by
      obtain ⟨A9, c9, h9⟩ := Hs.out.shape
      simp only [Value.slice.injEq] at h9
      rw [h9.2.1, psts_len']
    subst hk1
    have Hb := Lib.hid (bl2 Hb0.out hb)
    have HbW := Lib.hid hb
    have hx := (KX.out _ hb).1
    have x0 := cell_of_row _ _ 0 _ _ _ hx
    have hrb : w.heap.size + 2 ≤ w1.heap.size := by have := hb.size; omega
    have hnew := heap_alloc_new w1 (.cells #[.int .i64 (n : Int), .slice none 0 0] 27)
    have Hst : Hid (Rs n w1.heap.size w1 (w1.alloc (.cells #[.int .i64 (n : Int), .slice none 0 0] 27)) (.slice none 0 0) (redL n es 0)) := Lib.hid ⟨hnew, World.ownsRow_nil _ _ _ _, below_alloc _ _, by simp⟩
    have y0 : (w1.alloc (.cells #[.int .i64 (n : Int), .slice none 0 0] 27)).cell? ⟨w.heap.size, 0, none⟩ = some (.int .i64 (n : Int)) := cell_of_row _ _ 0 _ _ _ (KX.out _ (hb.alloc hb.size _)).1
    clear hb hs za za0 za1 hnew
    go_wp2_with fail
    generalize hw3 : w1.alloc (.cells #[.int .i64 (n : Int), .slice none 0 0] 27) = w3 at *
    clear hw3
    clear hx x0
    go_loopw [23] (fun i wr => ∃ (a : Nat) (lv : Value), a ≤ n ∧ i = .int .i64 a ∧ Hid (Rs n w1.heap.size w1 wr lv (redL n es a))) (fun i _ => n - (intOf i).toNat)
    case atStart => exact ⟨0, _, Nat.zero_le _, rfl, Hst⟩
    case round =>
      clear y0 Hst
      obtain ⟨a, lv, ha, rfl, HR⟩ := hrel
      by_cases hla : a < n
      · have HR0 : Hid (Rs n w1.heap.size w1 wr lv (redL n es a ++ rowL n es a 0)) := Lib.hid (by rw [rowL_zero, List.append_nil]; exact HR.out)
        go_wp2
        go_loopw [28] (fun i wr => ∃ (b : Nat) (lv : Value), b ≤ n ∧ i = .int .i64 b ∧ Hid (Rs n w1.heap.size w1 wr lv (redL n es a ++ rowL n es a b))) (fun i _ => n - (intOf i).toNat)
        case atStart => exact ⟨0, _, Nat.zero_le _, rfl, HR0⟩
        case round =>
          clear HR0 HR
          obtain ⟨b, lv, hb, rfl, HR⟩ := hrel
          by_cases hlb : b < n
          · have hSl := Hs.out.below HR.out.below
            obtain ⟨ad, c', hsl, hcap, hcell, hxl⟩ := words_cell hSl hn hlb
            simp only [Value.slice.injEq, true_and] at hsl
            obtain ⟨rfl, rfl⟩ := hsl
            have Hsl := Lib.hid hSl
            have Hbt := Lib.hid (show (pst (n : Int) es b).testBit a = Bf n es a b from bf_bit hla)
            have Hsuc := Lib.hid (rowL_succ n es a b)
            have Hxl := Lib.hid hxl
            have Hbe := Lib.hid (fun w' (h : Sl uv w' (.slice (some ad) n c1) (psts (n : Int) es)) => between_any n (.slice (some ad) n c1) es a b w' h hn hla hlb)
            clear hSl hxl
            generalize pst (n : Int) es b = x at *
            cases hab : Bf n es a b with
            | false =>
              have Hn := Lib.hid (show rowL n es a (b + 1) = rowL n es a b by rw [Hsuc.out]; unfold rd; rw [hab]; simp)
              have H1 := Lib.hid (Hbt.out.trans hab)
              clear hab
              go_wp2_with fail
              refine (has_any x a _ Hxl.out (by omega)).mono ?_
              rintro r w4 ⟨rfl, rfl⟩
              rw [H1.out]
              go_wp2
              go_roundw
              case rel => exact ⟨b + 1, lv, by omega, by go_num, by rw [Hn.out]; exact HR⟩
              case measure => simp [intOf]; omega
            | true =>
              have H1 := Lib.hid (Hbt.out.trans hab)
              cases hbw : btw n es a b with
              | true =>
                have Hn := Lib.hid (show rowL n es a (b + 1) = rowL n es a b by rw [Hsuc.out]; unfold rd; rw [hab, hbw]; simp)
                have H2 := Lib.hid hbw
                clear hab hbw
                go_wp2_with fail
                refine (has_any x a _ Hxl.out (by omega)).mono ?_
                rintro r w4 ⟨rfl, rfl⟩
                rw [H1.out]
                go_wp2_with fail
                refine (Hbe.out _ Hsl.out).mono ?_
                rintro r w4 ⟨rfl, rfl⟩
                rw [H2.out]
                go_wp2
                go_roundw
                case rel => exact ⟨b + 1, lv, by omega, by go_num, by rw [Hn.out]; exact HR⟩
                case measure => simp [intOf]; omega
              | false =>
                have Hn := Lib.hid (show redL n es a ++ rowL n es a (b + 1) = (redL n es a ++ rowL n es a b) ++ [((a : Int), (b : Int))] by rw [Hsuc.out, if_pos (by unfold rd; rw [hab, hbw]; rfl), List.append_assoc])
                have H2 := Lib.hid hbw
                have hlen : (redL n es a ++ rowL n es a b).length ≤ 3660 := by
                  rw [List.length_append]
                  have h3 := redL_len n es a
                  have h4 := rowL_len n es a b
                  have h5 : a * n ≤ 60 * 60 := Nat.mul_le_mul (by omega) hn
                  omega
                have hbx := HR.out.box
                have b1 := cell_of_row _ _ 1 _ _ _ hbx
                have hsz := HR.out.size
                have hown := HR.out.own
                generalize redL n es a ++ rowL n es a b = L at *
                have Hown := Lib.hid hown
                clear hab hbw hown
                go_wp2_with fail
                refine (has_any x a _ Hxl.out (by omega)).mono ?_
                rintro r w4 ⟨rfl, rfl⟩
                rw [H1.out]
                go_wp2_with fail
                refine (Hbe.out _ Hsl.out).mono ?_
                rintro r w4 ⟨rfl, rfl⟩
                rw [H2.out]
                go_wp2_with (at_builtin; refine app1P rfl _ _ 22 rfl 50 _ 16 info_pair rfl Try.underlying22 (w1.heap.size + 1) _ _ _ rfl Hown.out _ _ rfl (by intro c hc; simp at hc; rcases hc with rfl | rfl <;> rfl) (by omega) (by omega) hsz ?_; intro lv2 w5 hown5 hfr5; obtain ⟨A5, c5, rfl⟩ := own_shapeG hown5; have hb5 := (hfr5.block w1.heap.size (by omega) (.inl (Nat.lt_succ_self _))).trans hbx; have d1 := cell_of_row _ _ 1 _ _ _ hb5; have f1 := frozen_ofR hb5 1; have HR5 := Lib.hid (HR.out.push (p := ((a : Int), (b : Int))) hfr5 hown5); clear hown5 hfr5 hb5)
                go_roundw
                case rel => exact ⟨b + 1, _, by omega, by go_num, by rw [Hn.out]; exact HR5⟩
                case measure => simp [intOf]; omega
          · obtain rfl : b = n := by omega
            go_wp2
            go_roundw
            case rel => exact ⟨a + 1, lv, by omega, by go_num, by rw [redL_succ]; exact HR⟩
            case measure => simp [intOf]; omega
      · obtain rfl : a = n := by omega
        have hbx := HR.out.box
        have b0 := cell_of_row _ _ 0 _ _ _ hbx
        have b1 := cell_of_row _ _ 1 _ _ _ hbx
        have hr1 : wr.heap[w.heap.size + 1]? = some (.cells #[.int .i64 0, .slice none 0 0] 27 (0, 0)) := (HR.out.below.block _ (by omega)).trans (KX.out _ HbW.out).2
        have r0 := cell_of_row _ _ 0 _ _ _ hr1
        have r1 := cell_of_row _ _ 1 _ _ _ hr1
        have f0 := frozen_ofR hr1 0
        have f1 := frozen_ofR hr1 1
        have Hr1 := Lib.hid hr1
        obtain ⟨A6, c6, rfl⟩ := own_shapeG HR.out.own
        have HBf := Lib.hid ((bl2 Hb.out HR.out.below).setCell (p := ⟨w.heap.size + 1, 0, none⟩) (by show w.heap.size ≤ w.heap.size + 1; omega) (.int .i64 (a : Int)))
        have HPo := Lib.hid (show Prs ((wr.setCell ⟨w.heap.size + 1, 0, none⟩ (.int .i64 (a : Int))).setCell ⟨w.heap.size + 1, 1, none⟩ (.slice A6 (redL a es a).length c6)) (.slice A6 (redL a es a).length c6) (redL a es a) from Prs.of_own (own_keepG (own_keepG HR.out.own (fun g hg _ => Below.heap_setCell wr ⟨w.heap.size + 1, 0, none⟩ _ g (by first | (simp; done) | (show _ ≠ _; omega) | (simp; omega)))) (fun g hg _ => Below.heap_setCell _ ⟨w.heap.size + 1, 1, none⟩ _ g (by first | (simp; done) | (show _ ≠ _; omega) | (simp; omega)))))
        clear hr1
        go_wp2_with fail
        refine bodyPost_ret (v := .tuple #[.agg #[.int .i64 (a : Int), .slice A6 (redL a es a).length c6], .int .i64 0]) (results_cell_row2 Try.results28 _ _ (w.heap.size + 1) 27 _ (0, 0) _ rfl (heap_set_2 Hr1.out _ _) Try.underlying27 rfl (by kernel_rfl)) rfl ?_
        rw [Hr.out]
        exact ⟨A6, c6, rfl, HPo.out, HBf.out.setCell (p := ⟨w.heap.size + 1, 1, none⟩) (by show w.heap.size ≤ w.heap.size + 1; omega) _⟩
end Go.Proofs.Ytcekfgahhicdcaa
