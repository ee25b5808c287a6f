/- OrderExtends: for every input the law returns true. -/
import Derived.Test.YtiaidkdpfmbemaaOrdAw
import Derived.Test.YtiaidkdpfmbemaaOrdLi
namespace Go.Proofs.Ytiaidkdpfmbemaa
open Go.RowKit

theorem own_some {w : World} {B e n : Nat} {v : Value} {xs : List Value} (h : w.ownsRow B e 1 v n xs) (hn : n ≠ 0) : v ≠ .slice none 0 0 := by
  rcases h.2 with ⟨_, h⟩ | ⟨g, cap, cur, h, _⟩
  · exact absurd h hn
  · rw [h]; intro h2; cases h2
theorem own_put {w : World} {B g n cap : Nat} {l : List Int} (h : w.ownsRow B 3 1 (.slice (some ⟨g, 0, none⟩) n cap) n (l.map iv)) (r : Nat) (x : Int) : (w.setCell ⟨g, r, none⟩ (.int .i64 x)).ownsRow B 3 1 (.slice (some ⟨g, 0, none⟩) n cap) n ((l.set r x).map iv) := by
  have := (h.stored r (iv x)).1
  rwa [← List.map_set] at this
theorem own_at {w : World} {B g n cap : Nat} {l : List Int} (h : w.ownsRow B 3 1 (.slice (some ⟨g, 0, none⟩) n cap) n (l.map iv)) (r : Nat) (hr : r < l.length) : w.cell? ⟨g, r, none⟩ = some (.int .i64 l[r]) := by
  have hl : l.length = n := by simpa using h.1
  rw [h.cellAt r (by omega), List.getElem?_map, List.getElem?_eq_getElem hr]; rfl
theorem bl_drewN {a b : World} {B : Nat} (h : Below B a b) (m : Nat) : Below B a (b.drewN m) := ⟨h.os, h.tape, h.output, h.size, h.block⟩
theorem befO_nat {n : Nat} {es : List (Int × Int)} (hv : valO n es = true) {a b : Nat} (ha : a < n) (hb : b < n) : befO n es a b = Bf n es a b := by
  unfold befO
  rw [hv, inB_iff.2 ⟨by omega, by omega⟩, inB_iff.2 ⟨by omega, by omega⟩]
  simp
theorem linR_ok {n : Nat} {es : List (Int × Int)} (hv : valO n es = true) : linR n es = (Lk n es n, 0) := by unfold linR Lk; rw [hv, if_pos rfl, Int.toNat_natCast]
theorem isO_ok {n : Nat} {es : List (Int × Int)} (hv : valO n es = true) {l : List Int} (hl : l.length = n) : isO n es l = isW n (psts (n : Int) es) l 0 := by
  unfold isO; rw [hv, hl, decide_eq_true rfl]; rfl
theorem cutO_ok {n : Nat} {es : List (Int × Int)} (hv : valO n es = true) (l : List Int) : cutO n es l = cutW n (psts (n : Int) es) l := by
  unfold cutO; rw [hv]; rfl
set_option maxRecDepth 20000 in
set_option maxHeartbeats 4000000 in
theorem orderextends_walk (N : Int) (A : Option Addr) (c : Nat) (es : List (Int × Int)) (at_ : Nat) (w : World) (h : Prs w (.slice A es.length c) es) (hmx : es.length ≤ 9223372036854775807) (hat : at_ < 256) : Calls Try.prog 7 #[.agg #[.int .i64 N, .slice A es.length c], .int .u8 (at_ : Int)] w (Ok w) := by
  have hb2 : Below w.heap.size w ((w.alloc (.cells #[.int .i64 N, .slice A es.length c] 24)).alloc (.cells #[.int .i64 N, .slice A es.length c] 27)) := (below_alloc w _).trans ((below_alloc _ _).mono (by simp))
  have hx : ((w.alloc (.cells #[.int .i64 N, .slice A es.length c] 24)).alloc (.cells #[.int .i64 N, .slice A es.length c] 27)).heap[w.heap.size]? = some (.cells #[.int .i64 N, .slice A es.length c] 24 (0, 0)) := ((below_alloc (w.alloc (.cells #[.int .i64 N, .slice A es.length c] 24)) _).block _ (by simp)).trans (heap_alloc_new w _)
  have hm : ((w.alloc (.cells #[.int .i64 N, .slice A es.length c] 24)).alloc (.cells #[.int .i64 N, .slice A es.length c] 27)).heap[w.heap.size + 1]? = some (.cells #[.int .i64 N, .slice A es.length c] 27 (0, 0)) := by
    have := heap_alloc_new (w.alloc (.cells #[.int .i64 N, .slice A es.length c] 24)) (.cells #[.int .i64 N, .slice A es.length c] 27)
    simpa using this
  have hsz : ((w.alloc (.cells #[.int .i64 N, .slice A es.length c] 24)).alloc (.cells #[.int .i64 N, .slice A es.length c] 27)).heap.size = w.heap.size + 2 := by simp
  obtain ⟨W, hW⟩ : ∃ W, W = (w.alloc (.cells #[.int .i64 N, .slice A es.length c] 24)).alloc (.cells #[.int .i64 N, .slice A es.length c] 27) := ⟨_, rfl⟩
  rw [← hW] at hb2 hx hm hsz
  have HW := Lib.hid hW
  have Hb0 := Lib.hid hb2
  have KX := Lib.hid (show ∀ w', Below W.heap.size W w' → w'.heap[w.heap.size]? = some (.cells #[.int .i64 N, .slice A es.length c] 24 (0, 0)) ∧ w'.heap[w.heap.size + 1]? = some (.cells #[.int .i64 N, .slice A es.length c] 27 (0, 0)) from fun w' h => ⟨(h.block _ (by omega)).trans hx, (h.block _ (by omega)).trans hm⟩)
  have KP := Lib.hid (show ∀ w', Below W.heap.size W w' → Prs w' (.slice A es.length c) es from fun w' hw => h.below (bl2 hb2 hw))
  have KE := Lib.hid (show ∀ w', Below W.heap.size W w' → Below w.heap.size w w' from fun w' hw => bl2 hb2 hw)
  clear hW hb2 hx hm h
  cases hf : fewB N es.length with
  | false =>
    have Hf := Lib.hid hf; clear hf
    go_enter Try.func7, Try.ntmps7
    go_wp2_with fail
    rw [← HW.out]
    refine (awake_any W).mono ?_
    rintro e w1 ⟨rfl, hb1⟩
    have B1 := Lib.hid hb1
    clear hb1
    have hxx := KX.out _ B1.out
    have x0 := cell_of_row _ _ 0 _ _ _ hxx.2
    have x1 := cell_of_row _ _ 1 _ _ _ hxx.2
    have o0 := cell_of_row _ _ 0 _ _ _ hxx.1
    have o1 := cell_of_row _ _ 1 _ _ _ hxx.1
    go_wp2_with fail
    refine (few_any _ _ _ _ _).mono ?_
    rintro e w2 ⟨rfl, hb2⟩
    rw [Hf.out]
    have B2 := Lib.hid (bl2 B1.out hb2)
    clear hb2
    clear hxx x0 x1 o0 o1
    have hxx := KX.out _ B2.out
    have x0 := cell_of_row _ _ 0 _ _ _ hxx.2
    have x1 := cell_of_row _ _ 1 _ _ _ hxx.2
    have o0 := cell_of_row _ _ 0 _ _ _ hxx.1
    have o1 := cell_of_row _ _ 1 _ _ _ hxx.1
    go_wp2_with fail
    refine (awake_any _).mono ?_
    rintro e w9 ⟨rfl, hb9⟩
    have B9 := Lib.hid (KE.out _ (bl2 B2.out hb9))
    clear hb9
    go_wp2
    go_ret
    exact ⟨rfl, B9.out⟩
  | true =>
    have hl : es.length ≤ 80 ∧ N ≤ 12 := by
      unfold fewB at hf
      rw [Bool.and_eq_true, decide_eq_true_iff, decide_eq_true_iff] at hf
      exact ⟨hf.2, hf.1⟩
    obtain ⟨hl, hN⟩ := hl
    have hl' : es.length ≤ 100000 := by omega
    have Hf := Lib.hid hf; clear hf hmx
    cases hv : valO N es with
    | false =>
      have Hv := Lib.hid hv; clear hv
      go_enter Try.func7, Try.ntmps7
      go_wp2_with fail
      rw [← HW.out]
      refine (awake_any W).mono ?_
      rintro e w1 ⟨rfl, hb1⟩
      have B1 := Lib.hid hb1
      clear hb1
      have hxx := KX.out _ B1.out
      have x0 := cell_of_row _ _ 0 _ _ _ hxx.2
      have x1 := cell_of_row _ _ 1 _ _ _ hxx.2
      have o0 := cell_of_row _ _ 0 _ _ _ hxx.1
      have o1 := cell_of_row _ _ 1 _ _ _ hxx.1
      go_wp2_with fail
      refine (few_any _ _ _ _ _).mono ?_
      rintro e w2 ⟨rfl, hb2⟩
      rw [Hf.out]
      have B2 := Lib.hid (bl2 B1.out hb2)
      clear hb2
      clear hxx x0 x1 o0 o1
      have hxx := KX.out _ B2.out
      have x0 := cell_of_row _ _ 0 _ _ _ hxx.2
      have x1 := cell_of_row _ _ 1 _ _ _ hxx.2
      have o0 := cell_of_row _ _ 0 _ _ _ hxx.1
      have o1 := cell_of_row _ _ 1 _ _ _ hxx.1
      go_wp2_with fail
      refine (valid_any N _ es _ (KP.out _ B2.out) hl').mono ?_
      rintro e w3 ⟨rfl, hb3⟩
      rw [Hv.out]
      have B3 := Lib.hid (bl2 B2.out hb3)
      clear hb3 hxx x0 x1 o0 o1
      go_wp2_with fail
      refine (awake_any _).mono ?_
      rintro e w9 ⟨rfl, hb9⟩
      have B9 := Lib.hid (KE.out _ (bl2 B3.out hb9))
      clear hb9
      go_wp2
      go_ret
      exact ⟨rfl, B9.out⟩
    | true =>
      have Hv := Lib.hid hv
      obtain ⟨⟨n0, n1, n2⟩, hed, hac⟩ := valO_parts hv
      obtain ⟨n, rfl⟩ : ∃ n : Nat, N = n := ⟨N.toNat, by omega⟩
      have hn : n ≤ 12 := by omega
      have Hed := Lib.hid hed
      have Hac := Lib.hid hac
      clear hv n0 n1 n2 hed hac hN
      go_enter Try.func7, Try.ntmps7
      go_wp2_with fail
      rw [← HW.out]
      refine (awake_any W).mono ?_
      rintro e w1 ⟨rfl, hb1⟩
      have B1 := Lib.hid hb1
      clear hb1
      have hxx := KX.out _ B1.out
      have x0 := cell_of_row _ _ 0 _ _ _ hxx.2
      have x1 := cell_of_row _ _ 1 _ _ _ hxx.2
      have o0 := cell_of_row _ _ 0 _ _ _ hxx.1
      have o1 := cell_of_row _ _ 1 _ _ _ hxx.1
      go_wp2_with fail
      refine (few_any _ _ _ _ _).mono ?_
      rintro e w2 ⟨rfl, hb2⟩
      rw [Hf.out]
      have B2 := Lib.hid (bl2 B1.out hb2)
      clear hb2
      clear hxx x0 x1 o0 o1
      have hxx := KX.out _ B2.out
      have x0 := cell_of_row _ _ 0 _ _ _ hxx.2
      have x1 := cell_of_row _ _ 1 _ _ _ hxx.2
      have o0 := cell_of_row _ _ 0 _ _ _ hxx.1
      have o1 := cell_of_row _ _ 1 _ _ _ hxx.1
      go_wp2_with fail
      refine (valid_any n _ es _ (KP.out _ B2.out) hl').mono ?_
      rintro e w3 ⟨rfl, hb3⟩
      rw [Hv.out]
      have B3 := Lib.hid (bl2 B2.out hb3)
      clear hb3 hxx x0 x1 o0 o1 B2 B1
      have hxx := KX.out _ B3.out
      have x0 := cell_of_row _ _ 0 _ _ _ hxx.2
      have x1 := cell_of_row _ _ 1 _ _ _ hxx.2
      have o0 := cell_of_row _ _ 0 _ _ _ hxx.1
      have o1 := cell_of_row _ _ 1 _ _ _ hxx.1
      go_wp2_with fail
      refine (linear_any n _ es _ (KP.out _ B3.out) hl').mono ?_
      rintro e w4 ⟨lv, h1, ho1, hb4⟩
      rw [linR_ok Hv.out] at h1 ho1
      subst h1
      dsimp only at ho1
      rw [Lk_len] at ho1
      have B4 := Lib.hid (bl2 B3.out hb4)
      have Ho := Lib.hid ho1
      have Hl := Lib.hid (Sl.of_own ho1)
      obtain ⟨A1, c1, rfl⟩ := Hl.out.shape
      rw [Lk_len] at *
      have Hiso := Lib.hid ((isO_ok Hv.out (Lk_len n es n)).trans (isW_Lk Hac.out))
      clear hb4 ho1 hxx x0 x1 o0 o1
      have hxx := KX.out _ B4.out
      have x0 := cell_of_row _ _ 0 _ _ _ hxx.2
      have x1 := cell_of_row _ _ 1 _ _ _ hxx.2
      have o0 := cell_of_row _ _ 0 _ _ _ hxx.1
      have o1 := cell_of_row _ _ 1 _ _ _ hxx.1
      go_wp2_with fail
      refine (islin_any n _ es _ (Lk n es n) _ (KP.out _ B4.out) hl' Hl.out).mono ?_
      rintro e w5 ⟨rfl, hb5⟩
      rw [Hiso.out]
      have B5 := Lib.hid hb5
      clear hb5 hxx x0 x1 o0 o1
      have HB0 := Lib.hid (show ∀ w', Below w4.heap.size w4 w' → Below W.heap.size W w' from fun w' h => bl2 B4.out h)
      have hxx := KX.out _ (HB0.out _ B5.out)
      have x0 := cell_of_row _ _ 0 _ _ _ hxx.2
      have x1 := cell_of_row _ _ 1 _ _ _ hxx.2
      have o0 := cell_of_row _ _ 0 _ _ _ hxx.1
      have o1 := cell_of_row _ _ 1 _ _ _ hxx.1
      go_wp2
      go_loopw [49] (fun i wr => ∃ j : Nat, j ≤ n ∧ i = .int .i64 j ∧ Hid (Below w4.heap.size w4 wr)) (fun i _ => n - (intOf i).toNat)
      case atStart => exact ⟨0, Nat.zero_le _, rfl, B5⟩
      case round =>
        clear hxx x0 x1 o0 o1 B5
        obtain ⟨m, hi, rfl, B5⟩ := hrel
        by_cases hli : m < n
        · obtain ⟨ad, c1', hs, hcap, hci⟩ := sl_cell (Hl.out.below B5.out) m (by rw [Lk_len]; exact hli)
          simp only [Value.slice.injEq] at hs
          obtain ⟨rfl, -, rfl⟩ := hs
          rw [Lk_len] at hcap
          rw [Lk_at] at hci
          have Hcut := Lib.hid ((cutO_ok Hv.out _).trans (cutW_Lk Hac.out (show m ≤ n by omega)))
          have HB := Lib.hid (show ∀ w', Below wr.heap.size wr w' → Below W.heap.size W w' from fun w' h => HB0.out _ (bl2 B5.out h))
          have HLi := Lib.hid (show Sl iv wr (.slice (some ad) m c1) (Lk n es m) from Lk_take (n := n) (es := es) (show m ≤ n by omega) ▸ ((Hl.out.below B5.out).take ad c1 n m (by omega)))
          have HI0 := Lib.hid hci
          clear hci
          go_wp2_with fail
          refine region_phi (n := 121) (fun i v w' => match i with
                | 0 => v = .agg #[.int .i64 (n : Int), .slice A es.length c]
                | 1 => v = .slice (some ad) n c1
                | 2 => v = .int .i64 (m : Int)
                | 3 => v = .slice (some ad) m c1
                | 4 => v = .bool true
                | 5 => v = .bool false
                | _ => True) (by kernel_rfl) (by kernel_rfl) rfl ?_ (allOps_spec ?_) ?_
          · intro i v w' w'' h hb
            match i, h with
            | 0, h => exact h
            | 1, h => exact h
            | 2, h => exact h
            | 3, h => exact h
            | 4, h => exact h
            | 5, h => exact h
            | _ + 6, _ => trivial
          · refine ⟨?_, ?_, ?_, ?_, ?_, ?_, trivial⟩
            · intro a w' hb hp
              have b5 : a.tmps[5]?.getD undef = .pointer (some ⟨w.heap.size + 1, 0, none⟩) := hb.at 5 (by kernel_rfl)
              exact step_run (v := .agg #[.int .i64 (n : Int), .slice A es.length c]) rfl (by simp [execOp, go_sem, b5, cell_of_row _ _ 0 _ _ _ (KX.out _ (HB.out _ hb.ext)).2, cell_of_row _ _ 1 _ _ _ (KX.out _ (HB.out _ hb.ext)).2]) rfl
            · intro a w' hb hp
              have b6 : a.tmps[6]?.getD undef = .slice (some ad) n c1 := hb.at 6 (by kernel_rfl)
              exact step_run (v := .slice (some ad) n c1) rfl (by simp [execOp, Act.eval, b6]) rfl
            · intro a w' hb hp
              have b8 : a.tmps[8]?.getD undef = .int .i64 (m : Int) := hb.at 8 (by kernel_rfl)
              exact step_run (v := .int .i64 (m : Int)) rfl (by simp [execOp, Act.eval, b8]) rfl
            · intro a w' hb hp
              have h53 : a.tmps[53]?.getD undef = .slice (some ad) n c1 := slot_eq.symm.trans (hp ⟨1, .data⟩ (by simp) rfl _ rfl)
              have h54 : a.tmps[54]?.getD undef = .int .i64 (m : Int) := slot_eq.symm.trans (hp ⟨2, .data⟩ (by simp) rfl _ rfl)
              exact step_run (v := .slice (some ad) m c1) rfl (by simp [execOp, go_sem, h53, h54, show ¬ (c1 < m) by omega]) rfl
            · intro a w' hb hp
              have h52 : a.tmps[52]?.getD undef = .agg #[.int .i64 (n : Int), .slice A es.length c] := slot_eq.symm.trans (hp ⟨0, .data⟩ (by simp) rfl _ rfl)
              have h55 : a.tmps[55]?.getD undef = .slice (some ad) m c1 := slot_eq.symm.trans (hp ⟨3, .data⟩ (by simp) rfl _ rfl)
              refine step_call (f := 24) (args := #[.agg #[.int .i64 (n : Int), .slice A es.length c], .slice (some ad) m c1]) rfl (by simp [go_sem, h52, h55]) ?_
              refine (cut_any n _ es _ (Lk n es m) _ (KP.out _ (HB.out _ hb.ext)) hl' (HLi.out.below hb.ext) (by rw [Lk_len]; omega)).mono ?_
              rintro e w8 ⟨h9, hb8⟩
              rw [Hcut.out] at h9
              exact ⟨_, h9, hb8, rfl⟩
            · intro a w' hb hp
              have h56 : a.tmps[56]?.getD undef = .bool true := slot_eq.symm.trans (hp ⟨4, .data⟩ (by simp) rfl _ rfl)
              exact step_run (v := .bool false) rfl (by simp [execOp, go_sem, h56]) rfl
          · intro vs w8 hb8 hv
            have h5 : vs 5 = .bool false := hv 5 (by decide)
            simp only [putAll, Act.put, List.setIfInBounds_toArray, List.set_cons_zero, List.set_cons_succ, Nat.zero_add, Nat.reduceAdd, h5]
            clear hv
            have B6 := Lib.hid (bl2 B5.out hb8)
            clear hb8
            clear Hcut HLi HB
            go_wp2
            go_loopw [59] (fun i2 wr => ∃ k : Nat, k ≤ m ∧ i2 = .int .i64 k ∧ Hid (Below w4.heap.size w4 wr)) (fun i2 _ => m - (intOf i2).toNat)
            case atStart => exact ⟨0, Nat.zero_le _, rfl, B6⟩
            case round =>
              clear B6 B5 HI0
              obtain ⟨k, hk, rfl, B6⟩ := hrel
              by_cases hlk : k < m
              · obtain ⟨ad2, c2', hs2, _, hci⟩ := sl_cell (Hl.out.below B6.out) m (by rw [Lk_len]; exact hli)
                simp only [Value.slice.injEq, Option.some.injEq] at hs2
                obtain ⟨rfl, -, rfl⟩ := hs2
                obtain ⟨ad2, c2', hs2, _, hck⟩ := sl_cell (Hl.out.below B6.out) k (by rw [Lk_len]; omega)
                simp only [Value.slice.injEq, Option.some.injEq] at hs2
                obtain ⟨rfl, -, rfl⟩ := hs2
                rw [Lk_at] at hci hck
                unfold iv at hci hck
                have HB := Lib.hid (show ∀ w', Below wr.heap.size wr w' → Below W.heap.size W w' from fun w' h => HB0.out _ (bl2 B6.out h))
                have HI := Lib.hid (show ∀ w', Below wr.heap.size wr w' → w'.cell? (ad.add m) = some (.int .i64 ((eK n es m : Nat) : Int)) from fun w' h => (h.cell (World.block_lt_of_cell? _ _ hci)).trans hci)
                have HK := Lib.hid (show ∀ w', Below wr.heap.size wr w' → w'.cell? (ad.add k) = some (.int .i64 ((eK n es k : Nat) : Int)) from fun w' h => (h.cell (World.block_lt_of_cell? _ _ hck)).trans hck)
                have Hne := Lib.hid (show (((eK n es m : Nat) : Int) == ((eK n es k : Nat) : Int)) = false by rw [beq_eq_false_iff_ne]; have := eK_inj Hac.out hlk hli; omega)
                have Hbf := Lib.hid ((befO_nat Hv.out (eK_nx Hac.out hli).1 (eK_nx Hac.out (show k < n by omega)).1).trans (eK_not Hac.out hlk hli))
                clear hci hck
                go_wp2_with fail
                refine region_phi (n := 121) (fun i v w' => match i with
                      | 0 => v = .slice (some ad) n c1
                      | 1 => v = .int .i64 (m : Int)
                      | 2 => v = .pointer (some (ad.add m))
                      | 3 => v = .int .i64 ((eK n es m : Nat) : Int)
                      | 4 => v = .slice (some ad) n c1
                      | 5 => v = .int .i64 (k : Int)
                      | 6 => v = .pointer (some (ad.add k))
                      | 7 => v = .int .i64 ((eK n es k : Nat) : Int)
                      | 8 => v = .bool false
                      | 9 => v = .bool false
                      | 10 => v = .agg #[.int .i64 (n : Int), .slice A es.length c]
                      | 11 => v = .slice (some ad) n c1
                      | 12 => v = .int .i64 (m : Int)
                      | 13 => v = .pointer (some (ad.add m))
                      | 14 => v = .int .i64 ((eK n es m : Nat) : Int)
                      | 15 => v = .slice (some ad) n c1
                      | 16 => v = .int .i64 (k : Int)
                      | 17 => v = .pointer (some (ad.add k))
                      | 18 => v = .int .i64 ((eK n es k : Nat) : Int)
                      | 19 => v = .bool false
                      | 20 => v = .bool false
                      | _ => True) (by kernel_rfl) (by kernel_rfl) rfl ?_ (allOps_spec ?_) ?_
                · intro i v w' w'' h hb
                  match i, h with
                  | 0, h => exact h
                  | 1, h => exact h
                  | 2, h => exact h
                  | 3, h => exact h
                  | 4, h => exact h
                  | 5, h => exact h
                  | 6, h => exact h
                  | 7, h => exact h
                  | 8, h => exact h
                  | 9, h => exact h
                  | 10, h => exact h
                  | 11, h => exact h
                  | 12, h => exact h
                  | 13, h => exact h
                  | 14, h => exact h
                  | 15, h => exact h
                  | 16, h => exact h
                  | 17, h => exact h
                  | 18, h => exact h
                  | 19, h => exact h
                  | 20, h => exact h
                  | _ + 21, _ => trivial
                · refine ⟨?_, ?_, ?_, ?_, ?_, ?_, ?_, ?_, ?_, ?_, ?_, ?_, ?_, ?_, ?_, ?_, ?_, ?_, ?_, ?_, ?_, trivial⟩
                  · intro a w' hb hp
                    have b6 : a.tmps[6]?.getD undef = .slice (some ad) n c1 := hb.at 6 (by kernel_rfl)
                    exact step_run (v := .slice (some ad) n c1) rfl (by simp [execOp, Act.eval, b6]) rfl
                  · intro a w' hb hp
                    have b8 : a.tmps[8]?.getD undef = .int .i64 (m : Int) := hb.at 8 (by kernel_rfl)
                    exact step_run (v := .int .i64 (m : Int)) rfl (by simp [execOp, Act.eval, b8]) rfl
                  · intro a w' hb hp
                    have h62 : a.tmps[62]?.getD undef = .slice (some ad) n c1 := slot_eq.symm.trans (hp ⟨0, .data⟩ (by simp) rfl _ rfl)
                    have h63 : a.tmps[63]?.getD undef = .int .i64 (m : Int) := slot_eq.symm.trans (hp ⟨1, .data⟩ (by simp) rfl _ rfl)
                    exact step_run (v := .pointer (some (ad.add m))) rfl (by simp [execOp, go_sem, h62, h63, show (0 : Int) ≤ (m : Int) by omega, show (m : Int) < (n : Int) by omega]) rfl
                  · intro a w' hb hp
                    have h64 : a.tmps[64]?.getD undef = .pointer (some (ad.add m)) := slot_eq.symm.trans (hp ⟨2, .data⟩ (by simp) rfl _ rfl)
                    exact step_run (v := .int .i64 ((eK n es m : Nat) : Int)) rfl (by simp [execOp, go_sem, h64, (HI.out _ hb.ext)]) rfl
                  · intro a w' hb hp
                    have b6 : a.tmps[6]?.getD undef = .slice (some ad) n c1 := hb.at 6 (by kernel_rfl)
                    exact step_run (v := .slice (some ad) n c1) rfl (by simp [execOp, Act.eval, b6]) rfl
                  · intro a w' hb hp
                    have b9 : a.tmps[9]?.getD undef = .int .i64 (k : Int) := hb.at 9 (by kernel_rfl)
                    exact step_run (v := .int .i64 (k : Int)) rfl (by simp [execOp, Act.eval, b9]) rfl
                  · intro a w' hb hp
                    have h66 : a.tmps[66]?.getD undef = .slice (some ad) n c1 := slot_eq.symm.trans (hp ⟨4, .data⟩ (by simp) rfl _ rfl)
                    have h67 : a.tmps[67]?.getD undef = .int .i64 (k : Int) := slot_eq.symm.trans (hp ⟨5, .data⟩ (by simp) rfl _ rfl)
                    exact step_run (v := .pointer (some (ad.add k))) rfl (by simp [execOp, go_sem, h66, h67, show (0 : Int) ≤ (k : Int) by omega, show (k : Int) < (n : Int) by omega]) rfl
                  · intro a w' hb hp
                    have h68 : a.tmps[68]?.getD undef = .pointer (some (ad.add k)) := slot_eq.symm.trans (hp ⟨6, .data⟩ (by simp) rfl _ rfl)
                    exact step_run (v := .int .i64 ((eK n es k : Nat) : Int)) rfl (by simp [execOp, go_sem, h68, (HK.out _ hb.ext)]) rfl
                  · intro a w' hb hp
                    have h65 : a.tmps[65]?.getD undef = .int .i64 ((eK n es m : Nat) : Int) := slot_eq.symm.trans (hp ⟨3, .data⟩ (by simp) rfl _ rfl)
                    have h69 : a.tmps[69]?.getD undef = .int .i64 ((eK n es k : Nat) : Int) := slot_eq.symm.trans (hp ⟨7, .data⟩ (by simp) rfl _ rfl)
                    exact step_run (v := .bool false) rfl (by simp [execOp, go_sem, h65, h69, Hne.out]) rfl
                  · intro a w' hb hp
                    have h70 : a.tmps[70]?.getD undef = .bool false := slot_eq.symm.trans (hp ⟨8, .data⟩ (by simp) rfl _ rfl)
                    exact step_run (v := .bool false) rfl (by simp [execOp, Act.eval, h70]) rfl
                  · intro a w' hb hp
                    have b5 : a.tmps[5]?.getD undef = .pointer (some ⟨w.heap.size + 1, 0, none⟩) := hb.at 5 (by kernel_rfl)
                    have g71 : a.tmps[71]?.getD undef = .bool false := slot_eq.symm.trans (hp ⟨9, .guard⟩ (by simp) rfl _ rfl)
                    exact step_run (v := .agg #[.int .i64 (n : Int), .slice A es.length c]) (by simp [Region.wanted, yielded, bool_at g71]) (by simp [execOp, go_sem, b5, cell_of_row _ _ 0 _ _ _ (KX.out _ (HB.out _ hb.ext)).2, cell_of_row _ _ 1 _ _ _ (KX.out _ (HB.out _ hb.ext)).2]) rfl
                  · intro a w' hb hp
                    have b6 : a.tmps[6]?.getD undef = .slice (some ad) n c1 := hb.at 6 (by kernel_rfl)
                    have g71 : a.tmps[71]?.getD undef = .bool false := slot_eq.symm.trans (hp ⟨9, .guard⟩ (by simp) rfl _ rfl)
                    exact step_run (v := .slice (some ad) n c1) (by simp [Region.wanted, yielded, bool_at g71]) (by simp [execOp, Act.eval, b6]) rfl
                  · intro a w' hb hp
                    have b8 : a.tmps[8]?.getD undef = .int .i64 (m : Int) := hb.at 8 (by kernel_rfl)
                    have g71 : a.tmps[71]?.getD undef = .bool false := slot_eq.symm.trans (hp ⟨9, .guard⟩ (by simp) rfl _ rfl)
                    exact step_run (v := .int .i64 (m : Int)) (by simp [Region.wanted, yielded, bool_at g71]) (by simp [execOp, Act.eval, b8]) rfl
                  · intro a w' hb hp
                    have h73 : a.tmps[73]?.getD undef = .slice (some ad) n c1 := slot_eq.symm.trans (hp ⟨11, .data⟩ (by simp) rfl _ rfl)
                    have h74 : a.tmps[74]?.getD undef = .int .i64 (m : Int) := slot_eq.symm.trans (hp ⟨12, .data⟩ (by simp) rfl _ rfl)
                    have g71 : a.tmps[71]?.getD undef = .bool false := slot_eq.symm.trans (hp ⟨9, .guard⟩ (by simp) rfl _ rfl)
                    exact step_run (v := .pointer (some (ad.add m))) (by simp [Region.wanted, yielded, bool_at g71]) (by simp [execOp, go_sem, h73, h74, show (0 : Int) ≤ (m : Int) by omega, show (m : Int) < (n : Int) by omega]) rfl
                  · intro a w' hb hp
                    have h75 : a.tmps[75]?.getD undef = .pointer (some (ad.add m)) := slot_eq.symm.trans (hp ⟨13, .data⟩ (by simp) rfl _ rfl)
                    have g71 : a.tmps[71]?.getD undef = .bool false := slot_eq.symm.trans (hp ⟨9, .guard⟩ (by simp) rfl _ rfl)
                    exact step_run (v := .int .i64 ((eK n es m : Nat) : Int)) (by simp [Region.wanted, yielded, bool_at g71]) (by simp [execOp, go_sem, h75, (HI.out _ hb.ext)]) rfl
                  · intro a w' hb hp
                    have b6 : a.tmps[6]?.getD undef = .slice (some ad) n c1 := hb.at 6 (by kernel_rfl)
                    have g71 : a.tmps[71]?.getD undef = .bool false := slot_eq.symm.trans (hp ⟨9, .guard⟩ (by simp) rfl _ rfl)
                    exact step_run (v := .slice (some ad) n c1) (by simp [Region.wanted, yielded, bool_at g71]) (by simp [execOp, Act.eval, b6]) rfl
                  · intro a w' hb hp
                    have b9 : a.tmps[9]?.getD undef = .int .i64 (k : Int) := hb.at 9 (by kernel_rfl)
                    have g71 : a.tmps[71]?.getD undef = .bool false := slot_eq.symm.trans (hp ⟨9, .guard⟩ (by simp) rfl _ rfl)
                    exact step_run (v := .int .i64 (k : Int)) (by simp [Region.wanted, yielded, bool_at g71]) (by simp [execOp, Act.eval, b9]) rfl
                  · intro a w' hb hp
                    have h77 : a.tmps[77]?.getD undef = .slice (some ad) n c1 := slot_eq.symm.trans (hp ⟨15, .data⟩ (by simp) rfl _ rfl)
                    have h78 : a.tmps[78]?.getD undef = .int .i64 (k : Int) := slot_eq.symm.trans (hp ⟨16, .data⟩ (by simp) rfl _ rfl)
                    have g71 : a.tmps[71]?.getD undef = .bool false := slot_eq.symm.trans (hp ⟨9, .guard⟩ (by simp) rfl _ rfl)
                    exact step_run (v := .pointer (some (ad.add k))) (by simp [Region.wanted, yielded, bool_at g71]) (by simp [execOp, go_sem, h77, h78, show (0 : Int) ≤ (k : Int) by omega, show (k : Int) < (n : Int) by omega]) rfl
                  · intro a w' hb hp
                    have h79 : a.tmps[79]?.getD undef = .pointer (some (ad.add k)) := slot_eq.symm.trans (hp ⟨17, .data⟩ (by simp) rfl _ rfl)
                    have g71 : a.tmps[71]?.getD undef = .bool false := slot_eq.symm.trans (hp ⟨9, .guard⟩ (by simp) rfl _ rfl)
                    exact step_run (v := .int .i64 ((eK n es k : Nat) : Int)) (by simp [Region.wanted, yielded, bool_at g71]) (by simp [execOp, go_sem, h79, (HK.out _ hb.ext)]) rfl
                  · intro a w' hb hp
                    have h72 : a.tmps[72]?.getD undef = .agg #[.int .i64 (n : Int), .slice A es.length c] := slot_eq.symm.trans (hp ⟨10, .data⟩ (by simp) rfl _ rfl)
                    have h76 : a.tmps[76]?.getD undef = .int .i64 ((eK n es m : Nat) : Int) := slot_eq.symm.trans (hp ⟨14, .data⟩ (by simp) rfl _ rfl)
                    have h80 : a.tmps[80]?.getD undef = .int .i64 ((eK n es k : Nat) : Int) := slot_eq.symm.trans (hp ⟨18, .data⟩ (by simp) rfl _ rfl)
                    have g71 : a.tmps[71]?.getD undef = .bool false := slot_eq.symm.trans (hp ⟨9, .guard⟩ (by simp) rfl _ rfl)
                    refine step_call (f := 15) (args := #[.agg #[.int .i64 (n : Int), .slice A es.length c], .int .i64 ((eK n es m : Nat) : Int), .int .i64 ((eK n es k : Nat) : Int)]) (by simp [Region.wanted, yielded, bool_at g71]) (by simp [go_sem, h72, h76, h80]) ?_
                    refine (before_any n _ _ _ es _ (KP.out _ (HB.out _ hb.ext)) hl').mono ?_
                    rintro e w8 ⟨h9, hb8⟩
                    rw [Hbf.out] at h9
                    exact ⟨_, h9, hb8, rfl⟩
                  · intro a w' hb hp
                    have h71 : a.tmps[71]?.getD undef = .bool false := slot_eq.symm.trans (hp ⟨9, .data⟩ (by simp) rfl _ rfl)
                    have h81 : a.tmps[81]?.getD undef = .bool false := slot_eq.symm.trans (hp ⟨19, .data⟩ (by simp) rfl _ rfl)
                    exact step_run (v := .bool false) rfl (by simp [execOp, go_sem, h71, h81]) rfl
                · intro vs w8 hb8 hv
                  have h20 : vs 20 = .bool false := hv 20 (by decide)
                  simp only [putAll, Act.put, List.setIfInBounds_toArray, List.set_cons_zero, List.set_cons_succ, Nat.zero_add, Nat.reduceAdd, h20]
                  clear hv
                  have B7 := Lib.hid (bl2 B6.out hb8)
                  clear hb8
                  go_wp2
                  go_roundw
                  case rel => exact ⟨k + 1, by omega, by go_num, B7⟩
                  case measure => simp [intOf]; omega
              · go_wp2
                go_roundw
                case rel => exact ⟨m + 1, by omega, by go_num, B6⟩
                case measure => simp [intOf]; omega
        · clear hi
          by_cases hn2 : n < 2
          · have B9 := Lib.hid (HB0.out _ B5.out)
            go_wp2
            go_ret
            exact ⟨rfl, KE.out _ B9.out⟩
          · have ho5 := own_below Ho.out B5.out
            obtain ⟨g, cap, hg, hg0, hg1, hcp⟩ := own_shapeS ho5 (own_some Ho.out (by omega))
            simp only [Value.slice.injEq] at hg
            obtain ⟨rfl, _, rfl⟩ := hg
            obtain ⟨q, hq⟩ : ∃ q, q = at_ % (n - 1) := ⟨_, rfl⟩
            have hqn : q + 1 < n := by have := Nat.mod_lt at_ (show 0 < n - 1 by omega); omega
            have hqI : ((at_ : Int) % ((n : Int) - 1)) = (q : Int) := by rw [hq, Int.natCast_emod, show (((n - 1 : Nat)) : Int) = (n : Int) - 1 by omega]
            have HqI := Lib.hid hqI
            have HBr := Lib.hid (show Below W.heap.size W wr from HB0.out _ B5.out)
            have hWg : W.heap.size ≤ g := Nat.le_trans B3.out.size hg0
            clear hq hqI
            go_wp2_with fail
            rw [HqI.out]
            have q0 : (0 : Int) ≤ (q : Int) := by omega
            have q1 : (q : Int) < (n : Int) := by omega
            have q2 : ((q : Int) + 1) < (n : Int) := by omega
            have hq1 : q < (Lk n es n).length := by rw [Lk_len]; omega
            have hq2 : q + 1 < (Lk n es n).length := by rw [Lk_len]; exact hqn
            have ca := own_at ho5 q hq1
            have cb := own_at ho5 (q + 1) hq2
            rw [Lk_at] at ca cb
            have fa := ho5.frozenAt q
            have fb := ho5.frozenAt (q + 1)
            have Ho5 := Lib.hid ho5
            have Hiss := Lib.hid ((isO_ok Hv.out (l := ((Lk n es n).set q ((eK n es (q + 1) : Nat) : Int)).set (q + 1) ((eK n es q : Nat) : Int)) (by simp [Lk_len])).trans (isW_swap Hac.out hqn))
            have Hbfs := Lib.hid (befO_nat Hv.out (eK_nx Hac.out (show q < n by omega)).1 (eK_nx Hac.out hqn).1)
            clear ho5 hq1 hq2
            go_quiet (fail)
            go_wp2_with fail
            have ho7 : (wr.drewN nq).ownsRow w3.heap.size 3 1 (.slice (some ⟨g, 0, none⟩) n c1) n ((Lk n es n).map iv) := Ho5.out
            have HLs := Lib.hid (Sl.of_own (own_put (own_put ho7 q ((eK n es (q + 1) : Nat) : Int)) (q + 1) ((eK n es q : Nat) : Int)))
            have HB6 := Lib.hid (show Below W.heap.size W (((wr.drewN nq).setCell ⟨g, q, none⟩ (.int .i64 ((eK n es (q + 1) : Nat) : Int))).setCell ⟨g, q + 1, none⟩ (.int .i64 ((eK n es q : Nat) : Int))) from ((bl_drewN HBr.out nq).setCell (p := ⟨g, q, none⟩) hWg _).setCell (p := ⟨g, q + 1, none⟩) hWg _)
            clear ho7 ca cb fa fb
            generalize (((wr.drewN nq).setCell ⟨g, q, none⟩ (.int .i64 ((eK n es (q + 1) : Nat) : Int))).setCell ⟨g, q + 1, none⟩ (.int .i64 ((eK n es q : Nat) : Int))) = w6 at *
            have HB := Lib.hid (show ∀ w', Below w6.heap.size w6 w' → Below W.heap.size W w' from fun w' h => bl2 HB6.out h)
            refine region_phi (n := 121) (fun i v w' => match i with
                  | 0 => v = .agg #[.int .i64 (n : Int), .slice A es.length c]
                  | 1 => v = .slice (some ⟨g, 0, none⟩) n c1
                  | 2 => v = .bool (!Bf n es (eK n es q) (eK n es (q + 1)))
                  | 3 => v = .agg #[.int .i64 (n : Int), .slice A es.length c]
                  | 4 => v = .int .i64 ((eK n es q : Nat) : Int)
                  | 5 => v = .int .i64 ((eK n es (q + 1) : Nat) : Int)
                  | 6 => v = .bool (Bf n es (eK n es q) (eK n es (q + 1)))
                  | 7 => v = .bool (!Bf n es (eK n es q) (eK n es (q + 1)))
                  | 8 => v = .bool true
                  | 9 => v = .bool true
                  | _ => True) (by kernel_rfl) (by kernel_rfl) rfl ?_ (allOps_spec ?_) ?_
            · intro i v w' w'' h hb
              match i, h with
              | 0, h => exact h
              | 1, h => exact h
              | 2, h => exact h
              | 3, h => exact h
              | 4, h => exact h
              | 5, h => exact h
              | 6, h => exact h
              | 7, h => exact h
              | 8, h => exact h
              | 9, h => exact h
              | _ + 10, _ => trivial
            · refine ⟨?_, ?_, ?_, ?_, ?_, ?_, ?_, ?_, ?_, ?_, trivial⟩
              · intro a w' hb hp
                have b5 : a.tmps[5]?.getD undef = .pointer (some ⟨w.heap.size + 1, 0, none⟩) := hb.at 5 (by kernel_rfl)
                exact step_run (v := .agg #[.int .i64 (n : Int), .slice A es.length c]) rfl (by simp [execOp, go_sem, b5, cell_of_row _ _ 0 _ _ _ (KX.out _ (HB.out _ hb.ext)).2, cell_of_row _ _ 1 _ _ _ (KX.out _ (HB.out _ hb.ext)).2]) rfl
              · intro a w' hb hp
                have b6 : a.tmps[6]?.getD undef = .slice (some ⟨g, 0, none⟩) n c1 := hb.at 6 (by kernel_rfl)
                exact step_run (v := .slice (some ⟨g, 0, none⟩) n c1) rfl (by simp [execOp, Act.eval, b6]) rfl
              · intro a w' hb hp
                have h112 : a.tmps[112]?.getD undef = .agg #[.int .i64 (n : Int), .slice A es.length c] := slot_eq.symm.trans (hp ⟨0, .data⟩ (by simp) rfl _ rfl)
                have h113 : a.tmps[113]?.getD undef = .slice (some ⟨g, 0, none⟩) n c1 := slot_eq.symm.trans (hp ⟨1, .data⟩ (by simp) rfl _ rfl)
                refine step_call (f := 22) (args := #[.agg #[.int .i64 (n : Int), .slice A es.length c], .slice (some ⟨g, 0, none⟩) n c1]) rfl (by simp [go_sem, h112, h113]) ?_
                refine (islin_any n _ es _ _ _ (KP.out _ (HB.out _ hb.ext)) hl' (HLs.out.below hb.ext)).mono ?_
                rintro e w8 ⟨h9, hb8⟩
                rw [Hiss.out] at h9
                exact ⟨_, h9, hb8, rfl⟩
              · intro a w' hb hp
                have b5 : a.tmps[5]?.getD undef = .pointer (some ⟨w.heap.size + 1, 0, none⟩) := hb.at 5 (by kernel_rfl)
                exact step_run (v := .agg #[.int .i64 (n : Int), .slice A es.length c]) rfl (by simp [execOp, go_sem, b5, cell_of_row _ _ 0 _ _ _ (KX.out _ (HB.out _ hb.ext)).2, cell_of_row _ _ 1 _ _ _ (KX.out _ (HB.out _ hb.ext)).2]) rfl
              · intro a w' hb hp
                have b11 : a.tmps[11]?.getD undef = .int .i64 ((eK n es q : Nat) : Int) := hb.at 11 (by kernel_rfl)
                exact step_run (v := .int .i64 ((eK n es q : Nat) : Int)) rfl (by simp [execOp, Act.eval, b11]) rfl
              · intro a w' hb hp
                have b12 : a.tmps[12]?.getD undef = .int .i64 ((eK n es (q + 1) : Nat) : Int) := hb.at 12 (by kernel_rfl)
                exact step_run (v := .int .i64 ((eK n es (q + 1) : Nat) : Int)) rfl (by simp [execOp, Act.eval, b12]) rfl
              · intro a w' hb hp
                have h115 : a.tmps[115]?.getD undef = .agg #[.int .i64 (n : Int), .slice A es.length c] := slot_eq.symm.trans (hp ⟨3, .data⟩ (by simp) rfl _ rfl)
                have h116 : a.tmps[116]?.getD undef = .int .i64 ((eK n es q : Nat) : Int) := slot_eq.symm.trans (hp ⟨4, .data⟩ (by simp) rfl _ rfl)
                have h117 : a.tmps[117]?.getD undef = .int .i64 ((eK n es (q + 1) : Nat) : Int) := slot_eq.symm.trans (hp ⟨5, .data⟩ (by simp) rfl _ rfl)
                refine step_call (f := 15) (args := #[.agg #[.int .i64 (n : Int), .slice A es.length c], .int .i64 ((eK n es q : Nat) : Int), .int .i64 ((eK n es (q + 1) : Nat) : Int)]) rfl (by simp [go_sem, h115, h116, h117]) ?_
                refine (before_any n _ _ _ es _ (KP.out _ (HB.out _ hb.ext)) hl').mono ?_
                rintro e w8 ⟨h9, hb8⟩
                rw [Hbfs.out] at h9
                exact ⟨_, h9, hb8, rfl⟩
              · intro a w' hb hp
                have h118 : a.tmps[118]?.getD undef = .bool (Bf n es (eK n es q) (eK n es (q + 1))) := slot_eq.symm.trans (hp ⟨6, .data⟩ (by simp) rfl _ rfl)
                exact step_run (v := .bool (!Bf n es (eK n es q) (eK n es (q + 1)))) rfl (by simp [execOp, go_sem, h118]) rfl
              · intro a w' hb hp
                have h114 : a.tmps[114]?.getD undef = .bool (!Bf n es (eK n es q) (eK n es (q + 1))) := slot_eq.symm.trans (hp ⟨2, .data⟩ (by simp) rfl _ rfl)
                have h119 : a.tmps[119]?.getD undef = .bool (!Bf n es (eK n es q) (eK n es (q + 1))) := slot_eq.symm.trans (hp ⟨7, .data⟩ (by simp) rfl _ rfl)
                exact step_run (v := .bool true) rfl (by simp [execOp, go_sem, h114, h119]) rfl
              · intro a w' hb hp
                have h120 : a.tmps[120]?.getD undef = .bool true := slot_eq.symm.trans (hp ⟨8, .data⟩ (by simp) rfl _ rfl)
                exact step_run (v := .bool true) rfl (by simp [execOp, Act.eval, h120]) rfl
            · intro vs w8 hb8 hv
              have h9 : vs 9 = .bool true := hv 9 (by decide)
              simp only [putAll, Act.put, List.setIfInBounds_toArray, List.set_cons_zero, List.set_cons_succ, Nat.zero_add, Nat.reduceAdd, h9]
              clear hv
              have B8 := Lib.hid (HB.out _ hb8)
              clear hb8
              go_wp2
              go_ret
              exact ⟨rfl, KE.out _ B8.out⟩
end Go.Proofs.Ytiaidkdpfmbemaa
