/- Extensions of order: a closure that calls itself through the variable that holds it. -/
import Derived.Test.YtcekfgahhicdcaaOrdSeq
import Derived.Laws.EntriesVeiled
namespace Go.Proofs.Ytcekfgahhicdcaa
open Go.RowKit

/-- One event of a round of the count. -/
def exS (ps : List Nat) (most : Int) (f s : Nat) (c : Int) (e : Nat) : Int := if (decide (c < most) && rdyW ps s e) = true then exW ps most f (s ||| 2 ^ e) c else c
/-- The count in front of event k. -/
def exL (ps : List Nat) (most : Int) (f s : Nat) (c : Int) (k : Nat) : Int := (List.range k).foldl (exS ps most f s) c
theorem exL_zero (ps : List Nat) (most : Int) (f s : Nat) (c : Int) : exL ps most f s c 0 = c := rfl
theorem exL_succ (ps : List Nat) (most : Int) (f s : Nat) (c : Int) (k : Nat) : exL ps most f s c (k + 1) = exS ps most f s (exL ps most f s c k) k := by
  unfold exL; rw [List.range_succ, List.foldl_append]; rfl
theorem exW_succ {ps : List Nat} {most : Int} {f s : Nat} {c : Int} (h : s ≠ 2 ^ ps.length - 1) : exW ps most (f + 1) s c = exL ps most f s c ps.length := by
  rw [exW, if_neg h]; rfl
def extF (j k : Nat) : Value := .func (.func 42) #[] #[.pointer (some ⟨j, 0, none⟩), .pointer (some ⟨k + 1, 0, none⟩), .pointer (some ⟨j + 1, 0, none⟩), .pointer (some ⟨k, 0, none⟩), .pointer (some ⟨k + 2, 0, none⟩)]
/-- What does not change while one counts. -/
structure ExB (j n : Nat) (ev : Value) (most : Int) (pv : Value) (es : List (Int × Int)) (w1 : World) : Prop where
  low : j + 1 < w1.heap.size
  ho : w1.heap[j]? = some (.cells #[.int .i64 (n : Int), ev] 27 (0, 0))
  hm : w1.heap[j + 1]? = some (.cells #[.int .i64 most] 3 (0, 0))
  sl : Sl uv w1 pv (psts (n : Int) es)
structure Ex (j : Nat) (pv : Value) (w1 w : World) (c : Int) : Prop where
  below : Below w1.heap.size w1 w
  hp : w.heap[w1.heap.size]? = some (.cells #[pv] 54 (0, 0))
  hc : w.heap[w1.heap.size + 1]? = some (.cells #[.int .i64 c] 3 (0, 0))
  he : w.heap[w1.heap.size + 2]? = some (.cells #[extF j w1.heap.size] 68 (0, 0))
theorem Ex.set {j : Nat} {pv : Value} {w1 w : World} {c : Int} (h : Ex j pv w1 w c) (x : Int) : Ex j pv w1 (w.setCell ⟨w1.heap.size + 1, 0, none⟩ (.int .i64 x)) x := by
  refine ⟨h.below.setCell (p := ⟨w1.heap.size + 1, 0, none⟩) (by simp) _, ?_, ?_, ?_⟩
  · exact (Below.heap_setCell w ⟨w1.heap.size + 1, 0, none⟩ _ _ (by simp)).trans h.hp
  · exact heap_set (i := 0) h.hc
  · exact (Below.heap_setCell w ⟨w1.heap.size + 1, 0, none⟩ _ _ (by simp)).trans h.he
theorem Ex.drew {j : Nat} {pv : Value} {w1 w : World} {c : Int} (h : Ex j pv w1 w c) (m : Nat) : Ex j pv w1 (w.drewN m) c := ⟨⟨h.below.os, h.below.tape, h.below.output, h.below.size, h.below.block⟩, h.hp, h.hc, h.he⟩
theorem frozen_of {w : World} {g : Nat} {cs : Array Value} {t : TypeId} (h : w.heap[g]? = some (.cells cs t (0, 0))) (j : Nat) : w.frozen? ⟨g, j, none⟩ = false := by
  simp [World.frozen?, h]
def ExP (j : Nat) (pv : Value) (w1 : World) (most : Int) (x : Int) (e : Ending) (w' : World) : Prop := e = .returned (.tuple #[]) ∧ Ex j pv w1 w' x ∧ x ≤ most
set_option maxRecDepth 20000 in
set_option maxHeartbeats 4000000 in
theorem extend_any {j n : Nat} {ev : Value} {most : Int} {pv : Value} {es : List (Int × Int)} {w1 : World} (HB : Hid (ExB j n ev most pv es w1)) (hn : n ≤ 60) (hmost : most ≤ 1000) : ∀ (f s : Nat) (c : Int) (w : World), Ex j pv w1 w c → s < 2 ^ n → Un n s = f → 0 ≤ c → c < most →
    Calls Try.prog 42 #[.int .u64 (s : Int), .pointer (some ⟨j, 0, none⟩), .pointer (some ⟨w1.heap.size + 1, 0, none⟩), .pointer (some ⟨j + 1, 0, none⟩), .pointer (some ⟨w1.heap.size, 0, none⟩), .pointer (some ⟨w1.heap.size + 2, 0, none⟩)] w (fun e w' => ExP j pv w1 most (exW (psts (n : Int) es) most f s c) e w' ∧ c ≤ exW (psts (n : Int) es) most f s c) := by
  intro f
  induction f with
  | zero =>
    intro s c w h hs hu hc0 hc
    have hfull := full_of hs hu
    have hx := (h.below.block _ (by have := HB.out.low; omega)).trans HB.out.ho
    have x0 := cell_of_row _ _ 0 _ _ _ hx
    have y0 := cell_of_row _ _ 0 _ _ _ h.hc
    have fz := frozen_of h.hc 0
    have heq : ((s : Int) == ((2 ^ n - 1 : Nat) : Int)) = true := by rw [beq_iff_eq, ← hfull]
    have hcw : IntKind.i64.wrap (c + 1) = c + 1 := by rw [IntKind.wrap_i64]; omega
    have Hp := Lib.hid (h.set (c + 1))
    clear h hfull hs hu hx
    go_enter Try.func42, Try.ntmps42
    go_wp2_with fail
    refine (all_any n _ hn).mono ?_
    rintro e w2 ⟨rfl, rfl⟩
    go_wp2
    refine bodyPost_ret (results_none rfl _ _ _) rfl ?_
    exact ⟨⟨rfl, Hp.out, by unfold exW; omega⟩, by unfold exW; omega⟩
  | succ f ih =>
    intro s c w h hs hu hc0 hc
    have hnf := not_full (n := n) (s := s) (by omega)
    have heq : ((s : Int) == ((2 ^ n - 1 : Nat) : Int)) = false := by rw [beq_eq_false_iff_ne]; omega
    have Hres := Lib.hid (exW_succ (ps := psts (n : Int) es) (most := most) (f := f) (s := s) (c := c) (by rw [psts_len']; exact hnf))
    have Hih := Lib.hid ih
    have H := Lib.hid h
    have Hs := Lib.hid hs
    have hs64 := Lib.hid (show s < 2 ^ 64 from Nat.lt_of_lt_of_le hs (Nat.pow_le_pow_right (by decide) (by omega)))
    have Hu := Lib.hid hu
    have KO := Lib.hid (show ∀ w', Below w1.heap.size w1 w' → w'.heap[j]? = some (.cells #[.int .i64 (n : Int), ev] 27 (0, 0)) ∧ w'.heap[j + 1]? = some (.cells #[.int .i64 most] 3 (0, 0)) from fun w' hb => ⟨(hb.block _ (by have := HB.out.low; omega)).trans HB.out.ho, (hb.block _ HB.out.low).trans HB.out.hm⟩)
    have x0 : w.cell? ⟨j, 0, none⟩ = some (.int .i64 (n : Int)) := cell_of_row _ _ 0 _ _ _ (KO.out _ h.below).1
    clear h hnf hs hu ih
    rw [Hres.out, psts_len']
    go_enter Try.func42, Try.ntmps42
    go_wp2_with fail
    refine (all_any n _ hn).mono ?_
    rintro e w2 ⟨rfl, rfl⟩
    go_wp2
    go_loopw [17] (fun i wr => ∃ k : Nat, k ≤ n ∧ i = .int .i64 k ∧ Hid (Ex j pv w1 wr (exL (psts (n : Int) es) most f s c k)) ∧ exL (psts (n : Int) es) most f s c k ≤ most ∧ c ≤ exL (psts (n : Int) es) most f s c k) (fun i _ => n - (intOf i).toNat)
    case atStart => exact ⟨0, Nat.zero_le _, rfl, H, by rw [exL_zero]; omega, by rw [exL_zero]; omega⟩
    case round =>
      clear x0
      obtain ⟨k, hk, rfl, Hx, hle, hge⟩ := hrel
      by_cases hlt : k < n
      · have Hsuc := Lib.hid (exL_succ (psts (n : Int) es) most f s c k)
        generalize exL (psts (n : Int) es) most f s c k = ck at *
        obtain ⟨g1, g2⟩ := KO.out _ Hx.out.below
        have x0 : wr.cell? ⟨j, 0, none⟩ = some (.int .i64 (n : Int)) := cell_of_row _ _ 0 _ _ _ g1
        have z0 : wr.cell? ⟨j + 1, 0, none⟩ = some (.int .i64 most) := cell_of_row _ _ 0 _ _ _ g2
        have y0 : wr.cell? ⟨w1.heap.size + 1, 0, none⟩ = some (.int .i64 ck) := cell_of_row _ _ 0 _ _ _ Hx.out.hc
        have p0 : wr.cell? ⟨w1.heap.size, 0, none⟩ = some pv := cell_of_row _ _ 0 _ _ _ Hx.out.hp
        have e0 : wr.cell? ⟨w1.heap.size + 2, 0, none⟩ = some (extF j w1.heap.size) := cell_of_row _ _ 0 _ _ _ Hx.out.he
        unfold extF at e0
        have hS2 := Lib.hid (HB.out.sl.below Hx.out.below)
        clear g1 g2
        by_cases hcm : ck < most
        · have hd : decide (ck < most) = true := decide_eq_true hcm
          cases hrd : rdyW (psts (n : Int) es) s k with
          | true =>
            have Hn := Lib.hid (show exL (psts (n : Int) es) most f s c (k + 1) = exW (psts (n : Int) es) most f (s ||| 2 ^ k) ck by rw [Hsuc.out]; unfold exS; rw [hd, hrd]; rfl)
            have Hrd := Lib.hid hrd
            have Hun := Lib.hid (show Un n (s ||| 2 ^ k) = f by have := Un_add hlt (rdy_free hrd); have := Hu.out; omega)
            have Hol := Lib.hid (or_lt Hs.out hlt)
            have eor := or_val hs64.out (show k < 64 by omega)
            have eor' := or_val' hs64.out (show k < 64 by omega)
            have Hcm := Lib.hid hcm
            clear hrd hcm
            go_wp2_with fail
            refine (ready_any pv _ s k _ hS2.out (words_mem hn) (by rw [psts_len']; exact hn) hs64.out (by rw [psts_len']; exact hlt)).mono ?_
            rintro r w3 ⟨rfl, rfl⟩
            rw [Hrd.out]
            go_wp2_with fail
            go_region_held3 (fun w' => w'.cell? ⟨w1.heap.size + 2, 0, none⟩ = some (.func (.func 42) #[] #[.pointer (some ⟨j, 0, none⟩), .pointer (some ⟨w1.heap.size + 1, 0, none⟩), .pointer (some ⟨j + 1, 0, none⟩), .pointer (some ⟨w1.heap.size, 0, none⟩), .pointer (some ⟨w1.heap.size + 2, 0, none⟩)]))
              (first | (exact e4) | (exact e0))
              (first
                | (go_at_call 39; refine (only_any k _ (by omega)).mono ?_; rintro r w3 ⟨rfl, rfl⟩)
                | (go_at_call 42; refine (Hih.out (s ||| 2 ^ k) ck _ (Hx.out.drew 1) Hol.out Hun.out (by omega) Hcm.out).mono ?_; rintro r w4 ⟨⟨rfl, hx4, hle4⟩, hge4⟩; have e4 : w4.cell? ⟨w1.heap.size + 2, 0, none⟩ = some (extF j w1.heap.size) := cell_of_row _ _ 0 _ _ _ hx4.he; unfold extF at e4; have Hx4 := Lib.hid hx4))
            clear hx4 e4 e0
            go_wp2
            go_roundw
            case rel => exact ⟨k + 1, by omega, by go_num, by rw [Hn.out]; exact Hx4, by rw [Hn.out]; exact hle4, by rw [Hn.out]; omega⟩
            case measure => simp [intOf]; omega
          | false =>
            have Hn := Lib.hid (show exL (psts (n : Int) es) most f s c (k + 1) = ck by rw [Hsuc.out]; unfold exS; rw [hd, hrd]; rfl)
            have Hrd := Lib.hid hrd
            clear hrd
            go_wp2_with fail
            refine (ready_any pv _ s k _ hS2.out (words_mem hn) (by rw [psts_len']; exact hn) hs64.out (by rw [psts_len']; exact hlt)).mono ?_
            rintro r w3 ⟨rfl, rfl⟩
            rw [Hrd.out]
            go_wp2
            go_roundw
            case rel => exact ⟨k + 1, by omega, by go_num, by rw [Hn.out]; exact Hx, by rw [Hn.out]; exact hle, by rw [Hn.out]; exact hge⟩
            case measure => simp [intOf]; omega
        · have Hn := Lib.hid (show exL (psts (n : Int) es) most f s c (k + 1) = ck by rw [Hsuc.out]; unfold exS; rw [decide_eq_false hcm]; rfl)
          have hd : decide (ck < most) = false := decide_eq_false hcm
          go_wp2
          go_roundw
          case rel => exact ⟨k + 1, by omega, by go_num, by rw [Hn.out]; exact Hx, by rw [Hn.out]; exact hle, by rw [Hn.out]; exact hge⟩
          case measure => simp [intOf]; omega
      · obtain rfl : k = n := by omega
        go_wp2
        refine bodyPost_end (results_none rfl _ _ _) rfl ?_
        exact ⟨⟨rfl, Hx.out, hle⟩, hge⟩
def extR (N : Int) (es : List (Int × Int)) (most : Int) : Int × Int := if valO N es = true then (if 1 ≤ most ∧ most ≤ 1000 then (cntW (psts N es) most, 0) else (0, 2)) else (0, 1)
def ExtP (R : Int × Int) (w : World) (e : Ending) (w' : World) : Prop := e = .returned (.tuple #[.int .i64 R.1, .int .i64 R.2]) ∧ Below w.heap.size w w'
theorem ExtP.of {R : Int × Int} {w w' : World} {x y : Int} (h : R = (x, y)) (hb : Below w.heap.size w w') : ExtP R w (.returned (.tuple #[.int .i64 x, .int .i64 y])) w' := by subst h; exact ⟨rfl, hb⟩
/-- The variables of the count, as they are made. -/
theorem ex_start (j : Nat) (w1 : World) (pv : Value) : Ex j pv w1 (((w1.alloc (.cells #[pv] 54)).alloc (.cells #[.int .i64 0] 3)).alloc (.cells #[extF j w1.heap.size] 68)) 0 := by
  have b1 := below_alloc w1 (.cells #[pv] 54)
  have b2 := below_alloc (w1.alloc (.cells #[pv] 54)) (.cells #[.int .i64 0] 3)
  have b3 := below_alloc ((w1.alloc (.cells #[pv] 54)).alloc (.cells #[.int .i64 0] 3)) (.cells #[extF j w1.heap.size] 68)
  have g1 := heap_alloc_new w1 (.cells #[pv] 54)
  have g2 := heap_alloc_new (w1.alloc (.cells #[pv] 54)) (.cells #[.int .i64 0] 3)
  have g3 := heap_alloc_new ((w1.alloc (.cells #[pv] 54)).alloc (.cells #[.int .i64 0] 3)) (.cells #[extF j w1.heap.size] 68)
  have s1 : (w1.alloc (.cells #[pv] 54)).heap.size = w1.heap.size + 1 := by simp
  have s2 : ((w1.alloc (.cells #[pv] 54)).alloc (.cells #[.int .i64 0] 3)).heap.size = w1.heap.size + 1 + 1 := by simp
  rw [s1] at g2 b2
  rw [s2] at g3 b3
  exact ⟨(b1.trans (b2.mono (by omega))).trans (b3.mono (by omega)), (b3.block _ (by omega)).trans ((b2.block _ (by omega)).trans g1), (b3.block _ (by omega)).trans g2, g3⟩
set_option maxRecDepth 20000 in
set_option maxHeartbeats 4000000 in
theorem extensions_any (N most : Int) (v : Value) (es : List (Int × Int)) (w : World) (h : Prs w v es) (hl : es.length ≤ 100000) : Calls Try.prog 26 #[.agg #[.int .i64 N, v], .int .i64 most] w (ExtP (extR N es most) w) := by
  have H := Lib.hid h; clear h
  have hb2 : Below w.heap.size w ((w.alloc (.cells #[.int .i64 N, v] 27)).alloc (.cells #[.int .i64 most] 3)) := (below_alloc w _).trans ((below_alloc _ _).mono (by simp))
  have hx : ((w.alloc (.cells #[.int .i64 N, v] 27)).alloc (.cells #[.int .i64 most] 3)).heap[w.heap.size]? = some (.cells #[.int .i64 N, v] 27 (0, 0)) := ((below_alloc (w.alloc (.cells #[.int .i64 N, v] 27)) _).block _ (by simp)).trans (heap_alloc_new w _)
  have hm : ((w.alloc (.cells #[.int .i64 N, v] 27)).alloc (.cells #[.int .i64 most] 3)).heap[w.heap.size + 1]? = some (.cells #[.int .i64 most] 3 (0, 0)) := by
    have := heap_alloc_new (w.alloc (.cells #[.int .i64 N, v] 27)) (.cells #[.int .i64 most] 3)
    simpa using this
  have hsz : ((w.alloc (.cells #[.int .i64 N, v] 27)).alloc (.cells #[.int .i64 most] 3)).heap.size = w.heap.size + 2 := by simp
  obtain ⟨W, hW⟩ : ∃ W, W = (w.alloc (.cells #[.int .i64 N, v] 27)).alloc (.cells #[.int .i64 most] 3) := ⟨_, rfl⟩
  have za := hx
  have za0 := cell_of_row _ _ 0 _ _ _ hx
  rw [← hW] at hb2 hx hm hsz
  have HW := Lib.hid hW
  have Hb0 := Lib.hid hb2
  have KX := Lib.hid (show ∀ w', Below W.heap.size W w' → w'.heap[w.heap.size]? = some (.cells #[.int .i64 N, v] 27 (0, 0)) ∧ w'.heap[w.heap.size + 1]? = some (.cells #[.int .i64 most] 3 (0, 0)) from fun w' h => ⟨(h.block _ (by omega)).trans hx, (h.block _ (by omega)).trans hm⟩)
  clear hW hb2 hx hm
  cases hv : valO N es with
  | false =>
    have Hr := Lib.hid (show extR N es most = (0, 1) by unfold extR; rw [hv]; rfl)
    have Hv := Lib.hid hv; clear hv
    go_enter Try.func26, Try.ntmps26
    go_wp2_with fail
    rw [← HW.out]
    refine (pastsof_sh N v es _ (H.out.below Hb0.out) hl).mono ?_
    rintro e w1 ⟨A1, k1, c1, rfl, hb, _⟩
    rw [Hv.out]
    have Hb := Lib.hid (bl2 Hb0.out hb)
    clear hb za za0
    go_wp2
    go_ret2
    exact ExtP.of Hr.out (Hb.out.alloc Hb.out.size _)
  | true =>
    have Hv := Lib.hid hv
    obtain ⟨⟨n0, n1, n2⟩, _, _⟩ := valO_parts hv
    obtain ⟨n, rfl⟩ : ∃ n : Nat, N = n := ⟨N.toNat, by omega⟩
    have hn : n ≤ 60 := by omega
    clear n0 n1
    by_cases h1 : most < 1
    · have Hr := Lib.hid (show extR n es most = (0, 2) by unfold extR; rw [hv, if_pos rfl, if_neg (by omega)])
      clear hv
      go_enter Try.func26, Try.ntmps26
      go_wp2_with fail
      rw [← HW.out]
      refine (pastsof_sh n v es _ (H.out.below Hb0.out) hl).mono ?_
      rintro e w1 ⟨A1, k1, c1, rfl, hb, hs⟩
      rw [Hv.out]
      have Hb := Lib.hid (bl2 Hb0.out hb)
      clear za za0
      have zm : (w1.alloc (.cells #[.slice A1 k1 c1] 54)).cell? ⟨w.heap.size + 1, 0, none⟩ = some (.int .i64 most) := cell_of_row _ _ 0 _ _ _ (KX.out _ (hb.alloc hb.size _)).2
      clear hb hs
      go_wp2
      go_ret2
      exact ExtP.of Hr.out (Hb.out.alloc Hb.out.size _)
    · by_cases h2 : 1000 < most
      · have Hr := Lib.hid (show extR n es most = (0, 2) by unfold extR; rw [hv, if_pos rfl, if_neg (by omega)])
        clear hv
        go_enter Try.func26, Try.ntmps26
        go_wp2_with fail
        rw [← HW.out]
        refine (pastsof_sh n v es _ (H.out.below Hb0.out) hl).mono ?_
        rintro e w1 ⟨A1, k1, c1, rfl, hb, hs⟩
        rw [Hv.out]
        have Hb := Lib.hid (bl2 Hb0.out hb)
        clear za za0
        have zm : (w1.alloc (.cells #[.slice A1 k1 c1] 54)).cell? ⟨w.heap.size + 1, 0, none⟩ = some (.int .i64 most) := cell_of_row _ _ 0 _ _ _ (KX.out _ (hb.alloc hb.size _)).2
        clear hb hs
        go_wp2
        go_ret2
        exact ExtP.of Hr.out (Hb.out.alloc Hb.out.size _)
      · have Hr := Lib.hid (show extR n es most = (cntW (psts (n : Int) es) most, 0) by unfold extR; rw [hv, if_pos rfl, if_pos (by omega)])
        clear hv
        go_enter Try.func26, Try.ntmps26
        go_wp2_with fail
        rw [← HW.out]
        refine (pastsof_sh n v es _ (H.out.below Hb0.out) hl).mono ?_
        rintro e w1 ⟨A1, k1, c1, rfl, hb, hs⟩
        rw [Hv.out]
        have Hb := Lib.hid (bl2 Hb0.out hb)
        clear za za0
        have zm : (w1.alloc (.cells #[.slice A1 k1 c1] 54)).cell? ⟨w.heap.size + 1, 0, none⟩ = some (.int .i64 most) := cell_of_row _ _ 0 _ _ _ (KX.out _ (hb.alloc hb.size _)).2
        have HB : Hid (ExB w.heap.size n v most (.slice A1 k1 c1) es w1) := Lib.hid ⟨by have := hb.size; omega, (KX.out _ hb).1, (KX.out _ hb).2, hs Hv.out⟩
        have Hq := Lib.hid (ex_start w.heap.size w1 (.slice A1 k1 c1))
        unfold extF at Hq
        clear hb hs
        go_wp2_with fail
        refine (extend_any HB hn (by omega) n 0 0 _ Hq.out (Nat.two_pow_pos _) (Un_all n) (Int.le_refl _) (by omega)).mono ?_
        rintro e w2 ⟨⟨rfl, hx2, hle2⟩, hge2⟩
        have hc2 := cell_of_row _ _ 0 _ _ _ hx2.hc
        have Hb2 := Lib.hid (bl2 Hb.out hx2.below)
        have Hr2 := Lib.hid (show extR n es most = (exW (psts (n : Int) es) most n 0 0, 0) by rw [Hr.out]; unfold cntW; rw [psts_len'])
        generalize exW (psts (n : Int) es) most n 0 0 = x at *
        clear hx2 Hq zm
        go_wp2
        go_ret2
        exact ExtP.of Hr2.out Hb2.out
end Go.Proofs.Ytcekfgahhicdcaa
