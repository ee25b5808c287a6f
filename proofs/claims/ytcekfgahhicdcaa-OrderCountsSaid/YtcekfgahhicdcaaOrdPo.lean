/- The words of the pasts: pastsOf (tools/po_gen.py). -/
import Derived.Test.YtcekfgahhicdcaaOrdPst
import Derived.Test.YtcekfgahhicdcaaPrs
import Derived.Deep.RegionHeld3
namespace Go.Proofs.Ytcekfgahhicdcaa
open Go.RowKit

theorem valO_range {N : Int} {es : List (Int × Int)} (h : ¬ (0 ≤ N ∧ N ≤ 60 ∧ es.length ≤ 3600)) : valO N es = false := by unfold valO; rw [decide_eq_false h]; rfl
theorem valO_edge {N : Int} {es : List (Int × Int)} {p : Int × Int} (hp : p ∈ es) (h : (inB N p.1 && inB N p.2) = false) : valO N es = false := by
  have : edgesOk N es = false := by
    unfold edgesOk
    rw [Bool.eq_false_iff]
    intro h2
    rw [List.all_eq_true] at h2
    rw [h2 p hp] at h
    cases h
  unfold valO; rw [this]; simp
theorem valO_cyc {N : Int} {es : List (Int × Int)} {i : Nat} (hi : i < N.toNat) (h : Bf N es i i = true) : valO N es = false := by
  have : acyc N es = false := by
    unfold acyc
    rw [Bool.eq_false_iff]
    intro h2
    rw [List.all_eq_true] at h2
    have := h2 i (List.mem_range.2 hi)
    rw [h] at this
    cases this
  unfold valO; rw [this]; simp
theorem valO_ok {N : Int} {es : List (Int × Int)} (h : 0 ≤ N ∧ N ≤ 60 ∧ es.length ≤ 3600) (he : ∀ p ∈ es, inB N p.1 = true ∧ inB N p.2 = true) (hc : ∀ i, i < N.toNat → Bf N es i i = false) : valO N es = true := by
  unfold valO edgesOk acyc
  rw [decide_eq_true h, Bool.true_and, Bool.and_eq_true, List.all_eq_true, List.all_eq_true]
  refine ⟨fun p hp => by rw [(he p hp).1, (he p hp).2]; rfl, fun i hi => by rw [hc i (List.mem_range.1 hi)]; rfl⟩
theorem valO_parts {N : Int} {es : List (Int × Int)} (h : valO N es = true) : (0 ≤ N ∧ N ≤ 60 ∧ es.length ≤ 3600) ∧ (∀ p ∈ es, inB N p.1 = true ∧ inB N p.2 = true) ∧ acyc N es = true := by
  unfold valO edgesOk at h
  rw [Bool.and_eq_true, Bool.and_eq_true, decide_eq_true_iff, List.all_eq_true] at h
  exact ⟨h.1.1, fun p hp => by have := h.1.2 p hp; rwa [Bool.and_eq_true] at this, h.2⟩
theorem own_below {w w' : World} {B e : Nat} {v : Value} {n : Nat} {xs : List Value} (h : w.ownsRow B e 1 v n xs) (hb : Below w.heap.size w w') : w'.ownsRow B e 1 v n xs := by
  refine h.kept (row := none) ⟨hb.os, hb.tape, hb.output, hb.size, fun k hk _ => hb.block k hk⟩ ?_
  cases e : v.ownBlock
  · exact .inl rfl
  · exact .inr (fun h => by cases h)
def PsS (N : Int) (es : List (Int × Int)) (w : World) (e : Ending) (w' : World) : Prop := ∃ A k c, e = .returned (.tuple #[.slice A k c, .bool (valO N es)]) ∧ Below w.heap.size w w' ∧ (valO N es = true → Sl uv w' (.slice A k c) (psts N es))
def PsP (N : Int) (es : List (Int × Int)) (w : World) (e : Ending) (w' : World) : Prop := ∃ v, e = .returned (.tuple #[v, .bool (valO N es)]) ∧ Below w.heap.size w w' ∧ (valO N es = true → Sl uv w' v (psts N es))
theorem PsS.bad {N : Int} {es : List (Int × Int)} {w w' : World} (h : valO N es = false) (hb : Below w.heap.size w w') : PsS N es w (.returned (.tuple #[.slice none 0 0, .bool false])) w' :=
  ⟨_, _, _, by rw [h], hb, fun h2 => by rw [h] at h2; cases h2⟩
theorem PsS.good {N : Int} {es : List (Int × Int)} {w w' : World} {A : Option Addr} {k c : Nat} (h : valO N es = true) (hs : Sl uv w' (.slice A k c) (psts N es)) (hb : Below w.heap.size w w') : PsS N es w (.returned (.tuple #[.slice A k c, .bool true])) w' :=
  ⟨_, _, _, by rw [h], hb, fun _ => hs⟩
theorem take_all2 {N : Int} {es : List (Int × Int)} {k : Nat} {p : Int × Int} (hk : k < es.length) (h : ∀ p ∈ es.take k, inB N p.1 = true ∧ inB N p.2 = true) (hx : inB N p.1 = true ∧ inB N p.2 = true) (e : es[k] = p) : ∀ p ∈ es.take (k + 1), inB N p.1 = true ∧ inB N p.2 = true := by
  rw [List.take_succ_eq_append_getElem hk]
  intro x h2
  rcases List.mem_append.1 h2 with h3 | h3
  · exact h x h3
  · rw [List.mem_singleton] at h3; rw [h3, e]; exact hx
theorem inB_iff {N x : Int} : inB N x = true ↔ 0 ≤ x ∧ x < N := by unfold inB; rw [Bool.and_eq_true, decide_eq_true_iff, decide_eq_true_iff]
theorem bl_drew {a b : World} {B : Nat} (h : Below B a b) : Below B a b.drew := ⟨h.os, h.tape, h.output, h.size, h.block⟩
theorem bl2 {a b : World} (h : Below a.heap.size a b) {c : World} (k : Below b.heap.size b c) : Below a.heap.size a c := h.trans (k.mono h.size)
theorem info_set : (Try.prog.info? 62).map (fun i => (i.zero, i.size, i.bytes)) = some (some (.int .u64 0), 1, 8) := by kernel_rfl
theorem made_words {w : World} {B g n : Nat} (h : w.ownsRow B 62 1 (.slice (some ⟨g, 0, none⟩) n n) n (madeCells (Value.int .u64 0).cells (n * 1)).toList) (es : List (Int × Int)) : Wrow B g n n (edW n es 0) w := by
  have e := toList_madeCells_one (uv 0) n
  unfold Wrow
  rw [edW_zero, List.map_replicate, ← e]
  rwa [Nat.mul_one] at h
theorem made_below {w w1 : World} (hgr : w.grownBy w1 none) : Below w.heap.size w w1 := (Below.refl _ w).grown hgr (Nat.le_refl _) (fun k e => by cases e)
set_option maxHeartbeats 2000000 in
theorem pastsof_sh (N : Int) (v : Value) (es : List (Int × Int)) (w : World) (h : Prs w v es) (hl : es.length ≤ 100000) : Calls Try.prog 33 #[.agg #[.int .i64 N, v]] w (PsS N es w) := by
  obtain ⟨A, c, rfl⟩ := h.shape
  have H := Lib.hid h
  clear h
  by_cases h0 : N < 0
  · have Hno := Lib.hid (valO_range (N := N) (es := es) (fun h => by omega))
    go_enter Try.func33, Try.ntmps33
    go_wp2
    go_ret2
    exact PsS.bad Hno.out (below_alloc _ _)
  by_cases h1 : 60 < N
  · have Hno := Lib.hid (valO_range (N := N) (es := es) (fun h => by omega))
    go_enter Try.func33, Try.ntmps33
    go_wp2
    go_ret2
    exact PsS.bad Hno.out (below_alloc _ _)
  by_cases h2 : 3600 < es.length
  · have Hno := Lib.hid (valO_range (N := N) (es := es) (fun h => by omega))
    go_enter Try.func33, Try.ntmps33
    go_wp2
    go_ret2
    exact PsS.bad Hno.out (below_alloc _ _)
  obtain ⟨n, rfl⟩ : ∃ n : Nat, N = n := ⟨N.toNat, by omega⟩
  have hn : n ≤ 60 := by omega
  have Hrng : Hid (0 ≤ (n : Int) ∧ (n : Int) ≤ 60 ∧ es.length ≤ 3600) := Lib.hid ⟨by omega, by omega, by omega⟩
  have d0 : decide ((n : Int) < 0) = false := decide_eq_false h0
  have d1 : decide (60 < (n : Int)) = false := decide_eq_false h1
  have d2 : decide (3600 < (es.length : Int)) = false := decide_eq_false (by omega)
  obtain ⟨i0, hi, hz0, hz1, hz2⟩ := info_parts info_set
  obtain ⟨W, hW⟩ : ∃ W, W = w.alloc (.cells #[.int .i64 (n : Int), .slice A es.length c] 27) := ⟨_, rfl⟩
  have hWs : w.heap.size < W.heap.size := by rw [hW]; simp
  have hWb : W.heap[w.heap.size]? = some (.cells #[.int .i64 (n : Int), .slice A es.length c] 27 (0, 0)) := by rw [hW]; exact heap_alloc_new w _
  have hbw : Below w.heap.size w W := by rw [hW]; exact below_alloc _ _
  have KX := Lib.hid (show ∀ w', Below W.heap.size W w' → w'.heap[w.heap.size]? = some (.cells #[.int .i64 (n : Int), .slice A es.length c] 27 (0, 0)) from fun w' h => (h.block _ hWs).trans hWb)
  have KB := Lib.hid (show ∀ w', Below W.heap.size W w' → Below w.heap.size w w' from fun w' h => hbw.trans (h.mono (Nat.le_of_lt hWs)))
  have HP := Lib.hid (show ∀ w', Below W.heap.size W w' → Prs w' (.slice A es.length c) es from fun w' h => H.out.below (KB.out _ h))
  have HW := Lib.hid hW
  clear h0 h1 h2 hWb hbw hW H
  go_enter Try.func33, Try.ntmps33
  go_wp2_with (at_make; rw [← HW.out]; refine wpList_make_full _ rfl _ _ _ rfl W.heap.size 62 i0 _ 1 (by kernel_rfl) hi hz0 hz1 _ _ _ _ n rfl rfl rfl rfl (by rw [hz2]; omega) (by unfold maxLen; omega) (Nat.le_refl _) ?_; intro w1 hown hgr; have Hg := Lib.hid (made_below hgr); have hx := KX.out _ Hg.out; have x0 := cell_of_row _ _ 0 _ _ _ hx; have x1 := cell_of_row _ _ 1 _ _ _ hx; have Ho := Lib.hid (made_words hown es); clear hgr hown)
  go_loopw [29] (fun i wr => ∃ k : Nat, k ≤ es.length ∧ i = .int .i64 k ∧ Hid (Wrow W.heap.size W.heap.size n n (edW n es k) wr) ∧ Hid (Below W.heap.size W wr) ∧ Hid (∀ p ∈ es.take k, inB n p.1 = true ∧ inB n p.2 = true)) (fun i _ => es.length - (intOf i).toNat)
  case atStart => exact ⟨0, Nat.zero_le _, rfl, Ho, Hg, Lib.hid (by simp)⟩
  case round =>
    clear Ho Hg hx x0 x1
    obtain ⟨k, hk, rfl, Hw, Hb, Hall⟩ := hrel
    have hx := KX.out _ Hb.out
    have x0 := cell_of_row _ _ 0 _ _ _ hx
    have x1 := cell_of_row _ _ 1 _ _ _ hx
    by_cases hlt : k < es.length
    · obtain ⟨ad, c', hs, hcap, hc1, hc2⟩ := prs_cell (HP.out _ Hb.out) k hlt
      simp only [Value.slice.injEq, true_and] at hs
      obtain ⟨rfl, rfl⟩ := hs
      have Hmem := Lib.hid (List.getElem_mem hlt)
      obtain ⟨p, hp⟩ : ∃ p, p = es[k] := ⟨_, rfl⟩
      rw [← hp] at hc1 hc2 Hmem
      have Hpe := Lib.hid hp.symm
      clear hp
      obtain ⟨a, b⟩ := p
      dsimp only at hc1 hc2
      have Hw2 : Hid (Wrow W.heap.size W.heap.size n n (edW n es k) (wr.alloc (.cells #[.int .i64 a, .int .i64 b] 50))) := Lib.hid (World.ownsRow.alloc Hw.out _)
      have Hb2 : Hid (Below W.heap.size W (wr.alloc (.cells #[.int .i64 a, .int .i64 b] 50))) := Lib.hid (Hb.out.alloc Hb.out.size _)
      have hxb : (wr.alloc (.cells #[.int .i64 a, .int .i64 b] 50)).heap[wr.heap.size]? = some (.cells #[.int .i64 a, .int .i64 b] 50 (0, 0)) := heap_alloc_new wr _
      have Hfarx := Lib.hid (show W.heap.size < wr.heap.size from Hw.out.lt)
      have za := KX.out _ Hb2.out
      have za0 := cell_of_row _ _ 0 _ _ _ za
      have za1 := cell_of_row _ _ 1 _ _ _ za
      have zb := hxb
      have zb0 := cell_of_row _ _ 0 _ _ _ zb
      have zb1 := cell_of_row _ _ 1 _ _ _ zb
      obtain ⟨W2, hW2⟩ : ∃ W2, W2 = wr.alloc (.cells #[.int .i64 a, .int .i64 b] 50) := ⟨_, rfl⟩
      rw [← hW2] at Hw2 Hb2 hxb
      have hxl : wr.heap.size < W2.heap.size := lt_of_some hxb
      have HW2 := Lib.hid hW2
      have KE := Lib.hid (show ∀ w', Below W2.heap.size W2 w' → w'.heap[wr.heap.size]? = some (.cells #[.int .i64 a, .int .i64 b] 50 (0, 0)) from fun w' h => (h.block _ hxl).trans hxb)
      have KB2 := Lib.hid (show ∀ w', Below W2.heap.size W2 w' → Below W.heap.size W w' from fun w' h => bl2 Hb2.out h)
      by_cases ha : inB n a = true
      · have Ha := Lib.hid ha
        by_cases hb : inB n b = true
        · have Hbb := Lib.hid hb
          obtain ⟨ha1, ha2⟩ := inB_iff.1 ha
          obtain ⟨hb1, hb2⟩ := inB_iff.1 hb
          obtain ⟨a, rfl⟩ : ∃ m : Nat, a = m := ⟨a.toNat, by omega⟩
          obtain ⟨b, rfl⟩ : ∃ m : Nat, b = m := ⟨b.toNat, by omega⟩
          have hal : a < n := by omega
          have hbl : b < n := by omega
          have Hn := Lib.hid (edW_next (n := n) hlt Hpe.out hal hbl)
          clear ha hb ha1 ha2 hb1 hb2 hW2 hxb
          go_wp2_with fail
          rw [← HW2.out]
          refine (exists_any _ _ _ _).mono ?_
          rintro e w2 ⟨rfl, hbe⟩
          clear za za0 za1 zb zb0 zb1 hx x0 x1
          have hx := KX.out _ (KB2.out _ hbe)
          have x0 := cell_of_row _ _ 0 _ _ _ hx
          have x1 := cell_of_row _ _ 1 _ _ _ hx
          have hy := KE.out _ hbe
          have y0 := cell_of_row _ _ 0 _ _ _ hy
          have y1 := cell_of_row _ _ 1 _ _ _ hy
          have Hbe := Lib.hid hbe
          rw [Ha.out]
          clear hbe
          go_wp2_with fail
          refine (exists_any _ _ _ _).mono ?_
          rintro e w3 ⟨rfl, hbe⟩
          rw [Hbb.out]
          have Hb3 := Lib.hid (KB2.out _ (bl2 Hbe.out hbe))
          have Hw3 := Lib.hid (show Wrow W.heap.size W.heap.size n n (edW n es k) w3 from own_below (own_below Hw2.out Hbe.out) hbe)
          have hy := KE.out _ (bl2 Hbe.out hbe)
          have h1 : w3.cell? ⟨wr.heap.size, 0, none⟩ = some (.int .i64 (a : Int)) := cell_of_row _ _ 0 _ _ _ hy
          have h2 : w3.cell? ⟨wr.heap.size, 1, none⟩ = some (.int .i64 (b : Int)) := cell_of_row _ _ 1 _ _ _ hy
          clear hy
          have hfar := Hfarx.out
          clear hbe Hw2 Hbe KB2 KE x0 x1 y0 y1 hx HW2 hxl
          have hy := Hw3.out.at b hbl
          have fk := World.ownsRow.frozenAt Hw3.out b
          have Hyl := Lib.hid (show (edW n es k).getD b 0 < 2 ^ 64 by rw [edW_at hbl]; exact setOf_u64 hn _)
          have Hp := Lib.hid (Hw3.out.put b ((edW n es k).getD b 0 ||| 2 ^ a))
          generalize (edW n es k).getD b 0 = y at *
          have eor := u64_or_nat y (2 ^ a) Hyl.out (pow_u64 (by omega))
          have eor2 : bits .or .u64 (y : Int) ((2 : Int) ^ a) = ((y ||| 2 ^ a : Nat) : Int) := by rw [pow_cast]; exact eor
          have g0 : (0 : Int) ≤ (b : Int) := by omega
          have g1 : (b : Int) < (n : Int) := by omega
          go_wp2_with fail
          refine wp_region_noPanic ?_
          refine wp_region_held_drew (S := fun w' => w'.cell? ⟨wr.heap.size, 0, none⟩ = some (.int .i64 a) ∧ w'.cell? ⟨wr.heap.size, 1, none⟩ = some (.int .i64 b)) (by kernel_rfl) ⟨h1, h2⟩ (fun hHeld => ?_)
          refine wpAnyH_take (i := 0) (v := ?_) rfl (by kernel_rfl) (by kernel_rfl) (by kernel_rfl) (fun _ _ _ h => h) (Or.inl ⟨by rfl, ?_⟩) hHeld ?_
          rotate_left
          focus ((intro w hSw; (try dsimp only at hSw); go_simp); try with_reducible rfl)
          try simp only [Act.put]
          refine wpAnyH_take (i := 1) (v := ?_) rfl (by kernel_rfl) (by kernel_rfl) (by kernel_rfl) (fun _ _ _ h => h) (Or.inl ⟨by rfl, ?_⟩) hHeld ?_
          rotate_left
          focus ((intro w hSw; (try dsimp only at hSw); go_simp); try with_reducible rfl)
          try simp only [Act.put]
          refine wpAnyH_take (i := 2) (v := ?_) rfl (by kernel_rfl) (by kernel_rfl) (by kernel_rfl) (fun _ _ _ h => h) (Or.inl ⟨by rfl, ?_⟩) hHeld ?_
          rotate_left
          focus ((intro w hSw; (try dsimp only at hSw); go_simp); try with_reducible rfl)
          try simp only [Act.put]
          refine wpAnyH_take (i := 3) (v := ?_) rfl (by kernel_rfl) (by kernel_rfl) (by kernel_rfl) (fun _ _ _ h => h) (Or.inl ⟨by rfl, ?_⟩) hHeld ?_
          rotate_left
          focus ((intro w hSw; (try dsimp only at hSw); go_simp); try with_reducible rfl)
          try simp only [Act.put]
          refine wpAnyH_take (i := 5) (v := ?_) rfl (by kernel_rfl) (by kernel_rfl) (by kernel_rfl) (fun _ _ _ h => h) (Or.inl ⟨by rfl, ?_⟩) hHeld ?_
          rotate_left
          focus ((intro w hSw; (try dsimp only at hSw); go_simp); try with_reducible rfl)
          try simp only [Act.put]
          refine wpAnyH_take (i := 6) (v := ?_) rfl (by kernel_rfl) (by kernel_rfl) (by kernel_rfl) (fun _ _ _ h => h) (Or.inl ⟨by rfl, ?_⟩) hHeld ?_
          rotate_left
          focus ((intro w hSw; (try dsimp only at hSw); go_simp); try with_reducible rfl)
          try simp only [Act.put]
          refine wpAnyH_ready (rs := [4, 7]) (by kernel_rfl) (by simp) ?_
          refine AllReadyH.cons rfl (fun K hK => ?_) ?_
          focus (go_simp; refine hK.out _ _ ⟨h1, h2⟩ (fun hHeld => ?_); clear hK K; try simp only [Act.put])
          · refine wpAnyH_ready (rs := [7]) (by kernel_rfl) (by simp) ?_
            refine AllReadyH.cons rfl (fun K hK => ?_) ?_
            focus ((go_simp; refine (only_any a _ (by omega)).mono ?_; rintro r w3 ⟨rfl, rfl⟩; go_simp); refine hK.out _ _ ⟨h1, h2⟩ (fun hHeld => ?_); clear hK K; try simp only [Act.put])
            rotate_left
            exact AllReadyH.nil
            refine wpAnyH_take (i := 8) (v := ?_) rfl (by kernel_rfl) (by kernel_rfl) (by kernel_rfl) (fun _ _ _ h => h) (Or.inl ⟨by rfl, ?_⟩) hHeld ?_
            rotate_left
            focus ((intro w hSw; (try dsimp only at hSw); go_simp); try with_reducible rfl)
            try simp only [Act.put]
            refine wpAnyH_take (i := 9) (v := ?_) rfl (by kernel_rfl) (by kernel_rfl) (by kernel_rfl) (fun _ _ _ h => h) (Or.inl ⟨by rfl, ?_⟩) hHeld ?_
            rotate_left
            focus ((intro w hSw; (try dsimp only at hSw); go_simp); try with_reducible rfl)
            try simp only [Act.put]
            refine wpAnyH_ready (rs := [10]) (by kernel_rfl) (by simp) ?_
            refine AllReadyH.cons rfl (fun K hK => ?_) ?_
            focus (go_simp; refine hK.out _ _ ⟨(World.cell?_setCell_far _ _ _ _ (by simp; omega)).trans h1, (World.cell?_setCell_far _ _ _ _ (by simp; omega)).trans h2⟩ (fun hHeld => ?_); clear hK K; try simp only [Act.put])
            rotate_left
            exact AllReadyH.nil
            refine wpAnyH_done (by kernel_rfl) ?_ _
            refine NoPanic.normal ?_
            clear hHeld h1 h2 hy fk
            go_wp2
            go_roundw
            case rel => exact ⟨k + 1, by omega, by go_num, Lib.hid (Hn.out ▸ Hp.out), Lib.hid (bl_drew (Hb3.out.setCell (p := ⟨W.heap.size, b, none⟩) (Nat.le_refl _) _)), Lib.hid (take_all2 hlt Hall.out ⟨Ha.out, Hbb.out⟩ Hpe.out)⟩
            case measure => simp [intOf]; omega
          refine AllReadyH.cons rfl (fun K hK => ?_) ?_
          focus ((go_simp; refine (only_any a _ (by omega)).mono ?_; rintro r w3 ⟨rfl, rfl⟩; go_simp); refine hK.out _ _ ⟨h1, h2⟩ (fun hHeld => ?_); clear hK K; try simp only [Act.put])
          · refine wpAnyH_ready (rs := [4]) (by kernel_rfl) (by simp) ?_
            refine AllReadyH.cons rfl (fun K hK => ?_) ?_
            focus (go_simp; refine hK.out _ _ ⟨h1, h2⟩ (fun hHeld => ?_); clear hK K; try simp only [Act.put])
            rotate_left
            exact AllReadyH.nil
            refine wpAnyH_take (i := 8) (v := ?_) rfl (by kernel_rfl) (by kernel_rfl) (by kernel_rfl) (fun _ _ _ h => h) (Or.inl ⟨by rfl, ?_⟩) hHeld ?_
            rotate_left
            focus ((intro w hSw; (try dsimp only at hSw); go_simp); try with_reducible rfl)
            try simp only [Act.put]
            refine wpAnyH_take (i := 9) (v := ?_) rfl (by kernel_rfl) (by kernel_rfl) (by kernel_rfl) (fun _ _ _ h => h) (Or.inl ⟨by rfl, ?_⟩) hHeld ?_
            rotate_left
            focus ((intro w hSw; (try dsimp only at hSw); go_simp); try with_reducible rfl)
            try simp only [Act.put]
            refine wpAnyH_ready (rs := [10]) (by kernel_rfl) (by simp) ?_
            refine AllReadyH.cons rfl (fun K hK => ?_) ?_
            focus (go_simp; refine hK.out _ _ ⟨(World.cell?_setCell_far _ _ _ _ (by simp; omega)).trans h1, (World.cell?_setCell_far _ _ _ _ (by simp; omega)).trans h2⟩ (fun hHeld => ?_); clear hK K; try simp only [Act.put])
            rotate_left
            exact AllReadyH.nil
            refine wpAnyH_done (by kernel_rfl) ?_ _
            refine NoPanic.normal ?_
            clear hHeld h1 h2 hy fk
            go_wp2
            go_roundw
            case rel => exact ⟨k + 1, by omega, by go_num, Lib.hid (Hn.out ▸ Hp.out), Lib.hid (bl_drew (Hb3.out.setCell (p := ⟨W.heap.size, b, none⟩) (Nat.le_refl _) _)), Lib.hid (take_all2 hlt Hall.out ⟨Ha.out, Hbb.out⟩ Hpe.out)⟩
            case measure => simp [intOf]; omega
          exact AllReadyH.nil
        · have Hno := Lib.hid (valO_edge Hmem.out (by rw [Bool.eq_false_iff.2 hb, Bool.and_false]))
          have Hbb := Lib.hid (Bool.eq_false_iff.2 hb)
          clear ha hb hW2 hxb
          go_wp2_with fail
          rw [← HW2.out]
          refine (exists_any _ _ _ _).mono ?_
          rintro e w2 ⟨rfl, hbe⟩
          clear za za0 za1 zb zb0 zb1 hx x0 x1
          have hx := KX.out _ (KB2.out _ hbe)
          have x0 := cell_of_row _ _ 0 _ _ _ hx
          have x1 := cell_of_row _ _ 1 _ _ _ hx
          have hy := KE.out _ hbe
          have y0 := cell_of_row _ _ 0 _ _ _ hy
          have y1 := cell_of_row _ _ 1 _ _ _ hy
          have Hbe := Lib.hid hbe
          rw [Ha.out]
          clear hbe
          go_wp2_with fail
          refine (exists_any _ _ _ _).mono ?_
          rintro e w3 ⟨rfl, hbe⟩
          rw [Hbb.out]
          have Hb3 := Lib.hid (KB.out _ (KB2.out _ (bl2 Hbe.out hbe)))
          clear hbe
          go_wp2
          go_ret2
          exact PsS.bad Hno.out Hb3.out
      · have Hno := Lib.hid (valO_edge Hmem.out (by rw [Bool.eq_false_iff.2 ha, Bool.false_and]))
        have Ha := Lib.hid (Bool.eq_false_iff.2 ha)
        clear ha hW2 hxb
        go_wp2_with fail
        rw [← HW2.out]
        refine (exists_any _ _ _ _).mono ?_
        rintro e w2 ⟨rfl, hbe⟩
        have Hb3 := Lib.hid (KB.out _ (KB2.out _ hbe))
        rw [Ha.out]
        clear hbe
        go_wp2
        go_ret2
        exact PsS.bad Hno.out Hb3.out
    · obtain rfl : k = es.length := by omega
      have hw : Wrow W.heap.size W.heap.size n n (flW n (Eg es) 0 0) wr := edW_flW n es ▸ Hw.out
      have Hwf := Lib.hid hw
      have Hall2 := Lib.hid (show ∀ p ∈ es, inB n p.1 = true ∧ inB n p.2 = true from fun p hp => Hall.out p (by rwa [List.take_length]))
      clear hw Hall Hw
      go_wp2_with fail
      refine (follow_any _ _ _ _ _ _ Hwf.out hn).mono ?_
      rintro e w2 ⟨rfl, hw2, hb2⟩
      have Hb2 := Lib.hid (Hb.out.trans hb2)
      have hw3 : Wrow W.heap.size W.heap.size n n (psts n es) w2 := by
        have := flW_end (n : Int) es
        rw [Int.toNat_natCast] at this
        exact this ▸ hw2
      have Hw3 := Lib.hid hw3
      clear hw2 hb2 hw3 hx x0 x1 Hwf
      go_wp2
      go_loopw [60] (fun i wr2 => ∃ k : Nat, k ≤ n ∧ i = .int .i64 k ∧ wr2 = w2 ∧ Hid (∀ j, j < k → Bf n es j j = false)) (fun i _ => n - (intOf i).toNat)
      case atStart => exact ⟨0, Nat.zero_le _, rfl, rfl, Lib.hid (fun j h => absurd h (Nat.not_lt_zero j))⟩
      case round =>
        obtain ⟨k, hk, rfl, rfl, Hcy⟩ := hrel
        by_cases hlt : k < n
        · have hc := Hw3.out.at k hlt
          have Hxl := Lib.hid (show (psts n es).getD k 0 < 2 ^ 64 by rw [psts_at (by omega)]; exact setOf_u64 (by omega) _)
          have Hbf := Lib.hid (show ((psts n es).getD k 0).testBit k = Bf n es k k by rw [psts_at (by omega), pst_bit (by omega)])
          generalize (psts n es).getD k 0 = x at *
          cases hb : Bf n es k k with
          | true =>
            have Hno := Lib.hid (valO_cyc (N := (n : Int)) (by omega) hb)
            rw [hb] at Hbf
            clear hb
            go_wp2_with fail
            refine (has_any x k _ Hxl.out (by omega)).mono ?_
            rintro r w1 ⟨rfl, rfl⟩
            rw [Hbf.out]
            go_wp2
            go_ret2
            exact PsS.bad Hno.out (KB.out _ Hb2.out)
          | false =>
            have Hcy2 := Lib.hid (show ∀ j, j < k + 1 → Bf n es j j = false from fun j hj => by
              by_cases e : j = k
              · rw [e]; exact hb
              · exact Hcy.out j (by omega))
            rw [hb] at Hbf
            clear hb
            go_wp2_with fail
            refine (has_any x k _ Hxl.out (by omega)).mono ?_
            rintro r w1 ⟨rfl, rfl⟩
            rw [Hbf.out]
            go_wp2
            go_roundw
            case rel => exact ⟨k + 1, by omega, by go_num, (by first | rfl | trivial), Hcy2⟩
            case measure => simp [intOf]; omega
        · obtain rfl : k = n := by omega
          have Hok := Lib.hid (valO_ok (N := (k : Int)) (es := es) Hrng.out Hall2.out (fun j hj => Hcy.out j (by omega)))
          go_wp2
          go_ret2
          exact PsS.good Hok.out (Sl.of_own Hw3.out) (KB.out _ Hb2.out)
theorem pastsof_any (N : Int) (v : Value) (es : List (Int × Int)) (w : World) (h : Prs w v es) (hl : es.length ≤ 100000) : Calls Try.prog 33 #[.agg #[.int .i64 N, v]] w (PsP N es w) :=
  (pastsof_sh N v es w h hl).mono fun _ _ ⟨_, _, _, h1, h2⟩ => ⟨_, h1, h2⟩
end Go.Proofs.Ytcekfgahhicdcaa
