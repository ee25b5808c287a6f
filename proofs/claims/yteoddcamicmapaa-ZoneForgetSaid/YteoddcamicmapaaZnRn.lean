/- Layer 13: the reference's New (tools/gen_zn.py). -/
import Derived.Test.YteoddcamicmapaaZnRc
namespace Go.Proofs.Yteoddcamicmapaa
open Go.RowKit

/-- Between the operations of 'z.B = append(z.B, bound(i, j))'. -/
structure NwI (w0 wi : World) (rb zb : Nat) (M u : Value) (xs : List Int) (x : Int) (vi vj : Value) (L : Nat → Bool) (vs : Nat → Value) (w : World) : Prop where
  p0 : L 0 = true → vs 0 = .pointer (some ⟨zb, 1, none⟩)
  p1 : L 1 = true → vs 1 = u
  p3 : L 2 = true → vs 2 = vi
  p4 : L 3 = true → vs 3 = vj
  p5 : L 4 = true → vs 4 = .int .i64 x
  p8 : L 7 = true → vs 7 = .pointer (some ⟨zb, 1, none⟩)
  bel : Below w0.heap.size w0 w
  ext : wi.heap.size ≤ w.heap.size
  rbx : Bx w rb 24 #[.int .i64 0, .slice none 0 0]
  box : Bx w zb 24 #[M, if L 8 = true then vs 6 else u]
  row : L 6 = false → IRow w (zb + 1) u xs
  blk : L 5 = true → L 6 = false → ∃ h, vs 5 = .slice (some ⟨h, 0, none⟩) 1 1 ∧ w.heap[h]? = some (.cells #[.int .i64 x] 3 (0, 0)) ∧ zb + 1 ≤ h ∧ u.ownBlock ≠ some h
  don : L 6 = true → IRow w (zb + 1) (vs 6) (xs ++ [x])
  sz : zb + 1 ≤ w.heap.size
section
variable {w0 wi w w' : World} {rb zb : Nat} {M u : Value} {xs : List Int} {x : Int} {vi vj : Value} {L : Nat → Bool} {vs : Nat → Value}
theorem NwI.start (hb : Below w0.heap.size w0 w) (hr : Bx w rb 24 #[.int .i64 0, .slice none 0 0]) (hx : Bx w zb 24 #[M, u]) (h : IRow w (zb + 1) u xs) : NwI w0 w rb zb M u xs x vi vj (fun _ => false) vs w.drew :=
  ⟨nopeB rfl, nopeB rfl, nopeB rfl, nopeB rfl, nopeB rfl, nopeB rfl, hb.drew, Nat.le_refl _, hr, hx, fun _ => World.ownsRow.drew h, nopeB rfl, nopeB rfl, hx.lt⟩
theorem NwI.t0 (hI : NwI w0 wi rb zb M u xs x vi vj L vs w) : NwI w0 wi rb zb M u xs x vi vj (updB L 0) (updV vs 0 (.pointer (some ⟨zb, 1, none⟩))) w :=
  ⟨fun _ => rfl, hI.p1, hI.p3, hI.p4, hI.p5, hI.p8, hI.bel, hI.ext, hI.rbx, hI.box, hI.row, hI.blk, hI.don, hI.sz⟩
theorem NwI.t1 (hI : NwI w0 wi rb zb M u xs x vi vj L vs w) : NwI w0 wi rb zb M u xs x vi vj (updB L 1) (updV vs 1 u) w :=
  ⟨hI.p0, fun _ => rfl, hI.p3, hI.p4, hI.p5, hI.p8, hI.bel, hI.ext, hI.rbx, hI.box, hI.row, hI.blk, hI.don, hI.sz⟩
theorem NwI.t3 (hI : NwI w0 wi rb zb M u xs x vi vj L vs w) : NwI w0 wi rb zb M u xs x vi vj (updB L 2) (updV vs 2 vi) w :=
  ⟨hI.p0, hI.p1, fun _ => rfl, hI.p4, hI.p5, hI.p8, hI.bel, hI.ext, hI.rbx, hI.box, hI.row, hI.blk, hI.don, hI.sz⟩
theorem NwI.t4 (hI : NwI w0 wi rb zb M u xs x vi vj L vs w) : NwI w0 wi rb zb M u xs x vi vj (updB L 3) (updV vs 3 vj) w :=
  ⟨hI.p0, hI.p1, hI.p3, fun _ => rfl, hI.p5, hI.p8, hI.bel, hI.ext, hI.rbx, hI.box, hI.row, hI.blk, hI.don, hI.sz⟩
theorem NwI.t8 (hI : NwI w0 wi rb zb M u xs x vi vj L vs w) : NwI w0 wi rb zb M u xs x vi vj (updB L 7) (updV vs 7 (.pointer (some ⟨zb, 1, none⟩))) w :=
  ⟨hI.p0, hI.p1, hI.p3, hI.p4, hI.p5, fun _ => rfl, hI.bel, hI.ext, hI.rbx, hI.box, hI.row, hI.blk, hI.don, hI.sz⟩
theorem NwI.t5 (hI : NwI w0 wi rb zb M u xs x vi vj L vs w) (h6 : L 5 = false) (h7 : L 6 = false) (hb : Below w.heap.size w w') : NwI w0 wi rb zb M u xs x vi vj (updB L 4) (updV vs 4 (.int .i64 x)) w' :=
  ⟨hI.p0, hI.p1, hI.p3, hI.p4, fun _ => rfl, hI.p8, hI.bel.trans (hb.mono hI.bel.size), Nat.le_trans hI.ext hb.size, hI.rbx.below hb, hI.box.below hb, fun h => (hI.row h).below hb, fun h => nopeB h6 h, fun h => nopeB h7 h, Nat.le_trans hI.sz hb.size⟩
theorem NwI.t6 (hI : NwI w0 wi rb zb M u xs x vi vj L vs w) (h7 : L 6 = false) : NwI w0 wi rb zb M u xs x vi vj (updB L 5) (updV vs 5 (.slice (some ⟨w.heap.size, 0, none⟩) 1 1)) (w.alloc (.cells #[.int .i64 x] 3)) :=
  have hb := al1 w (.cells #[.int .i64 x] 3)
  ⟨hI.p0, hI.p1, hI.p3, hI.p4, hI.p5, hI.p8, hI.bel.trans (hb.mono hI.bel.size), Nat.le_trans hI.ext hb.size, hI.rbx.below hb, hI.box.below hb, fun h => (hI.row h).below hb,
    fun _ _ => ⟨_, rfl, heap_alloc_new w _, hI.sz, fun e => by have := (World.ownsRow.lt (hI.row h7) _ e).2; omega⟩, fun h => nopeB h7 h, Nat.le_trans hI.sz hb.size⟩
theorem NwI.t9 (hI : NwI w0 wi rb zb M u xs x vi vj L vs w) (h7 : L 6 = true) (hz : w0.heap.size ≤ zb) (hrz : rb ≠ zb) : NwI w0 wi rb zb M u xs x vi vj (updB L 8) (updV vs 8 undef) (w.setCell ⟨zb, 1, none⟩ (vs 6)) :=
  ⟨hI.p0, hI.p1, hI.p3, hI.p4, hI.p5, hI.p8, hI.bel.setCell (p := ⟨zb, 1, none⟩) hz _, by rw [size_set]; exact hI.ext, hI.rbx.other hrz, hI.box.set 1 (vs 6), fun h => nopeB h h7, fun _ h => nopeB h h7,
    fun _ => (hI.don h7).other (by omega), by rw [size_set]; exact hI.sz⟩
theorem NwI.fin (hI : NwI w0 wi rb zb M u xs x vi vj L vs w) (h : ∀ i, i < 9 → L i = true) : Below w0.heap.size w0 w ∧ wi.heap.size ≤ w.heap.size ∧ Bx w rb 24 #[.int .i64 0, .slice none 0 0] ∧ Bx w zb 24 #[M, vs 6] ∧ IRow w (zb + 1) (vs 6) (xs ++ [x]) := by
  have hx := hI.box
  rw [if_pos (h 8 (by decide))] at hx
  exact ⟨hI.bel, hI.ext, hI.rbx, hx, hI.don (h 6 (by decide))⟩
/-- The append. -/
theorem stepI_nw {P : Program} {ops : Array Oper} {Q : Exit → Act → World → Prop} {o : Oper} {a : Act} {s q : Nat} {t : TypeId} (hI : NwI w0 wi rb zb M u xs x vi vj L vs w)
    (hu : P.underlying t = some (.slice 3)) (hinfo : (P.info? 3).map (fun i => (i.zero, i.size, i.bytes)) = some (some (.int .i64 0), 1, 8)) (hg : o.guard = none)
    (ho : o.op = .call { callee := .builtin .append, args := #[.tmp s, .tmp q], argTypes := #[t, t] }) (hs : a.tmps[s]?.getD undef = u) (hq : a.tmps[q]?.getD undef = vs 5)
    (h6 : L 5 = true) (h7 : L 6 = false) (h9 : L 8 = false) (hl : xs.length + 1 ≤ 1000000000) (hw : w0.heap.size ≤ zb) (hrz : rb ≤ zb) :
    StepI P ops Q (NwI w0 wi rb zb M u xs x vi vj) L vs 6 o a w := by
  obtain ⟨i0, hi, hy0, hy1, hy2⟩ := info_parts hinfo
  have h1 : w.ownsRow (zb + 1) 3 1 u xs.length (xs.map iv) := hI.row h7
  obtain ⟨b, hv6, hb, hBb, hub⟩ := hI.blk h6 h7
  have h3 := hI.sz
  refine stepI_on (by simp [Region.wanted, hg]) (wp_append_lies w (.tmp s) (.tmp q) t ho (zb + 1) 3 i0 _ 1 8 hu hi hy0 hy1 hy2 rfl (by omega) u xs.length (xs.map iv) (by simp [Act.eval, hs]) h1 ⟨b, 0, none⟩ 1 1 [.int .i64 x] (by simp [Act.eval, hq, hv6]) rfl ?_ (by simp [Value.oneCell']) (by omega) (by unfold maxLen; omega) (by omega) h3 w.heap.size rfl ?_)
  · intro k v hk
    match k, hk with
    | 0, hk =>
      cases hk
      rw [show (⟨b, 0, none⟩ : Addr).add 0 = ⟨b, 0, none⟩ from rfl, cell_of_row w b 0 _ _ _ hb]; rfl
    | k + 1, hk => simp at hk
  · intro g2 cap w3 hown hgr _ _
    have hbel : Below (zb + 1) w w3 := ⟨hgr.os, hgr.tape, hgr.output, hgr.size, fun k hk => hgr.block k (by omega) fun eq => by have := (World.ownsRow.lt h1 k eq.symm).1; omega⟩
    refine ⟨_, rfl, hI.p0, hI.p1, hI.p3, hI.p4, hI.p5, hI.p8, hI.bel.trans (hbel.mono (by omega)), Nat.le_trans hI.ext hgr.size, (hbel.block rb (by omega)).trans hI.rbx, ?_, fun h => nopeT h, fun _ h => nopeT h, fun _ => ?_, Nat.le_trans h3 hgr.size⟩
    · have hx := hI.box
      rw [if_neg (by rw [h9]; decide)] at hx
      rw [updB_ne L (by decide), if_neg (by rw [h9]; decide)]
      exact (hbel.block zb (by omega)).trans hx
    · rw [updV_self]
      unfold IRow
      rw [List.length_append, List.map_append]
      exact hown
end
/-- Where New stands. -/
def NwRel (w0 : World) (m : Nat) (p : Nat) (wr : World) : Prop :=
  ∃ u, Bx wr w0.heap.size 24 #[.int .i64 0, .slice none 0 0] ∧ Bx wr (w0.heap.size + 1) 24 #[.int .i64 (m : Int), u] ∧ IRow wr (w0.heap.size + 2) u ((flat (m + 1) fuB).take p) ∧ Below w0.heap.size w0 wr
theorem NwRel.start {w0 wr : World} {m : Nat} (h1 : Bx wr w0.heap.size 24 #[.int .i64 0, .slice none 0 0]) (h2 : Bx wr (w0.heap.size + 1) 24 #[.int .i64 (m : Int), .slice none 0 0]) (h3 : Below w0.heap.size w0 wr) : NwRel w0 m (0 * (m + 1)) wr :=
  ⟨_, h1, h2, by rw [Nat.zero_mul, List.take_zero]; exact World.ownsRow_nil _ _ _ _, h3⟩
set_option maxRecDepth 20000 in
set_option maxHeartbeats 400000 in
theorem rnew_any (n : Int) (w0 : World) : Calls Try.prog 18 #[.int .i64 n] w0 (ZP w0 (newR n)) := by
  by_cases hp : possB n = true
  rotate_left
  · have HR := Lib.hid (show newR n = ((0, []), .int .i64 2) by unfold newR; rw [if_neg hp])
    have HX := Lib.hid (Bx.new w0 24 #[.int .i64 0, .slice none 0 0])
    unfold possB at hp
    rw [decide_eq_true_iff] at hp
    by_cases h0 : n < 0
    · have d0 : decide (n < 0) = true := decide_eq_true h0
      clear hp
      go_enter Try.func18, Try.ntmps18
      go_wp2_with fail
      refine bodyPost_ret (v := .tuple #[.agg #[.int .i64 0, .slice none 0 0], .int .i64 2]) (bx_ret2 HX.out Try.results18 _ rfl Try.underlying24 rfl (by kernel_rfl)) rfl ?_
      exact ZP.zero HR.out (al1 w0 _)
    · have d0 : decide (n < 0) = false := decide_eq_false h0
      have h1 : 24 < n := by omega
      clear hp
      go_enter Try.func18, Try.ntmps18
      go_wp2_with fail
      refine bodyPost_ret (v := .tuple #[.agg #[.int .i64 0, .slice none 0 0], .int .i64 2]) (bx_ret2 HX.out Try.results18 _ rfl Try.underlying24 rfl (by kernel_rfl)) rfl ?_
      exact ZP.zero HR.out (al1 w0 _)
  have Hp := Lib.hid hp
  unfold possB at hp
  rw [decide_eq_true_iff] at hp
  obtain ⟨m, rfl⟩ : ∃ m : Nat, n = m := ⟨n.toNat, by omega⟩
  have hm : m ≤ 24 := by omega
  have HR := Lib.hid (show newR (m : Int) = (((m : Int), flat (m + 1) fuB), .int .i64 0) by unfold newR; rw [if_pos Hp.out, Int.toNat_natCast])
  clear hp
  go_enter Try.func18, Try.ntmps18
  go_wp2_with fail
  go_loopw [5] (fun i wr => ∃ k : Nat, k ≤ m + 1 ∧ i = .int .i64 (k : Int) ∧ NwRel w0 m (k * (m + 1)) wr) (fun i _ => m + 1 - (intOf i).toNat)
  case atStart => exact ⟨0, Nat.zero_le _, rfl, NwRel.start (heap_alloc_2 w0 _ _) (heap_alloc_2' w0 _ _) (al2 w0 _ _)⟩
  case round =>
    obtain ⟨k, hk, rfl, hrel⟩ := hrel
    by_cases hlt : k < m + 1
    · have HR1 := Lib.hid hrel
      have dk : decide ((k : Int) ≤ (m : Int)) = true := decide_eq_true (by omega)
      clear hrel
      go_wp2_with fail
      go_loopw [6] (fun i wr => ∃ j : Nat, j ≤ m + 1 ∧ i = .int .i64 (j : Int) ∧ NwRel w0 m (k * (m + 1) + j) wr) (fun i _ => m + 1 - (intOf i).toNat)
      case atStart => exact ⟨0, Nat.zero_le _, rfl, HR1.out⟩
      case round =>
        clear HR1
        obtain ⟨j, hj, rfl, u, hrb, hzb, hrow, hbel⟩ := hrel
        by_cases hjl : j < m + 1
        · have HROW := Lib.hid hrow
          have dj : decide ((j : Int) ≤ (m : Int)) = true := decide_eq_true (by omega)
          have HRB := Lib.hid hrb
          have HZB := Lib.hid hzb
          have HBEL := Lib.hid hbel
          obtain ⟨xs, hxs⟩ : ∃ xs, xs = (flat (m + 1) fuB).take (k * (m + 1) + j) := ⟨_, rfl⟩
          obtain ⟨x, hx⟩ : ∃ x, x = fuB k j := ⟨_, rfl⟩
          have HXS := Lib.hid (show (flat (m + 1) fuB).take (k * (m + 1) + (j + 1)) = xs ++ [x] by rw [hxs, hx]; exact flat_take fuB hlt hjl)
          have HXL := Lib.hid (show xs.length + 1 ≤ 1000000000 by
            have h1 := sq_lt hlt hjl
            have h2 : (m + 1) * (m + 1) ≤ 25 * 25 := Nat.mul_le_mul (by omega) (by omega)
            rw [hxs, List.length_take]; omega)
          have HCALL := Lib.hid (show ∀ w, Calls Try.prog 48 #[.int .i64 (k : Int), .int .i64 (j : Int)] w (Tells w (.int .i64 x)) from fun w => by rw [hx]; exact rfull_any k j w (by omega) (by omega))
          rw [← hxs] at HROW
          clear hxs hx hrow hrb hzb hbel
          go_wp2_with fail
          have HST := Lib.hid (fun vs => NwI.start (vs := vs) (x := x) (vi := .int .i64 (k : Int)) (vj := .int .i64 (j : Int)) HBEL.out HRB.out HZB.out HROW.out)
          refine region_inv (n := 35) (NwI w0 wr w0.heap.size (w0.heap.size + 1) (.int .i64 (m : Int)) u xs x (.int .i64 (k : Int)) (.int .i64 (j : Int))) (by kernel_rfl) (by kernel_rfl) rfl ?_ (allOps_spec ?_) ?_
          · intro vs
            exact HST.out vs
          · clear HST
            refine ⟨?_, ?_, ?_, ?_, ?_, ?_, ?_, ?_, ?_, trivial⟩
            · intro L vs a w2 hB hL hd hI
              have b0 : a.tmps[4]?.getD undef = .pointer (some ⟨w0.heap.size + 1, 0, none⟩) := hB.at 4 (by kernel_rfl)
              exact stepI_run (v := .pointer (some ⟨w0.heap.size + 1, 1, none⟩)) rfl (by simp [execOp, go_sem, Act.eval, b0]) hI.t0
            · intro L vs a w2 hB hL hd hI
              have b0 : a.tmps[26]?.getD undef = .pointer (some ⟨w0.heap.size + 1, 1, none⟩) := (hB.val 0 (hd ⟨0, .data⟩ (by simp) rfl) 26 rfl).trans (hI.p0 (hd ⟨0, .data⟩ (by simp) rfl))
              have h9 : L 8 = false := hB.wait 1 8 hL (by kernel_rfl)
              have hx := hI.box
              rw [h9, if_neg (by decide)] at hx
              have q1 := hx.cell 1
              exact stepI_run (v := u) rfl (by simp [execOp, go_sem, Act.eval, b0, q1]) hI.t1
            · intro L vs a w2 hB hL hd hI
              have b0 : a.tmps[5]?.getD undef = .int .i64 (k : Int) := hB.at 5 (by kernel_rfl)
              exact stepI_run (v := .int .i64 (k : Int)) rfl (by simp [execOp, go_sem, Act.eval, b0]) hI.t3
            · intro L vs a w2 hB hL hd hI
              have b0 : a.tmps[6]?.getD undef = .int .i64 (j : Int) := hB.at 6 (by kernel_rfl)
              exact stepI_run (v := .int .i64 (j : Int)) rfl (by simp [execOp, go_sem, Act.eval, b0]) hI.t4
            · intro L vs a w2 hB hL hd hI
              have b1 : a.tmps[28]?.getD undef = .int .i64 (k : Int) := (hB.val 2 (hd ⟨2, .data⟩ (by simp) rfl) 28 rfl).trans (hI.p3 (hd ⟨2, .data⟩ (by simp) rfl))
              have b2 : a.tmps[29]?.getD undef = .int .i64 (j : Int) := (hB.val 3 (hd ⟨3, .data⟩ (by simp) rfl) 29 rfl).trans (hI.p4 (hd ⟨3, .data⟩ (by simp) rfl))
              have h6 : L 5 = false := hB.wait 4 5 hL (by kernel_rfl)
              have h7 : L 6 = false := hB.wait 5 6 h6 (by kernel_rfl)
              refine stepI_call (f := 48) (args := #[.int .i64 (k : Int), .int .i64 (j : Int)]) rfl (by simp [go_sem, b1, b2]) ?_
              refine (HCALL.out w2).mono ?_
              rintro e w9 ⟨rfl, h9⟩
              exact ⟨_, rfl, hI.t5 h6 h7 h9⟩
            · intro L vs a w2 hB hL hd hI
              have b0 : a.tmps[30]?.getD undef = .int .i64 x := (hB.val 4 (hd ⟨4, .data⟩ (by simp) rfl) 30 rfl).trans (hI.p5 (hd ⟨4, .data⟩ (by simp) rfl))
              have h7 : L 6 = false := hB.wait 5 6 hL (by kernel_rfl)
              exact stepI_run (v := .slice (some ⟨w2.heap.size, 0, none⟩) 1 1) rfl (by simp [execOp, go_sem, Act.eval, b0]) (hI.t6 h7)
            · intro L vs a w2 hB hL hd hI
              have b0 : a.tmps[27]?.getD undef = u := (hB.val 1 (hd ⟨1, .data⟩ (by simp) rfl) 27 rfl).trans (hI.p1 (hd ⟨1, .data⟩ (by simp) rfl))
              have b1 : a.tmps[31]?.getD undef = vs 5 := hB.val 5 (hd ⟨5, .data⟩ (by simp) rfl) 31 rfl
              exact stepI_nw hI (by kernel_rfl) info_int rfl rfl b0 b1 (hd ⟨5, .data⟩ (by simp) rfl) hL (hB.wait 6 8 hL (by kernel_rfl)) HXL.out (by omega) (by omega)
            · intro L vs a w2 hB hL hd hI
              have b0 : a.tmps[4]?.getD undef = .pointer (some ⟨w0.heap.size + 1, 0, none⟩) := hB.at 4 (by kernel_rfl)
              exact stepI_run (v := .pointer (some ⟨w0.heap.size + 1, 1, none⟩)) rfl (by simp [execOp, go_sem, Act.eval, b0]) hI.t8
            · intro L vs a w2 hB hL hd hI
              have b0 : a.tmps[33]?.getD undef = .pointer (some ⟨w0.heap.size + 1, 1, none⟩) := (hB.val 7 (hd ⟨7, .data⟩ (by simp) rfl) 33 rfl).trans (hI.p8 (hd ⟨7, .data⟩ (by simp) rfl))
              have b1 : a.tmps[32]?.getD undef = vs 6 := hB.val 6 (hd ⟨6, .data⟩ (by simp) rfl) 32 rfl
              have h7 : L 6 = true := hd ⟨6, .data⟩ (by simp) rfl
              have f1 := hI.box.free 1
              have q1 := hI.box.cell 1
              obtain ⟨A, c', hv⟩ := own_shapeG (hI.don h7)
              refine stepI_skip (w' := w2.setCell ⟨w0.heap.size + 1, 1, none⟩ (vs 6)) rfl ?_ (hI.t9 h7 (by omega) (by omega))
              rw [hv] at b1 ⊢
              simp [execOp, go_sem, Act.eval, b0, b1, f1, q1]
          · intro L vs w2 hall hI
            obtain ⟨g1, g2, g3, g4, g5⟩ := hI.fin fun i hi => hall i hi
            clear hI hall HST
            simp only [putAll, Act.put, List.setIfInBounds_toArray, List.set_cons_zero, List.set_cons_succ, Nat.zero_add, Nat.reduceAdd]
            rw [← HXS.out] at g5
            generalize vs 6 = v7 at *
            have G := Lib.hid (show NwRel w0 m (k * (m + 1) + (j + 1)) w2 from ⟨v7, g3, g4, g5, g1⟩)
            clear g1 g2 g3 g4 g5
            go_wp2_with fail
            go_roundw
            case rel => exact ⟨j + 1, by omega, by go_num, G.out⟩
            case measure => simp [intOf]; omega
        · obtain rfl : j = m + 1 := by omega
          have HR2 := Lib.hid (show NwRel w0 m ((k + 1) * (m + 1)) wr from by rw [Nat.succ_mul]; exact ⟨u, hrb, hzb, hrow, hbel⟩)
          have dj : decide (((m + 1 : Nat) : Int) ≤ (m : Int)) = false := decide_eq_false (by omega)
          clear hrow hrb hzb hbel
          go_wp2_with fail
          go_roundw
          case rel => exact ⟨k + 1, by omega, by go_num, HR2.out⟩
          case measure => simp [intOf]; omega
    · obtain rfl : k = m + 1 := by omega
      obtain ⟨u, hrb, hzb, hrow, hbel⟩ := hrel
      rw [flat_all] at hrow
      obtain ⟨A, c, rfl⟩ := own_shapeG hrow
      obtain ⟨c0, c1⟩ := hzb.k2
      obtain ⟨d0, d1⟩ := hrb.k2
      obtain ⟨f0, f1⟩ := hrb.f2
      have HROW := Lib.hid hrow
      have HRB := Lib.hid hrb
      have HBEL := Lib.hid hbel
      clear hrow hrb hzb hbel
      go_wp2_with fail
      refine bodyPost_ret (v := .tuple #[.agg #[.int .i64 (m : Int), .slice A (flat (m + 1) fuB).length c], .int .i64 0]) (bx_ret2 ((HRB.out.set 0 _).set 1 _) Try.results18 _ rfl Try.underlying24 rfl (by kernel_rfl)) rfl ?_
      exact zp_fin HR.out (Nat.le_refl _) HBEL.out (by omega) (show Own wr (w0.heap.size + 2) _ _ _ from HROW.out) (Own.lt (show Own wr (w0.heap.size + 2) _ _ _ from HROW.out) (.inl (by omega)))
end Go.Proofs.Yteoddcamicmapaa
