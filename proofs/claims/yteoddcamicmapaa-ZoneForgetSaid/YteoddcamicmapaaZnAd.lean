/- Layer 13: Clone and Add (tools/gen_za.py). -/
import Derived.Test.YteoddcamicmapaaZnRg
import Derived.Laws.CopyOwn
import Derived.Laws.Tables
namespace Go.Proofs.Yteoddcamicmapaa
open Go.RowKit

theorem info_Zn : (Try.prog.info? 29).map (fun i => (i.zero, i.size, i.bytes)) = some (some (.agg #[.int .i64 0, .slice none 0 0]), 2, 32) := by kernel_rfl
theorem exec_alloc {P : Program} {ρ : Operand → Value} {o : Oper} {w : World} (T : TypeId) (ho : o.op = .alloc T) {zv : Value} {z by_ : Nat} (hinfo : (P.info? T).map (fun i => (i.zero, i.size, i.bytes)) = some (some zv, z, by_)) :
    (execOp ρ o).run P w = .ok (.value (.pointer (some ⟨w.heap.size, 0, none⟩))) (w.alloc (.cells zv.cells T)) := by
  obtain ⟨i0, hi, hz0, hz1, hz2⟩ := info_parts hinfo
  have hzv : (zeroValue T).run P w = .ok zv w := by simp [zeroValue, typeInfo, hi, hz0]
  unfold execOp
  rw [ho]
  simp [go_sem, hzv]
theorem stepI_store_row {P : Program} {ops : Array Oper} {Q : Exit → Act → World → Prop} {I : (Nat → Bool) → (Nat → Value) → World → Prop} {L : Nat → Bool} {vs : Nat → Value} {i : Nat} {o : Oper} {a : Act} {w : World} (hw : Region.wanted o (yielded ops a.tmps) = true)
    (ty : TypeId) (p q : Tmp) (ho : o.op = .store ty (.tmp p) (.tmp q)) (b : Nat) (cells : Array Value) (hp : a.tmps[p]?.getD undef = .pointer (some ⟨b, 0, none⟩)) (hq : a.tmps[q]?.getD undef = .agg cells)
    (old : Array Value) (hb : Bx w b ty old) (hi : (P.info? ty).map (·.size) = some cells.size) (hs : old.size = cells.size) (h1 : cells.all (·.oneCell') = true) (h : I (updB L i) (updV vs i undef) (w.setRow b cells)) : StepI P ops Q I L vs i o a w :=
  stepI_on hw (wp_store_row ty (.tmp p) (.tmp q) ho b cells (by simp [Act.eval, hp]) (by simp [Act.eval, hq]) ty old hb hi hs h1 ⟨undef, rfl, h⟩)
theorem Bx.row {w : World} {b T : Nat} {old cs : Array Value} (h : Bx w b T old) : Bx (w.setRow b cs) b T cs := setRow_heap w b old cs T (0, 0) h
theorem Bx.rowO {w : World} {b k T : Nat} {old cs : Array Value} (h : Bx w b T old) (hk : b ≠ k) : Bx (w.setRow k cs) b T old := (setRow_other w k b cs hk).trans h
theorem Own.rowO {w : World} {B k n : Nat} {v : Value} {l : List Int} {cs : Array Value} (h : Own w B v n l) (hk : v.ownBlock ≠ some k) : Own (w.setRow k cs) B v n l :=
  World.ownsRow.kept (row := some k) h ⟨rfl, rfl, rfl, by rw [size_setRow]; exact Nat.le_refl _, fun q _ hne => setRow_other w k q cs (by intro e; exact hne (by rw [e]))⟩ (by
    cases e : v.ownBlock with
    | none => exact .inl rfl
    | some b => exact .inr (by rw [← e]; exact hk))
theorem run_eql_nil {P : Program} (w : World) (t e : TypeId) (a : Option Addr) (l c : Nat) (h : P.underlying t = some (.slice e)) : (binOp .eql t (.slice a l c) (.slice none 0 0)).run P w = .ok (.bool a.isNone) w := by
  simp [binOp, run_equal_slice_nil w t e a l c h, go_sem]
set_option maxHeartbeats 400000 in
theorem clone_any (v : Value) (l : List Int) (w : World) (h : Sl iv w v l) (hl : l.length ≤ 1000) :
    Calls Try.prog 42 #[v] w fun e w' => ∃ v', e = .returned v' ∧ Own w' w.heap.size v' l.length l ∧ Below w.heap.size w w' := by
  have re := fun (w : World) (a : Option Addr) (l c : Nat) => run_eql_nil (P := Try.prog) w 22 3 a l c (by kernel_rfl)
  rcases h with ⟨rfl, rfl⟩ | ⟨ad, c, rfl, hc, hcell⟩
  · go_enter Try.func42, Try.ntmps42
    go_wp2
    go_ret
    exact ⟨_, rfl, World.ownsRow_nil _ _ _ _, Below.refl _ _⟩
  · have hS : Sl iv w (.slice (some ad) l.length c) l := .inr ⟨ad, c, rfl, hc, hcell⟩
    have HS := Lib.hid hS
    clear hS hcell
    have hg0 : (w.alloc (.cells #[] 3)).ownsRow w.heap.size 3 1 (.slice (some ⟨w.heap.size, 0, none⟩) 0 0) 0 [] := own_litS w _ _ 0 _ [] rfl rfl (by decide) rfl
    go_enter Try.func42, Try.ntmps42
    go_wp2_with (at_builtin; refine appS (f := iv) rfl _ _ 22 rfl 3 (.int .i64 0) 8 info_int rfl (by kernel_rfl) (fun _ => rfl) w.heap.size _ 0 [] rfl hg0 _ l rfl (HS.out.below ((Below.refl _ w).alloc (Nat.le_refl _) _)) (by omega) (by omega) (by simp) ?_; intro v' w' hown hfr)
    go_ret
    refine ⟨_, rfl, by simpa [Own] using hown, ((Below.refl _ w).alloc (Nat.le_refl _) _).trans (hfr.below (by simp))⟩
/-- Between the operations of 'x := Zone{N: z.N, B: slices.Clone(z.B)}'. -/
structure AdI (w0 : World) (zb : Nat) (N u : Value) (n : Nat) (l : List Int) (L : Nat → Bool) (vs : Nat → Value) (w : World) : Prop where
  q0 : L 0 = true → vs 0 = .pointer (some ⟨zb, 0, none⟩)
  q1 : L 1 = true → vs 1 = N
  q2 : L 2 = true → vs 2 = .pointer (some ⟨zb, 1, none⟩)
  q3 : L 3 = true → vs 3 = u
  q4 : L 4 = true → ∃ A c, vs 4 = .slice A n c ∧ Own w w0.heap.size (vs 4) n l
  q5 : L 5 = true → L 4 = true ∧ vs 5 = .agg #[N, vs 4]
  q6 : L 6 = true → ∃ nb, vs 6 = .pointer (some ⟨nb, 0, none⟩) ∧ w0.heap.size ≤ nb ∧ Bx w nb 29 (if L 7 = true then #[N, vs 4] else #[.int .i64 0, .slice none 0 0]) ∧ (L 4 = true → (vs 4).ownBlock ≠ some nb)
  bel : Below w0.heap.size w0 w
section
variable {w0 w w' : World} {zb : Nat} {N u : Value} {n : Nat} {l : List Int} {L : Nat → Bool} {vs : Nat → Value}
theorem AdI.start : AdI w0 zb N u n l (fun _ => false) vs w0.drew := ⟨nopeB rfl, nopeB rfl, nopeB rfl, nopeB rfl, nopeB rfl, nopeB rfl, nopeB rfl, (Below.refl _ _).drew⟩
theorem AdI.t0 (hI : AdI w0 zb N u n l L vs w) : AdI w0 zb N u n l (updB L 0) (updV vs 0 (.pointer (some ⟨zb, 0, none⟩))) w := ⟨fun _ => rfl, hI.q1, hI.q2, hI.q3, hI.q4, hI.q5, hI.q6, hI.bel⟩
theorem AdI.t1 (hI : AdI w0 zb N u n l L vs w) : AdI w0 zb N u n l (updB L 1) (updV vs 1 N) w := ⟨hI.q0, fun _ => rfl, hI.q2, hI.q3, hI.q4, hI.q5, hI.q6, hI.bel⟩
theorem AdI.t2 (hI : AdI w0 zb N u n l L vs w) : AdI w0 zb N u n l (updB L 2) (updV vs 2 (.pointer (some ⟨zb, 1, none⟩))) w := ⟨hI.q0, hI.q1, fun _ => rfl, hI.q3, hI.q4, hI.q5, hI.q6, hI.bel⟩
theorem AdI.t3 (hI : AdI w0 zb N u n l L vs w) : AdI w0 zb N u n l (updB L 3) (updV vs 3 u) w := ⟨hI.q0, hI.q1, hI.q2, fun _ => rfl, hI.q4, hI.q5, hI.q6, hI.bel⟩
theorem AdI.t4 (hI : AdI w0 zb N u n l L vs w) (h5 : L 5 = false) (h7 : L 7 = false) {A : Option Addr} {c : Nat} (ho : Own w' w.heap.size (.slice A n c) n l) (hb : Below w.heap.size w w') : AdI w0 zb N u n l (updB L 4) (updV vs 4 (.slice A n c)) w' :=
  ⟨hI.q0, hI.q1, hI.q2, hI.q3, fun _ => ⟨A, c, rfl, ho.mono hI.bel.size⟩, fun h => nopeB h5 h, fun h => by
    obtain ⟨nb, h1, h2, h3, _⟩ := hI.q6 h
    refine ⟨nb, h1, h2, ?_, fun _ e => by have := World.ownsRow.lt ho nb e; have := h3.lt; omega⟩
    rw [h7, if_neg Bool.false_ne_true] at h3
    rw [updB_ne L (by decide), h7, if_neg Bool.false_ne_true]
    exact h3.below hb, hI.bel.trans (hb.mono hI.bel.size)⟩
theorem AdI.t5 (hI : AdI w0 zb N u n l L vs w) (h4 : L 4 = true) : AdI w0 zb N u n l (updB L 5) (updV vs 5 (.agg #[N, vs 4])) w :=
  ⟨hI.q0, hI.q1, hI.q2, hI.q3, hI.q4, fun _ => ⟨h4, rfl⟩, hI.q6, hI.bel⟩
theorem AdI.t6 (hI : AdI w0 zb N u n l L vs w) (h7 : L 7 = false) : AdI w0 zb N u n l (updB L 6) (updV vs 6 (.pointer (some ⟨w.heap.size, 0, none⟩))) (w.alloc (.cells #[.int .i64 0, .slice none 0 0] 29)) :=
  ⟨hI.q0, hI.q1, hI.q2, hI.q3, fun h => by obtain ⟨A, c, h1, h2⟩ := hI.q4 h; exact ⟨A, c, h1, h2.keep (al1 w _)⟩, hI.q5, fun _ => ⟨_, rfl, hI.bel.size, by rw [updB_ne L (by decide), h7, if_neg Bool.false_ne_true]; exact Bx.new w _ _, fun h e => by
    obtain ⟨A, c, h1, h2⟩ := hI.q4 h
    have := World.ownsRow.lt h2 _ e
    omega⟩, hI.bel.trans ((al1 w _).mono hI.bel.size)⟩
theorem AdI.t7 (hI : AdI w0 zb N u n l L vs w) (h6 : L 6 = true) {nb : Nat} (hv : vs 6 = .pointer (some ⟨nb, 0, none⟩)) : AdI w0 zb N u n l (updB L 7) (updV vs 7 undef) (w.setRow nb #[N, vs 4]) := by
  obtain ⟨nb', h1, h2, h3, hne⟩ := hI.q6 h6
  obtain rfl : nb' = nb := by rw [hv] at h1; simpa using h1.symm
  exact ⟨hI.q0, hI.q1, hI.q2, hI.q3, fun h => by
    obtain ⟨A, c, e1, e2⟩ := hI.q4 h
    exact ⟨A, c, e1, e2.rowO (hne h)⟩, hI.q5, fun _ => ⟨nb', h1, h2, h3.row, hne⟩, below_setRow hI.bel h2 _⟩
theorem AdI.fin (hI : AdI w0 zb N u n l L vs w) (h : ∀ i, i < 8 → L i = true) : ∃ nb A c, vs 6 = .pointer (some ⟨nb, 0, none⟩) ∧ w0.heap.size ≤ nb ∧ Bx w nb 29 #[N, .slice A n c] ∧ Own w w0.heap.size (.slice A n c) n l ∧ (Value.slice A n c).ownBlock ≠ some nb ∧ Below w0.heap.size w0 w := by
  obtain ⟨A, c, e1, e2⟩ := hI.q4 (h 4 (by decide))
  obtain ⟨nb, h1, h2, h3, hne⟩ := hI.q6 (h 6 (by decide))
  have h4 := hne (h 4 (by decide))
  rw [if_pos (h 7 (by decide))] at h3
  rw [e1] at e2 h3 h4
  exact ⟨nb, A, c, h1, h2, h3, e2, h4, hI.bel⟩
end
/-- Add. -/
def addL (n : Nat) (b : List Int) (i j : Nat) (C : Int) : List Int := b.set (i * n + j) (min (gt n b i j) (max C (-20001)))
def addZ (N : Int) (b : List Int) (X Y C : Int) : (Int × List Int) × Value :=
  if zvB N b = true then if (knB N X && knB N Y) = true then ((N, addL (N + 1).toNat b (X + 1).toNat (Y + 1).toNat C), .int .i64 0) else ((0, []), .int .i64 2) else ((0, []), .int .i64 1)
theorem addZ_bad {N : Int} {b : List Int} {X Y C : Int} (h : zvB N b = false) : addZ N b X Y C = ((0, []), .int .i64 1) := by unfold addZ; rw [h]; rfl
theorem addZ_out {N : Int} {b : List Int} {X Y C : Int} (h : zvB N b = true) (h2 : (knB N X && knB N Y) = false) : addZ N b X Y C = ((0, []), .int .i64 2) := by unfold addZ; rw [if_pos h, h2]; rfl
theorem addZ_in {m : Nat} {b : List Int} {i j : Nat} {C : Int} (h : zvB (m : Int) b = true) (h2 : (knB (m : Int) ((i : Int) - 1) && knB (m : Int) ((j : Int) - 1)) = true) : addZ (m : Int) b ((i : Int) - 1) ((j : Int) - 1) C = (((m : Int), addL (m + 1) b i j C), .int .i64 0) := by
  unfold addZ; rw [if_pos h, if_pos h2, show ((m : Int) + 1).toNat = m + 1 by omega, show ((i : Int) - 1 + 1).toNat = i by omega, show ((j : Int) - 1 + 1).toNat = j by omega]
theorem three_boxes {w w' : World} {o p q : Obj} {T U R : TypeId} {cs ds es : Array Value} (ho : o = .cells cs T) (hp : p = .cells ds U) (hq : q = .cells es R) (hb : Below (((w.alloc o).alloc p).alloc q).heap.size (((w.alloc o).alloc p).alloc q) w') :
    Hid (Bx w' w.heap.size T cs) ∧ Hid (Bx w' (w.heap.size + 1) U ds) ∧ Hid (Bx w' (w.heap.size + 2) R es) ∧ Hid (Below w.heap.size w w') := by
  obtain ⟨h1, h2, h3⟩ := heap_alloc_3 w o p q
  subst ho hp hq
  exact ⟨(hb.block _ (by simp <;> omega)).trans h1, (hb.block _ (by simp <;> omega)).trans h2, (hb.block _ (by simp <;> omega)).trans h3, (al3 w _ _ _).trans (hb.mono (by simp <;> omega))⟩
theorem addL_len (n : Nat) (b : List Int) (i j : Nat) (C : Int) : (addL n b i j C).length = b.length := by unfold addL; rw [List.length_set]
/-- A result's box that is filled. -/
theorem zp_fin {w w3 : World} {r : Nat} {N : Int} {n : Nat} {A : Option Addr} {c : Nat} {l : List Int} {B : Nat} {x : Value} {R : (Int × List Int) × Value} (hR : R = ((N, l), x)) (hr : w.heap.size ≤ r) (hb : Below w.heap.size w w3) (hB : w.heap.size ≤ B) (ho : Own w3 B (.slice A n c) n l) (hne : (Value.slice A n c).ownBlock ≠ some r) :
    ZP w R (.returned (.tuple #[.agg #[.int .i64 N, .slice A n c], x])) ((w3.setCell ⟨r, 0, none⟩ (.int .i64 N)).setCell ⟨r, 1, none⟩ (.slice A n c)) :=
  ZP.ok hR (((ho.other hne).other hne).mono hB) ((hb.setCell (p := ⟨r, 0, none⟩) hr _).setCell (p := ⟨r, 1, none⟩) hr _)
theorem zp_zero {w w3 : World} {r : Nat} {x : Value} {R : (Int × List Int) × Value} (hR : R = ((0, []), x)) (hr : w.heap.size ≤ r) (hb : Below w.heap.size w w3) :
    ZP w R (.returned (.tuple #[.agg #[.int .i64 0, .slice none 0 0], x])) ((w3.setCell ⟨r, 0, none⟩ (.int .i64 0)).setCell ⟨r, 1, none⟩ (.slice none 0 0)) :=
  ZP.zero hR ((hb.setCell (p := ⟨r, 0, none⟩) hr _).setCell (p := ⟨r, 1, none⟩) hr _)
set_option maxRecDepth 20000 in
set_option maxHeartbeats 1000000 in
theorem add_any (N X Y C : Int) (v : Value) (b : List Int) (w : World) (h : Sl iv w v b) (hl : b.length ≤ 9223372036854775807) :
    Calls Try.prog 14 #[.agg #[.int .i64 N, v], .agg #[.int .i64 X, .int .i64 Y, .int .i64 C]] w (ZP w (addZ N b X Y C)) := by
  obtain ⟨A, c, rfl⟩ := h.shape
  have H := Lib.hid h
  clear h
  cases hp : zvB N b with
  | false =>
    have HR := Lib.hid (addZ_bad (X := X) (Y := Y) (C := C) hp)
    have Hp := Lib.hid hp
    clear hp
    go_enter Try.func14, Try.ntmps14
    go_wp2_with fail
    refine (valid_any N _ b _ (H.out.below (al3 w _ _ _)) hl).mono ?_; rintro e w1 ⟨rfl, hb⟩; rw [Hp.out]
    obtain ⟨-, -, HY, HB⟩ := three_boxes rfl rfl rfl hb
    obtain ⟨y0, y1⟩ := HY.out.k2
    obtain ⟨f0, f1⟩ := HY.out.f2
    clear hb
    go_wp2_with fail
    refine bodyPost_ret (v := .tuple #[.agg #[.int .i64 0, .slice none 0 0], .int .i64 1]) (bx_ret2 ((HY.out.set 0 _).set 1 _) Try.results14 _ rfl Try.underlying29 rfl (by kernel_rfl)) rfl ?_
    exact zp_zero HR.out (by omega) HB.out
  | true =>
    obtain ⟨m, rfl, hm, hlen, hz⟩ := zv_nat hp
    have HLN := Lib.hid hlen
    clear hlen hz
    cases hk : (knB (m : Int) X && knB (m : Int) Y) with
    | false =>
      have HR := Lib.hid (addZ_out (C := C) hp hk)
      have Hp := Lib.hid hp
      have Hk := Lib.hid hk
      clear hp hk
      go_enter Try.func14, Try.ntmps14
      go_wp2_with fail
      refine (valid_any m _ b _ (H.out.below (al3 w _ _ _)) hl).mono ?_; rintro e w1 ⟨rfl, hb⟩; rw [Hp.out]
      obtain ⟨HX, HD, HY, HB⟩ := three_boxes rfl rfl rfl hb
      obtain ⟨x0, x1⟩ := HX.out.k2
      obtain ⟨d0, d1, d2⟩ := HD.out.k3
      clear hb
      go_wp2_with fail
      refine (hasBound_any m X Y C (by omega) _ _).mono ?_; rintro e w2 ⟨rfl, hb⟩; rw [Hk.out]
      have HB2 := Lib.hid (HB.out.trans (hb.mono HB.out.size))
      have HY2 := Lib.hid (HY.out.below hb)
      obtain ⟨y0, y1⟩ := HY2.out.k2
      obtain ⟨f0, f1⟩ := HY2.out.f2
      clear hb x0 x1 d0 d1 d2
      go_wp2_with fail
      refine bodyPost_ret (v := .tuple #[.agg #[.int .i64 0, .slice none 0 0], .int .i64 2]) (bx_ret2 ((HY2.out.set 0 _).set 1 _) Try.results14 _ rfl Try.underlying29 rfl (by kernel_rfl)) rfl ?_
      exact zp_zero HR.out (by omega) HB2.out
    | true =>
      have hk2 := hk
      rw [Bool.and_eq_true] at hk2
      unfold knB at hk2
      rw [decide_eq_true_iff, decide_eq_true_iff] at hk2
      obtain ⟨i, rfl⟩ : ∃ i : Nat, X = (i : Int) - 1 := ⟨(X + 1).toNat, by omega⟩
      obtain ⟨j, rfl⟩ : ∃ j : Nat, Y = (j : Int) - 1 := ⟨(Y + 1).toNat, by omega⟩
      have hi : i ≤ m := by omega
      have hj : j ≤ m := by omega
      have HR := Lib.hid (addZ_in (C := C) hp hk)
      have Hp := Lib.hid hp
      have Hk := Lib.hid hk
      have hi1 : (i : Int) - 1 + 1 = i := by omega
      have hj1 : (j : Int) - 1 + 1 = j := by omega
      clear hp hk hk2
      go_enter Try.func14, Try.ntmps14
      go_wp2_with fail
      refine (valid_any m _ b _ (H.out.below (al3 w _ _ _)) hl).mono ?_; rintro e w1 ⟨rfl, hb⟩; rw [Hp.out]
      obtain ⟨HX, HD, HY, HB⟩ := three_boxes rfl rfl rfl hb
      obtain ⟨x0, x1⟩ := HX.out.k2
      obtain ⟨d0, d1, d2⟩ := HD.out.k3
      clear hb
      go_wp2_with fail
      refine (hasBound_any m _ _ C (by omega) _ _).mono ?_; rintro e w2 ⟨rfl, hb⟩; rw [Hk.out]
      have HB2 := Lib.hid (HB.out.trans (hb.mono HB.out.size))
      have HX2 := Lib.hid (HX.out.below hb)
      have HD2 := Lib.hid (HD.out.below hb)
      have HY2 := Lib.hid (HY.out.below hb)
      clear hb x0 x1 d0 d1 d2 HB HX HD HY
      go_wp2_with fail
      refine region_inv (n := 45) (AdI w2 w.heap.size (.int .i64 (m : Int)) (.slice A b.length c) b.length b) (by kernel_rfl) (by kernel_rfl) rfl ?_ (allOps_spec ?_) ?_
      · intro vs
        exact AdI.start
      · refine ⟨?_, ?_, ?_, ?_, ?_, ?_, ?_, ?_, trivial⟩
        · intro L vs a w6 hB hL hd hI
          have b0 : a.tmps[2]?.getD undef = .pointer (some ⟨w.heap.size, 0, none⟩) := hB.at 2 (by kernel_rfl)
          exact stepI_run (v := .pointer (some ⟨w.heap.size, 0, none⟩)) rfl (by simp [execOp, go_sem, Act.eval, b0]) hI.t0
        · intro L vs a w6 hB hL hd hI
          have b0 : a.tmps[17]?.getD undef = .pointer (some ⟨w.heap.size, 0, none⟩) := (hB.val 0 (hd ⟨0, .data⟩ (by simp) rfl) 17 rfl).trans (hI.q0 (hd ⟨0, .data⟩ (by simp) rfl))
          have q0 := (HX2.out.below hI.bel).cell 0
          exact stepI_run (v := .int .i64 (m : Int)) rfl (by simp [execOp, go_sem, Act.eval, b0, q0]) hI.t1
        · intro L vs a w6 hB hL hd hI
          have b0 : a.tmps[2]?.getD undef = .pointer (some ⟨w.heap.size, 0, none⟩) := hB.at 2 (by kernel_rfl)
          exact stepI_run (v := .pointer (some ⟨w.heap.size, 1, none⟩)) rfl (by simp [execOp, go_sem, Act.eval, b0]) hI.t2
        · intro L vs a w6 hB hL hd hI
          have b0 : a.tmps[19]?.getD undef = .pointer (some ⟨w.heap.size, 1, none⟩) := (hB.val 2 (hd ⟨2, .data⟩ (by simp) rfl) 19 rfl).trans (hI.q2 (hd ⟨2, .data⟩ (by simp) rfl))
          have q1 := (HX2.out.below hI.bel).cell 1
          exact stepI_run (v := .slice A b.length c) rfl (by simp [execOp, go_sem, Act.eval, b0, q1]) hI.t3
        · intro L vs a w6 hB hL hd hI
          have b0 : a.tmps[20]?.getD undef = .slice A b.length c := (hB.val 3 (hd ⟨3, .data⟩ (by simp) rfl) 20 rfl).trans (hI.q3 (hd ⟨3, .data⟩ (by simp) rfl))
          have h5 : L 5 = false := hB.wait 4 5 hL (by kernel_rfl)
          have h7 : L 7 = false := hB.wait 5 7 h5 (by kernel_rfl)
          refine stepI_call (f := 42) (args := #[.slice A b.length c]) rfl (by simp [go_sem, b0]) ?_
          refine (clone_any _ b w6 ((H.out.below HB2.out).below hI.bel) (by have := HLN.out; have := mul_few hm (Nat.le_refl m); rw [HLN.out]; exact Nat.le_trans (Nat.mul_le_mul (by omega : m + 1 ≤ 25) (by omega : m + 1 ≤ 25)) (by decide))).mono ?_
          rintro e w9 ⟨v', rfl, ho, h9⟩
          obtain ⟨A9, c9, rfl⟩ := own_shapeG ho
          exact ⟨_, rfl, hI.t4 h5 h7 ho h9⟩
        · intro L vs a w6 hB hL hd hI
          have h4 : L 4 = true := hd ⟨4, .data⟩ (by simp) rfl
          have b0 : a.tmps[18]?.getD undef = .int .i64 (m : Int) := (hB.val 1 (hd ⟨1, .data⟩ (by simp) rfl) 18 rfl).trans (hI.q1 (hd ⟨1, .data⟩ (by simp) rfl))
          obtain ⟨A9, c9, e9, -⟩ := hI.q4 h4
          have b1 : a.tmps[21]?.getD undef = .slice A9 b.length c9 := (hB.val 4 h4 21 rfl).trans e9
          exact stepI_run (v := .agg #[.int .i64 (m : Int), vs 4]) rfl (by simp [execOp, go_sem, Act.eval, b0, b1, e9]) (hI.t5 h4)
        · intro L vs a w6 hB hL hd hI
          have h7 : L 7 = false := hB.wait 6 7 hL (by kernel_rfl)
          exact stepI_run (v := .pointer (some ⟨w6.heap.size, 0, none⟩)) (w' := w6.alloc (.cells #[.int .i64 0, .slice none 0 0] 29)) rfl (exec_alloc 29 rfl info_Zn) (hI.t6 h7)
        · intro L vs a w6 hB hL hd hI
          have h5 : L 5 = true := hd ⟨5, .data⟩ (by simp) rfl
          have h6 : L 6 = true := hd ⟨6, .data⟩ (by simp) rfl
          obtain ⟨h4, e5⟩ := hI.q5 h5
          obtain ⟨nb, h8v, hnb, hx, -⟩ := hI.q6 h6
          obtain ⟨A9, c9, e9, -⟩ := hI.q4 h4
          rw [hL, if_neg Bool.false_ne_true] at hx
          have b6 : a.tmps[6]?.getD undef = .pointer (some ⟨nb, 0, none⟩) := (hB.val 6 h6 6 rfl).trans h8v
          have b22 : a.tmps[22]?.getD undef = .agg #[.int .i64 (m : Int), vs 4] := (hB.val 5 h5 22 rfl).trans e5
          exact stepI_store_row rfl 29 6 22 rfl nb _ b6 b22 _ hx (by kernel_rfl) rfl (by rw [e9]; simp [Value.oneCell']) (hI.t7 h6 h8v)
      · intro L vs w3 hall hI
        obtain ⟨nb, A4, c4, e6, hnb, hx4, ho4, hne4, hb4⟩ := hI.fin fun i hi => hall i hi
        clear hI hall
        simp only [putAll, Act.put, List.setIfInBounds_toArray, List.set_cons_zero, List.set_cons_succ, Nat.zero_add, Nat.reduceAdd, e6]
        clear e6
        rw [HLN.out] at hx4 ho4 hne4
        have HNB0 := Lib.hid hx4
        have HO40 := Lib.hid ho4
        have HNE := Lib.hid hne4
        have HB3 := Lib.hid (HB2.out.trans (hb4.mono HB2.out.size))
        have HX3 := Lib.hid (HX2.out.below hb4)
        have HD3 := Lib.hid (HD2.out.below hb4)
        have HY3 := Lib.hid (HY2.out.below hb4)
        have HS2 := Lib.hid (HB2.out.size)
        have hltY := HY2.out.lt
        clear hx4 ho4 hne4 hb4 HX2 HD2 HY2
        obtain ⟨x0, x1⟩ := HX3.out.k2
        obtain ⟨d0, d1, d2⟩ := HD3.out.k3
        go_wp2_with fail
        refine (at_any m i j _ _ hm hi hj).mono ?_; rintro e w4 ⟨rfl, hb⟩
        have HO4 := Lib.hid (show Own w4 _ _ _ _ from HO40.out.keep hb)
        have HNB := Lib.hid (HNB0.out.below hb)
        have HDB := Lib.hid (HD3.out.below hb)
        have HY4 := Lib.hid (HY3.out.below hb)
        have HB4 := Lib.hid (HB3.out.trans (hb.mono HB3.out.size))
        clear hb x0 x1 d0 d1 d2 HO40 HNB0 HD3 HX3 HY3 HB3
        have hsq := sq_lt (n := m + 1) (i := i) (j := j) (by omega) (by omega)
        have hp1 : ((i * (m + 1) + j : Nat) : Int) < (((m + 1) * (m + 1) : Nat) : Int) := by omega
        have HY := Lib.hid (fun h : i * (m + 1) + j < b.length => gt_at (n := m + 1) (i := i) (j := j) (b := b) h)
        have HAL := Lib.hid (show addL (m + 1) b i j C = b.set (i * (m + 1) + j) (min (gt (m + 1) b i j) (max C (-20001))) from rfl)
        obtain ⟨x, hx⟩ : ∃ x, x = min (gt (m + 1) b i j) (max C (-20001)) := ⟨_, rfl⟩
        rw [← hx] at HAL
        generalize gt (m + 1) b i j = y at *
        have hpb : i * (m + 1) + j < b.length := by rw [HLN.out]; exact hsq
        have HPB := Lib.hid hpb
        generalize i * (m + 1) + j = p at *
        have hp2 : ¬ (((m : Int) + 1) * ((m : Int) + 1) ≤ (p : Int)) := by push_cast at hp1; omega
        obtain ⟨g, cap, hg, hg1, hg2, -⟩ := own_shape HO4.out (Nat.mul_le_mul (by omega : 1 ≤ m + 1) (by omega : 1 ≤ m + 1))
        simp only [Value.slice.injEq] at hg
        obtain ⟨rfl, -, rfl⟩ := hg
        have HGN := Lib.hid (show g ≠ nb from fun e => HNE.out (by rw [e]; rfl))
        clear hsq hp1 hi1 hj1
        go_wp2_with fail
        refine region_inv (n := 45) (RdG (fun zz => match zz with | 0 => .pointer (some ⟨nb, 1, none⟩) | 1 => .slice (some ⟨g, 0, none⟩) ((m + 1) * (m + 1)) c4 | 2 => .int .i64 (p : Int) | 3 => .pointer (some ⟨nb, 1, none⟩) | 4 => .slice (some ⟨g, 0, none⟩) ((m + 1) * (m + 1)) c4 | 5 => .int .i64 (p : Int) | 6 => .pointer (some ⟨g, p, none⟩) | 7 => .int .i64 y | 8 => .pointer (some ⟨w.heap.size + 1, 2, none⟩) | 9 => .int .i64 C | 10 => .int .i64 (max C (-20001)) | 11 => .int .i64 x | 12 => .pointer (some ⟨g, p, none⟩) | _ => undef) 13 (w4) (⟨g, p, none⟩) (.int .i64 x)) (by kernel_rfl) (by kernel_rfl) rfl ?_ (allOps_spec ?_) ?_
        · intro vs
          exact RdG.start
        · refine ⟨?_, ?_, ?_, ?_, ?_, ?_, ?_, ?_, ?_, ?_, ?_, ?_, ?_, ?_, trivial⟩
          · intro L vs a w6 hB hL hd hI
            have b6 : a.tmps[6]?.getD undef = .pointer (some ⟨nb, 0, none⟩) := hB.at 6 (by kernel_rfl)
            have hx : Below (w4).heap.size (w4) w6 := hI.ext (hB.wait 0 13 hL (by kernel_rfl))
            exact stepI_run (v := .pointer (some ⟨nb, 1, none⟩)) rfl (by simp [execOp, go_sem, Act.eval, b6]) (hI.step 0 (by decide) rfl)
          · intro L vs a w6 hB hL hd hI
            have b31 : a.tmps[31]?.getD undef = .pointer (some ⟨nb, 1, none⟩) := (hB.val 0 (hd ⟨0, .data⟩ (by simp) rfl) 31 rfl).trans (hI.1 0 (by decide) (hd ⟨0, .data⟩ (by simp) rfl))
            have hx : Below (w4).heap.size (w4) w6 := hI.ext (hB.wait 1 13 hL (by kernel_rfl))
            have q1 := (HNB.out.below hx).cell 1
            exact stepI_run (v := .slice (some ⟨g, 0, none⟩) ((m + 1) * (m + 1)) c4) rfl (by simp [execOp, go_sem, Act.eval, b31, q1]) (hI.step 1 (by decide) rfl)
          · intro L vs a w6 hB hL hd hI
            have b7 : a.tmps[7]?.getD undef = .int .i64 (p : Int) := hB.at 7 (by kernel_rfl)
            have hx : Below (w4).heap.size (w4) w6 := hI.ext (hB.wait 2 13 hL (by kernel_rfl))
            exact stepI_run (v := .int .i64 (p : Int)) rfl (by simp [execOp, go_sem, Act.eval, b7]) (hI.step 2 (by decide) rfl)
          · intro L vs a w6 hB hL hd hI
            have b6 : a.tmps[6]?.getD undef = .pointer (some ⟨nb, 0, none⟩) := hB.at 6 (by kernel_rfl)
            have hx : Below (w4).heap.size (w4) w6 := hI.ext (hB.wait 3 13 hL (by kernel_rfl))
            exact stepI_run (v := .pointer (some ⟨nb, 1, none⟩)) rfl (by simp [execOp, go_sem, Act.eval, b6]) (hI.step 3 (by decide) rfl)
          · intro L vs a w6 hB hL hd hI
            have b34 : a.tmps[34]?.getD undef = .pointer (some ⟨nb, 1, none⟩) := (hB.val 3 (hd ⟨3, .data⟩ (by simp) rfl) 34 rfl).trans (hI.1 3 (by decide) (hd ⟨3, .data⟩ (by simp) rfl))
            have hx : Below (w4).heap.size (w4) w6 := hI.ext (hB.wait 4 13 hL (by kernel_rfl))
            have q1 := (HNB.out.below hx).cell 1
            exact stepI_run (v := .slice (some ⟨g, 0, none⟩) ((m + 1) * (m + 1)) c4) rfl (by simp [execOp, go_sem, Act.eval, b34, q1]) (hI.step 4 (by decide) rfl)
          · intro L vs a w6 hB hL hd hI
            have b7 : a.tmps[7]?.getD undef = .int .i64 (p : Int) := hB.at 7 (by kernel_rfl)
            have hx : Below (w4).heap.size (w4) w6 := hI.ext (hB.wait 5 13 hL (by kernel_rfl))
            exact stepI_run (v := .int .i64 (p : Int)) rfl (by simp [execOp, go_sem, Act.eval, b7]) (hI.step 5 (by decide) rfl)
          · intro L vs a w6 hB hL hd hI
            have b35 : a.tmps[35]?.getD undef = .slice (some ⟨g, 0, none⟩) ((m + 1) * (m + 1)) c4 := (hB.val 4 (hd ⟨4, .data⟩ (by simp) rfl) 35 rfl).trans (hI.1 4 (by decide) (hd ⟨4, .data⟩ (by simp) rfl))
            have b36 : a.tmps[36]?.getD undef = .int .i64 (p : Int) := (hB.val 5 (hd ⟨5, .data⟩ (by simp) rfl) 36 rfl).trans (hI.1 5 (by decide) (hd ⟨5, .data⟩ (by simp) rfl))
            have hx : Below (w4).heap.size (w4) w6 := hI.ext (hB.wait 6 13 hL (by kernel_rfl))
            exact stepI_run (v := .pointer (some ⟨g, p, none⟩)) rfl (by simp [execOp, go_sem, Act.eval, b35, b36, hp2, addr_lit0]) (hI.step 6 (by decide) rfl)
          · intro L vs a w6 hB hL hd hI
            have b37 : a.tmps[37]?.getD undef = .pointer (some ⟨g, p, none⟩) := (hB.val 6 (hd ⟨6, .data⟩ (by simp) rfl) 37 rfl).trans (hI.1 6 (by decide) (hd ⟨6, .data⟩ (by simp) rfl))
            have hx : Below (w4).heap.size (w4) w6 := hI.ext (hB.wait 7 13 hL (by kernel_rfl))
            have qc := own_at (HO4.out.keep hx) p (by omega)
            rw [HY.out HPB.out] at qc
            exact stepI_run (v := .int .i64 y) rfl (by simp [execOp, go_sem, Act.eval, b37, qc]) (hI.step 7 (by decide) rfl)
          · intro L vs a w6 hB hL hd hI
            have b3 : a.tmps[3]?.getD undef = .pointer (some ⟨w.heap.size + 1, 0, none⟩) := hB.at 3 (by kernel_rfl)
            have hx : Below (w4).heap.size (w4) w6 := hI.ext (hB.wait 8 13 hL (by kernel_rfl))
            exact stepI_run (v := .pointer (some ⟨w.heap.size + 1, 2, none⟩)) rfl (by simp [execOp, go_sem, Act.eval, b3]) (hI.step 8 (by decide) rfl)
          · intro L vs a w6 hB hL hd hI
            have b39 : a.tmps[39]?.getD undef = .pointer (some ⟨w.heap.size + 1, 2, none⟩) := (hB.val 8 (hd ⟨8, .data⟩ (by simp) rfl) 39 rfl).trans (hI.1 8 (by decide) (hd ⟨8, .data⟩ (by simp) rfl))
            have hx : Below (w4).heap.size (w4) w6 := hI.ext (hB.wait 9 13 hL (by kernel_rfl))
            have q2 := (HDB.out.below hx).cell 2
            exact stepI_run (v := .int .i64 C) rfl (by simp [execOp, go_sem, Act.eval, b39, q2]) (hI.step 9 (by decide) rfl)
          · intro L vs a w6 hB hL hd hI
            have b40 : a.tmps[40]?.getD undef = .int .i64 C := (hB.val 9 (hd ⟨9, .data⟩ (by simp) rfl) 40 rfl).trans (hI.1 9 (by decide) (hd ⟨9, .data⟩ (by simp) rfl))
            have hx : Below (w4).heap.size (w4) w6 := hI.ext (hB.wait 10 13 hL (by kernel_rfl))
            exact stepI_run (v := .int .i64 (max C (-20001))) rfl (by simp [go_sem, Act.eval, b40]; split <;> omega) (hI.step 10 (by decide) rfl)
          · intro L vs a w6 hB hL hd hI
            have b38 : a.tmps[38]?.getD undef = .int .i64 y := (hB.val 7 (hd ⟨7, .data⟩ (by simp) rfl) 38 rfl).trans (hI.1 7 (by decide) (hd ⟨7, .data⟩ (by simp) rfl))
            have b41 : a.tmps[41]?.getD undef = .int .i64 (max C (-20001)) := (hB.val 10 (hd ⟨10, .data⟩ (by simp) rfl) 41 rfl).trans (hI.1 10 (by decide) (hd ⟨10, .data⟩ (by simp) rfl))
            have hx : Below (w4).heap.size (w4) w6 := hI.ext (hB.wait 11 13 hL (by kernel_rfl))
            exact stepI_run (v := .int .i64 x) rfl (by simp [go_sem, Act.eval, b38, b41]; split <;> omega) (hI.step 11 (by decide) rfl)
          · intro L vs a w6 hB hL hd hI
            have b32 : a.tmps[32]?.getD undef = .slice (some ⟨g, 0, none⟩) ((m + 1) * (m + 1)) c4 := (hB.val 1 (hd ⟨1, .data⟩ (by simp) rfl) 32 rfl).trans (hI.1 1 (by decide) (hd ⟨1, .data⟩ (by simp) rfl))
            have b33 : a.tmps[33]?.getD undef = .int .i64 (p : Int) := (hB.val 2 (hd ⟨2, .data⟩ (by simp) rfl) 33 rfl).trans (hI.1 2 (by decide) (hd ⟨2, .data⟩ (by simp) rfl))
            have hx : Below (w4).heap.size (w4) w6 := hI.ext (hB.wait 12 13 hL (by kernel_rfl))
            exact stepI_run (v := .pointer (some ⟨g, p, none⟩)) rfl (by simp [execOp, go_sem, Act.eval, b32, b33, hp2, addr_lit0]) (hI.step 12 (by decide) rfl)
          · intro L vs a w6 hB hL hd hI
            have b43 : a.tmps[43]?.getD undef = .pointer (some ⟨g, p, none⟩) := (hB.val 12 (hd ⟨12, .data⟩ (by simp) rfl) 43 rfl).trans (hI.1 12 (by decide) (hd ⟨12, .data⟩ (by simp) rfl))
            have b42 : a.tmps[42]?.getD undef = .int .i64 x := (hB.val 11 (hd ⟨11, .data⟩ (by simp) rfl) 42 rfl).trans (hI.1 11 (by decide) (hd ⟨11, .data⟩ (by simp) rfl))
            have hx : Below (w4).heap.size (w4) w6 := hI.ext hL
            have f1 := (HO4.out.keep hx).frozenAt p
            have q1 := own_at (HO4.out.keep hx) p (by omega)
            exact stepI_skip (w' := w6.setCell (⟨g, p, none⟩) (.int .i64 x)) rfl (by simp [execOp, go_sem, Act.eval, b43, b42, f1, q1]) (hI.put hL)
        · intro L vs w7 hall hI
          obtain ⟨w6, HEXT, hw7⟩ := hI.fin (hall 13 (by decide))
          subst hw7
          clear hI hall
          simp only [putAll, Act.put, List.setIfInBounds_toArray, List.set_cons_zero, List.set_cons_succ, Nat.zero_add, Nat.reduceAdd]
          have HO5 := Lib.hid (show Own (w6.setCell ⟨g, p, none⟩ (.int .i64 x)) _ _ _ (addL (m + 1) b i j C) from by rw [HAL.out]; exact own_put (HO4.out.keep HEXT.out) p x)
          have HNB5 := Lib.hid ((HNB.out.below HEXT.out).other (c := g) (i := p) (u := .int .i64 x) HGN.out.symm)
          have HY5 := Lib.hid ((HY4.out.below HEXT.out).other (c := g) (i := p) (u := .int .i64 x) (by omega))
          have HB5 := Lib.hid ((HB4.out.trans (HEXT.out.mono HB4.out.size)).setCell (p := ⟨g, p, none⟩) (by have := HS2.out; show w.heap.size ≤ g; omega) (.int .i64 x))
          have HS2b := Lib.hid (show w.heap.size ≤ w2.heap.size from HS2.out)
          clear HEXT HO4 HNB HDB HY4 HB4 hp2
          generalize w6.setCell ⟨g, p, none⟩ (.int .i64 x) = w7 at *
          obtain ⟨x0, x1⟩ := HNB5.out.k2
          obtain ⟨y0, y1⟩ := HY5.out.k2
          obtain ⟨f0, f1⟩ := HY5.out.f2
          go_wp2_with fail
          refine bodyPost_ret (v := .tuple #[.agg #[.int .i64 (m : Int), .slice (some ⟨g, 0, none⟩) ((m + 1) * (m + 1)) c4], .int .i64 0]) (bx_ret2 ((HY5.out.set 0 _).set 1 _) Try.results14 _ rfl Try.underlying29 rfl (by kernel_rfl)) rfl ?_
          have hgy : (Value.slice (some ⟨g, 0, none⟩) ((m + 1) * (m + 1)) c4).ownBlock ≠ some (w.heap.size + 2) := by
            intro e
            have e2 : g = w.heap.size + 2 := by simpa [Value.ownBlock] using e
            omega
          exact zp_fin HR.out (by omega) HB5.out HS2b.out HO5.out hgy
end Go.Proofs.Yteoddcamicmapaa
