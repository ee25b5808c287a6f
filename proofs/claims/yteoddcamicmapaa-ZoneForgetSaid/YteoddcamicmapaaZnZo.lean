/- Layer 13: zoneOf: the zone of the bounds that a function tells. -/
import Derived.Test.YteoddcamicmapaaZnBd
import Derived.Test.YteoddcamicmapaaRowInv
namespace Go.Proofs.Yteoddcamicmapaa
open Go.RowKit

theorem info_int : (Try.prog.info? 3).map (fun i => (i.zero, i.size, i.bytes)) = some (some (.int .i64 0), 1, 8) := by kernel_rfl
theorem nopeB {b : Bool} {α : Prop} (h : b = false) (k : b = true) : α := by rw [h] at k; cases k
theorem nopeT {α : Prop} (h : true = false) : α := by cases h
/-- A function value that tells F of two indices, in whatever world that has grown from w0. -/
def FnAt (K : Nat) (bd cp : Array Value) (w0 : World) (n : Nat) (F : Nat → Nat → Int) : Prop :=
  ∀ i j, i < n → j < n → ∀ w, Below w0.heap.size w0 w → Calls Try.prog K (bd ++ #[.int .i64 (i : Int), .int .i64 (j : Int)] ++ cp) w (Tells w (.int .i64 (F i j)))
def Ent (K : Nat) : Prop := ∀ args w, (callFunc K args).run Try.prog w = .ok (.enter K args) w
theorem IRow.other {w : World} {B k i : Nat} {v y : Value} {xs : List Int} (h : IRow w B v xs) (hk : k < B) : IRow (w.setCell ⟨k, i, none⟩ y) B v xs :=
  World.ownsRow.kept (row := some k) h ⟨rfl, rfl, rfl, by rw [size_set]; exact Nat.le_refl _, fun q _ hne => Below.heap_setCell _ _ _ _ (by intro e; exact hne (by rw [e]))⟩ (by
    cases e : v.ownBlock with
    | none => exact .inl rfl
    | some b => exact .inr (by have := (World.ownsRow.lt h b e).1; intro e2; cases e2; omega))
theorem IRow.mono {w : World} {B B' : Nat} {v : Value} {xs : List Int} (h : IRow w B v xs) (hB : B' ≤ B) : IRow w B' v xs := by
  refine ⟨h.1, ?_⟩
  rcases h.2 with h1 | ⟨g, cap, cur, h1, h2, h3⟩
  · exact .inl h1
  · exact .inr ⟨g, cap, cur, h1, by omega, h3⟩
theorem results_cell_one {P : Program} {fn : Func} {p : Tmp} {ty : TypeId} (h : fn.results = #[.cell p ty]) (tmps : Array Value) (w : World) (g : Nat) (t : TypeId) (cs : Array Value) (fr : Nat × Nat) (d : TypeDesc)
    (hp : tmps.getD p undef = .pointer (some ⟨g, 0, none⟩)) (hg : w.heap[g]? = some (.cells cs t fr))
    (hu : P.underlying ty = some d) (hd : (match d with | .struct _ | .array _ _ => true | _ => false) = true) (hi : (P.info? ty).map (·.size) = some cs.size) :
    (results fn tmps).run P w = .ok (.agg cs) w := by
  have hp' : tmps[p]?.getD undef = .pointer (some ⟨g, 0, none⟩) := by simpa using hp
  simp only [results, h]
  simp [hp', asAddr, run_loadVar_row w g t ty cs fr d hg hu hd hi]
theorem results_cell_row2 {P : Program} {fn : Func} {p u : Tmp} {ty : TypeId} (h : fn.results = #[.cell p ty, .tmp u]) (tmps : Array Value) (w : World) (g : Nat) (t : TypeId) (cs : Array Value) (fr : Nat × Nat) (d : TypeDesc)
    (hp : tmps.getD p undef = .pointer (some ⟨g, 0, none⟩)) (hg : w.heap[g]? = some (.cells cs t fr))
    (hu : P.underlying ty = some d) (hd : (match d with | .struct _ | .array _ _ => true | _ => false) = true) (hi : (P.info? ty).map (·.size) = some cs.size) :
    (results fn tmps).run P w = .ok (.tuple #[.agg cs, tmps.getD u undef]) w := by
  rw [results_cell_tmp h]
  simp only [hp]
  simp [asAddr, Result.andThen, run_loadVar_row w g t ty cs fr d hg hu hd hi]
theorem bx_ret {w : World} {b T : Nat} {cs : Array Value} (h : Bx w b T cs) {P : Program} {fn : Func} {q : Tmp} {ty : TypeId} {d : TypeDesc} (hf : fn.results = #[.cell q ty]) (tmps : Array Value) (hq : tmps.getD q undef = .pointer (some ⟨b, 0, none⟩))
    (hu : P.underlying ty = some d) (hd : (match d with | .struct _ | .array _ _ => true | _ => false) = true) (hi : (P.info? ty).map (·.size) = some cs.size) : (results fn tmps).run P w = .ok (.agg cs) w :=
  results_cell_one hf tmps w b T cs (0, 0) d hq h hu hd hi
theorem bx_ret2 {w : World} {b T : Nat} {cs : Array Value} (h : Bx w b T cs) {P : Program} {fn : Func} {q r : Tmp} {ty : TypeId} {d : TypeDesc} (hf : fn.results = #[.cell q ty, .tmp r]) (tmps : Array Value) (hq : tmps.getD q undef = .pointer (some ⟨b, 0, none⟩))
    (hu : P.underlying ty = some d) (hd : (match d with | .struct _ | .array _ _ => true | _ => false) = true) (hi : (P.info? ty).map (·.size) = some cs.size) : (results fn tmps).run P w = .ok (.tuple #[.agg cs, tmps.getD r undef]) w :=
  results_cell_row2 hf tmps w b T cs (0, 0) d hq h hu hd hi
/-- Between the operations of 'z.B = append(z.B, bound(i, j))'. -/
structure ZpI (w0 wi : World) (rb zb : Nat) (M u : Value) (xs : List Int) (x : Int) (g vi vj : Value) (L : Nat → Bool) (vs : Nat → Value) (w : World) : Prop where
  p0 : L 0 = true → vs 0 = .pointer (some ⟨zb, 1, none⟩)
  p1 : L 1 = true → vs 1 = u
  p2 : L 2 = true → vs 2 = g
  p3 : L 3 = true → vs 3 = vi
  p4 : L 4 = true → vs 4 = vj
  p5 : L 5 = true → vs 5 = .int .i64 x
  p8 : L 8 = true → vs 8 = .pointer (some ⟨zb, 1, none⟩)
  bel : Below w0.heap.size w0 w
  ext : wi.heap.size ≤ w.heap.size
  rbx : Bx w rb 29 #[.int .i64 0, .slice none 0 0]
  box : Bx w zb 29 #[M, if L 9 = true then vs 7 else u]
  row : L 7 = false → IRow w (zb + 1) u xs
  blk : L 6 = true → L 7 = false → ∃ h, vs 6 = .slice (some ⟨h, 0, none⟩) 1 1 ∧ w.heap[h]? = some (.cells #[.int .i64 x] 3 (0, 0)) ∧ zb + 1 ≤ h ∧ u.ownBlock ≠ some h
  don : L 7 = true → IRow w (zb + 1) (vs 7) (xs ++ [x])
  sz : zb + 1 ≤ w.heap.size
section
variable {w0 wi w w' : World} {rb zb : Nat} {M u : Value} {xs : List Int} {x : Int} {g vi vj : Value} {L : Nat → Bool} {vs : Nat → Value}
theorem ZpI.start (hb : Below w0.heap.size w0 w) (hr : Bx w rb 29 #[.int .i64 0, .slice none 0 0]) (hx : Bx w zb 29 #[M, u]) (h : IRow w (zb + 1) u xs) : ZpI w0 w rb zb M u xs x g vi vj (fun _ => false) vs w.drew :=
  ⟨nopeB rfl, nopeB rfl, nopeB rfl, nopeB rfl, nopeB rfl, nopeB rfl, nopeB rfl, hb.drew, Nat.le_refl _, hr, hx, fun _ => World.ownsRow.drew h, nopeB rfl, nopeB rfl, hx.lt⟩
theorem ZpI.t0 (hI : ZpI w0 wi rb zb M u xs x g vi vj L vs w) : ZpI w0 wi rb zb M u xs x g vi vj (updB L 0) (updV vs 0 (.pointer (some ⟨zb, 1, none⟩))) w :=
  ⟨fun _ => rfl, hI.p1, hI.p2, hI.p3, hI.p4, hI.p5, hI.p8, hI.bel, hI.ext, hI.rbx, hI.box, hI.row, hI.blk, hI.don, hI.sz⟩
theorem ZpI.t1 (hI : ZpI w0 wi rb zb M u xs x g vi vj L vs w) : ZpI w0 wi rb zb M u xs x g vi vj (updB L 1) (updV vs 1 u) w :=
  ⟨hI.p0, fun _ => rfl, hI.p2, hI.p3, hI.p4, hI.p5, hI.p8, hI.bel, hI.ext, hI.rbx, hI.box, hI.row, hI.blk, hI.don, hI.sz⟩
theorem ZpI.t2 (hI : ZpI w0 wi rb zb M u xs x g vi vj L vs w) : ZpI w0 wi rb zb M u xs x g vi vj (updB L 2) (updV vs 2 g) w :=
  ⟨hI.p0, hI.p1, fun _ => rfl, hI.p3, hI.p4, hI.p5, hI.p8, hI.bel, hI.ext, hI.rbx, hI.box, hI.row, hI.blk, hI.don, hI.sz⟩
theorem ZpI.t3 (hI : ZpI w0 wi rb zb M u xs x g vi vj L vs w) : ZpI w0 wi rb zb M u xs x g vi vj (updB L 3) (updV vs 3 vi) w :=
  ⟨hI.p0, hI.p1, hI.p2, fun _ => rfl, hI.p4, hI.p5, hI.p8, hI.bel, hI.ext, hI.rbx, hI.box, hI.row, hI.blk, hI.don, hI.sz⟩
theorem ZpI.t4 (hI : ZpI w0 wi rb zb M u xs x g vi vj L vs w) : ZpI w0 wi rb zb M u xs x g vi vj (updB L 4) (updV vs 4 vj) w :=
  ⟨hI.p0, hI.p1, hI.p2, hI.p3, fun _ => rfl, hI.p5, hI.p8, hI.bel, hI.ext, hI.rbx, hI.box, hI.row, hI.blk, hI.don, hI.sz⟩
theorem ZpI.t8 (hI : ZpI w0 wi rb zb M u xs x g vi vj L vs w) : ZpI w0 wi rb zb M u xs x g vi vj (updB L 8) (updV vs 8 (.pointer (some ⟨zb, 1, none⟩))) w :=
  ⟨hI.p0, hI.p1, hI.p2, hI.p3, hI.p4, hI.p5, fun _ => rfl, hI.bel, hI.ext, hI.rbx, hI.box, hI.row, hI.blk, hI.don, hI.sz⟩
theorem ZpI.t5 (hI : ZpI w0 wi rb zb M u xs x g vi vj L vs w) (h6 : L 6 = false) (h7 : L 7 = false) (hb : Below w.heap.size w w') : ZpI w0 wi rb zb M u xs x g vi vj (updB L 5) (updV vs 5 (.int .i64 x)) w' :=
  ⟨hI.p0, hI.p1, hI.p2, hI.p3, hI.p4, fun _ => rfl, hI.p8, hI.bel.trans (hb.mono hI.bel.size), Nat.le_trans hI.ext hb.size, hI.rbx.below hb, hI.box.below hb, fun h => (hI.row h).below hb, fun h => nopeB h6 h, fun h => nopeB h7 h, Nat.le_trans hI.sz hb.size⟩
theorem ZpI.t6 (hI : ZpI w0 wi rb zb M u xs x g vi vj L vs w) (h7 : L 7 = false) : ZpI w0 wi rb zb M u xs x g vi vj (updB L 6) (updV vs 6 (.slice (some ⟨w.heap.size, 0, none⟩) 1 1)) (w.alloc (.cells #[.int .i64 x] 3)) :=
  have hb := al1 w (.cells #[.int .i64 x] 3)
  ⟨hI.p0, hI.p1, hI.p2, hI.p3, hI.p4, hI.p5, hI.p8, hI.bel.trans (hb.mono hI.bel.size), Nat.le_trans hI.ext hb.size, hI.rbx.below hb, hI.box.below hb, fun h => (hI.row h).below hb,
    fun _ _ => ⟨_, rfl, heap_alloc_new w _, hI.sz, fun e => by have := (World.ownsRow.lt (hI.row h7) _ e).2; omega⟩, fun h => nopeB h7 h, Nat.le_trans hI.sz hb.size⟩
theorem ZpI.t9 (hI : ZpI w0 wi rb zb M u xs x g vi vj L vs w) (h7 : L 7 = true) (hz : w0.heap.size ≤ zb) (hrz : rb ≠ zb) : ZpI w0 wi rb zb M u xs x g vi vj (updB L 9) (updV vs 9 undef) (w.setCell ⟨zb, 1, none⟩ (vs 7)) :=
  ⟨hI.p0, hI.p1, hI.p2, hI.p3, hI.p4, hI.p5, hI.p8, hI.bel.setCell (p := ⟨zb, 1, none⟩) hz _, by rw [size_set]; exact hI.ext, hI.rbx.other hrz, hI.box.set 1 (vs 7), fun h => nopeB h h7, fun _ h => nopeB h h7,
    fun _ => (hI.don h7).other (by omega), by rw [size_set]; exact hI.sz⟩
theorem ZpI.fin (hI : ZpI w0 wi rb zb M u xs x g vi vj L vs w) (h : ∀ i, i < 10 → L i = true) : Below w0.heap.size w0 w ∧ wi.heap.size ≤ w.heap.size ∧ Bx w rb 29 #[.int .i64 0, .slice none 0 0] ∧ Bx w zb 29 #[M, vs 7] ∧ IRow w (zb + 1) (vs 7) (xs ++ [x]) := by
  have hx := hI.box
  rw [if_pos (h 9 (by decide))] at hx
  exact ⟨hI.bel, hI.ext, hI.rbx, hx, hI.don (h 7 (by decide))⟩
/-- The append. -/
theorem stepI_zp {P : Program} {ops : Array Oper} {Q : Exit → Act → World → Prop} {o : Oper} {a : Act} {s q : Nat} {t : TypeId} (hI : ZpI w0 wi rb zb M u xs x g vi vj L vs w)
    (hu : P.underlying t = some (.slice 3)) (hinfo : (P.info? 3).map (fun i => (i.zero, i.size, i.bytes)) = some (some (.int .i64 0), 1, 8)) (hg : o.guard = none)
    (ho : o.op = .call { callee := .builtin .append, args := #[.tmp s, .tmp q], argTypes := #[t, t] }) (hs : a.tmps[s]?.getD undef = u) (hq : a.tmps[q]?.getD undef = vs 6)
    (h6 : L 6 = true) (h7 : L 7 = false) (h9 : L 9 = false) (hl : xs.length + 1 ≤ 1000000000) (hw : w0.heap.size ≤ zb) (hrz : rb ≤ zb) :
    StepI P ops Q (ZpI w0 wi rb zb M u xs x g vi vj) L vs 7 o a w := by
  obtain ⟨i0, hi, hy0, hy1, hy2⟩ := info_parts hinfo
  have h1 : w.ownsRow (zb + 1) 3 1 u xs.length (xs.map iv) := hI.row h7
  obtain ⟨b, hv6, hb, hBb, hub⟩ := hI.blk h6 h7
  have h3 := hI.sz
  refine stepI_on (by simp [Region.wanted, hg]) (wp_append_lies w (.tmp s) (.tmp q) t ho (zb + 1) 3 i0 _ 1 8 hu hi hy0 hy1 hy2 rfl (by omega) u xs.length (xs.map iv) (by simp [Act.eval, hs]) h1 ⟨b, 0, none⟩ 1 1 [.int .i64 x] (by simp [Act.eval, hq, hv6]) rfl ?_ (by simp [Value.oneCell']) (by omega) (by unfold maxLen; omega) (by omega) h3 w.heap.size rfl ?_)
  · intro k v hk
    match k, hk with
    | 0, hk =>
      cases hk
      rw [show (⟨b, 0, none⟩ : Addr).add 0 = ⟨b, 0, none⟩ from rfl, cell_of_row w b 0 _ _ _ hb]; rfl
    | k + 1, hk => simp at hk
  · intro g2 cap w3 hown hgr _ _
    have hbel : Below (zb + 1) w w3 := ⟨hgr.os, hgr.tape, hgr.output, hgr.size, fun k hk => hgr.block k (by omega) fun eq => by have := (World.ownsRow.lt h1 k eq.symm).1; omega⟩
    refine ⟨_, rfl, hI.p0, hI.p1, hI.p2, hI.p3, hI.p4, hI.p5, hI.p8, hI.bel.trans (hbel.mono (by omega)), Nat.le_trans hI.ext hgr.size, (hbel.block rb (by omega)).trans hI.rbx, ?_, fun h => nopeT h, fun _ h => nopeT h, fun _ => ?_, Nat.le_trans h3 hgr.size⟩
    · have hx := hI.box
      rw [if_neg (by rw [h9]; decide)] at hx
      rw [updB_ne L (by decide), if_neg (by rw [h9]; decide)]
      exact (hbel.block zb (by omega)).trans hx
    · rw [updV_self]
      unfold IRow
      rw [List.length_append, List.map_append]
      exact hown
end
theorem own_shapeG {w : World} {B e sz n : Nat} {v : Value} {xs : List Value} (h : w.ownsRow B e sz v n xs) : ∃ A c, v = .slice A n c := by
  rcases h.2 with ⟨rfl, h0⟩ | ⟨g, cap, cur, rfl, _⟩
  · exact ⟨none, 0, by rw [h0]⟩
  · exact ⟨_, cap, rfl⟩
/-- Where zoneOf stands. -/
def ZoRel (w0 : World) (m : Nat) (F : Nat → Nat → Int) (p : Nat) (wr : World) : Prop :=
  ∃ u, Bx wr w0.heap.size 29 #[.int .i64 0, .slice none 0 0] ∧ Bx wr (w0.heap.size + 1) 29 #[.int .i64 (m : Int), u] ∧ IRow wr (w0.heap.size + 2) u ((flat (m + 1) F).take p) ∧ Below w0.heap.size w0 wr
theorem ZoRel.start {w0 wr : World} {m : Nat} {F : Nat → Nat → Int} (h1 : Bx wr w0.heap.size 29 #[.int .i64 0, .slice none 0 0]) (h2 : Bx wr (w0.heap.size + 1) 29 #[.int .i64 (m : Int), .slice none 0 0]) (h3 : Below w0.heap.size w0 wr) : ZoRel w0 m F (0 * (m + 1)) wr :=
  ⟨_, h1, h2, by rw [Nat.zero_mul, List.take_zero]; exact World.ownsRow_nil _ _ _ _, h3⟩
set_option maxRecDepth 20000 in
set_option maxHeartbeats 400000 in
theorem zoneOf_any (m : Nat) (hm : m ≤ 24) (K : Nat) (bd cp : Array Value) (F : Nat → Nat → Int) (w0 : World) (hE : Ent K) (hF : FnAt K bd cp w0 (m + 1) F) :
    Calls Try.prog 46 #[.int .i64 (m : Int), .func (.func K) bd cp] w0 fun e w' => ∃ v, e = .returned (.agg #[.int .i64 (m : Int), v]) ∧ w'.ownsRow w0.heap.size 3 1 v ((m + 1) * (m + 1)) ((flat (m + 1) F).map iv) ∧ Below w0.heap.size w0 w' := by
  have HF := Lib.hid hF
  have HE := Lib.hid hE
  clear hF hE
  go_enter Try.func46, Try.ntmps46
  go_wp2_with fail
  go_loopw [12] (fun i wr => ∃ k : Nat, k ≤ m + 1 ∧ i = .int .i64 (k : Int) ∧ ZoRel w0 m F (k * (m + 1)) wr) (fun i _ => m + 1 - (intOf i).toNat)
  case atStart => exact ⟨0, Nat.zero_le _, rfl, ZoRel.start (heap_alloc_2 w0 _ _) (heap_alloc_2' w0 _ _) (al2 w0 _ _)⟩
  case round =>
    obtain ⟨k, hk, rfl, hrel⟩ := hrel
    by_cases hlt : k < m + 1
    · have HR := Lib.hid hrel
      clear hrel
      go_wp2_with fail
      go_loopw [17] (fun i wr => ∃ j : Nat, j ≤ m + 1 ∧ i = .int .i64 (j : Int) ∧ ZoRel w0 m F (k * (m + 1) + j) wr) (fun i _ => m + 1 - (intOf i).toNat)
      case atStart => exact ⟨0, Nat.zero_le _, rfl, HR.out⟩
      case round =>
        clear HR
        obtain ⟨j, hj, rfl, u, hrb, hzb, hrow, hbel⟩ := hrel
        by_cases hjl : j < m + 1
        · have HROW := Lib.hid hrow
          have HRB := Lib.hid hrb
          have HZB := Lib.hid hzb
          have HBEL := Lib.hid hbel
          obtain ⟨xs, hxs⟩ : ∃ xs, xs = (flat (m + 1) F).take (k * (m + 1) + j) := ⟨_, rfl⟩
          obtain ⟨x, hx⟩ : ∃ x, x = F k j := ⟨_, rfl⟩
          have HXS := Lib.hid (show (flat (m + 1) F).take (k * (m + 1) + (j + 1)) = xs ++ [x] by rw [hxs, hx]; exact flat_take F hlt hjl)
          have HXL := Lib.hid (show xs.length + 1 ≤ 1000000000 by
            have h1 := sq_lt hlt hjl
            have h2 : (m + 1) * (m + 1) ≤ 25 * 25 := Nat.mul_le_mul (by omega) (by omega)
            rw [hxs, List.length_take]; omega)
          have HCALL := Lib.hid (show ∀ w, Below w0.heap.size w0 w → Calls Try.prog K (bd ++ #[.int .i64 (k : Int), .int .i64 (j : Int)] ++ cp) w (Tells w (.int .i64 x)) from fun w hw => by rw [hx]; exact HF.out k j hlt hjl w hw)
          rw [← hxs] at HROW
          clear hxs hx hrow hrb hzb hbel
          go_wp2_with fail
          have HST := Lib.hid (fun vs => ZpI.start (vs := vs) (x := x) (g := .func (.func K) bd cp) (vi := .int .i64 (k : Int)) (vj := .int .i64 (j : Int)) HBEL.out HRB.out HZB.out HROW.out)
          refine region_inv (n := 32) (ZpI w0 wr w0.heap.size (w0.heap.size + 1) (.int .i64 (m : Int)) u xs x (.func (.func K) bd cp) (.int .i64 (k : Int)) (.int .i64 (j : Int))) (by kernel_rfl) (by kernel_rfl) rfl ?_ (allOps_spec ?_) ?_
          · intro vs
            exact HST.out vs
          · clear HST
            refine ⟨?_, ?_, ?_, ?_, ?_, ?_, ?_, ?_, ?_, ?_, trivial⟩
            · intro L vs a w2 hB hL hd hI
              have b0 : a.tmps[5]?.getD undef = .pointer (some ⟨w0.heap.size + 1, 0, none⟩) := hB.at 5 (by kernel_rfl)
              exact stepI_run (v := .pointer (some ⟨w0.heap.size + 1, 1, none⟩)) rfl (by simp [execOp, go_sem, Act.eval, b0]) hI.t0
            · intro L vs a w2 hB hL hd hI
              have b0 : a.tmps[20]?.getD undef = .pointer (some ⟨w0.heap.size + 1, 1, none⟩) := (hB.val 0 (hd ⟨0, .data⟩ (by simp) rfl) 20 rfl).trans (hI.p0 (hd ⟨0, .data⟩ (by simp) rfl))
              have h9 : L 9 = false := hB.wait 1 9 hL (by kernel_rfl)
              have hx := hI.box
              rw [h9, if_neg (by decide)] at hx
              have q1 := hx.cell 1
              exact stepI_run (v := u) rfl (by simp [execOp, go_sem, Act.eval, b0, q1]) hI.t1
            · intro L vs a w2 hB hL hd hI
              have b0 : a.tmps[1]?.getD undef = .func (.func K) bd cp := hB.at 1 (by kernel_rfl)
              exact stepI_run (v := .func (.func K) bd cp) rfl (by simp [execOp, go_sem, Act.eval, b0]) hI.t2
            · intro L vs a w2 hB hL hd hI
              have b0 : a.tmps[6]?.getD undef = .int .i64 (k : Int) := hB.at 6 (by kernel_rfl)
              exact stepI_run (v := .int .i64 (k : Int)) rfl (by simp [execOp, go_sem, Act.eval, b0]) hI.t3
            · intro L vs a w2 hB hL hd hI
              have b0 : a.tmps[7]?.getD undef = .int .i64 (j : Int) := hB.at 7 (by kernel_rfl)
              exact stepI_run (v := .int .i64 (j : Int)) rfl (by simp [execOp, go_sem, Act.eval, b0]) hI.t4
            · intro L vs a w2 hB hL hd hI
              have b0 : a.tmps[22]?.getD undef = .func (.func K) bd cp := (hB.val 2 (hd ⟨2, .data⟩ (by simp) rfl) 22 rfl).trans (hI.p2 (hd ⟨2, .data⟩ (by simp) rfl))
              have b1 : a.tmps[23]?.getD undef = .int .i64 (k : Int) := (hB.val 3 (hd ⟨3, .data⟩ (by simp) rfl) 23 rfl).trans (hI.p3 (hd ⟨3, .data⟩ (by simp) rfl))
              have b2 : a.tmps[24]?.getD undef = .int .i64 (j : Int) := (hB.val 4 (hd ⟨4, .data⟩ (by simp) rfl) 24 rfl).trans (hI.p4 (hd ⟨4, .data⟩ (by simp) rfl))
              have h6 : L 6 = false := hB.wait 5 6 hL (by kernel_rfl)
              have h7 : L 7 = false := hB.wait 6 7 h6 (by kernel_rfl)
              have hc := HCALL.out w2 hI.bel
              refine stepI_call (f := K) (args := bd ++ #[.int .i64 (k : Int), .int .i64 (j : Int)] ++ cp) rfl ?_ ?_
              · simp [execOp, go_sem, Act.eval, b0, b1, b2]
                exact HE.out _ _
              · refine hc.mono ?_
                rintro e w9 ⟨rfl, h9⟩
                exact ⟨_, rfl, hI.t5 h6 h7 h9⟩
            · intro L vs a w2 hB hL hd hI
              have b0 : a.tmps[25]?.getD undef = .int .i64 x := (hB.val 5 (hd ⟨5, .data⟩ (by simp) rfl) 25 rfl).trans (hI.p5 (hd ⟨5, .data⟩ (by simp) rfl))
              have h7 : L 7 = false := hB.wait 6 7 hL (by kernel_rfl)
              exact stepI_run (v := .slice (some ⟨w2.heap.size, 0, none⟩) 1 1) rfl (by simp [execOp, go_sem, Act.eval, b0]) (hI.t6 h7)
            · intro L vs a w2 hB hL hd hI
              have b0 : a.tmps[21]?.getD undef = u := (hB.val 1 (hd ⟨1, .data⟩ (by simp) rfl) 21 rfl).trans (hI.p1 (hd ⟨1, .data⟩ (by simp) rfl))
              have b1 : a.tmps[26]?.getD undef = vs 6 := hB.val 6 (hd ⟨6, .data⟩ (by simp) rfl) 26 rfl
              exact stepI_zp hI (by kernel_rfl) info_int rfl rfl b0 b1 (hd ⟨6, .data⟩ (by simp) rfl) hL (hB.wait 7 9 hL (by kernel_rfl)) HXL.out (by omega) (by omega)
            · intro L vs a w2 hB hL hd hI
              have b0 : a.tmps[5]?.getD undef = .pointer (some ⟨w0.heap.size + 1, 0, none⟩) := hB.at 5 (by kernel_rfl)
              exact stepI_run (v := .pointer (some ⟨w0.heap.size + 1, 1, none⟩)) rfl (by simp [execOp, go_sem, Act.eval, b0]) hI.t8
            · intro L vs a w2 hB hL hd hI
              have b0 : a.tmps[28]?.getD undef = .pointer (some ⟨w0.heap.size + 1, 1, none⟩) := (hB.val 8 (hd ⟨8, .data⟩ (by simp) rfl) 28 rfl).trans (hI.p8 (hd ⟨8, .data⟩ (by simp) rfl))
              have b1 : a.tmps[27]?.getD undef = vs 7 := hB.val 7 (hd ⟨7, .data⟩ (by simp) rfl) 27 rfl
              have h7 : L 7 = true := hd ⟨7, .data⟩ (by simp) rfl
              have f1 := hI.box.free 1
              have q1 := hI.box.cell 1
              obtain ⟨A, c', hv⟩ := own_shapeG (hI.don h7)
              refine stepI_skip (w' := w2.setCell ⟨w0.heap.size + 1, 1, none⟩ (vs 7)) rfl ?_ (hI.t9 h7 (by omega) (by omega))
              rw [hv] at b1 ⊢
              simp [execOp, go_sem, Act.eval, b0, b1, f1, q1]
          · intro L vs w2 hall hI
            obtain ⟨g1, g2, g3, g4, g5⟩ := hI.fin fun i hi => hall i hi
            clear hI hall HST
            simp only [putAll, Act.put, List.setIfInBounds_toArray, List.set_cons_zero, List.set_cons_succ, Nat.zero_add, Nat.reduceAdd]
            rw [← HXS.out] at g5
            generalize vs 7 = v7 at *
            have G := Lib.hid (show ZoRel w0 m F (k * (m + 1) + (j + 1)) w2 from ⟨v7, g3, g4, g5, g1⟩)
            clear g1 g2 g3 g4 g5
            go_wp2_with fail
            go_roundw
            case rel => exact ⟨j + 1, by omega, by go_num, G.out⟩
            case measure => simp [intOf]; omega
        · obtain rfl : j = m + 1 := by omega
          have HR2 := Lib.hid (show ZoRel w0 m F ((k + 1) * (m + 1)) wr from by rw [Nat.succ_mul]; exact ⟨u, hrb, hzb, hrow, hbel⟩)
          clear hrow hrb hzb hbel
          go_wp2_with fail
          go_roundw
          case rel => exact ⟨k + 1, by omega, by go_num, HR2.out⟩
          case measure => simp [intOf]; omega
    · obtain rfl : k = m + 1 := by omega
      obtain ⟨u, hrb, hzb, hrow, hbel⟩ := hrel
      rw [flat_all] at hrow
      obtain ⟨A, c, rfl⟩ := own_shapeG hrow
      obtain ⟨c0, c1⟩ := hzb.k2
      obtain ⟨d0, d1⟩ := hrb.k2
      obtain ⟨f0, f1⟩ := hrb.f2
      have HROW := Lib.hid hrow
      have HRB := Lib.hid hrb
      have HBEL := Lib.hid hbel
      clear hrow hrb hzb hbel
      go_wp2_with fail
      refine bodyPost_ret (v := .agg #[.int .i64 (m : Int), .slice A (flat (m + 1) F).length c]) (bx_ret ((HRB.out.set 0 _).set 1 _) Try.results46 _ rfl Try.underlying29 rfl (by kernel_rfl)) rfl ?_
      refine ⟨_, rfl, ?_, (HBEL.out.setCell (p := ⟨w0.heap.size, 0, none⟩) (Nat.le_refl _) _).setCell (p := ⟨w0.heap.size, 1, none⟩) (Nat.le_refl _) _⟩
      have h1 := ((HROW.out.other (k := w0.heap.size) (i := 0) (y := .int .i64 (m : Int)) (by omega)).other (k := w0.heap.size) (i := 1) (y := .slice A (flat (m + 1) F).length c) (by omega)).mono (B' := w0.heap.size) (by omega)
      unfold IRow at h1
      rw [flat_len] at h1 ⊢
      exact h1
end Go.Proofs.Yteoddcamicmapaa
