/- VclockCausal: for every input the law returns true. -/
import Derived.Test.YtgfnhkipoicmiaaVcCauR
import Derived.StillTailTactics
import Derived.Deep.DeepCutAuto
namespace Go.Proofs.Ytgfnhkipoicmiaa
open Go.RowKit

theorem info_bools : (Try.prog.info? 44).map (fun i => (i.zero, i.size, i.bytes)) = some (some (.slice none 0 0), 1, 24) := by kernel_rfl
theorem info_bool : (Try.prog.info? 4).map (fun i => (i.zero, i.size, i.bytes)) = some (some (.bool false), 1, 1) := by kernel_rfl
theorem info_clock : (Try.prog.info? 26).map (fun i => (i.zero, i.size, i.bytes)) = some (some (.slice none 0 0), 1, 24) := by kernel_rfl
def Rl (E : List (Nat × Nat)) (j : Nat) : Nat := (E.getD j (0, 0)).1 % 3
/-- What is in memory behind i events. -/
structure LI (E : List (Nat × Nat)) (w0 : World) (B nb bb i : Nat) (nv cs : List (List Int)) (rbs : List Nat) (rows : List (List Bool)) (u6 : Value) (w : World) : Prop where
  m : VM w0 B E.length nb bb nv cs rbs rows u6 w
  rl : rbs.length = i
  cl : cs.length = i
  ci : CI (Rl E) (Cf cs) i
  nw : ∀ r, r < 3 → IsNow (Rl E) (Cf cs) i r (nv.getD r [])
  rw_ : ∀ j k, j < i → k < E.length → (rows.getD j []).getD k false = decide (Mb (Rl E) (Cf cs) j k)
theorem LI.ext {E : List (Nat × Nat)} {w0 : World} {B nb bb i : Nat} {nv cs : List (List Int)} {rbs : List Nat} {rows : List (List Bool)} {u6 : Value} {w w' : World} (h : LI E w0 B nb bb i nv cs rbs rows u6 w) (hb : Below w.heap.size w w') : LI E w0 B nb bb i nv cs rbs rows u6 w' := ⟨h.m.ext hb, h.rl, h.cl, h.ci, h.nw, h.rw_⟩
theorem getD_of {α : Type} {l : List α} {i : Nat} {x d : α} (h : l[i]? = some x) : l.getD i d = x := by rw [List.getD_eq_getElem?_getD, h]; rfl
theorem Clk.shape {w : World} {v : Value} {c : List Int} (h : Clk w v c) : ∃ g p, v = .slice (some ⟨g, 0, none⟩) c.length p := by
  obtain ⟨g, cp, cur, fr, hv, _⟩ := h
  exact ⟨g, cp, hv⟩
theorem row_fresh {E : List (Nat × Nat)} {w0 : World} {B nb bb i : Nat} {nv cs : List (List Int)} {rbs : List Nat} {rows : List (List Bool)} {u6 : Value} {w : World} (h : LI E w0 B nb bb i nv cs rbs rows u6 w) : w.heap.size ∉ rbs := by
  intro hm
  obtain ⟨j, hj, e⟩ := List.mem_iff_getElem.1 hm
  have hr := h.m.rl
  have h2 := (h.m.row j _ _ (List.getElem?_eq_getElem hj) (List.getElem?_eq_getElem (show j < rows.length by omega))).2
  have := lt_of_some h2
  omega
theorem made_bools {w w1 : World} {B n : Nat} {t : TypeId} {z : Value} (hz : z.cells = #[z]) (h : w1.ownsRow B t 1 (.slice (some ⟨w.heap.size, 0, none⟩) n n) n (madeCells z.cells (n * 1)).toList) : w1.heap[w.heap.size]? = some (.cells (List.replicate n z).toArray t (0, 0)) := by
  have e := toList_madeCells_one z n
  rw [Nat.mul_one, hz, e] at h
  exact (block_of_own h).1
theorem rl_lt (E : List (Nat × Nat)) (j : Nat) : Rl E j < 3 := Nat.mod_lt _ (by decide)
theorem ok_small {c : List Int} {i : Nat} (hl : c.length = 3) (hi : i ≤ 14) (h : ∀ s, s < 3 → 0 ≤ at3 c s ∧ at3 c s ≤ (i : Int)) : okB c = true := by
  refine okB_iff.2 ⟨by omega, fun x hx => ?_⟩
  obtain ⟨k, hk, rfl⟩ := List.mem_iff_getElem.1 hx
  have := h k (by omega)
  unfold at3 at this
  rw [List.getD_eq_getElem?_getD, List.getElem?_eq_getElem hk] at this
  simp only [Option.getD_some] at this
  unfold InC
  omega
theorem tick_small {c : List Int} {r i : Nat} (hl : c.length = 3) (hr : r < 3) (hi : i ≤ 14) (h : ∀ s, s < 3 → 0 ≤ at3 c s ∧ at3 c s ≤ (i : Int)) : tickR c (r : Int) = (c.set r (at3 c r + 1), 0) := by
  have hrl : r < c.length := by omega
  have e : at3 c r = c[r] := by unfold at3; rw [List.getD_eq_getElem?_getD, List.getElem?_eq_getElem hrl]; rfl
  have h1 := h r hr
  rw [tick_good (ok_small hl hi h) hrl (by omega), e]
theorem tick_call (v : Value) (c : List Int) (r i : Nat) (w : World) (h : Clk w v c) (hl : c.length = 3) (hr : r < 3) (hi : i ≤ 14) (hb : ∀ s, s < 3 → 0 ≤ at3 c s ∧ at3 c s ≤ (i : Int)) :
    Calls Try.prog 19 #[v, .int .i64 (r : Int)] w fun e w' => ∃ v', e = .returned (.tuple #[v', .int .i64 0]) ∧ Clk w' v' (c.set r (at3 c r + 1)) ∧ Below w.heap.size w w' := by
  refine (tick_any v c (r : Int) w h.sl (by omega)).mono ?_
  rw [tick_small hl hr hi hb]
  rintro e w' ⟨v', he, ho, hbl⟩
  exact ⟨v', he, Clk.of_own ho (by simp; omega), hbl⟩
theorem recv_call (v u : Value) (c d : List Int) (r i : Nat) (w : World) (h : Clk w v c) (h2 : Clk w u d) (hl : c.length = 3) (hl2 : d.length = 3) (hr : r < 3) (hi : i ≤ 14) (hb : ∀ s, s < 3 → 0 ≤ at3 c s ∧ at3 c s ≤ (i : Int)) (hb2 : ∀ s, s < 3 → 0 ≤ at3 d s ∧ at3 d s ≤ (i : Int)) :
    Calls Try.prog 25 #[v, u, .int .i64 (r : Int)] w fun e w' => ∃ g q, e = .returned (.tuple #[.slice (some ⟨g, 0, none⟩) 3 q, .int .i64 0]) ∧ Clk w' (.slice (some ⟨g, 0, none⟩) 3 q) ((List.zipWith mx c d).set r (at3 (List.zipWith mx c d) r + 1)) ∧ Below w.heap.size w w' := by
  have hz : (List.zipWith mx c d).length = 3 := by rw [List.length_zipWith]; omega
  have hzb : ∀ s, s < 3 → 0 ≤ at3 (List.zipWith mx c d) s ∧ at3 (List.zipWith mx c d) s ≤ (i : Int) := fun s hs => by
    rw [at3_zip hl hl2 hs]
    have := hb s hs; have := hb2 s hs
    have := mx_ge (x := at3 c s) (y := at3 d s)
    omega
  have he : recvR c d (r : Int) = ((List.zipWith mx c d).set r (at3 (List.zipWith mx c d) r + 1), 0) := by
    unfold recvR
    rw [join_good (ok_small hl hi hb) (ok_small hl2 hi hb2) (by omega)]
    dsimp only
    rw [if_pos rfl, tick_small hz hr hi hzb]
  refine (recv_any v u c d (r : Int) w h.sl h2.sl (by omega) (by omega)).mono ?_
  rw [he]
  rintro e w' ⟨v', h3, ho, hbl⟩
  have hck := Clk.of_own ho (by simp; omega)
  obtain ⟨g, q, hv⟩ := hck.shape
  rw [List.length_set, hz] at hv
  subst hv
  exact ⟨g, q, h3, hck, hbl⟩
theorem now_bnd {E : List (Nat × Nat)} {cs : List (List Int)} {i r : Nat} {c : List Int} (h : IsNow (Rl E) (Cf cs) i r c) (hc : CI (Rl E) (Cf cs) i) (s : Nat) (hs : s < 3) : 0 ≤ at3 c s ∧ at3 c s ≤ (i : Int) := by
  have h1 := h.bnd hc s hs
  have h2 := cnt_le (Rl E) s i
  omega
theorem ev_bnd {E : List (Nat × Nat)} {cs : List (List Int)} {i k : Nat} (hc : CI (Rl E) (Cf cs) i) (hk : k < i) (s : Nat) (hs : s < 3) : 0 ≤ at3 (Cf cs k) s ∧ at3 (Cf cs k) s ≤ (i : Int) := by
  have h1 := hc.bnd k hk s hs
  have h2 := cnt_le (Rl E) s (k + 1)
  omega
theorem getD_set_ne {α : Type} {l : List α} {i j : Nat} {x d : α} (h : j ≠ i) : (l.set i x).getD j d = l.getD j d := by
  rw [List.getD_eq_getElem?_getD, List.getElem?_set_ne (fun e => h e.symm), ← List.getD_eq_getElem?_getD]
theorem getD_set_self {α : Type} {l : List α} {i : Nat} {x d : α} (h : i < l.length) : (l.set i x).getD i d = x := by
  rw [List.getD_eq_getElem?_getD, List.getElem?_set_self h]; rfl
theorem getD_app {α : Type} {l : List α} {x d : α} {j : Nat} (h : j < l.length) : (l ++ [x]).getD j d = l.getD j d := by
  rw [List.getD_eq_getElem?_getD, List.getElem?_append_left h, ← List.getD_eq_getElem?_getD]
theorem getD_last {α : Type} {l : List α} {x d : α} : (l ++ [x]).getD l.length d = x := by
  rw [List.getD_eq_getElem?_getD, List.getElem?_append_right (Nat.le_refl _), Nat.sub_self]; rfl
theorem getD_rep {n q : Nat} : (List.replicate n false).getD q false = false := by
  rw [List.getD_eq_getElem?_getD, List.getElem?_replicate]; split <;> rfl
theorem li_next {E : List (Nat × Nat)} {w0 wq wr w9 : World} {B nb bb i gr r : Nat} {nv cs : List (List Int)} {rbs : List Nat} {rows rws : List (List Bool)} {u6 u7 : Value} {c1 cn : List Int} {m : Option Nat}
    (hL : LI E w0 B nb bb i nv cs rbs rows u6 wq) (hN : New (Rl E) (Cf (cs ++ [c1])) i m cn) (hr : r = Rl E i) (hri : RI E.length w0 B nb bb i gr nv cs (rbs ++ [gr]) rows u6 (Mb (Rl E) (Cf (cs ++ [c1])) i) rws wr)
    (hm : VM w0 B E.length nb bb (nv.set r c1) (cs ++ [c1]) (rbs ++ [gr]) rws u7 w9) : LI E w0 B nb bb (i + 1) (nv.set r c1) (cs ++ [c1]) (rbs ++ [gr]) rws u7 w9 := by
  have hcl := hL.cl
  have hci2 := ci_old (c := c1) (show CI (Rl E) (Cf cs) cs.length by rw [hcl]; exact hL.ci)
  rw [hcl] at hci2
  have h3 := hL.m.nvl
  have hr3 : r < 3 := by rw [hr]; exact rl_lt E i
  refine ⟨hm, by simp [hL.rl], by simp [hcl], hN.ci hci2, fun s hs => ?_, fun j k hj hk => ?_⟩
  · by_cases e : s = r
    · rw [e, getD_set_self (by omega)]
      have := now_self (Rl E) cs c1
      rw [hcl, ← hr] at this
      exact this
    · rw [getD_set_ne e]
      have := now_next (c := c1) (show IsNow (Rl E) (Cf cs) cs.length s (nv.getD s []) by rw [hcl]; exact hL.nw s hs) (by rw [hcl, ← hr]; exact e)
      rw [hcl] at this
      exact this
  · by_cases e : j = i
    · rw [e, Bool.eq_iff_iff, decide_eq_true_iff]
      exact hri.row k hk
    · rw [hri.old j (by omega), hL.rw_ j k (by omega) hk, Bool.eq_iff_iff, decide_eq_true_iff, decide_eq_true_iff]
      exact (mb_old (by rw [hcl]; omega)).symm
theorem set_same {α : Type} {l : List α} {k : Nat} {d : α} (h : k < l.length) : l.set k (l.getD k d) = l := by
  rw [List.getD_eq_getElem?_getD, List.getElem?_eq_getElem h]
  exact List.set_getElem_self h
section
variable {E : List (Nat × Nat)} {w0 w : World} {B nb bb i : Nat} {nv cs : List (List Int)} {rbs : List Nat} {rows : List (List Bool)} {u6 : Value}
theorem LI.same (h : LI E w0 B nb bb i nv cs rbs rows u6 w) {j g q : Nat} (hg : rbs[j]? = some g) (hj : j < i) (hq : q < E.length) : LI E w0 B nb bb i nv cs rbs rows u6 (w.setCell ⟨g, q, none⟩ (.bool (decide (Mb (Rl E) (Cf cs) j q)))) := by
  have hb := h.rw_ j q hj hq
  have h1 := h.m.setBitG hg q (decide (Mb (Rl E) (Cf cs) j q))
  have hjl : j < rows.length := by rw [← h.m.rl, h.rl]; exact hj
  have hql : q < (rows.getD j []).length := by rw [(h.m.bitG hg hq).2.2]; exact hq
  rw [← hb, set_same hql, set_same hjl] at h1
  rw [← hb]
  exact ⟨h1, h.rl, h.cl, h.ci, h.nw, h.rw_⟩
theorem LI.bit (h : LI E w0 B nb bb i nv cs rbs rows u6 w) {j : Nat} (hj : j < i) : ∃ g, rbs[j]? = some g ∧ w.cell? ⟨bb, j, none⟩ = some (.slice (some ⟨g, 0, none⟩) E.length E.length) ∧ ∀ q, q < E.length → w.cell? ⟨g, q, none⟩ = some (.bool (decide (Mb (Rl E) (Cf cs) j q))) ∧ w.frozen? ⟨g, q, none⟩ = false := by
  have hrl := h.rl
  have hg : rbs[j]? = some (rbs[j]'(by omega)) := List.getElem?_eq_getElem (by omega)
  refine ⟨_, hg, h.m.rowG hg, fun q hq => ?_⟩
  obtain ⟨h1, h2, _⟩ := h.m.bitG hg hq
  rw [h.rw_ j q hj hq] at h1
  exact ⟨h1, h2⟩
theorem LI.two (h : LI E w0 B nb bb i nv cs rbs rows u6 w) {j k : Nat} (hj : j < i) (hk : k < i) : ∃ g cp gj pj gk pk, u6 = .slice (some ⟨g, 0, none⟩) i cp ∧ i ≤ cp ∧ w.cell? ⟨g, j, none⟩ = some (.slice (some ⟨gj, 0, none⟩) 3 pj) ∧ w.cell? ⟨g, k, none⟩ = some (.slice (some ⟨gk, 0, none⟩) 3 pk) ∧ Clk w (.slice (some ⟨gj, 0, none⟩) 3 pj) (Cf cs j) ∧ Clk w (.slice (some ⟨gk, 0, none⟩) 3 pk) (Cf cs k) := by
  obtain ⟨g, cp, gj, pj, h1, h2, h3, h4⟩ := h.m.clsG h.cl hj (h.ci.len j hj)
  obtain ⟨g', cp', gk, pk, h1', h2', h3', h4'⟩ := h.m.clsG h.cl hk (h.ci.len k hk)
  have e := h1.symm.trans h1'
  simp only [Value.slice.injEq, Option.some.injEq, Addr.mk.injEq, and_true, true_and] at e
  obtain ⟨rfl, rfl⟩ := e
  exact ⟨g, cp, gj, pj, gk, pk, h1, h2, h3, h3', h4, h4'⟩
end
theorem bcall (v u : Value) (c d : List Int) (w : World) (hv : Clk w v c) (hu : Clk w u d) (hl : c.length = 3) (hl2 : d.length = 3) {b : Bool} (hb : bfB c d = b) : Calls Try.prog 13 #[v, u] w fun e w' => e = .returned (.bool b) ∧ ∃ m, w' = w.drewN m := by
  have h := before_any v u c d w hv.sl hu.sl (by omega) (by omega)
  rw [hb] at h
  exact h
section
variable {P : Program} {ops : Array Oper} {w : World} {Q : Go.Act → Prop} {a : Go.Act} {o : Oper} {rest : List Oper}
theorem wpStill_offc (b : Bool) (hb : b = false) (hw : Region.wanted o (yielded ops a.tmps) = (b == true)) (h : wpStill P ops w Q rest (a.put o.dst undef)) : wpStill P ops w Q (o :: rest) a := wpStill_off (by rw [hw, hb]; rfl) h
/-- The frame behind operations that are off. -/
def offA (a : Go.Act) : List Oper → Go.Act
  | [] => a
  | o :: l => offA (a.put o.dst undef) l
def offOk (j s : Nat) (want : Bool) (o : Oper) : Bool := o.guard == some (j, want) && (match o.dst with | some d => d != s | none => true)
theorem yielded_put {j s : Nat} (hs : (ops[j]?).bind (·.dst) = some s) {d : Option Nat} (hd : (match d with | some d => d != s | none => true) = true) (v : Value) : yielded ops (a.put d v).tmps j = yielded ops a.tmps j := by
  unfold yielded
  rw [hs]
  cases d with
  | none => rfl
  | some d =>
    have h : d ≠ s := by simpa using hd
    simp only [Option.bind_some]
    have e : (a.put (some d) v).tmps[s]? = a.tmps[s]? := by
      unfold Act.put
      simp only []
      rw [Array.getElem?_setIfInBounds_ne h]
    rw [e]
theorem wpStill_offl (j s : Nat) (want : Bool) (y : Option Bool) (hs : (ops[j]?).bind (·.dst) = some s) (hn : (y == some want) = false) : ∀ (l r : List Oper) (a : Go.Act), l.all (offOk j s want) = true → yielded ops a.tmps j = y → wpStill P ops w Q r (offA a l) → wpStill P ops w Q (l ++ r) a
  | [], _, _, _, _, h => h
  | o :: l, r, a, hl, hy, h => by
    rw [List.all_cons, Bool.and_eq_true] at hl
    obtain ⟨h1, h2⟩ := hl
    unfold offOk at h1
    rw [Bool.and_eq_true] at h1
    have hg : o.guard = some (j, want) := by simpa using h1.1
    refine wpStill_off ?_ (wpStill_offl j s want y hs hn l r _ h2 ((yielded_put hs h1.2 undef).trans hy) h)
    unfold Region.wanted
    rw [hg]
    simp only []
    rw [hy]
    exact hn
theorem wpStill_offs (n j s : Nat) (want : Bool) (y : Option Bool) {l : List Oper} (hs : (ops[j]?).bind (·.dst) = some s) (hl : (l.take n).all (offOk j s want) = true) (hy : yielded ops a.tmps j = y) (hn : (y == some want) = false) (h : wpStill P ops w Q (l.drop n) (offA a (l.take n))) : wpStill P ops w Q l a := by
  have := wpStill_offl (P := P) (w := w) (Q := Q) j s want y hs hn (l.take n) (l.drop n) a hl hy h
  rwa [List.take_append_drop] at this
end
set_option maxRecDepth 100000 in
set_option maxHeartbeats 8000000 in
theorem vclockcausal_walk (A : Option Addr) (cp : Nat) (E : List (Nat × Nat)) (w : World) (hE : Ats w (.slice A E.length cp) E) (hb8 : ∀ x ∈ E, x.1 < 256 ∧ x.2 < 256) :
    Calls Try.prog 8 #[.slice A E.length cp] w (Ok w) := by
  have HE := Lib.hid hE; have H8 := Lib.hid hb8
  have HB := Lib.hid (Below.refl w.heap.size w)
  clear hE hb8
  by_cases hn : 14 < E.length
  · go_enter Try.func8, Try.ntmps8
    go_wp2_with fail
    refine (awake_any _).mono ?_
    rintro e w1 ⟨rfl, hb⟩
    replace HB := Lib.hid (HB.out.trans (hb.mono HB.out.size))
    clear hb
    go_wp2_with fail
    refine (awake_any _).mono ?_
    rintro e w2 ⟨rfl, hb⟩
    replace HB := Lib.hid (HB.out.trans (hb.mono HB.out.size))
    clear hb
    go_wp2
    go_ret
    exact ⟨rfl, HB.out⟩
  have hn14 : E.length ≤ 14 := by omega
  go_enter Try.func8, Try.ntmps8
  go_wp2_with fail
  refine (awake_any _).mono ?_
  rintro e w1 ⟨rfl, hb⟩
  replace HB := Lib.hid (HB.out.trans (hb.mono HB.out.size))
  replace HE := Lib.hid (HE.out.below hb)
  clear hb
  have hz := zero_any 3 w1
  rw [show zeroR 3 = ([0, 0, 0], 0) from by decide] at hz
  have Hz := Lib.hid hz
  clear hz
  go_wp2_with fail
  refine Hz.out.mono ?_
  rintro e w2 ⟨v0, rfl, hown, hb2⟩
  have HC0 := Lib.hid (Clk.of_own (c := [0, 0, 0]) hown (by decide))
  have B2 := Lib.hid hb2
  obtain ⟨g0, p0, rfl, _, _, _⟩ := own_shape hown (by decide)
  clear hown hb2
  obtain ⟨j0, hj, hy0, hy1, hy2⟩ := info_parts info_bools
  obtain ⟨V, hV⟩ : ∃ V, V = w2.alloc (.cells #[.slice (some ⟨g0, 0, none⟩) 3 p0, .slice (some ⟨g0, 0, none⟩) 3 p0, .slice (some ⟨g0, 0, none⟩) 3 p0] 26) := ⟨_, rfl⟩
  have hbV : Below w2.heap.size w2 V := by rw [hV]; exact below_alloc w2 _
  have hVb : V.heap[w2.heap.size]? = some (.cells #[.slice (some ⟨g0, 0, none⟩) 3 p0, .slice (some ⟨g0, 0, none⟩) 3 p0, .slice (some ⟨g0, 0, none⟩) 3 p0] 26 (0, 0)) := by rw [hV]; exact heap_alloc_new w2 _
  have HVb := Lib.hid hVb; have HbV := Lib.hid hbV; have HV := Lib.hid hV
  have hVs : V.heap.size = w2.heap.size + 1 := by rw [hV]; simp
  have HVs := Lib.hid hVs
  clear hVb hbV hV hVs
  go_wp2_with (at_make; rw [← HV.out]; refine wpList_make_full _ rfl _ _ _ rfl V.heap.size 44 j0 _ 1 (by kernel_rfl) hj hy0 hy1 _ _ _ _ E.length rfl rfl rfl rfl (by rw [hy2]; omega) (by unfold maxLen; omega) (Nat.le_refl _) ?_; intro w3 hown hgr; have Hg := Lib.hid (made_below hgr); have Ho := Lib.hid (made_bools rfl hown); clear hgr hown)
  have B3 := Lib.hid (B2.out.trans ((HbV.out.trans (Hg.out.mono HbV.out.size)).mono B2.out.size))
  have hLI : LI E w1 w3.heap.size w2.heap.size V.heap.size 0 [[0, 0, 0], [0, 0, 0], [0, 0, 0]] [] [] [] (.slice none 0 0) w3 := by
    have hs2 := B2.out.size
    have hs3 := Hg.out.size
    have hVs := HVs.out
    have hb23 : Below w2.heap.size w2 w3 := HbV.out.trans (Hg.out.mono HbV.out.size)
    have hc3 := HC0.out.below hb23
    have hsb := lt_of_some Ho.out
    refine ⟨⟨⟨[.slice (some ⟨g0, 0, none⟩) 3 p0, .slice (some ⟨g0, 0, none⟩) 3 p0, .slice (some ⟨g0, 0, none⟩) 3 p0], rfl, (Hg.out.block _ (lt_of_some HVb.out)).trans HVb.out, fun r v c a b => ?_⟩, rfl, ⟨[], World.ownsRow_nil _ _ _ _, fun j v c a b => by simp at a⟩, by simpa using Ho.out, rfl, by simp, (fun j g r a b => by simp at a), by simp, ⟨by omega, by omega⟩, ⟨by omega, hsb⟩, (fun g hg => by simp at hg), B3.out, Nat.le_refl _⟩, rfl, rfl, ⟨rl_lt E, (fun j hj => by omega), (fun j hj => by omega), (fun j hj => by omega), (fun j hj => by omega)⟩, fun r hr => .inr ⟨(fun q hq => by omega), ?_⟩, (fun j k hj => by omega)⟩
    · match r, a, b with
      | 0, a, b => cases a; cases b; exact hc3
      | 1, a, b => cases a; cases b; exact hc3
      | 2, a, b => cases a; cases b; exact hc3
      | r + 3, a, b => simp at a
    · match r, hr with
      | 0, _ => rfl
      | 1, _ => rfl
      | 2, _ => rfl
  have HL := Lib.hid hLI
  clear hLI
  generalize w2.heap.size = nb at *
  generalize V.heap.size = bb at *
  obtain ⟨B, hB⟩ : ∃ B, B = w3.heap.size := ⟨_, rfl⟩
  rw [← hB] at HL
  clear hB Ho Hg HVs HbV HVb HV HC0 Hz j0 hj hy0 hy1 hy2 hn
  obtain ⟨i0, hi0, hz0, hz1, hz2⟩ := info_parts info_bool
  obtain ⟨k0, hk0, kz0, kz1, kz2⟩ := info_parts info_clock
  go_wp2_with fail
  go_loopw [6, 41] (fun u6 iv_ wr => ∃ (i : Nat) (nv cs : List (List Int)) (rbs : List Nat) (rows : List (List Bool)), i ≤ E.length ∧ iv_ = .int .i64 i ∧ LI E w1 B nb bb i nv cs rbs rows u6 wr) (fun _ iv_ _ => E.length - (intOf iv_).toNat)
  case atStart => exact ⟨0, _, _, _, _, Nat.zero_le _, rfl, HL.out⟩
  case round =>
    clear HL
    obtain ⟨i, nv, cs, rbs, rows, hi, rfl, hL⟩ := hrel
    have HL := Lib.hid hL
    clear hL
    by_cases hlt : i < E.length
    · obtain ⟨ad, rfl, hcap, y0, y1⟩ := (HE.out.below HL.out.m.below).at i hlt
      have hRi : Rl E i = E[i].1 % 3 := by unfold Rl; rw [List.getD_eq_getElem?_getD, List.getElem?_eq_getElem hlt]; rfl
      have h256 := H8.out _ (List.getElem_mem hlt)
      generalize E[i].1 = a at *
      generalize E[i].2 = mm at *
      have e1 : ((a : Nat) : Int).tmod 3 = ((Rl E i : Nat) : Int) := by rw [hRi]; rfl
      have hr3 := rl_lt E i
      have HRi := Lib.hid hRi
      clear hRi
      obtain ⟨r, hr⟩ : ∃ r, r = Rl E i := ⟨_, rfl⟩
      rw [← hr] at e1 hr3
      have Hr := Lib.hid hr
      clear hr
      have e2 : IntKind.i64.wrap (r : Int) = (r : Int) := by rw [IntKind.wrap_i64]; omega
      have e3 : IntKind.i64.wrap (mm : Int) = (mm : Int) := by rw [IntKind.wrap_i64]; omega
      have p0 : (0 : Int) ≤ (i : Int) := by omega
      have p1 : (i : Int) < (E.length : Int) := by omega
      go_wp2_with fail
      go_quiet (fail)
      obtain ⟨wq, hwq⟩ : ∃ wq, wq = wr.drewN nq := ⟨_, rfl⟩
      have hLq : LI E w1 B nb bb i nv cs rbs rows u6 wq := by rw [hwq]; exact HL.out.ext (Below.drewNs wr nq)
      rw [← hwq]
      have HLq := Lib.hid hLq
      clear hwq hLq HL y0 y1
      have hge : ¬ (E.length : Int) < 0 := by omega
      go_wp2_with (at_make; refine wpList_make_full _ rfl _ _ _ rfl wq.heap.size 4 i0 _ 1 (by kernel_rfl) hi0 hz0 hz1 _ _ _ _ E.length rfl rfl rfl rfl (by rw [hz2]; omega) (by unfold maxLen; omega) (Nat.le_refl _) ?_; intro w4 hown hgr; have hL4 := HLq.out.ext (made_below hgr); have ho4 := made_bools rfl hown; have hn4 := hL4.m.nilAt (by rw [hL4.rl]; exact hlt); rw [hL4.rl] at hn4; obtain ⟨hcb, hfb⟩ := hn4; have hV5 := hL4.m.addRow (g := wq.heap.size) (by rw [hL4.rl]; exact hlt) (by rw [List.map_replicate]; exact ho4) HLq.out.m.size (row_fresh HLq.out); rw [hL4.rl] at hV5; obtain ⟨vn, cn, hcn, hcn2, hck, _⟩ := hV5.nowAt r hr3; obtain ⟨gn, pn, rfl⟩ := hck.shape; have hcn3 := HLq.out.nw r hr3; rw [getD_of hcn2] at hcn3; have hln := hcn3.len HLq.out.ci; rw [hln] at hcn; have HV5 := Lib.hid hV5; have Hck := Lib.hid hck; have Hcn3 := Lib.hid hcn3; have Hln := Lib.hid hln; clear hown hgr hL4 ho4 hV5 hck hcn2 hcn3 hln)
      have hrl := HLq.out.rl
      have hcl := HLq.out.cl
      have hi14 : i ≤ 14 := by omega
      have Hnb := Lib.hid (now_bnd (E := E) Hcn3.out HLq.out.ci)
      have Hrl := Lib.hid hrl; have Hcl := Lib.hid hcl
      clear hrl hcl
      refine (tick_call _ cn r i _ (by have := Hck.out; rw [Hln.out] at this; exact this) Hln.out hr3 hi14 Hnb.out).mono ?_
      rintro e w6 ⟨v1, rfl, hk1, hb6⟩
      obtain ⟨g1, q1, rfl⟩ := hk1.shape
      have hl1 : (cn.set r (at3 cn r + 1)).length = 3 := by rw [List.length_set]; exact Hln.out
      have Hk1 := Lib.hid hk1
      rw [hl1]
      have HV6 := Lib.hid (HV5.out.ext hb6)
      have Hck6 := Lib.hid (Hck.out.below hb6)
      have Hcn6 := Lib.hid ((hb6.cell (World.block_lt_of_cell? _ _ hcn)).trans hcn)
      generalize wq.heap.size = gr at HV6 ⊢
      clear hk1 hb6 hl1 hcb hfb hcn HV5 Hck
      have hlq := HLq.out
      have hcl := Hcl.out
      have hci : CI (Rl E) (Cf cs) cs.length := by rw [hcl]; exact hlq.ci
      have hnw : IsNow (Rl E) (Cf cs) cs.length (Rl E cs.length) cn := by rw [hcl, ← Hr.out]; exact Hcn3.out
      have Hci := Lib.hid hci; have Hnw := Lib.hid hnw
      clear hlq hcl hci hnw
      go_upto_region 13 with fail
      go_cut [78] (fun v wx => v = .bool (decide (1 ≤ mm ∧ mm ≤ i)) ∧ w6 = wx)
      case first =>
        by_cases hz : mm < 1
        · have z1 : (mm : Int) < 1 := by omega
          have z2 : decide (1 ≤ mm ∧ mm ≤ i) = false := decide_eq_false (by omega)
          go_wp2_with fail
          go_meet
          case rel => exact ⟨by rw [z2], rfl⟩
        · have z1 : (1 : Int) ≤ (mm : Int) := by omega
          by_cases hy : mm ≤ i
          · have z2 : (mm : Int) ≤ (i : Int) := by omega
            have z3 : decide (1 ≤ mm ∧ mm ≤ i) = true := decide_eq_true (by omega)
            go_wp2_with fail
            go_meet
            case rel => exact ⟨by rw [z3], rfl⟩
          · have z2 : (i : Int) < (mm : Int) := by omega
            have z3 : decide (1 ≤ mm ∧ mm ≤ i) = false := decide_eq_false (by omega)
            go_wp2_with fail
            go_meet
            case rel => exact ⟨by rw [z3], rfl⟩
      case rest =>
        obtain ⟨rfl, rfl⟩ := hcut
        go_upto_if 78 with fail
        go_cut [11, 12] (fun v e wx => ∃ (m : Option Nat) (c1 : List Int) (g1 q1 : Nat), v = .slice (some ⟨g1, 0, none⟩) 3 q1 ∧ e = .int .i64 0 ∧ Hid (RX E.length w1 B nb bb i gr nv cs (rbs ++ [gr]) rows u6 (fun q => m = some q) wx) ∧ Hid (Clk wx (.slice (some ⟨g1, 0, none⟩) 3 q1) c1) ∧ Hid (New (Rl E) (Cf (cs ++ [c1])) i m cn))
        case first =>
          by_cases hmsg : 1 ≤ mm ∧ mm ≤ i
          · rw [decide_eq_true hmsg]
            obtain ⟨k, rfl⟩ : ∃ k, mm = k + 1 := ⟨mm - 1, by omega⟩
            obtain ⟨hm1, hm2⟩ := hmsg
            have hki : k < i := by omega
            obtain ⟨gc, pc, gk, pk, hu, hpc, hcc, hcl⟩ := HV6.out.clsG Hcl.out hki (HLq.out.ci.len k hki)
            subst hu
            have Hkk := Lib.hid hcl
            clear hcl
            have hcn := Hcn6.out
            have KY := Lib.hid (show ∀ w', Below w6.heap.size w6 w' → w'.cell? ⟨nb, r, none⟩ = some (.slice (some ⟨gn, 0, none⟩) 3 pn) ∧ w'.cell? ⟨gc, k, none⟩ = some (.slice (some ⟨gk, 0, none⟩) 3 pk) from fun w' h => ⟨(h.cell (World.block_lt_of_cell? _ _ hcn)).trans hcn, (h.cell (World.block_lt_of_cell? _ _ hcc)).trans hcc⟩)
            have hd1 := Below.drewNs w6 1
            have x1 : IntKind.i64.wrap ((k : Int) + 1 - 1) = (k : Int) := by rw [IntKind.wrap_i64]; omega
            have x1' : IntKind.i64.wrap (k : Int) = (k : Int) := by rw [IntKind.wrap_i64]; omega
            have x2 : (0 : Int) ≤ (k : Int) := by omega
            have x3 : (k : Int) < (i : Int) := by omega
            have x4 : (0 : Int) ≤ (r : Int) := by omega
            have x5 : (r : Int) < 3 := by omega
            have Hbk := Lib.hid (ev_bnd (E := E) HLq.out.ci hki)
            go_wp2_with fail
            go_region_held3 (fun w' => w'.cell? ⟨nb, r, none⟩ = some (.slice (some ⟨gn, 0, none⟩) 3 pn) ∧ w'.cell? ⟨gc, k, none⟩ = some (.slice (some ⟨gk, 0, none⟩) 3 pk))
              (first | (exact KY.out _ hb7) | (exact KY.out _ hd1))
              (first | (go_at_call 25; refine (recv_call _ _ cn (Cf cs k) r i _ (by have := Hck6.out.below hd1; rw [Hln.out] at this; exact this) (Hkk.out.below hd1) Hln.out (HLq.out.ci.len k hki) hr3 hi14 Hnb.out Hbk.out).mono ?_; rintro e w7 ⟨g1, q1, rfl, hk7, hb7'⟩; have hb7 := hd1.trans hb7'; have Hk7 := Lib.hid hk7))
            have HRa := Lib.hid ((rx_start HV6.out Hrl.out).ext hb7)
            obtain ⟨m, hm⟩ : ∃ m, m = some k := ⟨_, rfl⟩
            obtain ⟨c1, hc1⟩ : ∃ c, c = (List.zipWith mx cn (Cf cs k)).set r (at3 (List.zipWith mx cn (Cf cs k)) r + 1) := ⟨_, rfl⟩
            have hnew := new_some Hci.out Hnw.out (by rw [Hcl.out]; exact hki)
            rw [Hcl.out, ← Hr.out, ← hc1, ← hm] at hnew
            rw [← hc1] at Hk7
            have Hnew := Lib.hid hnew
            clear hnew hc1 hd1 hb7 hb7' hk7 Hk1 Hkk Hbk KY hcn hcc x1 x1' HV6
            have hrc := HRa.out.cell
            obtain ⟨b0, hbc, hbf, _⟩ := HRa.out.bit (show k < E.length by omega)
            have x1' : IntKind.i64.wrap (k : Int) = (k : Int) := by rw [IntKind.wrap_i64]; omega
            have x6 : (k : Int) < (E.length : Int) := by omega
            have HR := Lib.hid (HRa.out.set (Q := fun q => m = some q) k true (by omega) (fun q hq => by
              subst hm
              split
              · rename_i e; rw [e]; simp
              · rename_i e; simp only [Option.some.injEq]; exact ⟨fun h => e h.symm, False.elim⟩))
            have HK := Lib.hid (HRa.out.clk k true Hk7.out)
            go_wp2_with fail
            clear hrc hbc hbf HRa Hk7 Hck6 Hcn6 x1' x2 x3 x6 Hnb
            go_meet
            case rel => exact ⟨m, c1, g1, q1, rfl, rfl, HR, HK, Hnew⟩
          · rw [decide_eq_false hmsg]
            have x4 : (0 : Int) ≤ (r : Int) := by omega
            have x5 : (r : Int) < 3 := by omega
            obtain ⟨m, hm⟩ : ∃ m : Option Nat, m = none := ⟨_, rfl⟩
            have HR := Lib.hid ((rx_start HV6.out Hrl.out).iff (Q := fun q => m = some q) (fun q _ => by subst hm; simp))
            have hnew := new_none Hci.out Hnw.out
            have hk := Hk1.out
            rw [List.length_set, Hln.out] at hk
            obtain ⟨c1, hc1⟩ : ∃ c, c = cn.set r (at3 cn r + 1) := ⟨_, rfl⟩
            rw [Hcl.out, ← Hr.out, ← hc1, ← hm] at hnew
            rw [← hc1] at hk
            have HK := Lib.hid hk
            have Hnew := Lib.hid hnew
            clear hk hnew hc1 Hk1 HV6 Hck6 Hcn6 Hnb
            go_wp2_with fail
            go_meet
            case rel => exact ⟨m, c1, g1, q1, rfl, rfl, HR, HK, Hnew⟩
        case rest =>
          obtain ⟨m, c1, g1, q1, rfl, rfl, HR, HK, Hnew⟩ := hcut
          clear e2 e3
          have x4 : (0 : Int) ≤ (r : Int) := by omega
          have x5 : (r : Int) < 3 := by omega
          go_wp2_with fail
          have hmi : ∀ q, m = some q → q < i := Hnew.out.msg
          have Hmi := Lib.hid hmi
          clear hmi
          go_loopw [103] (fun iv_ wr => ∃ kk : Nat, kk ≤ i ∧ iv_ = .int .i64 kk ∧ RX E.length w1 B nb bb i gr nv cs (rbs ++ [gr]) rows u6 (fun q => m = some q ∨ (q < kk ∧ Rl E q = r)) wr ∧ Clk wr (.slice (some ⟨g1, 0, none⟩) 3 q1) c1) (fun iv_ _ => i - (intOf iv_).toNat)
          case atStart => exact ⟨0, Nat.zero_le _, rfl, HR.out.iff (fun q _ => by simp), HK.out⟩
          case round =>
            clear HR HK
            obtain ⟨kk, hkk, rfl, hR, hK⟩ := hrel
            have HR := Lib.hid hR; have HK := Lib.hid hK
            clear hR hK
            by_cases hlt2 : kk < i
            · have hkE : kk < E.length := by omega
              obtain ⟨ad', had, _, y0, _⟩ := (HE.out.below HR.out.below).at kk hkE
              cases had
              have hs : Rl E kk = E[kk].1 % 3 := by unfold Rl; rw [List.getD_eq_getElem?_getD, List.getElem?_eq_getElem hkE]; rfl
              have h25 := (H8.out _ (List.getElem_mem hkE)).1
              generalize E[kk].1 = a' at *
              have f1 : ((a' : Nat) : Int).tmod 3 = ((Rl E kk : Nat) : Int) := by rw [hs]; rfl
              have hs3 := rl_lt E kk
              obtain ⟨s, hs'⟩ : ∃ s, s = Rl E kk := ⟨_, rfl⟩
              rw [← hs'] at f1 hs3
              have Hs := Lib.hid hs'
              clear hs hs'
              have f2 : IntKind.i64.wrap (s : Int) = (s : Int) := by rw [IntKind.wrap_i64]; omega
              have g0 : (0 : Int) ≤ (kk : Int) := by omega
              have g1_ : (kk : Int) < (E.length : Int) := by omega
              have g2_ : (kk : Int) < (i : Int) := by omega
              by_cases e : s = r
              · subst e
                have hrc := HR.out.cell
                obtain ⟨b0, hbc, hbf, _⟩ := HR.out.bit hkE
                have HR2 := Lib.hid (HR.out.set (Q := fun q => m = some q ∨ (q < kk + 1 ∧ Rl E q = s)) kk true hkE (fun q hq => by
                  have := Hs.out
                  split
                  · rename_i e; subst e; simp; exact .inr (by omega)
                  · rename_i e
                    constructor
                    · rintro (h | ⟨h1, h2⟩)
                      · exact .inl h
                      · exact .inr ⟨by omega, h2⟩
                    · rintro (h | ⟨h1, h2⟩)
                      · exact .inl h
                      · exact .inr ⟨by omega, h2⟩))
                have HK2 := Lib.hid (HR.out.clk kk true HK.out)
                go_wp2_with fail
                go_roundw
                case rel => exact ⟨kk + 1, by omega, by go_num, HR2.out, HK2.out⟩
                case measure => simp [intOf]; omega
              · have e' : ¬ ((s : Int) = (r : Int)) := by omega
                have HR2 := Lib.hid (HR.out.iff (Q := fun q => m = some q ∨ (q < kk + 1 ∧ Rl E q = r)) (fun q _ => by
                  have := Hs.out
                  constructor
                  · rintro (h | ⟨h1, h2⟩)
                    · exact .inl h
                    · exact .inr ⟨by omega, h2⟩
                  · rintro (h | ⟨h1, h2⟩)
                    · exact .inl h
                    · refine .inr ⟨?_, h2⟩
                      have : q ≠ kk := fun h => by subst h; omega
                      omega))
                go_wp2_with fail
                go_roundw
                case rel => exact ⟨kk + 1, by omega, by go_num, HR2.out, HK.out⟩
                case measure => simp [intOf]; omega
            · obtain rfl : kk = i := by omega
              have HR3 := Lib.hid (HR.out.iff (Q := Qk (Rl E) (Cf (cs ++ [c1])) kk m 0) (fun q _ => by
                rw [qk_zero]
                unfold Dp
                rw [← Hr.out]
                exact or_comm))
              clear HR
              go_wp2_with fail
              go_loopw [123] (fun iv_ wr => ∃ k3 : Nat, k3 ≤ kk ∧ iv_ = .int .i64 k3 ∧ RX E.length w1 B nb bb kk gr nv cs (rbs ++ [gr]) rows u6 (Qk (Rl E) (Cf (cs ++ [c1])) kk m k3) wr ∧ Clk wr (.slice (some ⟨g1, 0, none⟩) 3 q1) c1) (fun iv_ _ => kk - (intOf iv_).toNat)
              case atStart => exact ⟨0, Nat.zero_le _, rfl, HR3.out, HK.out⟩
              case round =>
                clear HR3 HK
                obtain ⟨k3, hk3, rfl, hR, hK⟩ := hrel
                have HR := Lib.hid hR; have HK := Lib.hid hK
                clear hR hK
                by_cases hlt3 : k3 < kk
                · have g0 : (0 : Int) ≤ (k3 : Int) := by omega
                  have g1_ : (k3 : Int) < (E.length : Int) := by omega
                  have g2_ : (k3 : Int) < (kk : Int) := by omega
                  have hrc := HR.out.cell
                  obtain ⟨b0, hbc, hbf, hb0⟩ := HR.out.bit (show k3 < E.length by omega)
                  rw [qk_at] at hb0
                  have Hb0 := Lib.hid hb0
                  clear hb0
                  cases b0 with
                  | false =>
                    have HR2 := Lib.hid (HR.out.iff (Q := Qk (Rl E) (Cf (cs ++ [c1])) kk m (k3 + 1)) (fun q _ => (qk_no (fun h => by have := Hb0.out.2 h; cases this) q).symm))
                    go_wp2_with fail
                    go_roundw
                    case rel => exact ⟨k3 + 1, by omega, by go_num, HR2.out, HK.out⟩
                    case measure => simp [intOf]; omega
                  | true =>
                    have Hdp := Lib.hid (Hb0.out.1 rfl)
                    clear Hb0
                    go_wp2_with fail
                    clear hrc hbc hbf
                    go_loopw [134] (fun iv_ wr => ∃ jj : Nat, jj ≤ k3 ∧ iv_ = .int .i64 jj ∧ RX E.length w1 B nb bb kk gr nv cs (rbs ++ [gr]) rows u6 (Qj (Rl E) (Cf (cs ++ [c1])) kk m k3 jj) wr ∧ Clk wr (.slice (some ⟨g1, 0, none⟩) 3 q1) c1) (fun iv_ _ => k3 - (intOf iv_).toNat)
                    case atStart => exact ⟨0, Nat.zero_le _, rfl, HR.out.iff (fun q _ => (qj_zero k3 q).symm), HK.out⟩
                    case round =>
                      clear HR HK
                      obtain ⟨jj, hjj, rfl, hR, hK⟩ := hrel
                      have HR := Lib.hid hR; have HK := Lib.hid hK
                      clear hR hK
                      by_cases hlt4 : jj < k3
                      · have f0 : (0 : Int) ≤ (jj : Int) := by omega
                        have f1_ : (jj : Int) < (E.length : Int) := by omega
                        have f2_ : (jj : Int) < (k3 : Int) := by omega
                        have hrc := HR.out.cell
                        obtain ⟨b1, hbc, hbf, hb1⟩ := HR.out.bit (show jj < E.length by omega)
                        obtain ⟨go, hgc, hgb⟩ := HR.out.oldrow hlt3
                        have hob := hgb jj (by omega)
                        rw [HLq.out.rw_ k3 jj hlt3 (by omega)] at hob
                        clear hgb
                        have hmb := mb_old (R := Rl E) (cs := cs) (c := c1) (i := k3) (k := jj) (by rw [Hcl.out]; exact hlt3)
                        have HX := Lib.hid (show ∀ w', RX E.length w1 B nb bb kk gr nv cs (rbs ++ [gr]) rows u6 (Qj (Rl E) (Cf (cs ++ [c1])) kk m k3 jj) w' → RX E.length w1 B nb bb kk gr nv cs (rbs ++ [gr]) rows u6 (Qj (Rl E) (Cf (cs ++ [c1])) kk m k3 (jj + 1)) (w'.setCell ⟨gr, jj, none⟩ (.bool (b1 || decide (Mb (Rl E) (Cf cs) k3 jj)))) from fun w' hw' => hw'.set (Q := Qj (Rl E) (Cf (cs ++ [c1])) kk m k3 (jj + 1)) jj (b1 || decide (Mb (Rl E) (Cf cs) k3 jj)) (by omega) (fun q _ => by
                          rw [qj_succ]
                          split
                          · rw [Bool.or_eq_true, hb1, decide_eq_true_iff, hmb]
                          · exact Iff.rfl))
                        generalize decide (Mb (Rl E) (Cf cs) k3 jj) = b2 at hob HX
                        clear hb1 hmb
                        go_wp2_with fail
                        refine wp_region_still_tail 22 (by kernel_rfl) (by kernel_rfl) ?_
                        simp only [List.take_succ_cons, List.take_zero, List.drop_succ_cons, List.drop_zero]
                        iterate 13 still_step
                        have hbd : Below wr.heap.size wr ({ heap := wr.heap, tape := wr.tape, drawn := wr.drawn + 1, os := wr.os, output := wr.output } : World) := ⟨rfl, rfl, rfl, Nat.le_refl _, fun _ _ => rfl⟩
                        have HRy := Lib.hid (HR.out.ext hbd)
                        have HKy := Lib.hid (HK.out.below hbd)
                        clear hbd
                        by_cases hg : b1 = true
                        · iterate 7 (refine wpStill_offb b1 hg (by kernel_rfl) ?_; simp only [Act.put, List.setIfInBounds_toArray, List.set_cons_succ, List.set_cons_zero])
                          refine wpStill_run' (.bool true) (by kernel_rfl) (by simp [execOp, go_sem, Act.eval, hg]) ?_
                          simp only [Act.put, List.setIfInBounds_toArray, List.set_cons_succ]
                          still_step
                          refine wpStill_nil ?_
                          rw [hg, Bool.true_or] at HX
                          clear hrc hbc hbf hgc hob hg
                          generalize ({ heap := wr.heap, tape := wr.tape, drawn := wr.drawn + 1, os := wr.os, output := wr.output } : World) = wy at HRy HKy ⊢
                          have hrc := HRy.out.cell
                          obtain ⟨b1y, hbc, hbf, _⟩ := HRy.out.bit (show jj < E.length by omega)
                          have HR5 := Lib.hid (HX.out _ HRy.out)
                          have HK5 := Lib.hid (HRy.out.clk jj true HKy.out)
                          go_wp2_with fail
                          go_roundw
                          case rel => exact ⟨jj + 1, by omega, by go_num, HR5.out, HK5.out⟩
                          case measure => simp [intOf]; omega
                        · obtain rfl : b1 = false := by simpa using hg
                          clear hg
                          rw [Bool.false_or] at HX
                          iterate 9 still_step
                          refine wpStill_nil ?_
                          clear hrc hbc hbf hgc hob
                          generalize ({ heap := wr.heap, tape := wr.tape, drawn := wr.drawn + 1, os := wr.os, output := wr.output } : World) = wy at HRy HKy ⊢
                          have hrc := HRy.out.cell
                          obtain ⟨b1y, hbc, hbf, _⟩ := HRy.out.bit (show jj < E.length by omega)
                          have HR5 := Lib.hid (HX.out _ HRy.out)
                          have HK5 := Lib.hid (HRy.out.clk jj b2 HKy.out)
                          go_wp2_with fail
                          go_roundw
                          case rel => exact ⟨jj + 1, by omega, by go_num, HR5.out, HK5.out⟩
                          case measure => simp [intOf]; omega
                      · obtain rfl : jj = k3 := by omega
                        have HR2 := Lib.hid (HR.out.iff (Q := Qk (Rl E) (Cf (cs ++ [c1])) kk m (jj + 1)) (fun q _ => qj_end Hdp.out hlt3 q))
                        go_wp2_with fail
                        go_roundw
                        case rel => exact ⟨jj + 1, by omega, by go_num, HR2.out, HK.out⟩
                        case measure => simp [intOf]; omega
                · obtain rfl : k3 = kk := by omega
                  have hci2 := ci_old (c := c1) Hci.out
                  rw [Hcl.out] at hci2
                  have hR4 := HR.out.iff (Q := Mb (Rl E) (Cf (cs ++ [c1])) k3) (fun q _ => qk_end hci2 Hnew.out q)
                  obtain ⟨rws, hri⟩ := hR4
                  obtain ⟨vn2, cn2, hnc, _, _, hnf⟩ := hri.m.nowAt r hr3
                  have hV1 := hri.m.setNow hr3 HK.out
                  have hK1 := hri.m.clkNow r (.slice (some ⟨g1, 0, none⟩) 3 q1) HK.out
                  obtain ⟨us, hown, hus⟩ := hV1.cls
                  have HoC := Lib.hid hown
                  rw [Hcl.out] at hown
                  have hsz := hV1.size
                  have hWs : (wr.setCell ⟨nb, r, none⟩ (.slice (some ⟨g1, 0, none⟩) 3 q1)).heap.size = wr.heap.size := by simp [World.setCell]
                  have Hri := Lib.hid hri; have HV1 := Lib.hid hV1; have HK1 := Lib.hid hK1; have Hus := Lib.hid hus; have HWs := Lib.hid hWs
                  clear hri hV1 hK1 hus hci2 HR HK hWs
                  go_wp2_with (at_builtin; generalize wr.setCell ⟨nb, r, none⟩ (.slice (some ⟨g1, 0, none⟩) 3 q1) = W at HV1 HK1 Hus HoC HWs hown hsz ⊢; go_loud (refine app1S rfl _ _ 50 rfl 26 (.slice none 0 0) 24 info_clock rfl (by kernel_rfl) B _ _ _ rfl hown (.slice (some ⟨g1, 0, none⟩) 3 q1) (by first | rfl | (rw [HWs.out]; rfl)) rfl (by omega) (by omega) hsz ?_; intro v' w9 hown2 hfr))
                  go_roundw
                  case rel => exact ⟨k3 + 1, _, _, _, _, by omega, by go_num, li_next HLq.out Hnew.out Hr.out Hri.out (HV1.out.push us HoC.out Hus.out (by rw [Hcl.out]; exact hown2) hfr HK1.out)⟩
                  case measure => simp [intOf]; omega
    · obtain rfl : i = E.length := by omega
      clear hi hlt
      go_wp2_with fail
      go_loopw [172] (fun iv_ wr => ∃ a : Nat, a ≤ E.length ∧ iv_ = .int .i64 a ∧ LI E w1 B nb bb E.length nv cs rbs rows u6 wr) (fun iv_ _ => E.length - (intOf iv_).toNat)
      case atStart => exact ⟨0, Nat.zero_le _, rfl, HL.out⟩
      case round =>
        clear HL
        obtain ⟨a, ha, rfl, hL⟩ := hrel
        have HL := Lib.hid hL
        clear hL
        by_cases hlt5 : a < E.length
        · have p0 : (0 : Int) ≤ (a : Int) := by omega
          have p1 : (a : Int) < (E.length : Int) := by omega
          go_wp2_with fail
          go_loopw [176] (fun iv_ wr => ∃ b : Nat, b ≤ a ∧ iv_ = .int .i64 b ∧ LI E w1 B nb bb E.length nv cs rbs rows u6 wr) (fun iv_ _ => a - (intOf iv_).toNat)
          case atStart => exact ⟨0, Nat.zero_le _, rfl, HL.out⟩
          case round =>
            clear HL
            obtain ⟨b, hb, rfl, hL⟩ := hrel
            have HL := Lib.hid hL
            clear hL
            by_cases hlt6 : b < a
            · have q0 : (0 : Int) ≤ (b : Int) := by omega
              have q1 : (b : Int) < (E.length : Int) := by omega
              have q2 : (b : Int) < (a : Int) := by omega
              go_wp2_with fail
              go_loopw [180] (fun iv_ wr => ∃ c : Nat, c ≤ b ∧ iv_ = .int .i64 c ∧ LI E w1 B nb bb E.length nv cs rbs rows u6 wr) (fun iv_ _ => b - (intOf iv_).toNat)
              case atStart => exact ⟨0, Nat.zero_le _, rfl, HL.out⟩
              case round =>
                clear HL
                obtain ⟨c, hc, rfl, hL⟩ := hrel
                have HL := Lib.hid hL
                clear hL
                by_cases hlt7 : c < b
                · have s0 : (0 : Int) ≤ (c : Int) := by omega
                  have s1 : (c : Int) < (E.length : Int) := by omega
                  have s2 : (c : Int) < (b : Int) := by omega
                  obtain ⟨ga, hra, hca, hqa⟩ := HL.out.bit hlt5
                  obtain ⟨gb, hrb, hcb, hqb⟩ := HL.out.bit (show b < E.length by omega)
                  obtain ⟨y0, z0⟩ := hqa c (by omega)
                  obtain ⟨y1, z1⟩ := hqa b (by omega)
                  obtain ⟨y2, z2⟩ := hqb c (by omega)
                  have htr : decide (Mb (Rl E) (Cf cs) a b) = true → decide (Mb (Rl E) (Cf cs) b c) = true → decide (Mb (Rl E) (Cf cs) a c) = true := fun h1 h2 => decide_eq_true (Mb.trans HL.out.ci hlt5 (of_decide_eq_true h1) (of_decide_eq_true h2))
                  have HX := Lib.hid (show ∀ w', LI E w1 B nb bb E.length nv cs rbs rows u6 w' → LI E w1 B nb bb E.length nv cs rbs rows u6 (w'.setCell ⟨ga, c, none⟩ (.bool (decide (Mb (Rl E) (Cf cs) a c)))) ∧ w'.cell? ⟨ga, c, none⟩ = some (.bool (decide (Mb (Rl E) (Cf cs) a c))) ∧ w'.frozen? ⟨ga, c, none⟩ = false from fun w' h => ⟨h.same hra hlt5 (by omega), by
                    obtain ⟨g', e1, _, e2⟩ := h.bit hlt5
                    rw [hra] at e1
                    cases e1
                    exact e2 c (by omega)⟩)
                  generalize decide (Mb (Rl E) (Cf cs) a c) = b0 at y0 htr HX
                  generalize decide (Mb (Rl E) (Cf cs) a b) = b1 at y1 htr
                  generalize decide (Mb (Rl E) (Cf cs) b c) = b2 at y2 htr
                  have Htr := Lib.hid htr
                  clear htr hqa hqb hra hrb z1 z2
                  go_wp2_with fail
                  refine wp_region_still_tail 31 (by kernel_rfl) (by kernel_rfl) ?_
                  simp only [List.take_succ_cons, List.take_zero, List.drop_succ_cons, List.drop_zero]
                  iterate 13 still_step
                  have hbd : ∀ (o : World), Below o.heap.size o ({ heap := o.heap, tape := o.tape, drawn := o.drawn + 1, os := o.os, output := o.output } : World) := fun o => ⟨rfl, rfl, rfl, Nat.le_refl _, fun _ _ => rfl⟩
                  have HRy := Lib.hid (HL.out.ext (hbd wr))
                  clear hbd
                  by_cases hg : b0 = true
                  · have hyn : ((some b0 : Option Bool) == some false) = false := by rw [hg]; rfl
                    with_reducible refine wpStill_offs 8 12 195 false (some b0) (by kernel_rfl) (by kernel_rfl) (by kernel_rfl) hyn ?_
                    simp only [List.take_succ_cons, List.take_zero, List.drop_succ_cons, List.drop_zero, offA, Act.put, List.setIfInBounds_toArray, List.set_cons_succ, List.set_cons_zero]
                    with_reducible refine wpStill_offs 7 20 203 true none (by kernel_rfl) (by kernel_rfl) (by kernel_rfl) (by kernel_rfl) ?_
                    simp only [List.take_succ_cons, List.take_zero, List.drop_succ_cons, List.drop_zero, offA, Act.put, List.setIfInBounds_toArray, List.set_cons_succ, List.set_cons_zero]
                    with_reducible refine wpStill_offs 1 12 195 false (some b0) (by kernel_rfl) (by kernel_rfl) (by kernel_rfl) hyn ?_
                    simp only [List.take_succ_cons, List.take_zero, List.drop_succ_cons, List.drop_zero, offA, Act.put, List.setIfInBounds_toArray, List.set_cons_succ, List.set_cons_zero]
                    with_reducible refine wpStill_run' (.bool true) (by kernel_rfl) (by simp [execOp, go_sem, Act.eval, hg]) ?_
                    simp only [Act.put, List.setIfInBounds_toArray, List.set_cons_succ]
                    still_step
                    refine wpStill_nil ?_
                    rw [hg] at HX
                    generalize ({ heap := wr.heap, tape := wr.tape, drawn := wr.drawn + 1, os := wr.os, output := wr.output } : World) = wy at HRy ⊢
                    clear y0 y1 y2 z0 hca hcb hyn hg Htr
                    obtain ⟨y3, y0, z0⟩ := HX.out _ HRy.out
                    have HR5 := Lib.hid y3
                    clear y3
                    go_wp2_with fail
                    go_roundw
                    case rel => exact ⟨c + 1, by omega, by go_num, HR5.out⟩
                    case measure => simp [intOf]; omega
                  · obtain rfl : b0 = false := by simpa using hg
                    clear hg
                    iterate 8 still_step
                    by_cases hg : b1 = true
                    · obtain rfl : b2 = false := by
                        cases b2
                        · rfl
                        · exact absurd (Htr.out hg rfl) (by decide)
                      subst hg
                      clear Htr
                      iterate 10 still_step
                      refine wpStill_nil ?_
                      generalize ({ heap := wr.heap, tape := wr.tape, drawn := wr.drawn + 1, os := wr.os, output := wr.output } : World) = wy at HRy ⊢
                      clear y0 y1 y2 z0 hca hcb
                      obtain ⟨y3, y0, z0⟩ := HX.out _ HRy.out
                      have HR5 := Lib.hid y3
                      clear y3
                      go_wp2_with fail
                      go_roundw
                      case rel => exact ⟨c + 1, by omega, by go_num, HR5.out⟩
                      case measure => simp [intOf]; omega
                    · have hg1 : b1 = false := by simpa using hg
                      clear hg Htr
                      have hyn : ((some b1 : Option Bool) == some true) = false := by rw [hg1]; rfl
                      with_reducible refine wpStill_offs 7 20 203 true (some b1) (by kernel_rfl) (by kernel_rfl) (by kernel_rfl) hyn ?_
                      simp only [List.take_succ_cons, List.take_zero, List.drop_succ_cons, List.drop_zero, offA, Act.put, List.setIfInBounds_toArray, List.set_cons_succ, List.set_cons_zero]
                      with_reducible refine wpStill_run' (.bool false) (by kernel_rfl) (by simp [execOp, go_sem, Act.eval, hg1]) ?_
                      simp only [Act.put, List.setIfInBounds_toArray, List.set_cons_succ]
                      still_step
                      still_step
                      refine wpStill_nil ?_
                      generalize ({ heap := wr.heap, tape := wr.tape, drawn := wr.drawn + 1, os := wr.os, output := wr.output } : World) = wy at HRy ⊢
                      clear y0 y1 y2 z0 hca hcb hyn hg1
                      obtain ⟨y3, y0, z0⟩ := HX.out _ HRy.out
                      have HR5 := Lib.hid y3
                      clear y3
                      go_wp2_with fail
                      go_roundw
                      case rel => exact ⟨c + 1, by omega, by go_num, HR5.out⟩
                      case measure => simp [intOf]; omega
                · obtain rfl : c = b := by omega
                  go_wp2_with fail
                  go_roundw
                  case rel => exact ⟨c + 1, by omega, by go_num, HL.out⟩
                  case measure => simp [intOf]; omega
            · obtain rfl : b = a := by omega
              go_wp2_with fail
              go_loopw [217] (fun iv_ wr => ∃ k : Nat, k ≤ b ∧ iv_ = .int .i64 k ∧ LI E w1 B nb bb E.length nv cs rbs rows u6 wr) (fun iv_ _ => b - (intOf iv_).toNat)
              case atStart => exact ⟨0, Nat.zero_le _, rfl, HL.out⟩
              case round =>
                clear HL
                obtain ⟨k, hk, rfl, hL⟩ := hrel
                have HL := Lib.hid hL
                clear hL
                by_cases hlt8 : k < b
                · have q0 : (0 : Int) ≤ (k : Int) := by omega
                  have q1 : (k : Int) < (E.length : Int) := by omega
                  have q2 : (k : Int) < (b : Int) := by omega
                  obtain ⟨g, cq, gk, pk, gi, pi, rfl, hcq, hck, hci, hKk, hKi⟩ := HL.out.two (show k < E.length by omega) hlt5
                  have Hk := Lib.hid hKk; have Hi := Lib.hid hKi
                  have Lk := Lib.hid (HL.out.ci.len k (by omega)); have Li := Lib.hid (HL.out.ci.len b hlt5)
                  obtain ⟨ga, hra, hca, hqa⟩ := HL.out.bit hlt5
                  obtain ⟨y0, z0⟩ := hqa k (by omega)
                  obtain ⟨m1, m2⟩ := before_mb HL.out.ci hlt5 hlt8
                  generalize decide (Mb (Rl E) (Cf cs) b k) = b0 at y0 m1
                  have M1 := Lib.hid m1; have M2 := Lib.hid m2
                  have HB1 := Lib.hid (fun m => bcall (.slice (some ⟨gk, 0, none⟩) 3 pk) (.slice (some ⟨gi, 0, none⟩) 3 pi) (Cf cs k) (Cf cs b) (wr.drewN m) (hKk.below (Below.drewNs _ _)) (hKi.below (Below.drewNs _ _)) Lk.out Li.out m1)
                  have HB2 := Lib.hid (fun m => bcall (.slice (some ⟨gi, 0, none⟩) 3 pi) (.slice (some ⟨gk, 0, none⟩) 3 pk) (Cf cs b) (Cf cs k) (wr.drewN m) (hKi.below (Below.drewNs _ _)) (hKk.below (Below.drewNs _ _)) Li.out Lk.out m2)
                  clear m1 m2 hKk hKi hqa hra z0 M1 M2 Hk Hi Lk Li
                  go_wp2_with fail
                  have hbn : (!(b0 == b0)) = false := by simp
                  have hbn2 : (b0 != b0) = false := by simp
                  go_quiet (first
                    | (go_at_call 13; with_reducible exact Calls.quiet_of (HB1.out _))
                    | (go_at_call 13; with_reducible exact Calls.quiet_of (HB2.out _)))
                  go_wp2_with fail
                  go_roundw
                  case rel => exact ⟨k + 1, by omega, by go_num, HL.out.ext (Below.drewNs _ _)⟩
                  case measure => simp [intOf]; omega
                · obtain rfl : k = b := by omega
                  go_wp2_with fail
                  go_roundw
                  case rel => exact ⟨k + 1, by omega, by go_num, HL.out⟩
                  case measure => simp [intOf]; omega
        · obtain rfl : a = E.length := by omega
          go_wp2_with fail
          go_ret
          exact ⟨rfl, HB.out.trans (HL.out.m.below.mono HB.out.size)⟩
end Go.Proofs.Ytgfnhkipoicmiaa
