/- nfa's closure. -/
import Derived.Test.YtockgbilbnheaaaDoorNfaAdd
import Derived.Test.YtockgbilbnheaaaDoorNfaSet
import Derived.OwnWalk
namespace Go.Proofs.YtockgbilbnheaaaDoor
open Go.RowKit

/-- What is reached from l by empty arcs. -/
inductive Rc (ar : List Ac) (l : List Int) : Int → Prop
 | base {n : Int} : n ∈ l → Rc ar l n
 | step {n m : Int} : Rc ar l n → (n, 0, m) ∈ ar → Rc ar l m
/-- The arcs are those of a valid automaton. -/
structure VA (S : Nat) (ar : List Ac) : Prop where
 srt : Srt ar
 fr : ∀ x ∈ ar, 0 ≤ x.1 ∧ x.1 < S
 lt : ∀ x ∈ ar, 0 ≤ x.2.1 ∧ x.2.1 ≤ 10000
 to : ∀ x ∈ ar, 0 ≤ x.2.2 ∧ x.2.2 < S
 few : ar.length ≤ 2000
theorem cmpA_not {x y : Ac} : ¬ cmpA x y < 0 ↔ ¬ LtA x y := not_congr cmpA_neg
/-- The empty arcs of a state, and those with a letter. -/
theorem along_mem {S : Nat} {ar : List Ac} (h : VA S ar) {n c : Int} {x : Ac} : x ∈ btw ar (n, c, 0) (n, c + 1, 0) ↔ x ∈ ar ∧ x.1 = n ∧ x.2.1 = c := by
 rw [btw_mem h.srt (cmpA_neg.2 (by unfold LtA; dsimp only; omega)), cmpA_neg, cmpA_neg]
 constructor
 ·rintro ⟨h1, h2, h3⟩
  have h4 := h.to x h1
  refine ⟨h1, ?_⟩
  unfold LtA at h2 h3
  dsimp only at h2 h3
  omega
 ·rintro ⟨h1, h2, h3⟩
  have h4 := h.to x h1
  refine ⟨h1, ?_, ?_⟩
  ·unfold LtA; dsimp only; omega
  ·unfold LtA; dsimp only; omega
theorem lettered_mem {S : Nat} {ar : List Ac} (h : VA S ar) {n : Int} {x : Ac} : x ∈ btw ar (n, 1, 0) (n + 1, 0, 0) ↔ x ∈ ar ∧ x.1 = n ∧ 1 ≤ x.2.1 := by
 rw [btw_mem h.srt (cmpA_neg.2 (by unfold LtA; dsimp only; omega)), cmpA_neg, cmpA_neg]
 constructor
 ·rintro ⟨h1, h2, h3⟩
  have h4 := h.to x h1
  have h5 := h.lt x h1
  refine ⟨h1, ?_⟩
  unfold LtA at h2 h3
  dsimp only at h2 h3
  omega
 ·rintro ⟨h1, h2, h3⟩
  have h4 := h.to x h1
  have h5 := h.lt x h1
  refine ⟨h1, ?_, ?_⟩
  ·unfold LtA; dsimp only; omega
  ·unfold LtA; dsimp only; omega
/-- A set of the program: v holds the words ws of the set of those n for which P holds. -/
structure SetIs (w : World) (v : Value) (ws : List Nat) (P : Nat → Prop) : Prop where
 st : Wst w v ws
 can : Canon ws
 wds : Wds ws
 len : ws.length ≤ 64
 has : ∀ n, has ws n = true ↔ P n
def CloP (P : Nat → Prop) (w : World) (e : Ending) (w' : World) : Prop := ∃ v ws, e = .returned v ∧ SetIs w' v ws P ∧ Below w.heap.size w w'
theorem CS.below {w w' : World} {B qb sb sg S : Nat} {q : List Int} (h : CS w B qb sb sg S q) (hb : Below w.heap.size w w') : CS w' B qb sb sg S q := by
 obtain ⟨qv, h1, h2⟩ := h.qu
 exact ⟨⟨qv, (hb.block _ (lt_of_some h1)).trans h1, own_below h2 hb⟩, (hb.block _ (lt_of_some h.se)).trans h.se, (hb.block _ (lt_of_some h.ro)).trans h.ro, ⟨h.lo.1, h.lo.2.1, h.lo.2.2.1, Nat.le_trans h.lo.2.2.2 hb.size⟩, h.nd, h.bd⟩
def Lp1 (w : World) (B qb sb sg S : Nat) (l : List Int) (i : Value) (wr : World) : Prop :=
 ∃ k : Nat, k ≤ l.length ∧ i = .int .i64 k ∧ ∃ q, CS wr B qb sb sg S q ∧ (∀ x, x ∈ q ↔ x ∈ l.take k) ∧ Below B w wr
def Lp2 (w : World) (B qb sb sg S : Nat) (ar : List Ac) (l : List Int) (i : Value) (wr : World) : Prop :=
 ∃ (h : Nat) (q : List Int), i = .int .i64 h ∧ h ≤ q.length ∧ CS wr B qb sb sg S q ∧ (∀ x ∈ q, Rc ar l x) ∧ (∀ x ∈ l, x ∈ q) ∧ (∀ i n, i < h → q[i]? = some n → ∀ m, (n, 0, m) ∈ ar → m ∈ q) ∧ Below B w wr
def Lp3 (w : World) (B qb sb sg S : Nat) (ar : List Ac) (l : List Int) (q : List Int) (r : List Ac) (i : Value) (wr : World) : Prop :=
 ∃ (k : Nat) (q' : List Int), k ≤ r.length ∧ i = .int .i64 k ∧ CS wr B qb sb sg S q' ∧ q <+: q' ∧ (∀ x ∈ q', Rc ar l x) ∧ (∀ x ∈ r.take k, x.2.2 ∈ q') ∧ Below B w wr
theorem pre_ins {q q' : List Int} {n : Int} (h : q <+: q') : q <+: ins1 q' n := by
 unfold ins1
 split
 ·exact h
 ·exact h.trans (List.prefix_append _ _)
theorem marks_nil (S : Nat) : marks S [] = List.replicate S (.bool false) := by
 unfold marks
 apply List.ext_getElem
 ·simp
 ·intro i h1 h2; simp
/-- The two boxes and the row at the start. -/
theorem CS.start {w w1 : World} {S g : Nat} {o : Obj} (hg : g = w.heap.size + 1 + 1)
  (hown : w1.ownsRow w.heap.size 4 1 (.slice (some ⟨g, 0, none⟩) S S) S (List.replicate S (.bool false)))
  (hgr : ((w.alloc o).alloc (.cells #[.slice none 0 0] 22)).grownBy w1 none) :
  CS (w1.alloc (.cells #[.slice (some ⟨g, 0, none⟩) S S] 23)) (w.heap.size + 1) (w.heap.size + 1) w1.heap.size g S [] ∧ Below (w.heap.size + 1) (w.alloc o) (w1.alloc (.cells #[.slice (some ⟨g, 0, none⟩) S S] 23)) ∧ w.heap.size + 3 ≤ w1.heap.size := by
 have hsz : w.heap.size + 1 + 1 ≤ w1.heap.size := by have := hgr.size; simpa using this
 rcases hown.2 with ⟨h0, _⟩ | ⟨g2, cap, cur, h0, _, hcur, _, _, h3, h4⟩
 ·cases h0
 ·simp only [Value.slice.injEq, Option.some.injEq, Addr.mk.injEq, and_true, true_and] at h0
  obtain ⟨rfl, rfl⟩ := h0
  rw [Nat.mul_one] at h3 h4
  rw [List.take_of_length_le (by rw [Array.length_toList, h3]; exact Nat.le_refl _)] at h4
  have hgl := lt_of_some hcur
  have hsz3 : w.heap.size + 3 ≤ w1.heap.size := by omega
  have hb : Below (w.heap.size + 1) (w.alloc o) (w1.alloc (.cells #[.slice (some ⟨g, 0, none⟩) S S] 23)) := by
   have h1 : Below (w.heap.size + 1) (w.alloc o) ((w.alloc o).alloc (.cells #[.slice none 0 0] 22)) := (Below.refl _ _).alloc (by simp) _
   have h2 : Below (w.heap.size + 1) ((w.alloc o).alloc (.cells #[.slice none 0 0] 22)) w1 := ⟨hgr.os, hgr.tape, hgr.output, hgr.size, fun k hk => hgr.block k (by simp; omega) (by simp)⟩
   exact (h1.trans h2).alloc (by omega) _
  refine ⟨⟨⟨.slice none 0 0, ?_, World.ownsRow_nil _ _ _ _⟩, heap_alloc_new w1 _, ?_, ⟨by omega, by omega, by omega, by simp; omega⟩, List.nodup_nil, by simp⟩, hb, hsz3⟩
  ·have e1 : ((w.alloc o).alloc (.cells #[.slice none 0 0] 22)).heap[w.heap.size + 1]? = some (.cells #[.slice none 0 0] 22 (0, 0)) := heap_alloc_2' w _ _
   exact (Below.heap_alloc w1 _ _ (by omega)).trans ((hgr.block _ (by simp) (by simp)).trans e1)
  ·refine (Below.heap_alloc w1 _ _ (by omega)).trans ?_
   rw [hcur]
   congr 2
   apply Array.toList_inj.1
   rw [h4, marks_nil]
set_option maxRecDepth 100000 in
set_option maxHeartbeats 4000000 in
theorem closure_any (S : Nat) (st fi v : Value) (ar : List Ac) (A : Option Addr) (c : Nat) (l : List Int) (w : World) (ha : Acs w v ar) (hv : VA S ar) (hS : S ≤ 200) (hl : Sl iv w (.slice A l.length c) l) (hll : l.length ≤ 100000000) (hb : ∀ x ∈ l, 0 ≤ x ∧ x < (S : Int)) :
  Calls Tryd.prog 23 #[.agg #[.int .i64 (S : Int), st, fi, v], .slice A l.length c] w (CloP (fun n => Rc ar l n) w) := by
 have Ha := Lib.hid ha; have Hv := Lib.hid hv; have Hl := Lib.hid hl; have Hb := Lib.hid hb
 clear ha hv hl hb
 obtain ⟨i0, hi, hz0, hz1, hz2⟩ := info_parts info_bool
 go_enter Tryd.func23, Tryd.ntmps23
 go_wp2_with (at_make; refine wpList_make_full _ rfl _ _ _ rfl w.heap.size 4 i0 _ 1 (by kernel_rfl) hi hz0 hz1 _ _ _ _ S rfl rfl rfl rfl (by rw [hz2]; omega) (by unfold maxLen; omega) (by simp; omega) ?_; intro w1 hown hgr)
 have hst := CS.start (w := w) (w1 := w1) (S := S) (g := w.heap.size + 1 + 1) (o := .cells #[.int .i64 (S : Int), st, fi, v] 32) rfl (by rw [← toList_madeCells_one (.bool false) S]; simpa [Value.cells] using hown) hgr
 obtain ⟨w2, hw2⟩ : ∃ w2, w2 = w1.alloc (Obj.cells #[Value.slice (some ⟨w.heap.size + 1 + 1, 0, none⟩) S S] 23) := ⟨_, rfl⟩
 obtain ⟨sb, hsb⟩ : ∃ sb, sb = w1.heap.size := ⟨_, rfl⟩
 rw [← hw2, ← hsb] at hst
 rw [← hw2, ← hsb]
 obtain ⟨hcs, hbl, hsz⟩ := hst
 have hbw : Below w.heap.size w w2 := ((Below.refl _ w).alloc (Nat.le_refl _) _).trans (hbl.mono (by omega))
 have hbx : w2.heap[w.heap.size]? = some (.cells #[.int .i64 (S : Int), st, fi, v] 32 (0, 0)) := (hbl.block _ (by omega)).trans (heap_alloc_new w _)
 have Hcs := Lib.hid hcs; have Hbw := Lib.hid hbw; have Hbx := Lib.hid hbx
 have KB := Lib.hid (show ∀ w', Below (w.heap.size + 1) w2 w' → Below w.heap.size w w' from fun w' h => hbw.trans (h.mono (by omega)))
 have KX := Lib.hid (show ∀ w', Below (w.heap.size + 1) w2 w' → w'.heap[w.heap.size]? = some (.cells #[.int .i64 (S : Int), st, fi, v] 32 (0, 0)) from fun w' h => (h.block _ (by omega)).trans hbx)
 clear hcs hbl hsz hbw hbx hw2 hsb hown hgr hz0 hz1 hz2 hi
 go_loopw [19] (fun i wr => Lp1 w2 (w.heap.size + 1) (w.heap.size + 1) sb (w.heap.size + 1 + 1) S l i wr) (fun i _ => l.length - (intOf i).toNat)
 case atStart => exact ⟨0, Nat.zero_le _, rfl, [], Hcs.out, by simp, Below.refl _ _⟩
 case round =>
  obtain ⟨k, hk, rfl, q, hcs, hq, hb⟩ := hrel
  have HC := Lib.hid hcs; have HQ := Lib.hid hq; have HB := Lib.hid hb
  clear hcs hq hb
  by_cases hlt : k < l.length
  ·obtain ⟨ad, c', hs, hcap, hcell⟩ := sl_cell (Hl.out.below (KB.out _ HB.out)) k hlt
   simp only [Value.slice.injEq, true_and] at hs
   obtain ⟨rfl, rfl⟩ := hs
   have hbd := Hb.out _ (List.getElem_mem hlt)
   have htk : ∀ x, x ∈ l.take (k + 1) ↔ x ∈ l.take k ∨ x = l[k] := fun x => by rw [List.take_succ_eq_append_getElem hlt, List.mem_append, List.mem_singleton]
   obtain ⟨n, hn⟩ : ∃ n, n = l[k] := ⟨_, rfl⟩
   rw [← hn] at hcell hbd htk
   have Htk := Lib.hid htk; clear htk hn
   unfold iv at hcell
   go_wp2_with fail
   refine (add_any _ (w.heap.size + 1) (w.heap.size + 1) sb (w.heap.size + 1 + 1) S q n HC.out hbd.1 hbd.2 (by omega)).mono ?_
   rintro e w4 ⟨rfl, hcs4, hb4⟩
   have C4 := Lib.hid hcs4; have B4 := Lib.hid (HB.out.trans hb4); clear hcs4 hb4
   go_wp2
   go_roundw
   case rel => exact ⟨k + 1, by omega, by go_num, _, C4.out, fun x => by rw [mem_ins1, HQ.out, Htk.out], B4.out⟩
   case measure => simp [intOf]; omega
  ·have HQ2 := Lib.hid (show ∀ x, x ∈ q ↔ x ∈ l by have := HQ.out; rw [List.take_of_length_le (by omega)] at this; exact this)
   have C3 := Lib.hid HC.out; have B3 := Lib.hid HB.out
   clear HC HB HQ
   go_wp2_with fail
   clear hlt hk
   go_loopw [10] (fun i wr => Lp2 w2 (w.heap.size + 1) (w.heap.size + 1) sb (w.heap.size + 1 + 1) S ar l i wr) (fun i _ => S + 1 - (intOf i).toNat)
   case atStart => exact ⟨0, q, rfl, Nat.zero_le _, C3.out, fun x hx => .base ((HQ2.out x).1 hx), fun x hx => (HQ2.out x).2 hx, fun i n h => by omega, B3.out⟩
   case round =>
    obtain ⟨h, q, rfl, hh, hcs, hrc, hlq, hcl, hb⟩ := hrel
    have HC := Lib.hid hcs; have Hrc := Lib.hid hrc; have Hlq := Lib.hid hlq; have Hcl := Lib.hid hcl; have HB := Lib.hid hb
    have hlen := nodup_len hcs.nd hcs.bd
    clear hcs hrc hlq hcl hb
    obtain ⟨qv, hq1, hq2⟩ := HC.out.qu
    obtain ⟨Aq, cq, rfl⟩ := own_shapeA hq2
    have e0 := cell_of_row _ _ 0 _ _ _ hq1
    have HSq := Lib.hid (Sl.of_own (f := iv) hq2)
    by_cases hlt : h < q.length
    ·obtain ⟨ad, c', hs, hcap, hcell⟩ := sl_cell HSq.out h hlt
     simp only [Value.slice.injEq, true_and] at hs
     obtain ⟨rfl, rfl⟩ := hs
     have Hq1 := Lib.hid hq1
     clear hq1 hq2 e0
     have hbd := HC.out.bd _ (List.getElem_mem hlt)
     have hrcn := Hrc.out _ (List.getElem_mem hlt)
     obtain ⟨n, hn⟩ : ∃ n, n = q[h] := ⟨_, rfl⟩
     rw [← hn] at hcell hbd hrcn
     have Hn := Lib.hid hn; have Hrcn := Lib.hid hrcn; clear hn hrcn
     unfold iv at hcell
     have Keep := Lib.hid (show ∀ w', Below wr.heap.size wr w' → w'.cell? ⟨w.heap.size, 0, none⟩ = some (.int .i64 (S : Int)) ∧ w'.cell? ⟨w.heap.size, 1, none⟩ = some st ∧ w'.cell? ⟨w.heap.size, 2, none⟩ = some fi ∧ w'.cell? ⟨w.heap.size, 3, none⟩ = some v ∧ w'.cell? ⟨w.heap.size + 1, 0, none⟩ = some (.slice (some ad) q.length cq) ∧ w'.cell? (ad.add h) = some (.int .i64 n) from fun w' hb' => by
      have g1 := (hb'.block _ (lt_of_some (KX.out _ HB.out))).trans (KX.out _ HB.out)
      have g2 := (hb'.block _ (lt_of_some Hq1.out)).trans Hq1.out
      exact ⟨cell_of_row _ _ 0 _ _ _ g1, cell_of_row _ _ 1 _ _ _ g1, cell_of_row _ _ 2 _ _ _ g1, cell_of_row _ _ 3 _ _ _ g1, cell_of_row _ _ 0 _ _ _ g2, by rw [hb'.cell (World.block_lt_of_cell? _ _ hcell)]; exact hcell⟩)
     obtain ⟨x0, x1, x2, x3, e0, e1⟩ := Keep.out _ (Below.refl _ _)
     have h0 : (0 : Int) ≤ (h : Int) := by omega
     have h1 : (h : Int) < (q.length : Int) := by omega
     obtain ⟨r, hr⟩ : ∃ r, r = btw ar (n, 0, 0) (n, 0 + 1, 0) := ⟨_, rfl⟩
     have hpq : cmpA (n, 0, 0) (n, 0 + 1, 0) < 0 := cmpA_neg.2 (by unfold LtA; dsimp only; omega)
     obtain ⟨va, hva⟩ : ∃ va, va = btwV v ar (n, 0, 0) (n, 0 + 1, 0) := ⟨_, rfl⟩
     have hacs := fun (w' : World) (hb' : Below w.heap.size w w') => (Ha.out.below hb').btw hpq
     obtain ⟨Ar, cr, hsh⟩ : ∃ Ar cr, va = .slice Ar r.length cr := by
      obtain ⟨A0, c0, h0⟩ := Ha.out.shape
      rw [hva, hr]
      exact btwV_shape h0 ar _ _ hpq
     rw [← hva, ← hr] at hacs
     have hal := fun (W : World) (hW : Below w.heap.size w W) => along_any (S : Int) st fi v ar n 0 W (Ha.out.below hW) Hv.out.srt (by have := Hv.out.few; omega) (by decide) (by decide)
     unfold BtwP at hal
     rw [← hva, hsh] at hal
     rw [hsh] at hacs
     have Hal := Lib.hid hal; have Hacs := Lib.hid hacs
     have Hr := Lib.hid (show ∀ x, x ∈ r ↔ x ∈ ar ∧ x.1 = n ∧ x.2.1 = 0 from fun x => by rw [hr]; exact along_mem Hv.out)
     have hrl : r.length ≤ 2000 := by rw [hr]; exact Nat.le_trans (btw_len _ _ _) Hv.out.few
     clear hva hr hsh hal hacs hpq hcell
     go_wp2_with fail
     go_region_held3 (fun w' => w'.cell? ⟨w.heap.size, 0, none⟩ = some (.int .i64 (S : Int)) ∧ w'.cell? ⟨w.heap.size, 1, none⟩ = some st ∧ w'.cell? ⟨w.heap.size, 2, none⟩ = some fi ∧ w'.cell? ⟨w.heap.size, 3, none⟩ = some v ∧ w'.cell? ⟨w.heap.size + 1, 0, none⟩ = some (.slice (some ad) q.length cq) ∧ w'.cell? (ad.add h) = some (.int .i64 n))
      (first | (exact ⟨x0, x1, x2, x3, e0, e1⟩) | (exact Keep.out _ hb5))
      (first
       | (go_at_call 47; refine (Hal.out _ (Below.drewN' (KB.out _ HB.out) 1)).mono ?_; rintro e w5 ⟨rfl, hb5'⟩; have hb5 : Below wr.heap.size wr w5 := ⟨hb5'.os, hb5'.tape, hb5'.output, hb5'.size, hb5'.block⟩))
     have C5 := Lib.hid (HC.out.below hb5)
     have B5 := Lib.hid (HB.out.trans (hb5.mono (Nat.le_trans Hcs.out.lo.2.2.2 HB.out.size)))
     clear hb5 hb5' x0 x1 x2 x3 e0 e1
     go_wp2_with fail
     have hhq : h < q.length := hlt
     go_loopw [40] (fun i wr => Lp3 w2 (w.heap.size + 1) (w.heap.size + 1) sb (w.heap.size + 1 + 1) S ar l q r i wr) (fun i _ => r.length - (intOf i).toNat)
     case atStart => exact ⟨0, q, Nat.zero_le _, rfl, C5.out, List.prefix_refl _, Hrc.out, by simp, B5.out⟩
     case round =>
      obtain ⟨k, q', hk, rfl, hcs, hpre, hrc, hdn, hb⟩ := hrel
      have HC' := Lib.hid hcs; have Hpre := Lib.hid hpre; have Hrc' := Lib.hid hrc; have Hdn := Lib.hid hdn; have HB' := Lib.hid hb
      clear hcs hpre hrc hdn hb
      by_cases hlt : k < r.length
      ·obtain ⟨ad2, rfl, _, hcap2, y0, y1, y2⟩ := (Hacs.out _ (KB.out _ HB'.out)).at k hlt
       have hxm := (Hr.out _).1 (List.getElem_mem hlt)
       have hto := Hv.out.to _ hxm.1
       have htk : ∀ x, x ∈ r.take (k + 1) ↔ x ∈ r.take k ∨ x = r[k] := fun x => by rw [List.take_succ_eq_append_getElem hlt, List.mem_append, List.mem_singleton]
       obtain ⟨⟨z0, z1, z2⟩, hz⟩ : ∃ z, z = r[k] := ⟨_, rfl⟩
       rw [← hz] at y0 y1 y2 hxm hto htk
       dsimp only at y0 y1 y2 hto
       obtain ⟨hxm1, hxm2, hxm3⟩ := hxm
       dsimp only at hxm2 hxm3
       subst hxm2 hxm3
       have Hxm := Lib.hid hxm1; have Htk := Lib.hid htk
       clear hxm1 htk hz
       have g0 : (0 : Int) ≤ (k : Int) := by omega
       have g1 : (k : Int) < (r.length : Int) := by omega
       have hca := HC'.out.below ((Below.refl _ _).alloc (Nat.le_refl _) (.cells #[.int .i64 z0, .int .i64 0, .int .i64 z2] 52))
       have Hca := Lib.hid hca; clear hca
       go_wp2_with fail
       refine (add_any _ (w.heap.size + 1) (w.heap.size + 1) sb (w.heap.size + 1 + 1) S q' z2 Hca.out hto.1 hto.2 (by omega)).mono ?_
       rintro e w6 ⟨rfl, hcs6, hb6⟩
       have C6 := Lib.hid hcs6
       have B6 := Lib.hid ((HB'.out.alloc (Nat.le_trans Hcs.out.lo.2.2.2 HB'.out.size) _).trans hb6); clear hcs6 hb6
       go_wp2
       go_roundw
       case rel =>
        refine ⟨k + 1, _, by omega, by go_num, C6.out, pre_ins Hpre.out, fun x hx => ?_, fun x hx => ?_, B6.out⟩
        ·rcases mem_ins1.1 hx with h | h
         ·exact Hrc'.out x h
         ·rw [h]; exact .step Hrcn.out Hxm.out
        ·rcases (Htk.out x).1 hx with h | h
         ·exact mem_ins1.2 (.inl (Hdn.out x h))
         ·rw [h]; exact mem_ins1.2 (.inr rfl)
       case measure => simp [intOf]; omega
      ·go_wp2_with fail
       go_roundw
       case rel =>
        have hql := Hpre.out.length_le
        have hsub : ∀ x ∈ q, x ∈ q' := fun x hx => Hpre.out.subset hx
        have hdn2 := Hdn.out
        rw [List.take_of_length_le (by omega)] at hdn2
        refine ⟨h + 1, q', by go_num, by omega, HC'.out, Hrc'.out, fun x hx => hsub x (Hlq.out x hx), fun i m hi hm p hp => ?_, HB'.out⟩
        have hiq : q[i]? = some m := by
         rw [← hm]
         obtain ⟨t, rfl⟩ := Hpre.out
         rw [List.getElem?_append_left (by omega)]
        by_cases hih : i < h
        ·exact hsub p (Hcl.out i m hih hiq p hp)
        ·obtain rfl : i = h := by omega
         have hmn : m = n := by
          rw [Hn.out]
          rw [List.getElem?_eq_getElem (by omega)] at hiq
          exact (Option.some.inj hiq).symm
         exact hdn2 (m, 0, p) ((Hr.out _).2 ⟨hp, hmn, rfl⟩)
       case measure => simp [intOf]; omega
    ·obtain rfl : h = q.length := by omega
     have Hhas := Lib.hid (show ∀ n : Nat, has (mk q) n = true ↔ Rc ar l n from fun n => by
      rw [mk_has, decide_eq_true_iff]
      constructor
      ·rintro ⟨_, h2⟩; exact Hrc.out _ h2
      ·intro h2
       have key : ∀ x, Rc ar l x → x ∈ q := by
        intro x hx
        induction hx with
        | base hx => exact Hlq.out _ hx
        | step _ ha ih =>
         obtain ⟨i, hi, e⟩ := List.getElem_of_mem ih
         exact Hcl.out i _ hi (by rw [List.getElem?_eq_getElem hi, e]) _ ha
       have h3 := key _ h2
       have h4 := HC.out.bd _ h3
       exact ⟨by omega, h3⟩)
     go_wp2_with fail
     refine (make_wst _ q _ HSq.out (by unfold Room2; omega)).mono ?_
     rintro e w6 ⟨v6, rfl, hw6, hb6⟩
     have W6 := Lib.hid hw6
     have B6 := Lib.hid ((KB.out _ HB.out).trans (hb6.mono (KB.out _ HB.out).size)); clear hw6 hb6
     go_wp2
     go_ret
     exact ⟨v6, mk q, rfl, ⟨W6.out, mk_canon q, mk_wds q, mk_len q, Hhas.out⟩, B6.out⟩
end Go.Proofs.YtockgbilbnheaaaDoor
