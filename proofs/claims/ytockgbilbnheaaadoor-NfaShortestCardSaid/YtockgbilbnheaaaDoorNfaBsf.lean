/- slices.BinarySearchFunc at arcs. -/
import Derived.Test.YtockgbilbnheaaaDoorNfaComp
import Derived.Deep.RegionHeld3
import Derived.Deep.QuietTactic
import Derived.BigQuiet
namespace Go.Proofs.YtockgbilbnheaaaDoor
open Go.RowKit

/-- The arc x lies at a. -/
def Ak (w : World) (a : Addr) (x : Ac) : Prop := w.cell? a = some (.int .i64 x.1) ∧ w.cell? ⟨a.block, a.off + 1, none⟩ = some (.int .i64 x.2.1) ∧ w.cell? ⟨a.block, a.off + 2, none⟩ = some (.int .i64 x.2.2)
/-- v is a slice that holds the arcs l, in blocks that are there, or nil without any. -/
def Acs (w : World) (v : Value) (l : List Ac) : Prop :=
 (v = .slice none 0 0 ∧ l = []) ∨ ∃ ad c, v = .slice (some ad) l.length c ∧ l.length ≤ c ∧ ∀ j x, l[j]? = some x → Ak w (ad.add (j * 3)) x
section
variable {w w' : World} {v : Value} {l : List Ac}
theorem Acs.shape (h : Acs w v l) : ∃ A c, v = .slice A l.length c := by
 rcases h with ⟨rfl, rfl⟩ | ⟨ad, c, rfl, _⟩
 ·exact ⟨none, 0, rfl⟩
 ·exact ⟨some ad, c, rfl⟩
theorem Ak.below {a : Addr} {x : Ac} (h : Ak w a x) (hb : Below w.heap.size w w') : Ak w' a x :=
 ⟨by rw [hb.cell (World.block_lt_of_cell? _ _ h.1), h.1], by rw [hb.cell (World.block_lt_of_cell? _ _ h.2.1), h.2.1], by rw [hb.cell (World.block_lt_of_cell? _ _ h.2.2), h.2.2]⟩
theorem Acs.below (h : Acs w v l) (hb : Below w.heap.size w w') : Acs w' v l := by
 rcases h with h | ⟨ad, c, hv, hc, hcell⟩
 ·exact .inl h
 ·exact .inr ⟨ad, c, hv, hc, fun j b hj => (hcell j b hj).below hb⟩
theorem Acs.at {A : Option Addr} {n c : Nat} (h : Acs w (.slice A n c) l) (k : Nat) (hk : k < l.length) : ∃ ad, A = some ad ∧ n = l.length ∧ n ≤ c ∧ Ak w (ad.add (k * 3)) l[k] := by
 rcases h with ⟨_, h0⟩ | ⟨ad, c', hv, hc, hcell⟩
 ·rw [h0] at hk; simp at hk
 ·simp only [Value.slice.injEq] at hv
  exact ⟨ad, hv.1, hv.2.1, by omega, hcell k _ (List.getElem?_eq_getElem hk)⟩
end
theorem Acs.cap {w : World} {A : Option Addr} {n c : Nat} {l : List Ac} (h : Acs w (.slice A n c) l) {k : Nat} (hk : k < l.length) : n ≤ c := by
 obtain ⟨_, _, _, h, _⟩ := h.at k hk
 exact h
/-- How many arcs come before x. -/
def idxA (l : List Ac) (x : Ac) : Nat := l.countP fun y => decide (cmpA y x < 0)
theorem idxA_of {l : List Ac} {x : Ac} {i : Nat} (hi : i ≤ l.length) (h1 : ∀ k (hk : k < l.length), k < i → cmpA l[k] x < 0) (h2 : ∀ k (hk : k < l.length), i ≤ k → ¬ cmpA l[k] x < 0) : idxA l x = i := by
 unfold idxA
 conv => lhs; rw [← List.take_append_drop i l]
 rw [List.countP_append]
 have a1 : (l.take i).countP (fun y => decide (cmpA y x < 0)) = (l.take i).length := by
  rw [List.countP_eq_length]
  intro y hy
  obtain ⟨k, hk, rfl⟩ := List.getElem_of_mem hy
  rw [List.length_take] at hk
  rw [List.getElem_take]
  simpa using h1 k (by omega) (by omega)
 have a2 : (l.drop i).countP (fun y => decide (cmpA y x < 0)) = 0 := by
  rw [List.countP_eq_zero]
  intro y hy
  obtain ⟨k, hk, rfl⟩ := List.getElem_of_mem hy
  rw [List.length_drop] at hk
  rw [List.getElem_drop]
  simpa using h2 (i + k) (by omega) (by omega)
 rw [a1, a2, List.length_take]
 omega
def Srt (l : List Ac) : Prop := l.Pairwise fun x y => cmpA x y < 0
theorem LtA.trans {x y z : Ac} (h : LtA x y) (k : LtA y z) : LtA x z := by
 unfold LtA at *; omega
theorem cmpA_trans {x y z : Ac} (h : cmpA x y < 0) (k : cmpA y z < 0) : cmpA x z < 0 := cmpA_neg.2 ((cmpA_neg.1 h).trans (cmpA_neg.1 k))
theorem Srt.lt {l : List Ac} (h : Srt l) {i j : Nat} (hij : i < j) (hj : j < l.length) : cmpA l[i] l[j] < 0 := List.pairwise_iff_getElem.1 h i j (by omega) hj hij

theorem below_ext2 {a b c : World} (h : Below a.heap.size a b) (k : Below b.heap.size b c) : Below a.heap.size a c := h.trans (k.mono h.size)
theorem Below.drewN' {B : Nat} {a w : World} (h : Below B a w) (m : Nat) : Below B a (w.drewN m) := ⟨h.os, h.tape, h.output, h.size, h.block⟩
def BsfR (l : List Ac) (x : Ac) (W : World) (u9 u10 : Value) (wr : World) : Prop :=
 ∃ i j : Nat, i ≤ j ∧ j ≤ l.length ∧ u9 = .int .i64 i ∧ u10 = .int .i64 j ∧ Below W.heap.size W wr ∧ (∀ k (hk : k < l.length), k < i → cmpA l[k] x < 0) ∧ (∀ k (hk : k < l.length), j ≤ k → 0 ≤ cmpA l[k] x)
def BsfP (l : List Ac) (x : Ac) (w : World) (e : Ending) (w' : World) : Prop := ∃ b, e = .returned (.tuple #[.int .i64 (idxA l x : Nat), .bool b]) ∧ Below w.heap.size w w' ∧ (b = true ↔ x ∈ l)
set_option maxRecDepth 100000 in
set_option maxHeartbeats 2000000 in
theorem bsf_any (v : Value) (l : List Ac) (x : Ac) (w : World) (h : Acs w v l) (hs : Srt l) (hl : l.length ≤ 1000000) :
  Calls Tryd.prog 71 #[v, av x, .func (.func 45) #[] #[]] w (BsfP l x w) := by
 obtain ⟨A, c, rfl⟩ := h.shape
 obtain ⟨x0, x1, x2⟩ := x
 have H := Lib.hid h; have Hs := Lib.hid hs
 clear h hs
 unfold av
 dsimp only
 go_enter Tryd.func71, Tryd.ntmps71
 go_wp2_with fail
 obtain ⟨W, hW⟩ : ∃ W : World, W = w.alloc (Obj.cells #[Value.int IntKind.i64 x0, Value.int IntKind.i64 x1, Value.int IntKind.i64 x2] 52) := ⟨_, rfl⟩
 have hbw : Below w.heap.size w W := by rw [hW]; exact (Below.refl _ w).alloc (Nat.le_refl _) _
 have hWs : W.heap.size = w.heap.size + 1 := by rw [hW]; simp
 have hbx : W.heap[w.heap.size]? = some (Obj.cells #[Value.int IntKind.i64 x0, Value.int IntKind.i64 x1, Value.int IntKind.i64 x2] 52 (0, 0)) := by rw [hW]; exact heap_alloc_new w _
 rw [← hW]
 have Hbw := Lib.hid hbw; have Hbx := Lib.hid hbx; have HWs := Lib.hid hWs
 clear hW hbw hbx hWs
 go_loopw [9, 10] (fun u9 u10 wr => BsfR l (x0, x1, x2) W u9 u10 wr) (fun u9 u10 _ => (intOf u10).toNat - (intOf u9).toNat)
 case atStart => exact ⟨0, l.length, by omega, Nat.le_refl _, rfl, rfl, Below.refl _ _, fun k hk h0 => by omega, fun k hk h0 => by omega⟩
 case round =>
  obtain ⟨i, j, hij, hj, rfl, rfl, hb, h1, h2⟩ := hrel
  have Hb := Lib.hid hb; have H1 := Lib.hid h1; have H2 := Lib.hid h2
  clear hb h1 h2
  by_cases hlt : i < j
  ·obtain ⟨m, hmd, him, hmj⟩ : ∃ m : Nat, ((i : Int) + (j : Int)) / 2 = (m : Int) ∧ i ≤ m ∧ m < j := ⟨(i + j) / 2, by omega, by omega, by omega⟩
   have hml : m < l.length := by omega
   have hu : IntKind.u64.wrap ((i : Int) + (j : Int)) = (i : Int) + (j : Int) := u64_wraps _ (by omega) (by omega)
   have Hz := Lib.hid (below_ext2 Hbw.out Hb.out)
   have KeepA := Lib.hid (show ∀ w', Below wr.heap.size wr w' → ∃ ad, A = some ad ∧ Ak w' (ad.add (m * 3)) l[m] ∧ Ak w' ⟨w.heap.size, 0, none⟩ (x0, x1, x2) from fun w' hb' => by
    obtain ⟨ad, h1, _, _, h2⟩ := ((H.out.below Hz.out).below hb').at m hml
    have g : ∀ (o : Nat) (u : Value), W.cell? ⟨w.heap.size, o, none⟩ = some u → w'.cell? ⟨w.heap.size, o, none⟩ = some u := fun o u hu => by
     rw [hb'.cell (p := ⟨w.heap.size, o, none⟩) (by have := HWs.out; have := Hb.out.size; simp; omega), Hb.out.cell (p := ⟨w.heap.size, o, none⟩) (by have := HWs.out; simp; omega)]
     exact hu
    exact ⟨ad, h1, h2, g 0 _ (cell_of_row W w.heap.size 0 _ _ _ Hbx.out), g 1 _ (cell_of_row W w.heap.size 1 _ _ _ Hbx.out), g 2 _ (cell_of_row W w.heap.size 2 _ _ _ Hbx.out)⟩)
   obtain ⟨ad, rfl, ⟨hk0, hk1, hk2⟩, b0, b1, b2⟩ := KeepA.out _ (Below.refl _ _)
   have hcap := Acs.cap H.out hml
   obtain ⟨⟨y0, y1, y2⟩, hy⟩ : ∃ y, y = l[m] := ⟨_, rfl⟩
   rw [← hy] at hk0 hk1 hk2 KeepA
   have Hy := Lib.hid hy; clear hy
   simp only at hk0 hk1 hk2 b0 b1 b2
   have i0 : (0 : Int) ≤ (m : Int) := by omega
   have i1 : (m : Int) < (l.length : Int) := by omega
   obtain ⟨r, hr⟩ : ∃ r, r = cmpA (y0, y1, y2) (x0, x1, x2) := ⟨_, rfl⟩
   have hcmp := fun W2 : World => compare_any (y0, y1, y2) (x0, x1, x2) W2
   rw [← hr] at hcmp
   unfold av at hcmp
   dsimp only at hcmp
   have Hcmp := Lib.hid hcmp; have Hr := Lib.hid hr
   clear hcmp hr
   by_cases hneg : r < 0
   ·have hd : decide (r < 0) = true := decide_eq_true hneg
    go_wp2_with fail
    go_region_held3 (fun w' => w'.cell? (ad.add (m * 3)) = some (.int .i64 y0) ∧ w'.cell? ⟨(ad.add (m * 3)).block, (ad.add (m * 3)).off + 1, none⟩ = some (.int .i64 y1) ∧ w'.cell? ⟨(ad.add (m * 3)).block, (ad.add (m * 3)).off + 2, none⟩ = some (.int .i64 y2) ∧ w'.cell? ⟨w.heap.size, 0, none⟩ = some (.int .i64 x0) ∧ w'.cell? ⟨w.heap.size, 1, none⟩ = some (.int .i64 x1) ∧ w'.cell? ⟨w.heap.size, 2, none⟩ = some (.int .i64 x2))
     (first | (exact ⟨hk0, hk1, hk2, b0, b1, b2⟩) | (obtain ⟨_, e1, ⟨g0, g1, g2⟩, g3, g4, g5⟩ := KeepA.out _ hb5; cases e1; exact ⟨g0, g1, g2, g3, g4, g5⟩))
     (first
      | (go_at_call 45; refine (Hcmp.out _).mono ?_; rintro e w5 ⟨rfl, hb5'⟩; have hb5 : Below wr.heap.size wr w5 := ⟨hb5'.os, hb5'.tape, hb5'.output, hb5'.size, hb5'.block⟩))
    have HB5 := Lib.hid (below_ext2 Hb.out hb5)
    clear hb5 hb5'
    go_wp2
    go_roundw
    case rel =>
     refine ⟨m + 1, j, by omega, hj, by go_num, rfl, HB5.out, fun k hk hkm => ?_, H2.out⟩
     have hrm : cmpA l[m] (x0, x1, x2) < 0 := by rw [← Hy.out, ← Hr.out]; exact hneg
     by_cases hk2 : k = m
     ·subst hk2; exact hrm
     ·exact cmpA_trans (Hs.out.lt (by omega) hml) hrm
    case measure => simp [intOf]; omega
   ·have hd : decide (r < 0) = false := decide_eq_false hneg
    go_wp2_with fail
    go_region_held3 (fun w' => w'.cell? (ad.add (m * 3)) = some (.int .i64 y0) ∧ w'.cell? ⟨(ad.add (m * 3)).block, (ad.add (m * 3)).off + 1, none⟩ = some (.int .i64 y1) ∧ w'.cell? ⟨(ad.add (m * 3)).block, (ad.add (m * 3)).off + 2, none⟩ = some (.int .i64 y2) ∧ w'.cell? ⟨w.heap.size, 0, none⟩ = some (.int .i64 x0) ∧ w'.cell? ⟨w.heap.size, 1, none⟩ = some (.int .i64 x1) ∧ w'.cell? ⟨w.heap.size, 2, none⟩ = some (.int .i64 x2))
     (first | (exact ⟨hk0, hk1, hk2, b0, b1, b2⟩) | (obtain ⟨_, e1, ⟨g0, g1, g2⟩, g3, g4, g5⟩ := KeepA.out _ hb5; cases e1; exact ⟨g0, g1, g2, g3, g4, g5⟩))
     (first
      | (go_at_call 45; refine (Hcmp.out _).mono ?_; rintro e w5 ⟨rfl, hb5'⟩; have hb5 : Below wr.heap.size wr w5 := ⟨hb5'.os, hb5'.tape, hb5'.output, hb5'.size, hb5'.block⟩))
    have HB5 := Lib.hid (below_ext2 Hb.out hb5)
    clear hb5 hb5'
    go_wp2
    go_roundw
    case rel =>
     refine ⟨i, m, him, by omega, rfl, rfl, HB5.out, H1.out, fun k hk hkm => ?_⟩
     have hrm : 0 ≤ cmpA l[m] (x0, x1, x2) := by rw [← Hy.out, ← Hr.out]; omega
     by_cases hk2 : k = m
     ·subst hk2; omega
     ·refine Int.not_lt.1 fun h => ?_
      have h3 := cmpA_trans (Hs.out.lt (i := m) (j := k) (by omega) hk) h
      omega
    case measure => simp [intOf]; omega
  ·obtain rfl : i = j := by omega
   have Hi : Hid (idxA l (x0, x1, x2) = i) := Lib.hid (idxA_of hj H1.out fun k hk h => Int.not_lt.2 (H2.out k hk h))
   by_cases hml : i < l.length
   ·have Hz := Lib.hid (below_ext2 Hbw.out Hb.out)
    have KeepA := Lib.hid (show ∀ w', Below wr.heap.size wr w' → ∃ ad, A = some ad ∧ Ak w' (ad.add (i * 3)) l[i] ∧ Ak w' ⟨w.heap.size, 0, none⟩ (x0, x1, x2) from fun w' hb' => by
     obtain ⟨ad, h1, _, _, h2⟩ := ((H.out.below Hz.out).below hb').at i hml
     have g : ∀ (o : Nat) (u : Value), W.cell? ⟨w.heap.size, o, none⟩ = some u → w'.cell? ⟨w.heap.size, o, none⟩ = some u := fun o u hu => by
      rw [hb'.cell (p := ⟨w.heap.size, o, none⟩) (by have := HWs.out; have := Hb.out.size; simp; omega), Hb.out.cell (p := ⟨w.heap.size, o, none⟩) (by have := HWs.out; simp; omega)]
      exact hu
     exact ⟨ad, h1, h2, g 0 _ (cell_of_row W w.heap.size 0 _ _ _ Hbx.out), g 1 _ (cell_of_row W w.heap.size 1 _ _ _ Hbx.out), g 2 _ (cell_of_row W w.heap.size 2 _ _ _ Hbx.out)⟩)
    obtain ⟨ad, rfl, ⟨hk0, hk1, hk2⟩, b0, b1, b2⟩ := KeepA.out _ (Below.refl _ _)
    have hcap := Acs.cap H.out hml
    obtain ⟨⟨y0, y1, y2⟩, hy⟩ : ∃ y, y = l[i] := ⟨_, rfl⟩
    rw [← hy] at hk0 hk1 hk2 KeepA
    have Hy := Lib.hid hy; clear hy
    simp only at hk0 hk1 hk2 b0 b1 b2
    have i0 : (0 : Int) ≤ (i : Int) := by omega
    have i1 : (i : Int) < (l.length : Int) := by omega
    obtain ⟨r, hr⟩ : ∃ r, r = cmpA (y0, y1, y2) (x0, x1, x2) := ⟨_, rfl⟩
    have hcmp := fun W2 : World => compare_any (y0, y1, y2) (x0, x1, x2) W2
    rw [← hr] at hcmp
    unfold av at hcmp
    dsimp only at hcmp
    have Hcmp := Lib.hid hcmp; have Hr := Lib.hid hr
    clear hcmp hr
    obtain ⟨b, hbd⟩ : ∃ b, b = (r == 0) := ⟨_, rfl⟩
    have hbm : b = true ↔ (x0, x1, x2) ∈ l := by
     rw [hbd, beq_iff_eq, Hr.out, cmpA_zero, Hy.out]
     constructor
     ·intro h; rw [← h]; exact List.getElem_mem hml
     ·intro h
      obtain ⟨k, hk, e⟩ := List.getElem_of_mem h
      have hnz : cmpA (x0, x1, x2) (x0, x1, x2) = 0 := cmpA_zero.2 rfl
      have k1 : ¬ k < i := fun h => by have := H1.out k hk h; rw [e, hnz] at this; omega
      by_cases k2 : k = i
      ·subst k2; exact e
      ·exfalso
       have h3 := Hs.out.lt (i := i) (j := k) (by omega) hk
       rw [e] at h3
       have h4 := H2.out i hml (Nat.le_refl _)
       omega
    have Hbm := Lib.hid hbm
    have Hbd := Lib.hid hbd
    clear hbm hbd
    go_wp2_with fail
    go_region_held3 (fun w' => w'.cell? (ad.add (i * 3)) = some (.int .i64 y0) ∧ w'.cell? ⟨(ad.add (i * 3)).block, (ad.add (i * 3)).off + 1, none⟩ = some (.int .i64 y1) ∧ w'.cell? ⟨(ad.add (i * 3)).block, (ad.add (i * 3)).off + 2, none⟩ = some (.int .i64 y2) ∧ w'.cell? ⟨w.heap.size, 0, none⟩ = some (.int .i64 x0) ∧ w'.cell? ⟨w.heap.size, 1, none⟩ = some (.int .i64 x1) ∧ w'.cell? ⟨w.heap.size, 2, none⟩ = some (.int .i64 x2))
     (first | (exact ⟨hk0, hk1, hk2, b0, b1, b2⟩) | (obtain ⟨_, e1, ⟨g0, g1, g2⟩, g3, g4, g5⟩ := KeepA.out _ hb5; cases e1; exact ⟨g0, g1, g2, g3, g4, g5⟩))
     (first
      | (go_at_call 45; refine (Hcmp.out _).mono ?_; rintro e w5 ⟨rfl, hb5'⟩; have hb5 : Below wr.heap.size wr w5 := ⟨hb5'.os, hb5'.tape, hb5'.output, hb5'.size, hb5'.block⟩))
    have HB5 := Lib.hid (below_ext2 Hb.out hb5)
    clear hb5 hb5'
    go_wp2
    go_ret2
    refine ⟨b, ?_, below_ext2 Hbw.out HB5.out, Hbm.out⟩
    rw [Hbd.out, Hi.out]
    rfl
   ·have hnm : (x0, x1, x2) ∉ l := fun h => by
     obtain ⟨k, hk, e⟩ := List.getElem_of_mem h
     have h3 := H1.out k hk (by omega)
     have hnz : cmpA (x0, x1, x2) (x0, x1, x2) = 0 := cmpA_zero.2 rfl
     rw [e, hnz] at h3
     omega
    have Hnm := Lib.hid hnm; clear hnm
    go_wp2_with fail
    go_quiet (fail)
    go_wp2
    go_ret2
    refine ⟨false, ?_, Below.drewN' (below_ext2 Hbw.out Hb.out) _, by simp [Hnm.out]⟩
    rw [Hi.out]
    rfl
end Go.Proofs.YtockgbilbnheaaaDoor
