/- nfa's step. -/
import Derived.Test.YtockgbilbnheaaaDoorNfaClo
namespace Go.Proofs.YtockgbilbnheaaaDoor
open Go.RowKit

/-- What is reached by empty arcs from where Q holds. -/
inductive Cl (ar : List Ac) (Q : Int → Prop) : Int → Prop
 | base {n : Int} : Q n → Cl ar Q n
 | step {n m : Int} : Cl ar Q n → (n, 0, m) ∈ ar → Cl ar Q m
theorem rc_cl {ar : List Ac} {l : List Int} {n : Int} : Rc ar l n ↔ Cl ar (fun x => x ∈ l) n := by
 constructor
 ·intro h
  induction h with
  | base h => exact .base h
  | step _ ha ih => exact .step ih ha
 ·intro h
  induction h with
  | base h => exact .base h
  | step _ ha ih => exact .step ih ha
theorem Cl.mono {ar : List Ac} {Q R : Int → Prop} (hqr : ∀ n, Q n → R n) {n : Int} (h : Cl ar Q n) : Cl ar R n := by
 induction h with
 | base h => exact .base (hqr _ h)
 | step _ ha ih => exact .step ih ha
theorem Cl.congr {ar : List Ac} {Q R : Int → Prop} (hqr : ∀ n, Q n ↔ R n) {n : Int} : Cl ar Q n ↔ Cl ar R n := ⟨Cl.mono fun n => (hqr n).1, Cl.mono fun n => (hqr n).2⟩
/-- Where an arc with the letter c leads from where Q holds. -/
def Arr (ar : List Ac) (Q : Int → Prop) (c p : Int) : Prop := 1 ≤ c ∧ c ≤ 10000 ∧ ∃ m, Q m ∧ (m, c, p) ∈ ar
/-- The step from a closure. -/
def Sp (ar : List Ac) (Q : Int → Prop) (c : Int) : Int → Prop := Cl ar (Arr ar Q c)
/-- A set's elements, as states. -/
def Els (ws : List Nat) (x : Int) : Prop := ∃ k : Nat, x = k ∧ has ws k = true
theorem els_mem {ws : List Nat} {x : Int} : (∃ k ∈ els ws, x = ((k : Nat) : Int)) ↔ Els ws x := by
 constructor
 ·rintro ⟨k, h1, h2⟩; exact ⟨k, h2, (mem_els ws k).1 h1⟩
 ·rintro ⟨k, h1, h2⟩; exact ⟨k, (mem_els ws k).2 h2, h1⟩
def St2 (w : World) (B : Nat) (ar : List Ac) (c : Int) (L : List Nat) (u7 i : Value) (wr : World) : Prop :=
 ∃ (k : Nat) (xs : List Int), k ≤ L.length ∧ i = .int .i64 k ∧ wr.ownsRow B 3 1 u7 xs.length (xs.map iv) ∧ (∀ p, p ∈ xs ↔ ∃ m ∈ L.take k, ((m : Int), c, p) ∈ ar) ∧ xs.length ≤ 2000 * k ∧ Below B w wr ∧ B ≤ wr.heap.size
def St3 (w : World) (B : Nat) (xs : List Int) (r : List Ac) (u7 i : Value) (wr : World) : Prop :=
 ∃ (k : Nat) (ys : List Int), k ≤ r.length ∧ i = .int .i64 k ∧ wr.ownsRow B 3 1 u7 ys.length (ys.map iv) ∧ (∀ p, p ∈ ys ↔ p ∈ xs ∨ ∃ x ∈ r.take k, x.2.2 = p) ∧ ys.length ≤ xs.length + k ∧ Below B w wr ∧ B ≤ wr.heap.size
set_option maxRecDepth 100000 in
set_option maxHeartbeats 4000000 in
theorem step_any (S : Nat) (st fi v vs : Value) (ar : List Ac) (ws : List Nat) (c : Int) (w : World) (ha : Acs w v ar) (hv : VA S ar) (hS : S ≤ 200) (hs : Sl uv w vs ws) (hws : Wds ws) (hwl : ws.length ≤ 64) (hT : Tab w) :
  Calls Tryd.prog 26 #[.agg #[.int .i64 (S : Int), st, fi, v], vs, .int .i64 c] w (CloP (fun n => Sp ar (Els ws) c n) w) := by
 have Ha := Lib.hid ha; have Hv := Lib.hid hv; have Hs := Lib.hid hs; have Hws := Lib.hid hws; have HT := Lib.hid hT
 have hT0 := hT.size
 clear ha hv hs hws hT
 have hbw : Below w.heap.size w (w.alloc (.cells #[.int .i64 (S : Int), st, fi, v] 32)) := (Below.refl _ w).alloc (Nat.le_refl _) _
 obtain ⟨W, hW⟩ : ∃ W, W = w.alloc (.cells #[.int .i64 (S : Int), st, fi, v] 32) := ⟨_, rfl⟩
 have hWs : W.heap.size = w.heap.size + 1 := by rw [hW]; simp
 have hWb : W.heap[w.heap.size]? = some (.cells #[.int .i64 (S : Int), st, fi, v] 32 (0, 0)) := by rw [hW]; exact heap_alloc_new w _
 rw [← hW] at hbw
 have Hbw := Lib.hid hbw; have HWs := Lib.hid hWs
 have KB := Lib.hid (show ∀ w', Below (w.heap.size + 1) W w' → Below w.heap.size w w' from fun w' h => hbw.trans (h.mono (by omega)))
 have KX := Lib.hid (show ∀ w', Below (w.heap.size + 1) W w' → w'.cell? ⟨w.heap.size, 0, none⟩ = some (.int .i64 (S : Int)) ∧ w'.cell? ⟨w.heap.size, 1, none⟩ = some st ∧ w'.cell? ⟨w.heap.size, 2, none⟩ = some fi ∧ w'.cell? ⟨w.heap.size, 3, none⟩ = some v from fun w' h => by
  have g1 := (h.block _ (by omega)).trans hWb
  exact ⟨cell_of_row _ _ 0 _ _ _ g1, cell_of_row _ _ 1 _ _ _ g1, cell_of_row _ _ 2 _ _ _ g1, cell_of_row _ _ 3 _ _ _ g1⟩)
 -- the end: the closure of the list
 have Hend := Lib.hid (show ∀ (w' : World) (u : Value) (xs : List Int) (B : Nat), Below (w.heap.size + 1) W w' → w'.ownsRow B 3 1 u xs.length (xs.map iv) → xs.length ≤ 100000000 → (∀ p, p ∈ xs ↔ Arr ar (Els ws) c p) → Calls Tryd.prog 23 #[.agg #[.int .i64 (S : Int), st, fi, v], u] w' (CloP (fun n => Sp ar (Els ws) c n) w) from fun w' u xs B hb hown hl hx => by
  obtain ⟨A, c0, rfl⟩ := own_shapeA hown
  refine (closure_any S st fi v ar A c0 xs w' (Ha.out.below (KB.out _ hb)) Hv.out hS (Sl.of_own hown) hl (fun x hx2 => ?_)).mono ?_
  ·obtain ⟨_, _, m, _, h2⟩ := (hx x).1 hx2
   exact Hv.out.to _ h2
  ·rintro e w2 ⟨v2, ws2, rfl, h2, hb2⟩
   exact ⟨v2, ws2, rfl, ⟨h2.st, h2.can, h2.wds, h2.len, fun n => (h2.has n).trans (rc_cl.trans (Cl.congr hx))⟩, (KB.out _ hb).trans (hb2.mono (KB.out _ hb).size)⟩)
 clear hbw hWs hWb
 by_cases hc : 1 ≤ c ∧ c ≤ 10000
 ·have hd : decide (1 ≤ c ∧ c ≤ 10000) = true := decide_eq_true hc
  go_enter Tryd.func26, Tryd.ntmps26
  go_wp2_with fail
  rw [← hW]
  clear hW
  refine (isletter_any c _).mono ?_
  rintro e w9 ⟨rfl, rfl⟩
  rw [hd]
  go_wp2_with fail
  refine (list_any vs ws W (Hs.out.below Hbw.out) (by unfold Room2; omega) Hws.out (HT.out.below Hbw.out hT0)).mono ?_
  rintro e w1 ⟨vl, rfl, hsl, hb1⟩
  obtain ⟨L, hL⟩ : ∃ L, L = els ws := ⟨_, rfl⟩
  rw [← hL] at hsl
  have hLl : L.length ≤ 4096 := by rw [hL]; exact els_len_le ws
  obtain ⟨Al, cl, rfl⟩ := hsl.shape
  have HL := Lib.hid hL
  have HB1 := Lib.hid (show Below (w.heap.size + 1) W w1 by have := HWs.out; rw [← this]; exact hb1)
  have KL := Lib.hid (show ∀ w', Below w1.heap.size w1 w' → Sl nv w' (.slice Al L.length cl) L from fun w' h => hsl.below h)
  clear hL hsl hb1
  have KW := Lib.hid (show ∀ w', Below w1.heap.size w1 w' → Below (w.heap.size + 1) W w' from fun w' h => HB1.out.trans (h.mono (by have := HB1.out.size; have := HWs.out; omega)))
  go_wp2_with fail
  go_loopw [7, 17] (fun u7 i wr => St2 w1 w1.heap.size ar c L u7 i wr) (fun _ i _ => L.length - (intOf i).toNat)
  case atStart => exact ⟨0, [], Nat.zero_le _, rfl, World.ownsRow_nil _ _ _ _, by simp, by simp, Below.refl _ _, Nat.le_refl _⟩
  case round =>
   obtain ⟨k, xs, hk, rfl, hown, hx, hxl, hb, hBs⟩ := hrel
   have HO := Lib.hid hown; have HX := Lib.hid hx; have HB := Lib.hid hb
   clear hown hx hb
   by_cases hlt : k < L.length
   ·obtain ⟨ad, c', hs, hcap, hcell⟩ := sl_cell (KL.out _ HB.out) k hlt
    simp only [Value.slice.injEq, true_and] at hs
    obtain ⟨rfl, rfl⟩ := hs
    have htk : ∀ x, x ∈ L.take (k + 1) ↔ x ∈ L.take k ∨ x = L[k] := fun x => by rw [List.take_succ_eq_append_getElem hlt, List.mem_append, List.mem_singleton]
    obtain ⟨n, hn⟩ : ∃ n, n = L[k] := ⟨_, rfl⟩
    rw [← hn] at hcell htk
    have Htk := Lib.hid htk; clear htk hn
    unfold nv at hcell
    obtain ⟨x0, x1, x2, x3⟩ := KX.out _ (KW.out _ HB.out)
    obtain ⟨r, hr⟩ : ∃ r, r = btw ar ((n : Int), c, 0) ((n : Int), c + 1, 0) := ⟨_, rfl⟩
    have hpq : cmpA ((n : Int), c, 0) ((n : Int), c + 1, 0) < 0 := cmpA_neg.2 (by unfold LtA; dsimp only; omega)
    obtain ⟨va, hva⟩ : ∃ va, va = btwV v ar ((n : Int), c, 0) ((n : Int), c + 1, 0) := ⟨_, rfl⟩
    have hacs := fun (w' : World) (hb' : Below w.heap.size w w') => (Ha.out.below hb').btw hpq
    obtain ⟨Ar, cr, hsh⟩ : ∃ Ar cr, va = .slice Ar r.length cr := by
     obtain ⟨A0, c0, h0⟩ := Ha.out.shape
     rw [hva, hr]
     exact btwV_shape h0 ar _ _ hpq
    rw [← hva, ← hr] at hacs
    have hal := fun (W2 : World) (hW2 : Below w.heap.size w W2) => along_any (S : Int) st fi v ar (n : Int) c W2 (Ha.out.below hW2) Hv.out.srt (by have := Hv.out.few; omega) (by omega) (by omega)
    unfold BtwP at hal
    rw [← hva, hsh] at hal
    rw [hsh] at hacs
    have Hal := Lib.hid hal; have Hacs := Lib.hid hacs
    have Hr := Lib.hid (show ∀ x, x ∈ r ↔ x ∈ ar ∧ x.1 = n ∧ x.2.1 = c from fun x => by rw [hr]; exact along_mem Hv.out)
    have hrl : r.length ≤ 2000 := by rw [hr]; exact Nat.le_trans (btw_len _ _ _) Hv.out.few
    clear hva hr hsh hal hacs hpq
    go_wp2_with fail
    refine (Hal.out _ (KB.out _ (KW.out _ HB.out))).mono ?_
    rintro e w5 ⟨rfl, hb5⟩
    have HO5 := Lib.hid (own_below HO.out hb5)
    have B5 := Lib.hid (HB.out.trans (hb5.mono hBs))
    have hB5 : w1.heap.size ≤ w5.heap.size := Nat.le_trans hBs hb5.size
    clear hb5 x0 x1 x2 x3 hcell
    go_wp2_with fail
    go_loopw [7, 26] (fun u7 i wr => St3 w1 w1.heap.size xs r u7 i wr) (fun _ i _ => r.length - (intOf i).toNat)
    case atStart => exact ⟨0, xs, Nat.zero_le _, rfl, HO5.out, by simp, by omega, B5.out, hB5⟩
    case round =>
     obtain ⟨j, ys, hj, rfl, hown, hy, hyl, hb, hBs2⟩ := hrel
     have HO' := Lib.hid hown; have HY := Lib.hid hy; have HB' := Lib.hid hb
     clear hown hy hb
     by_cases hlt2 : j < r.length
     ·obtain ⟨ad2, rfl, _, hcap2, y0, y1, y2⟩ := (Hacs.out _ (KB.out _ (KW.out _ HB'.out))).at j hlt2
      have htk : ∀ x, x ∈ r.take (j + 1) ↔ x ∈ r.take j ∨ x = r[j] := fun x => by rw [List.take_succ_eq_append_getElem hlt2, List.mem_append, List.mem_singleton]
      obtain ⟨⟨z0, z1, z2⟩, hz⟩ : ∃ z, z = r[j] := ⟨_, rfl⟩
      rw [← hz] at y0 y1 y2 htk
      dsimp only at y0 y1 y2
      have Htk2 := Lib.hid htk
      clear htk hz
      have g0 : (0 : Int) ≤ (j : Int) := by omega
      have g1 : (j : Int) < (r.length : Int) := by omega
      have HOb := Lib.hid (HO'.out.alloc (.cells #[.int .i64 z0, .int .i64 z1, .int .i64 z2] 52))
      have hfrm : Below w1.heap.size w1 (wr.alloc (.cells #[.int .i64 z0, .int .i64 z1, .int .i64 z2] 52)) := HB'.out.alloc hBs2 _
      have Hfrm := Lib.hid hfrm; clear hfrm
      have Hsz := Lib.hid (show (wr.alloc (.cells #[.int .i64 z0, .int .i64 z1, .int .i64 z2] 52)).heap.size = wr.heap.size + 1 by simp)
      go_wp2_with (at_builtin; refine app1S rfl _ _ 22 rfl 3 (.int .i64 0) 8 info_int rfl Tryd.underlying22 w1.heap.size _ _ _ rfl HOb.out _ (by rw [Hsz.out]; rfl) rfl (by omega) (by omega) (by rw [Hsz.out]; omega) ?_; intro v' w6 hown6 hf6; have O6 := Lib.hid hown6; have F6 := Lib.hid (Hfrm.out.trans (hf6.below (by rw [Hsz.out]; omega))); have S6 := hf6.size; clear hown6 hf6)
      go_wp2
      go_roundw
      case rel =>
       have h := O6.out
       refine ⟨j + 1, ys ++ [z2], by omega, by go_num, ?_, fun p => ?_, by rw [List.length_append, List.length_singleton]; omega, F6.out, by have := Hsz.out; omega⟩
       ·rw [List.length_append, List.map_append]
        exact h
       ·rw [List.mem_append, List.mem_singleton, HY.out]
        constructor
        ·rintro ((h | ⟨x, h1, h2⟩) | h)
         ·exact .inl h
         ·exact .inr ⟨x, (Htk2.out x).2 (.inl h1), h2⟩
         ·exact .inr ⟨(z0, z1, z2), (Htk2.out _).2 (.inr rfl), h.symm⟩
        ·rintro (h | ⟨x, h1, h2⟩)
         ·exact .inl (.inl h)
         ·rcases (Htk2.out x).1 h1 with h3 | h3
          ·exact .inl (.inr ⟨x, h3, h2⟩)
          ·rw [h3] at h2; exact .inr h2.symm
      case measure => simp [intOf]; omega
     ·go_wp2_with fail
      go_roundw
      case rel =>
       have hy2 := HY.out
       rw [List.take_of_length_le (by omega)] at hy2
       refine ⟨k + 1, ys, by omega, by go_num, HO'.out, fun p => ?_, by omega, HB'.out, hBs2⟩
       rw [hy2, HX.out]
       constructor
       ·rintro (⟨m, h1, h2⟩ | ⟨x, h1, h2⟩)
        ·exact ⟨m, (Htk.out m).2 (.inl h1), h2⟩
        ·obtain ⟨g1, g2, g3⟩ := (Hr.out x).1 h1
         refine ⟨n, (Htk.out n).2 (.inr rfl), ?_⟩
         rw [← g2, ← g3, ← h2]; exact g1
       ·rintro ⟨m, h1, h2⟩
        rcases (Htk.out m).1 h1 with h3 | h3
        ·exact .inl ⟨m, h3, h2⟩
        ·rw [h3] at h2
         exact .inr ⟨_, (Hr.out _).2 ⟨h2, rfl, rfl⟩, rfl⟩
      case measure => simp [intOf]; omega
   ·have hx2 := HX.out
    rw [List.take_of_length_le (by omega), HL.out] at hx2
    have HX2 := Lib.hid (show ∀ p, p ∈ xs ↔ Arr ar (Els ws) c p from fun p => by
     rw [hx2]
     constructor
     ·rintro ⟨m, h1, h2⟩
      exact ⟨hc.1, hc.2, m, ⟨m, rfl, (mem_els ws m).1 h1⟩, h2⟩
     ·rintro ⟨_, _, m, ⟨j, rfl, h1⟩, h2⟩
      exact ⟨j, (mem_els ws j).2 h1, h2⟩)
    clear hx2 HX
    obtain ⟨y0, y1, y2, y3⟩ := KX.out _ (KW.out _ HB.out)
    go_wp2_with fail
    refine (Hend.out _ _ xs _ (KW.out _ HB.out) HO.out (by omega) HX2.out).mono ?_
    rintro e w6 ⟨v6, ws6, rfl, h6, hb6⟩
    have H6 := Lib.hid h6; have B6 := Lib.hid hb6; clear h6 hb6 y0 y1 y2 y3
    go_wp2
    go_ret
    exact ⟨v6, ws6, rfl, H6.out, B6.out⟩
 ·have hd : decide (1 ≤ c ∧ c ≤ 10000) = false := decide_eq_false hc
  have hno := Lib.hid (show ∀ p, p ∈ ([] : List Int) ↔ Arr ar (Els ws) c p from fun p => ⟨(fun h => by cases h), (fun h => absurd ⟨h.1, h.2.1⟩ hc)⟩)
  clear hc
  go_enter Tryd.func26, Tryd.ntmps26
  go_wp2_with fail
  rw [← hW]
  clear hW
  refine (isletter_any c _).mono ?_
  rintro e w9 ⟨rfl, rfl⟩
  rw [hd]
  obtain ⟨y0, y1, y2, y3⟩ := KX.out _ (Below.refl _ _)
  go_wp2_with fail
  refine (Hend.out _ _ [] 0 (Below.refl _ _) (World.ownsRow_nil _ _ _ _) (by simp) hno.out).mono ?_
  rintro e w6 ⟨v6, ws6, rfl, h6, hb6⟩
  have H6 := Lib.hid h6; have B6 := Lib.hid hb6; clear h6 hb6 y0 y1 y2 y3
  go_wp2
  go_ret
  exact ⟨v6, ws6, rfl, H6.out, B6.out⟩
end Go.Proofs.YtockgbilbnheaaaDoor
