/- nfa.leastLetter: the least letter of the arcs that lead where it is wanted. -/
import Derived.Test.YtockgbilbnheaaaDoorNfaDi
namespace Go.Proofs.YtockgbilbnheaaaDoor
open Go.RowKit

/-- The distance of a state. -/
def dat (dl : List Int) (n : Int) : Int := dl[n.toNat]?.getD 0
/-- The least letter of arcs that lead where W holds, or -1. -/
def LeL (W : Int → Prop) (l : List Ac) (c : Int) : Prop := (c = -1 ∧ ∀ x ∈ l, ¬ W x.2.2) ∨ (1 ≤ c ∧ (∃ x ∈ l, W x.2.2 ∧ x.2.1 = c) ∧ ∀ x ∈ l, W x.2.2 → c ≤ x.2.1)
section
variable {W : Int → Prop} {l : List Ac} {c : Int} {x : Ac}
theorem LeL.nil : LeL W [] (-1) := .inl ⟨rfl, fun _ h => by cases h⟩
theorem LeL.skip (h : LeL W l c) (hx : ¬ W x.2.2) : LeL W (l ++ [x]) c := by
 rcases h with ⟨h1, h2⟩ | ⟨h1, ⟨y, h2, h3⟩, h4⟩
 ·refine .inl ⟨h1, fun y hy => ?_⟩
  rcases List.mem_append.1 hy with hy | hy
  ·exact h2 y hy
  ·obtain rfl := List.mem_singleton.1 hy; exact hx
 ·refine .inr ⟨h1, ⟨y, List.mem_append_left _ h2, h3⟩, fun z hz hw => ?_⟩
  rcases List.mem_append.1 hz with hz | hz
  ·exact h4 z hz hw
  ·obtain rfl := List.mem_singleton.1 hz; exact absurd hw hx
theorem LeL.keep (h : LeL W l c) (hc : c ≠ -1) (hx : ¬ x.2.1 < c) : LeL W (l ++ [x]) c := by
 rcases h with ⟨h1, h2⟩ | ⟨h1, ⟨y, h2, h3⟩, h4⟩
 ·exact absurd h1 hc
 ·refine .inr ⟨h1, ⟨y, List.mem_append_left _ h2, h3⟩, fun z hz hw => ?_⟩
  rcases List.mem_append.1 hz with hz | hz
  ·exact h4 z hz hw
  ·obtain rfl := List.mem_singleton.1 hz; omega
theorem LeL.take (h : LeL W l c) (hw : W x.2.2) (h1 : 1 ≤ x.2.1) (hx : c = -1 ∨ x.2.1 < c) : LeL W (l ++ [x]) x.2.1 := by
 refine .inr ⟨h1, ⟨x, by simp, hw, rfl⟩, fun z hz hz2 => ?_⟩
 rcases List.mem_append.1 hz with hz | hz
 ·rcases h with ⟨g1, g2⟩ | ⟨g1, -, g4⟩
  ·exact absurd hz2 (g2 z hz)
  ·have := g4 z hz hz2
   omega
 ·obtain rfl := List.mem_singleton.1 hz; omega
end
/-- The arcs with a letter of a list of states. -/
def lts (ar : List Ac) (l : List Int) : List Ac := l.flatMap fun n => btw ar (n, 1, 0) (n + 1, 0, 0)
theorem lts_next (ar : List Ac) (l : List Int) (n : Int) : lts ar (l ++ [n]) = lts ar l ++ btw ar (n, 1, 0) (n + 1, 0, 0) := by simp [lts]
theorem lts_mem {S : Nat} {ar : List Ac} (h : VA S ar) (l : List Int) (x : Ac) : x ∈ lts ar l ↔ x.1 ∈ l ∧ 1 ≤ x.2.1 ∧ x ∈ ar := by
 unfold lts
 rw [List.mem_flatMap]
 constructor
 ·rintro ⟨p, h1, h2⟩
  obtain ⟨h4, rfl, h6⟩ := (lettered_mem h).1 h2
  exact ⟨h1, h6, h4⟩
 ·rintro ⟨h1, h2, h3⟩
  exact ⟨x.1, h1, (lettered_mem h).2 ⟨h3, rfl, h2⟩⟩
/-- The boxes that the function wanted looks into: the list of distances, and the rest. -/
structure Wt (w : World) (q p g S : Nat) (dl : List Int) (r : Int) : Prop where
 q : Bx w q 22 #[.slice (some ⟨g, 0, none⟩) S S]
 p : Bx w p 3 #[.int .i64 r]
 g : Bx w g 3 (dl.map iv).toArray
 len : dl.length = S
theorem Wt.below {w w' : World} {q p g S : Nat} {dl : List Int} {r : Int} (h : Wt w q p g S dl r) (hb : Below w.heap.size w w') : Wt w' q p g S dl r := ⟨h.q.below hb, h.p.below hb, h.g.below hb, h.len⟩
theorem dat_cell {w : World} {g : Nat} {dl : List Int} (h : Bx w g 3 (dl.map iv).toArray) (m : Nat) (hm : m < dl.length) : w.cell? ⟨g, m, none⟩ = some (.int .i64 (dat dl (m : Int))) := by
 rw [h.cell m, List.getElem?_toArray, List.getElem?_map, List.getElem?_eq_getElem hm]
 simp [dat, iv, hm]
theorem want_any {w : World} {q p g S : Nat} {dl : List Int} {r n : Int} (h : Wt w q p g S dl r) (h0 : 0 ≤ n) (h1 : n < (S : Int)) :
  Calls Tryd.prog 36 #[.int .i64 n, .pointer (some ⟨q, 0, none⟩), .pointer (some ⟨p, 0, none⟩)] w fun e w' => e = .returned (.bool (decide (dat dl n = r))) ∧ Below w.heap.size w w' := by
 obtain ⟨m, rfl⟩ : ∃ m : Nat, n = m := ⟨n.toNat, by omega⟩
 have k0 := h.q.cell 0
 have k1 := h.p.cell 0
 have k2 := dat_cell h.g m (by have := h.len; omega)
 have ha0 := addr00 g m
 generalize dat dl m = x at *
 clear h
 go_enter Tryd.func36, Tryd.ntmps36
 go_wp2_with fail
 go_region
 go_wp2
 go_ret
 exact ⟨by go_num, (Below.refl _ w).drew⟩
set_option maxRecDepth 100000 in
set_option maxHeartbeats 4000000 in
theorem least_any (S : Nat) (st : List Int) (fin : List Bool) (ar : List Ac) (sv fv v ls : Value) (ws : List Nat) (P : Nat → Prop) (q p g : Nat) (dl : List Int) (r : Int) (w : World) (hn : VN S st fin ar) (ha : Acs w v ar) (hs : SetIs w ls ws P) (hP : ∀ n, P n → n < S) (hT : Tab w) (hW : Wt w q p g S dl r) :
  Calls Tryd.prog 35 #[.agg #[.int .i64 (S : Int), sv, fv, v], ls, .func (.func 36) #[] #[.pointer (some ⟨q, 0, none⟩), .pointer (some ⟨p, 0, none⟩)]] w fun e w' => ∃ c, e = .returned (.int .i64 c) ∧ LeL (fun n => dat dl n = r) (lts ar (toI (els ws))) c ∧ Below w.heap.size w w' := by
 obtain ⟨Aa, ca, rfl⟩ := ha.shape
 obtain ⟨X, hX⟩ : ∃ X, X = w.alloc (.cells #[.int .i64 (S : Int), sv, fv, .slice Aa ar.length ca] 32) := ⟨_, rfl⟩
 have hbw : Below w.heap.size w X := by rw [hX]; exact al1 w _
 have hx : Bx X w.heap.size 32 #[.int .i64 (S : Int), sv, fv, .slice Aa ar.length ca] := by rw [hX]; exact heap_alloc_new w _
 have HX := Lib.hid (show ∀ w', Below X.heap.size X w' → w'.cell? ⟨w.heap.size, 0, none⟩ = some (.int .i64 (S : Int)) ∧ w'.cell? ⟨w.heap.size, 1, none⟩ = some sv ∧ w'.cell? ⟨w.heap.size, 2, none⟩ = some fv ∧ w'.cell? ⟨w.heap.size, 3, none⟩ = some (.slice Aa ar.length ca) from fun w' h => ⟨(hx.below h).cell 0, (hx.below h).cell 1, (hx.below h).cell 2, (hx.below h).cell 3⟩)
 have HA := Lib.hid (show ∀ w', Below X.heap.size X w' → Acs w' (.slice Aa ar.length ca) ar from fun w' h => (ha.below hbw).below h)
 have HWt := Lib.hid (show ∀ w', Below X.heap.size X w' → Wt w' q p g S dl r from fun w' h => (hW.below hbw).below h)
 have HS := Lib.hid (hs.below hbw)
 have HT := Lib.hid (hT.below hbw hT.size)
 have HN := Lib.hid hn; have HP := Lib.hid hP; have Hbw := Lib.hid hbw; have HW := Lib.hid hX
 have hS := hn.few
 have har := hn.va.few
 clear hn ha hs hP hT hW hbw hx hX
 go_enter Tryd.func35, Tryd.ntmps35
 go_wp2_with fail
 rw [← HW.out]
 refine (list_any ls ws X HS.out.st.sl (by have := HS.out.len; unfold Room2; omega) HS.out.wds HT.out).mono ?_
 rintro e w1 ⟨vl, rfl, hsl, hb1⟩
 have hLm := lay_list ws P HS.out.has
 have hLl := els_len_le ws
 obtain ⟨L, hL⟩ : ∃ L, L = els ws := ⟨_, rfl⟩
 rw [← hL] at hsl hLm hLl
 have HLE := Lib.hid hL
 clear hL
 obtain ⟨AL, cL, rfl⟩ := hsl.shape
 have HSL := Lib.hid (show ∀ w', Below w1.heap.size w1 w' → Sl nv w' (.slice AL L.length cL) L from fun w' h => hsl.below h)
 have HLM := Lib.hid hLm
 have HB1 := Lib.hid hb1
 have KW := Lib.hid (show ∀ w', Below w1.heap.size w1 w' → Below X.heap.size X w' from fun w' h => below_ext2 HB1.out h)
 have HB0 := Lib.hid (Below.refl w1.heap.size w1)
 have HL0 := Lib.hid (show LeL (fun n => dat dl n = r) (lts ar (toI (L.take 0))) (-1) from LeL.nil)
 clear hsl hLm hb1
 go_wp2_with fail
 go_loopw [7, 15] (fun vc vi wr => ∃ (k : Nat) (c : Int), k ≤ L.length ∧ vi = .int .i64 (k : Int) ∧ vc = .int .i64 c ∧ Hid (LeL (fun n => dat dl n = r) (lts ar (toI (L.take k))) c) ∧ Hid (Below w1.heap.size w1 wr)) (fun _ vi _ => L.length - (intOf vi).toNat)
 case atStart => exact ⟨0, -1, Nat.zero_le _, rfl, rfl, HL0, HB0⟩
 case round =>
  clear HB0 HL0
  obtain ⟨k, c, hk, rfl, rfl, HL, HB⟩ := hrel
  by_cases hlt : k < L.length
  ·have dk : decide ((k : Int) < (L.length : Int)) = true := decide_eq_true (by omega)
   have hks : (k : Int) < (L.length : Int) := by omega
   obtain ⟨ad, c', hsl, _, hcell⟩ := sl_cell (HSL.out _ HB.out) k hlt
   simp only [Value.slice.injEq, true_and] at hsl
   obtain ⟨rfl, rfl⟩ := hsl
   have hnS := HP.out _ ((HLM.out L[k]).1 (List.getElem_mem hlt))
   have htk := toI_next L k hlt
   obtain ⟨n, hn⟩ : ∃ n, n = L[k] := ⟨_, rfl⟩
   rw [← hn] at hcell hnS htk
   unfold nv at hcell
   obtain ⟨r0, r1, r2, r3⟩ := HX.out _ (KW.out _ HB.out)
   have hpq : cmpA ((n : Int), 1, 0) ((n : Int) + 1, 0, 0) < 0 := cmpA_neg.2 (by unfold LtA; dsimp only; omega)
   have hal := lettered_any (S : Int) sv fv (.slice Aa ar.length ca) ar (n : Int) wr (HA.out _ (KW.out _ HB.out)) HN.out.va.srt (by omega) (by omega) (by omega)
   obtain ⟨Ar, cr, hsh⟩ := btwV_shape (v := .slice Aa ar.length ca) rfl ar ((n : Int), 1, 0) ((n : Int) + 1, 0, 0) hpq
   unfold BtwP at hal
   rw [hsh] at hal
   have hacs := fun (w' : World) (h : Below X.heap.size X w') => (HA.out w' h).btw hpq
   rw [hsh] at hacs
   have hnx := lts_next ar (toI (L.take k)) (n : Int)
   rw [← htk] at hnx
   have hrl := btw_len ar ((n : Int), 1, 0) ((n : Int) + 1, 0, 0)
   have hrm : ∀ x ∈ btw ar ((n : Int), 1, 0) ((n : Int) + 1, 0, 0), 1 ≤ x.2.1 ∧ 0 ≤ x.2.2 ∧ x.2.2 < (S : Int) := fun x hx => by
    obtain ⟨h1, -, h3⟩ := (lettered_mem HN.out.va).1 hx
    exact ⟨h3, HN.out.va.to _ h1⟩
   obtain ⟨rr, hr⟩ : ∃ rr, rr = btw ar ((n : Int), 1, 0) ((n : Int) + 1, 0, 0) := ⟨_, rfl⟩
   rw [← hr] at hal hacs hnx hrl hrm
   obtain ⟨xs, hxs⟩ : ∃ xs, xs = lts ar (toI (L.take k)) := ⟨_, rfl⟩
   rw [← hxs] at HL hnx
   have HAL := Lib.hid hal; have HAC := Lib.hid hacs; have HNX := Lib.hid hnx; have HRM := Lib.hid hrm
   clear hal hacs hnx hsh hpq hxs hr htk hn hrm hnS
   go_wp2_with fail
   clear hcell r0 r1 r2 r3
   refine HAL.out.mono ?_
   rintro e w8 ⟨rfl, hb8⟩
   have HB8 := Lib.hid (below_ext2 HB.out hb8)
   have HL8 := Lib.hid (show LeL (fun n => dat dl n = r) (xs ++ rr.take 0) c from by simpa using HL.out)
   clear HB HL hb8 HAL
   go_wp2_with fail
   go_loopw [7, 23] (fun vc vi wr => ∃ (j : Nat) (c : Int), j ≤ rr.length ∧ vi = .int .i64 (j : Int) ∧ vc = .int .i64 c ∧ Hid (LeL (fun n => dat dl n = r) (xs ++ rr.take j) c) ∧ Hid (Below w1.heap.size w1 wr)) (fun _ vi _ => rr.length - (intOf vi).toNat)
   case atStart => exact ⟨0, c, Nat.zero_le _, rfl, rfl, HL8, HB8⟩
   case round =>
    clear HB8 HL8
    obtain ⟨j, c, hj, rfl, rfl, HL, HB⟩ := hrel
    by_cases hlt2 : j < rr.length
    ·obtain ⟨ad2, rfl, _, hcap2, y0, y1, y2⟩ := (HAC.out wr (KW.out _ HB.out)).at j hlt2
     have hz := HRM.out _ (List.getElem_mem hlt2)
     have htn : xs ++ rr.take (j + 1) = (xs ++ rr.take j) ++ [rr[j]] := by rw [List.take_succ_eq_append_getElem hlt2, List.append_assoc]
     obtain ⟨⟨z0, z1, z2⟩, hze⟩ : ∃ z, z = rr[j] := ⟨_, rfl⟩
     rw [← hze] at y0 y1 y2 htn hz
     dsimp only at y0 y1 y2 hz
     have HTN := Lib.hid htn
     clear hze htn
     have dj : decide ((j : Int) < (rr.length : Int)) = true := decide_eq_true (by omega)
     have hjs : (j : Int) < (rr.length : Int) := by omega
     have hba : Below wr.heap.size wr (wr.alloc (.cells #[.int .i64 z0, .int .i64 z1, .int .i64 z2] 52)) := al1 wr _
     have HBx := Lib.hid (show Bx (wr.alloc (.cells #[.int .i64 z0, .int .i64 z1, .int .i64 z2] 52)) wr.heap.size 52 #[.int .i64 z0, .int .i64 z1, .int .i64 z2] from heap_alloc_new wr _)
     have HBb := Lib.hid (below_ext2 HB.out hba)
     have hwa := want_any (HWt.out _ (KW.out _ HBb.out)) hz.2.1 hz.2.2
     have HWA := Lib.hid hwa
     clear hba hwa HB
     go_wp2_with fail
     refine HWA.out.mono ?_
     rintro e w9 ⟨rfl, hb9⟩
     have z1c := (HBx.out.below hb9).cell 1
     have HB9 := Lib.hid (below_ext2 HBb.out hb9)
     clear HBb HBx HWA hb9 y0 y1 y2
     by_cases hw : dat dl z2 = r
     ·have d1 : decide (dat dl z2 = r) = true := decide_eq_true hw
      rw [d1]
      by_cases hc : c = -1
      ·subst hc
       have HLn := Lib.hid (show LeL (fun n => dat dl n = r) (xs ++ rr.take (j + 1)) z1 from by rw [HTN.out]; exact HL.out.take (x := (z0, z1, z2)) hw hz.1 (.inl rfl))
       clear HL HTN hw d1
       go_wp2_with fail
       go_roundw
       case rel => exact ⟨j + 1, z1, by omega, by go_num, rfl, HLn, HB9⟩
       case measure => simp [intOf]; omega
      ·have d2 : (c == (-1 : Int)) = false := by rw [beq_eq_false_iff_ne]; exact hc
       have d3 : decide (c = (-1 : Int)) = false := decide_eq_false hc
       by_cases hl : z1 < c
       ·have d4 : decide (z1 < c) = true := decide_eq_true hl
        have HLn := Lib.hid (show LeL (fun n => dat dl n = r) (xs ++ rr.take (j + 1)) z1 from by rw [HTN.out]; exact HL.out.take (x := (z0, z1, z2)) hw hz.1 (.inr hl))
        clear HL HTN hw d1
        go_wp2_with fail
        go_roundw
        case rel => exact ⟨j + 1, z1, by omega, by go_num, rfl, HLn, HB9⟩
        case measure => simp [intOf]; omega
       ·have d4 : decide (z1 < c) = false := decide_eq_false hl
        have HLn := Lib.hid (show LeL (fun n => dat dl n = r) (xs ++ rr.take (j + 1)) c from by rw [HTN.out]; exact HL.out.keep (x := (z0, z1, z2)) hc hl)
        clear HL HTN hw d1
        go_wp2_with fail
        go_roundw
        case rel => exact ⟨j + 1, c, by omega, by go_num, rfl, HLn, HB9⟩
        case measure => simp [intOf]; omega
     ·have d1 : decide (dat dl z2 = r) = false := decide_eq_false hw
      rw [d1]
      have HLn := Lib.hid (show LeL (fun n => dat dl n = r) (xs ++ rr.take (j + 1)) c from by rw [HTN.out]; exact HL.out.skip (x := (z0, z1, z2)) hw)
      clear HL HTN hw d1
      go_wp2_with fail
      go_roundw
      case rel => exact ⟨j + 1, c, by omega, by go_num, rfl, HLn, HB9⟩
      case measure => simp [intOf]; omega
    ·have dj : decide ((j : Int) < (rr.length : Int)) = false := decide_eq_false (by omega)
     obtain rfl : j = rr.length := by omega
     rw [List.take_length, ← HNX.out] at HL
     clear HAC HNX HRM
     go_wp2_with fail
     go_roundw
     case rel => exact ⟨k + 1, c, by omega, by go_num, rfl, HL, HB⟩
     case measure => simp [intOf]; omega
  ·obtain rfl : k = L.length := by omega
   rw [List.take_length] at HL
   have dk : decide ((L.length : Int) < (L.length : Int)) = false := decide_eq_false (by omega)
   go_wp2_with fail
   go_ret
   exact ⟨c, rfl, by have h := HL.out; rw [HLE.out] at h; exact h, below_ext2 Hbw.out (KW.out _ HB.out)⟩
end Go.Proofs.YtockgbilbnheaaaDoor
