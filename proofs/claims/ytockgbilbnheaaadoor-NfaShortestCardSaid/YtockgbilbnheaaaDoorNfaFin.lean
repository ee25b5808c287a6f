/- nfa's hasFinal. -/
import Derived.Test.YtockgbilbnheaaaDoorNfaStep
namespace Go.Proofs.YtockgbilbnheaaaDoor
open Go.RowKit

def bl (b : Bool) : Value := .bool b
/-- A set has a final state. -/
def FinB (fin : List Bool) (ws : List Nat) : Bool := (els ws).any fun n => fin[n]?.getD false
theorem fin1_any (S : Int) (st fi v : Value) (fin : List Bool) (g n : Nat) (w : World) (hg : w.heap[g]? = some (.cells #[.int .i64 S, st, fi, v] 32 (0, 0))) (hf : Sl bl w fi fin) (hn : n < fin.length) :
  Calls Tryd.prog 56 #[.int .i64 (n : Int), .pointer (some ⟨g, 0, none⟩)] w fun e w' => e = .returned (.bool (fin[n]?.getD false)) ∧ w = w' := by
 obtain ⟨ad, c, rfl, hc, hcell⟩ := sl_cell hf n hn
 have e2 := cell_of_row w g 2 _ _ _ hg
 have hx : fin[n]?.getD false = fin[n] := by rw [List.getElem?_eq_getElem hn]; rfl
 rw [hx]
 have h0 : (0 : Int) ≤ (n : Int) := by omega
 have h1 : (n : Int) < (fin.length : Int) := by omega
 generalize fin[n] = b at *
 unfold bl at hcell
 have Hf := Lib.hid hf; have Hg := Lib.hid hg; have Hx := Lib.hid hx
 clear hf hg hx
 go_enter Tryd.func56, Tryd.ntmps56
 go_wp2
 go_ret
 exact ⟨rfl, rfl⟩
def IdxP (p : Bool) (w : World) (e : Ending) (w' : World) : Prop := ∃ r : Int, e = .returned (.int .i64 r) ∧ decide (0 ≤ r) = p ∧ w = w'
set_option maxHeartbeats 1000000 in
theorem idxf_any (S : Int) (st fi v : Value) (fin : List Bool) (g : Nat) (A : Option Addr) (c : Nat) (L : List Nat) (w : World) (hg : w.heap[g]? = some (.cells #[.int .i64 S, st, fi, v] 32 (0, 0))) (hf : Sl bl w fi fin) (hL : Sl nv w (.slice A L.length c) L) (hll : L.length ≤ 4096) (hn : ∀ n ∈ L, n < fin.length) :
  Calls Tryd.prog 66 #[.slice A L.length c, .func (.func 56) #[] #[.pointer (some ⟨g, 0, none⟩)]] w (IdxP (L.any fun n => fin[n]?.getD false) w) := by
 have Hg := Lib.hid hg; have Hf := Lib.hid hf; have HL := Lib.hid hL; have Hn := Lib.hid hn
 obtain ⟨R, hR⟩ : ∃ R, R = L.any fun n => fin[n]?.getD false := ⟨_, rfl⟩
 rw [← hR]
 have HR := Lib.hid hR
 clear hg hf hL hn hR
 go_enter Tryd.func66, Tryd.ntmps66
 go_wp2_with fail
 go_loop [8] (fun i => ∃ k : Nat, k ≤ L.length ∧ i = .int .i64 k ∧ R = (L.drop k).any fun n => fin[n]?.getD false) (fun i => L.length - (intOf i).toNat)
 case atStart => exact ⟨0, Nat.zero_le _, rfl, HR.out⟩
 case round =>
  obtain ⟨k, hk, rfl, hr⟩ := hrel
  by_cases hlt : k < L.length
  ·obtain ⟨ad, c', hs, hcap, hcell⟩ := sl_cell HL.out k hlt
   simp only [Value.slice.injEq, true_and] at hs
   obtain ⟨rfl, rfl⟩ := hs
   have hnn := Hn.out _ (List.getElem_mem hlt)
   have hdr : (L.drop k).any (fun n => fin[n]?.getD false) = ((fin[L[k]]?.getD false) || (L.drop (k + 1)).any fun n => fin[n]?.getD false) := by
    rw [List.drop_eq_getElem_cons hlt, List.any_cons]
   obtain ⟨n, hn2⟩ : ∃ n, n = L[k] := ⟨_, rfl⟩
   rw [← hn2] at hcell hnn hdr
   rw [hdr] at hr
   have Hr := Lib.hid hr
   clear hdr hr hn2
   unfold nv at hcell
   have h0 : (0 : Int) ≤ (k : Int) := by omega
   have h1 : (k : Int) < (L.length : Int) := by omega
   have hcall := fin1_any S st fi v fin g n w Hg.out Hf.out hnn
   cases hb : fin[n]?.getD false with
   | true =>
    rw [hb] at hcall
    have Hcall := Lib.hid hcall; have Hb := Lib.hid hb
    clear hcall hb
    go_wp2_with fail
    refine Hcall.out.mono ?_
    rintro e w9 ⟨rfl, rfl⟩
    go_wp2
    go_ret
    refine ⟨_, rfl, ?_, rfl⟩
    rw [Hr.out, Hb.out, Bool.true_or]
    simp
   | false =>
    rw [hb] at hcall
    have Hcall := Lib.hid hcall; have Hb := Lib.hid hb
    clear hcall hb
    go_wp2_with fail
    refine Hcall.out.mono ?_
    rintro e w9 ⟨rfl, rfl⟩
    go_wp2
    go_round
    case rel => exact ⟨k + 1, by omega, by go_num, by rw [Hr.out, Hb.out, Bool.false_or]⟩
    case measure => simp [intOf]; omega
  ·have hr2 : R = false := by rw [hr, List.drop_eq_nil_of_le (by omega)]; rfl
   have Hr2 := Lib.hid hr2
   clear hr hr2
   go_wp2
   go_ret
   exact ⟨-1, rfl, by rw [Hr2.out]; rfl, rfl⟩
theorem cf_any (S : Int) (st fi v : Value) (fin : List Bool) (g : Nat) (A : Option Addr) (c : Nat) (L : List Nat) (w : World) (hg : w.heap[g]? = some (.cells #[.int .i64 S, st, fi, v] 32 (0, 0))) (hf : Sl bl w fi fin) (hL : Sl nv w (.slice A L.length c) L) (hll : L.length ≤ 4096) (hn : ∀ n ∈ L, n < fin.length) :
  Calls Tryd.prog 55 #[.slice A L.length c, .func (.func 56) #[] #[.pointer (some ⟨g, 0, none⟩)]] w fun e w' => e = .returned (.bool (L.any fun n => fin[n]?.getD false)) ∧ w = w' := by
 have H := Lib.hid (idxf_any S st fi v fin g A c L w hg hf hL hll hn)
 obtain ⟨R, hR⟩ : ∃ R, R = L.any fun n => fin[n]?.getD false := ⟨_, rfl⟩
 rw [← hR] at H ⊢
 clear hg hf hL hn hR
 go_enter Tryd.func55, Tryd.ntmps55
 go_wp2_with fail
 refine H.out.mono ?_
 rintro e w9 ⟨r, rfl, hr, rfl⟩
 have Hr := Lib.hid hr; clear hr
 go_wp2
 go_ret
 exact ⟨by rw [← Hr.out]; rfl, rfl⟩
theorem hasfinal_any (S : Int) (st fi v vs : Value) (fin : List Bool) (ws : List Nat) (w : World) (hf : Sl bl w fi fin) (hs : Sl uv w vs ws) (hws : Wds ws) (hwl : ws.length ≤ 64) (hT : Tab w) (hn : ∀ n, has ws n = true → n < fin.length) :
  Calls Tryd.prog 37 #[.agg #[.int .i64 S, st, fi, v], vs] w fun e w' => e = .returned (.bool (FinB fin ws)) ∧ Below w.heap.size w w' := by
 have hbw : Below w.heap.size w (w.alloc (.cells #[.int .i64 S, st, fi, v] 32)) := (Below.refl _ w).alloc (Nat.le_refl _) _
 have hl := list_any vs ws (w.alloc (.cells #[.int .i64 S, st, fi, v] 32)) (hs.below hbw) (by unfold Room2; omega) hws (hT.below hbw hT.size)
 have hg : (w.alloc (.cells #[.int .i64 S, st, fi, v] 32)).heap[w.heap.size]? = some (.cells #[.int .i64 S, st, fi, v] 32 (0, 0)) := heap_alloc_new w _
 have Hl := Lib.hid hl; have Hg := Lib.hid hg; have Hf := Lib.hid hf; have Hbw := Lib.hid hbw; have Hn := Lib.hid hn
 clear hl hg hf hs hws hT hbw hn
 go_enter Tryd.func37, Tryd.ntmps37
 go_wp2_with fail
 refine Hl.out.mono ?_
 rintro e w1 ⟨vl, rfl, hsl, hb1⟩
 obtain ⟨Al, cl, rfl⟩ := hsl.shape
 have HS := Lib.hid hsl; have HB := Lib.hid (below_ext2 Hbw.out hb1)
 have HG := Lib.hid ((hb1.block _ (lt_of_some Hg.out)).trans Hg.out)
 clear hsl hb1
 go_wp2_with fail
 refine (cf_any S st fi v fin w.heap.size Al cl (els ws) w1 HG.out (Hf.out.below HB.out) HS.out (els_len_le ws) (fun n h => Hn.out n ((mem_els ws n).1 h))).mono ?_
 rintro e w9 ⟨rfl, rfl⟩
 go_wp2
 go_ret
 exact ⟨rfl, HB.out⟩
end Go.Proofs.YtockgbilbnheaaaDoor
