/- The contracts of Make and Clone. -/
import Derived.Test.YtockgbilbnheaaaDoorMBitsFn
import Derived.Test.YtockgbilbnheaaaDoorMBitsComb
import Derived.Deep.QuietTactic
import Derived.BigQuiet
import Derived.Laws.Cover3
namespace Go.Proofs.YtockgbilbnheaaaDoor
open Go.RowKit

def setb (rs : List Nat) (n : Int) : List Nat := if 0 ≤ n ∧ n < 4096 then rs.set (n.toNat / 64) ((rs[n.toNat / 64]?.getD 0) ||| 2 ^ (n.toNat % 64)) else rs
def bm (l : List Int) : List Nat := l.foldl setb (List.replicate 64 0)
def mk (l : List Int) : List Nat := used (bm l)
theorem run_eql_nil {P : Program} (w : World) (t e : TypeId) (a : Option Addr) (l c : Nat) (h : P.underlying t = some (.slice e)) : (binOp .eql t (.slice a l c) (.slice none 0 0)).run P w = .ok (.bool a.isNone) w := by
 simp [binOp, run_equal_slice_nil w t e a l c h, go_sem]
theorem setb_len (rs : List Nat) (n : Int) : (setb rs n).length = rs.length := by
 unfold setb
 split <;> simp
theorem foldl_len (l : List Int) : ∀ rs : List Nat, (l.foldl setb rs).length = rs.length := by
 induction l with
 | nil => intro rs; rfl
 | cons n l ih => intro rs; rw [List.foldl_cons, ih, setb_len]
theorem bm_len (l : List Int) : (bm l).length = 64 := by unfold bm; rw [foldl_len]; simp
theorem pow_u64 (k : Nat) (h : k < 64) : U64 (2 ^ k) := Nat.pow_lt_pow_right (by decide) h
theorem setb_wds {rs : List Nat} (h : Wds rs) (n : Int) : Wds (setb rs n) := by
 unfold setb
 split
 ·intro x hx
  rcases List.mem_or_eq_of_mem_set hx with h1 | h1
  ·exact h x h1
  ·rw [h1]; exact or_u64 _ _ (h.at _) (pow_u64 _ (Nat.mod_lt _ (by decide)))
 ·exact h
theorem foldl_wds (l : List Int) : ∀ rs : List Nat, Wds rs → Wds (l.foldl setb rs) := by
 induction l with
 | nil => intro rs h; exact h
 | cons n l ih => intro rs h; rw [List.foldl_cons]; exact ih _ (setb_wds h n)
theorem zeros_wds : Wds (List.replicate 64 0) := by
 intro x hx
 rw [(List.mem_replicate.1 hx).2]
 simp [U64]
theorem bm_wds (l : List Int) : Wds (bm l) := foldl_wds l _ zeros_wds
theorem has_row {rs : List Nat} (m : Nat) (hm : m < 4096) : has rs m = (rs[m / 64]?.getD 0).testBit (m % 64) := by
 unfold has wat
 rw [if_pos (by omega)]
theorem setb_has {rs : List Nat} (hl : rs.length = 64) (n : Int) (m : Nat) (hm : m < 4096) : has (setb rs n) m = (has rs m || decide ((m : Int) = n)) := by
 rw [has_row m hm, has_row m hm]
 unfold setb
 split
 ·rename_i hn
  obtain ⟨j, rfl⟩ : ∃ j : Nat, n = j := ⟨n.toNat, by omega⟩
  have hj : j < 4096 := by omega
  rw [Int.toNat_natCast, List.getElem?_set]
  by_cases hw : j / 64 = m / 64
  ·rw [if_pos hw, if_pos (by omega), hw]
   simp only [Option.getD_some]
   rw [Nat.testBit_or, Nat.testBit_two_pow]
   congr 1
   rw [decide_eq_decide]
   omega
  ·rw [if_neg hw]
   have : decide ((m : Int) = (j : Int)) = false := decide_eq_false (by omega)
   rw [this, Bool.or_false]
 ·rename_i hn
  have : decide ((m : Int) = n) = false := decide_eq_false (by omega)
  rw [this, Bool.or_false]
theorem foldl_has (l : List Int) (m : Nat) (hm : m < 4096) : ∀ rs : List Nat, rs.length = 64 → has (l.foldl setb rs) m = (has rs m || decide ((m : Int) ∈ l)) := by
 induction l with
 | nil => intro rs _; simp
 | cons n l ih =>
  intro rs h
  rw [List.foldl_cons, ih _ (by rw [setb_len, h]), setb_has h n m hm, Bool.or_assoc]
  congr 1
  rw [Bool.eq_iff_iff]
  simp
theorem bm_has (l : List Int) (m : Nat) (hm : m < 4096) : has (bm l) m = decide ((m : Int) ∈ l) := by
 unfold bm
 rw [foldl_has l m hm _ (by simp), has_row m hm]
 have : (List.replicate 64 0)[m / 64]?.getD 0 = 0 := by
  rw [List.getElem?_replicate]
  split <;> rfl
 rw [this]
 simp
theorem mk_has (l : List Int) (m : Nat) : has (mk l) m = decide (m < 4096 ∧ (m : Int) ∈ l) := by
 have e : has (mk l) m = has (bm l) m := by unfold has mk; rw [wat_used]
 rw [e]
 by_cases hm : m < 4096
 ·rw [bm_has l m hm]
  simp [hm]
 ·rw [has_big _ _ (by omega)]
  simp [hm]
theorem mk_wds (l : List Int) : Wds (mk l) := (bm_wds l).used
theorem mk_canon (l : List Int) : Canon (mk l) := used_canon _
theorem mk_len (l : List Int) : (mk l).length ≤ 64 := by unfold mk; rw [used_len]; exact (ulen_le _).2

set_option maxRecDepth 100000 in
set_option maxHeartbeats 400000 in
theorem clone_any (v : Value) (ws : List Nat) (w : World) (h : Sl uv w v ws) (hl : ws.length ≤ 64) :
  Calls Tryd.prog 31 #[v] w fun e w' => ∃ v', e = .returned v' ∧ Sl uv w' v' ws ∧ Below w.heap.size w w' := by
 have re := fun (w : World) (a : Option Addr) (l c : Nat) => run_eql_nil (P := Tryd.prog) w 35 68 a l c (by kernel_rfl)
 rcases h with ⟨rfl, rfl⟩ | ⟨ad, c, rfl, hc, hcell⟩
 ·go_enter Tryd.func31, Tryd.ntmps31
  go_wp2
  go_ret
  exact ⟨_, rfl, Sl.nil, Below.refl _ _⟩
 ·have hS : Sl uv w (.slice (some ad) ws.length c) ws := .inr ⟨ad, c, rfl, hc, hcell⟩
  have HS := Lib.hid hS
  clear hS hcell
  have hg0 : (w.alloc (.cells #[] 68)).ownsRow w.heap.size 68 1 (.slice (some ⟨w.heap.size, 0, none⟩) 0 0) 0 [] := own_litS w _ _ 0 _ [] rfl rfl (by decide) rfl
  go_enter Tryd.func31, Tryd.ntmps31
  go_wp2_with (at_builtin; refine appS (f := uv) rfl _ _ 35 rfl 68 (.int .u64 0) 8 info_u64 rfl (by kernel_rfl) (fun _ => rfl) w.heap.size _ 0 [] rfl hg0 _ ws rfl (HS.out.below ((Below.refl _ w).alloc (Nat.le_refl _) _)) (by omega) (by omega) (by simp) ?_; intro v' w' hown hfr)
  go_ret
  refine ⟨_, rfl, Sl.of_own hown, ((Below.refl _ w).alloc (Nat.le_refl _) _).trans (hfr.below (by simp))⟩
set_option maxRecDepth 100000 in
set_option maxHeartbeats 1000000 in
theorem make_any (v : Value) (l : List Int) (w : World) (h : Sl iv w v l) (hl : Room2 l.length) :
  Calls Tryd.prog 14 #[v] w fun e w' => ∃ v', e = .returned v' ∧ Sl uv w' v' (mk l) ∧ Below w.heap.size w w' := by
 obtain ⟨A, c, rfl⟩ := h.shape
 have HS := Lib.hid h
 unfold Room2 at hl
 clear h
 obtain ⟨i0, hi, hz0, hz1, hz2⟩ := info_parts info_u64
 go_enter Tryd.func14, Tryd.ntmps14
 go_wp2_with (at_make; refine wpList_make_full _ rfl _ _ _ rfl w.heap.size 68 i0 _ 1 (by kernel_rfl) hi hz0 hz1 _ _ _ _ 64 rfl rfl rfl rfl (by rw [hz2]; omega) (by unfold maxLen; omega) (Nat.le_refl _) ?_; intro w1 hown hgr)
 have hb1 : Below w.heap.size w w1 := (Below.refl _ w).grown hgr (Nat.le_refl _) (fun k e => by cases e)
 have hown1 : w1.ownsRow w.heap.size 68 1 (.slice (some ⟨w.heap.size, 0, none⟩) 64 64) 64 ((List.replicate 64 0).map uv) := by
  have e := toList_madeCells_one (uv 0) 64
  rw [List.map_replicate, ← e]
  exact hown
 have Hown1 := Lib.hid hown1
 clear hown hown1 hgr
 go_loopw [9] (fun i wr => ∃ k : Nat, k ≤ l.length ∧ i = .int .i64 k ∧ wr.ownsRow w.heap.size 68 1 (.slice (some ⟨w.heap.size, 0, none⟩) 64 64) 64 (((l.take k).foldl setb (List.replicate 64 0)).map uv) ∧ Below w.heap.size w wr) (fun i _ => l.length - (intOf i).toNat)
 case atStart => exact ⟨0, Nat.zero_le _, rfl, Hown1.out, hb1⟩
 case round =>
  obtain ⟨k, hk, rfl, hown, hbel⟩ := hrel
  have Hbel := Lib.hid hbel
  by_cases hlt : k < l.length
  ·obtain ⟨ad, c', hs, hcap, hcell⟩ := sl_cell (HS.out.below hbel) k hlt
   simp only [Value.slice.injEq, true_and] at hs
   obtain ⟨rfl, rfl⟩ := hs
   have hnext : (l.take (k + 1)).foldl setb (List.replicate 64 0) = setb ((l.take k).foldl setb (List.replicate 64 0)) l[k] := by
    rw [List.take_succ_eq_append_getElem hlt, List.foldl_append]
    rfl
   have hrl : ((l.take k).foldl setb (List.replicate 64 0)).length = 64 := by rw [foldl_len]; simp
   have hrw : Wds ((l.take k).foldl setb (List.replicate 64 0)) := foldl_wds _ _ zeros_wds
   have Hnext := Lib.hid hnext
   clear hnext
   generalize l[k] = n at *
   generalize (l.take k).foldl setb (List.replicate 64 0) = rs at *
   unfold iv at hcell
   by_cases hn : 0 ≤ n ∧ n < 4096
   ·have hd : decide (0 ≤ n ∧ n < 4096) = true := decide_eq_true hn
    obtain ⟨m, rfl⟩ : ∃ m : Nat, n = m := ⟨n.toNat, by omega⟩
    have hm : m < 4096 := by omega
    have hm2 : m / 64 < 64 := by omega
    have ck := hown.cellAt (m / 64) (by omega)
    have fk := hown.frozenAt (m / 64)
    rw [List.getElem?_map, List.getElem?_eq_getElem (by rw [hrl]; exact hm2)] at ck
    have hst := (hown.stored (m / 64) (uv ((rs[m / 64]?.getD 0) ||| 2 ^ (m % 64)))).1
    rw [← List.map_set, show rs.set (m / 64) ((rs[m / 64]?.getD 0) ||| 2 ^ (m % 64)) = setb rs m by unfold setb; rw [if_pos hn]; rfl] at hst
    rw [List.getElem?_eq_getElem (by rw [hrl]; exact hm2)] at hst
    have hor : bits .or .u64 ((rs[m / 64]'(by rw [hrl]; exact hm2) : Nat) : Int) (IntKind.u64.wrap (2 ^ (m % 64))) = (((rs[m / 64]'(by rw [hrl]; exact hm2)) ||| 2 ^ (m % 64) : Nat) : Int) := by
     have hp := pow_u64 (m % 64) (Nat.mod_lt _ (by decide))
     have e : IntKind.u64.wrap (2 ^ (m % 64)) = ((2 ^ (m % 64) : Nat) : Int) := by
      have := u64_wraps ((2 ^ (m % 64) : Nat) : Int) (Int.natCast_nonneg _) (by unfold U64 at hp; exact Int.ofNat_lt.2 hp)
      rwa [Int.natCast_pow] at this ⊢
     rw [e]
     exact u64_or_nat _ _ (hrw _ (List.getElem_mem _)) hp
    simp only [Option.getD_some, Option.map_some] at hst ck
    generalize rs[m / 64]'(by rw [hrl]; exact hm2) = x at *
    unfold uv at ck
    have Hst := Lib.hid hst
    clear hst hown hn
    go_wp2_with fail
    refine (possible_any m _).mono ?_
    rintro e w3 ⟨rfl, rfl⟩
    rw [hd]
    go_wp2_with fail
    go_region
    go_wp2
    go_roundw
    case rel => exact ⟨k + 1, by omega, by go_num, by rw [Hnext.out]; exact Hst.out, (Hbel.out.setCell (p := ⟨w.heap.size, m / 64, none⟩) (Nat.le_refl _) _).drew⟩
    case measure => simp [intOf]; omega
   ·have hd : decide (0 ≤ n ∧ n < 4096) = false := decide_eq_false hn
    have hsame : setb rs n = rs := by unfold setb; rw [if_neg hn]
    rw [hsame] at Hnext
    have Hown := Lib.hid hown
    clear hown hn hsame
    go_wp2_with fail
    refine (possible_any n _).mono ?_
    rintro e w3 ⟨rfl, rfl⟩
    rw [hd]
    go_wp2
    go_roundw
    case rel => exact ⟨k + 1, by omega, by go_num, by rw [Hnext.out]; exact Hown.out, Hbel.out⟩
    case measure => simp [intOf]; omega
  ·obtain rfl : k = l.length := by omega
   rw [List.take_length] at hown
   have Hown := Lib.hid hown; clear hown hbel
   go_wp2_with fail
   refine (used_any _ (bm l) _ (Sl.of_own Hown.out) (by rw [bm_len]; unfold Room2; omega)).mono ?_
   rintro e w3 ⟨v3, rfl, hv3, h3, rfl⟩
   have H3 := Lib.hid h3
   clear h3 hv3
   go_wp2_with fail
   refine (clone_any v3 (mk l) _ H3.out (mk_len l)).mono ?_
   rintro e w3 ⟨v4, rfl, h4, hb4⟩
   have H4 := Lib.hid h4
   have Hb4 := Lib.hid (Hbel.out.trans (hb4.mono Hbel.out.size))
   clear h4 hb4
   go_wp2
   go_ret
   exact ⟨_, rfl, H4.out, Hb4.out⟩
end Go.Proofs.YtockgbilbnheaaaDoor
