/- Sets of the program in blocks of their own type: they stay while rows of other types grow. -/
import Derived.Test.YtockgbilbnheaaaDoorBitsMake
import Derived.Test.YtockgbilbnheaaaDoorBitsList
namespace Go.Proofs.YtockgbilbnheaaaDoor
open Go.RowKit

/-- v holds the words ws, in a block of words, or nil without any. -/
def Wst (w : World) (v : Value) (ws : List Nat) : Prop :=
 (v = .slice none 0 0 ∧ ws = []) ∨ ∃ (g c : Nat) (cs : Array Value) (fr : Nat × Nat), v = .slice (some ⟨g, 0, none⟩) ws.length c ∧ ws.length ≤ c ∧ w.heap[g]? = some (.cells cs 68 fr) ∧ ∀ (j x : Nat), ws[j]? = some x → cs[j]? = some (uv x)
section
variable {w w' : World} {v : Value} {ws : List Nat}
theorem Wst.sl (h : Wst w v ws) : Sl uv w v ws := by
 rcases h with h | ⟨g, c, cs, fr, hv, hc, hg, hj⟩
 ·exact .inl h
 ·refine .inr ⟨⟨g, 0, none⟩, c, hv, hc, fun j b hb => ?_⟩
  rw [Addr.add_lit, Nat.zero_add, cell_of_row w g j _ _ _ hg]
  exact hj j b hb
theorem Wst.keep (h : Wst w v ws) (hk : ∀ (g : Nat) (cs : Array Value) (fr : Nat × Nat), w.heap[g]? = some (.cells cs 68 fr) → w'.heap[g]? = w.heap[g]?) : Wst w' v ws := by
 rcases h with h | ⟨g, c, cs, fr, hv, hc, hg, hj⟩
 ·exact .inl h
 ·exact .inr ⟨g, c, cs, fr, hv, hc, (hk g cs fr hg).trans hg, hj⟩
theorem Wst.below (h : Wst w v ws) (hb : Below w.heap.size w w') : Wst w' v ws := h.keep fun g _ _ hg => hb.block g (Array.getElem?_eq_some_iff.1 hg).1
theorem Wst.frm {e B : Nat} (h : Wst w v ws) (hf : Frm e B w w') (he : e ≠ 68) : Wst w' v ws := h.keep fun g cs fr hg => hf.block g (Array.getElem?_eq_some_iff.1 hg).1 (.inr fun cs' fr' h2 => by rw [hg] at h2; cases h2; exact he rfl)
theorem Wst.set {a : Addr} {u : Value} {cs0 : Array Value} {t : TypeId} {fr0 : Nat × Nat} (h : Wst w v ws) (ha : w.heap[a.block]? = some (.cells cs0 t fr0)) (ht : t ≠ 68) : Wst (w.setCell a u) v ws := h.keep fun g cs fr hg => Below.heap_setCell w a u g (fun e => by rw [e, ha] at hg; cases hg; exact ht rfl)
theorem Wst.of_own {B n : Nat} {xs : List Nat} (h : w.ownsRow B 68 1 v n (xs.map uv)) : Wst w v xs := by
 have hl : xs.length = n := by simpa using h.1
 rcases h.2 with ⟨rfl, h0⟩ | ⟨g, cap, cur, rfl, _, hg, hn, _, _, htk⟩
 ·exact .inl ⟨rfl, List.eq_nil_of_length_eq_zero (by omega)⟩
 ·refine .inr ⟨g, cap, cur, (0, 0), by rw [hl], by omega, hg, fun j x hj => ?_⟩
  have h2 : (xs.map uv)[j]? = some (uv x) := by rw [List.getElem?_map, hj]; rfl
  rw [← htk, List.getElem?_take] at h2
  split at h2
  ·simpa using h2
  ·cases h2
theorem Wst.of_Own {B : Nat} {xs : List Nat} (h : Own B w v xs) : Wst w v xs := by
 obtain ⟨g, m, ys, rfl, ho, e, hl⟩ := h
 have hyl : ys.length = m := by simpa using ho.1
 rcases ho.2 with ⟨h0, _⟩ | ⟨g2, cap, cur, h0, _, hg, hn, _, _, htk⟩
 ·cases h0
 ·simp only [Value.slice.injEq, Option.some.injEq, Addr.mk.injEq, and_true, true_and] at h0
  obtain ⟨rfl, rfl⟩ := h0
  refine .inr ⟨g, m, cur, (0, 0), rfl, hl, hg, fun j x hj => ?_⟩
  have hjl : j < xs.length := (List.getElem?_eq_some_iff.1 hj).1
  have h2 : (ys.map uv)[j]? = some (uv x) := by
   rw [e, List.getElem?_take, if_pos hjl] at hj
   rw [List.getElem?_map, hj]; rfl
  rw [← htk, List.getElem?_take] at h2
  split at h2
  ·simpa using h2
  ·cases h2
end
set_option maxRecDepth 100000 in
set_option maxHeartbeats 400000 in
theorem clone_wst (v : Value) (ws : List Nat) (w : World) (h : Sl uv w v ws) (hl : ws.length ≤ 64) :
  Calls Tryd.prog 31 #[v] w fun e w' => ∃ v', e = .returned v' ∧ Wst w' v' ws ∧ Below w.heap.size w w' := by
 have re := fun (w : World) (a : Option Addr) (l c : Nat) => run_eql_nil (P := Tryd.prog) w 35 68 a l c (by kernel_rfl)
 rcases h with ⟨rfl, rfl⟩ | ⟨ad, c, rfl, hc, hcell⟩
 ·go_enter Tryd.func31, Tryd.ntmps31
  go_wp2
  go_ret
  exact ⟨_, rfl, .inl ⟨rfl, rfl⟩, Below.refl _ _⟩
 ·have hS : Sl uv w (.slice (some ad) ws.length c) ws := .inr ⟨ad, c, rfl, hc, hcell⟩
  have HS := Lib.hid hS
  clear hS hcell
  have hg0 : (w.alloc (.cells #[] 68)).ownsRow w.heap.size 68 1 (.slice (some ⟨w.heap.size, 0, none⟩) 0 0) 0 [] := own_litS w _ _ 0 _ [] rfl rfl (by decide) rfl
  go_enter Tryd.func31, Tryd.ntmps31
  go_wp2_with (at_builtin; refine appS (f := uv) rfl _ _ 35 rfl 68 (.int .u64 0) 8 info_u64 rfl (by kernel_rfl) (fun _ => rfl) w.heap.size _ 0 [] rfl hg0 _ ws rfl (HS.out.below ((Below.refl _ w).alloc (Nat.le_refl _) _)) (by omega) (by omega) (by simp) ?_; intro v' w' hown hfr)
  go_ret
  refine ⟨_, rfl, Wst.of_own (xs := ws) (by simpa using hown), ((Below.refl _ w).alloc (Nat.le_refl _) _).trans (hfr.below (by simp))⟩
set_option maxRecDepth 100000 in
set_option maxHeartbeats 1000000 in
theorem make_wst (v : Value) (l : List Int) (w : World) (h : Sl iv w v l) (hl : Room2 l.length) :
  Calls Tryd.prog 14 #[v] w fun e w' => ∃ v', e = .returned v' ∧ Wst w' v' (mk l) ∧ Below w.heap.size w w' := by
 obtain ⟨A, c, rfl⟩ := h.shape
 have HS := Lib.hid h
 unfold Room2 at hl
 clear h
 obtain ⟨i0, hi, hz0, hz1, hz2⟩ := info_parts info_u64
 go_enter Tryd.func14, Tryd.ntmps14
 go_wp2_with (at_make; refine wpList_make_full _ rfl _ _ _ rfl w.heap.size 68 i0 _ 1 (by kernel_rfl) hi hz0 hz1 _ _ _ _ 64 rfl rfl rfl rfl (by rw [hz2]; omega) (by unfold maxLen; omega) (Nat.le_refl _) ?_; intro w1 hown hgr)
 have hb1 : Below w.heap.size w w1 := (Below.refl _ w).grown hgr (Nat.le_refl _) (fun k e => by cases e)
 have hown1 : w1.ownsRow w.heap.size 68 1 (.slice (some ⟨w.heap.size, 0, none⟩) 64 64) 64 ((List.replicate 64 0).map uv) := by
  have e := toList_madeCells_one (uv 0) 64
  rw [List.map_replicate, ← e]
  exact hown
 have Hown1 := Lib.hid hown1
 clear hown hown1 hgr
 go_loopw [9] (fun i wr => ∃ k : Nat, k ≤ l.length ∧ i = .int .i64 k ∧ wr.ownsRow w.heap.size 68 1 (.slice (some ⟨w.heap.size, 0, none⟩) 64 64) 64 (((l.take k).foldl setb (List.replicate 64 0)).map uv) ∧ Below w.heap.size w wr) (fun i _ => l.length - (intOf i).toNat)
 case atStart => exact ⟨0, Nat.zero_le _, rfl, Hown1.out, hb1⟩
 case round =>
  obtain ⟨k, hk, rfl, hown, hbel⟩ := hrel
  have Hbel := Lib.hid hbel
  by_cases hlt : k < l.length
  ·obtain ⟨ad, c', hs, hcap, hcell⟩ := sl_cell (HS.out.below hbel) k hlt
   simp only [Value.slice.injEq, true_and] at hs
   obtain ⟨rfl, rfl⟩ := hs
   have hnext : (l.take (k + 1)).foldl setb (List.replicate 64 0) = setb ((l.take k).foldl setb (List.replicate 64 0)) l[k] := by
    rw [List.take_succ_eq_append_getElem hlt, List.foldl_append]
    rfl
   have hrl : ((l.take k).foldl setb (List.replicate 64 0)).length = 64 := by rw [foldl_len]; simp
   have hrw : Wds ((l.take k).foldl setb (List.replicate 64 0)) := foldl_wds _ _ zeros_wds
   have Hnext := Lib.hid hnext
   clear hnext
   generalize l[k] = n at *
   generalize (l.take k).foldl setb (List.replicate 64 0) = rs at *
   unfold iv at hcell
   by_cases hn : 0 ≤ n ∧ n < 4096
   ·have hd : decide (0 ≤ n ∧ n < 4096) = true := decide_eq_true hn
    obtain ⟨m, rfl⟩ : ∃ m : Nat, n = m := ⟨n.toNat, by omega⟩
    have hm : m < 4096 := by omega
    have hm2 : m / 64 < 64 := by omega
    have ck := hown.cellAt (m / 64) (by omega)
    have fk := hown.frozenAt (m / 64)
    rw [List.getElem?_map, List.getElem?_eq_getElem (by rw [hrl]; exact hm2)] at ck
    have hst := (hown.stored (m / 64) (uv ((rs[m / 64]?.getD 0) ||| 2 ^ (m % 64)))).1
    rw [← List.map_set, show rs.set (m / 64) ((rs[m / 64]?.getD 0) ||| 2 ^ (m % 64)) = setb rs m by unfold setb; rw [if_pos hn]; rfl] at hst
    rw [List.getElem?_eq_getElem (by rw [hrl]; exact hm2)] at hst
    have hor : bits .or .u64 ((rs[m / 64]'(by rw [hrl]; exact hm2) : Nat) : Int) (IntKind.u64.wrap (2 ^ (m % 64))) = (((rs[m / 64]'(by rw [hrl]; exact hm2)) ||| 2 ^ (m % 64) : Nat) : Int) := by
     have hp := pow_u64 (m % 64) (Nat.mod_lt _ (by decide))
     have e : IntKind.u64.wrap (2 ^ (m % 64)) = ((2 ^ (m % 64) : Nat) : Int) := by
      have := u64_wraps ((2 ^ (m % 64) : Nat) : Int) (Int.natCast_nonneg _) (by unfold U64 at hp; exact Int.ofNat_lt.2 hp)
      rwa [Int.natCast_pow] at this ⊢
     rw [e]
     exact u64_or_nat _ _ (hrw _ (List.getElem_mem _)) hp
    simp only [Option.getD_some, Option.map_some] at hst ck
    generalize rs[m / 64]'(by rw [hrl]; exact hm2) = x at *
    unfold uv at ck
    have Hst := Lib.hid hst
    clear hst hown hn
    go_wp2_with fail
    refine (possible_any m _).mono ?_
    rintro e w3 ⟨rfl, rfl⟩
    rw [hd]
    go_wp2_with fail
    go_region
    go_wp2
    go_roundw
    case rel => exact ⟨k + 1, by omega, by go_num, by rw [Hnext.out]; exact Hst.out, (Hbel.out.setCell (p := ⟨w.heap.size, m / 64, none⟩) (Nat.le_refl _) _).drew⟩
    case measure => simp [intOf]; omega
   ·have hd : decide (0 ≤ n ∧ n < 4096) = false := decide_eq_false hn
    have hsame : setb rs n = rs := by unfold setb; rw [if_neg hn]
    rw [hsame] at Hnext
    have Hown := Lib.hid hown
    clear hown hn hsame
    go_wp2_with fail
    refine (possible_any n _).mono ?_
    rintro e w3 ⟨rfl, rfl⟩
    rw [hd]
    go_wp2
    go_roundw
    case rel => exact ⟨k + 1, by omega, by go_num, by rw [Hnext.out]; exact Hown.out, Hbel.out⟩
    case measure => simp [intOf]; omega
  ·obtain rfl : k = l.length := by omega
   rw [List.take_length] at hown
   have Hown := Lib.hid hown; clear hown hbel
   go_wp2_with fail
   refine (used_any _ (bm l) _ (Sl.of_own Hown.out) (by rw [bm_len]; unfold Room2; omega)).mono ?_
   rintro e w3 ⟨v3, rfl, hv3, h3, rfl⟩
   have H3 := Lib.hid h3
   clear h3 hv3
   go_wp2_with fail
   refine (clone_wst v3 (mk l) _ H3.out (mk_len l)).mono ?_
   rintro e w3 ⟨v4, rfl, h4, hb4⟩
   have H4 := Lib.hid h4
   have Hb4 := Lib.hid (Hbel.out.trans (hb4.mono Hbel.out.size))
   clear h4 hb4
   go_wp2
   go_ret
   exact ⟨_, rfl, H4.out, Hb4.out⟩
end Go.Proofs.YtockgbilbnheaaaDoor
