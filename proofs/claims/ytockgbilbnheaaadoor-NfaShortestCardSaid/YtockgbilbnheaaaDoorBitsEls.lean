/- The contracts of TrailingZeros64 and of the elements' iterator. -/
import Derived.RangeFuncBox
import Derived.RangeFuncLeaves
import Derived.Shelf.Abstract
import Derived.OwnWalkIn
import Derived.TacticsInMore
import Derived.LoopNIn
import Derived.LoopIn
import Derived.Maps.AppendAt
import Derived.Laws.Bits64b
import Derived.Test.YtockgbilbnheaaaDoorMBitsComb
import Derived.Test.YtockgbilbnheaaaDoorBitsBl
namespace Go.Proofs.YtockgbilbnheaaaDoor
open Go.RowKit Go.Shelf
attribute [local go_sem] Oper.semAt_some

/-- The table of math/bits, where its initialiser lays it. -/
def Tab (w : World) : Prop := ∀ j, j < 64 → w.cell? ⟨0, j, none⟩ = some (.int .u8 ((Lib.deBruijn64tab.getD j 0 : Nat) : Int))
theorem Tab.below {w w' : World} {B : Nat} (h : Tab w) (hb : Below B w w') (hB : 0 < B) : Tab w' := fun j hj => (hb.cell (p := ⟨0, j, none⟩) hB).trans (h j hj)
theorem Tab.size {w : World} (h : Tab w) : 0 < w.heap.size := World.block_lt_of_cell? _ _ (h 0 (by decide))
theorem tz_key (x a : Nat) (hx : U64 x) (hx0 : x ≠ 0) (hlow : x &&& (18446744073709551616 - x) = a) :
  IntKind.u64.wrap (bits .and .u64 (x : Int) (IntKind.u64.wrap (-(x : Int))) * 285870213051353865) / 288230376151711744 = ((a * 285870213051353865 % 18446744073709551616 / 288230376151711744 : Nat) : Int) := by
 unfold U64 at hx
 have e1 : IntKind.u64.wrap (-(x : Int)) = ((18446744073709551616 - x : Nat) : Int) := by rw [IntKind.wrap_u64]; omega
 rw [e1, u64_and_nat x _ hx (by omega), hlow, IntKind.wrap_u64]
 omega
set_option maxHeartbeats 1000000 in
theorem tz_core (x k idx : Nat) (w : World) (hx0 : ((x : Int) == 0) = false)
  (key : IntKind.u64.wrap (bits .and .u64 (x : Int) (IntKind.u64.wrap (-(x : Int))) * 285870213051353865) / 288230376151711744 = (idx : Int))
  (hi : idx < 64) (hk : k < 64) (hcell : w.cell? ⟨0, idx, none⟩ = some (.int .u8 k)) :
  Calls Tryd.prog 50 #[.int .u64 (x : Int)] w fun e w' => e = .returned (.int .i64 (k : Int)) ∧ w = w' := by
 go_enter Tryd.func50, Tryd.ntmps50
 go_wp2_with (simp only [key])
 go_ret
 exact ⟨rfl, rfl⟩
theorem tz_any (x : Nat) (w : World) (hx : U64 x) (hx0 : x ≠ 0) (hT : Tab w) :
  Calls Tryd.prog 50 #[.int .u64 (x : Int)] w fun e w' => e = .returned (.int .i64 (Lib.ctz 64 x : Int)) ∧ w = w' := by
 obtain ⟨hlow, hk⟩ := Lib.lowest_bit 64 x hx0 hx
 obtain ⟨hi, htab⟩ := Lib.deBruijn64_at _ hk
 have hcell := hT _ hi
 rw [htab] at hcell
 exact tz_core x _ _ w (by rw [beq_eq_false_iff_ne]; omega) (tz_key x _ hx hx0 hlow) hi hk hcell

/-- used(v), cell by cell. -/
theorem used_cells2 {v v1 : Value} {ws : List Nat} {w : World} (h : Sl uv w v ws) (hv : v1 = cutV v (ulen ws)) (k : Nat) (hk : k < ulen ws) : ∃ ad c, v1 = .slice (some ad) (ulen ws) c ∧ ulen ws ≤ c ∧ w.cell? (ad.add k) = some (.int .u64 ((ws[k]?.getD 0 : Nat) : Int)) := by
 have hul := (ulen_le ws).1
 obtain ⟨ad, c, rfl, hc, hcell⟩ := sl_cell h k (by omega)
 refine ⟨ad, c, hv, by omega, ?_⟩
 rw [hcell, List.getElem?_eq_getElem (by omega)]
 rfl
theorem and_pred (x : Nat) (hx : U64 x) (h0 : x ≠ 0) : bits .and .u64 (x : Int) ((x : Int) - 1) = ((x &&& (x - 1) : Nat) : Int) := by
 rw [show (x : Int) - 1 = ((x - 1 : Nat) : Int) by omega]
 exact u64_and_nat _ _ hx (Nat.lt_of_le_of_lt (Nat.sub_le _ _) hx)

set_option maxRecDepth 100000 in
set_option maxHeartbeats 2000000 in
/-- The closure of elements, for every loop body that keeps what lay below n₀. -/
theorem elems1_in (F : Fence) (n : Nat) (hF : F = .wide) (hn : 1 ≤ n) (l Bs n₀ : Nat) (sv : Value) (ws : List Nat) (W0 : World) (hn₀ : n₀ = W0.heap.size) (hS : Sl uv W0 sv ws) (hl : Room2 ws.length) (hw : Wds ws) (hT : Tab W0) (J Jx : List Nat → World → Prop)
  (hY : ∀ pre (x : Nat) W, J pre W → pre.length < (els ws).length → YieldAt F (n - 1) Tryd.prog l #[.int .i64 (x : Int)] W fun e W' =>
   (e = .returned (.bool true) ∧ J (pre ++ [x]) W' ∧ Below n₀ W W') ∨ (e = .returned (.bool false) ∧ Jx (pre ++ [x]) W'))
  (W : World) (hbW : Below n₀ W0 W) (hBs : W.cell? ⟨Bs, 0, none⟩ = some sv) (h0 : J [] W) :
  CallsIn F n Tryd.prog 49 #[.func (.yield l) #[] #[], .pointer (some ⟨Bs, 0, none⟩)] W fun e W' => (∃ v, e = .returned v) ∧
   ((∃ ys, ys = els ws ∧ J ys W') ∨ (∃ pre, pre <+: els ws ∧ Jx pre W')) := by
 subst hF
 have hu := (ulen_le ws).2
 obtain ⟨A, c, rfl⟩ := hS.shape
 have HS := Lib.hid hS; have Hl := Lib.hid hl; have Hw := Lib.hid hw; have HT := Lib.hid hT; have HbW := Lib.hid hbW; have HY := Lib.hid hY
 have Hpos := Lib.hid hT.size
 rw [← hn₀] at Hpos
 subst hn₀
 clear hS hl hw hT hbW hY
 refine callsIn_of_wp Tryd.func49 rfl trivial ?_ rfl
 simp only [Tryd.ntmps49, List.size_toArray, List.length_cons, List.length_nil, Nat.reduceAdd, Nat.reduceSub, Array.replicate_succ, Array.replicate_zero, List.push_toArray, List.append_toArray, List.nil_append, List.cons_append]
 gi_wp2
 refine ⟨trivial, (callsIn_wide.2 (used_any _ ws _ (HS.out.below HbW.out) Hl.out)).mono ?_⟩
 rintro e w1 ⟨v1, rfl, hv1, h1, rfl⟩
 obtain rfl : v1 = .slice A (ulen ws) c := hv1
 clear h1
 gi_wp2
 gi_loopw [8] (fun i wr => ∃ k : Nat, k ≤ ulen ws ∧ i = .int .i64 k ∧ J (elsW ws k) wr ∧ Below W0.heap.size W wr) (fun i _ => ulen ws - (intOf i).toNat)
 case atStart => exact ⟨0, Nat.zero_le _, rfl, h0, Below.refl _ _⟩
 case round =>
  obtain ⟨k, hk, rfl, hJs, hnx⟩ := hrel
  by_cases hlt : k < ulen ws
  ·obtain ⟨ad, c', hs, hcap, hcell⟩ := used_cells2 (HS.out.below (HbW.out.trans hnx)) (rfl : Value.slice A (ulen ws) c = cutV (.slice A ws.length c) (ulen ws)) k hlt
   simp only [Value.slice.injEq, true_and] at hs
   obtain ⟨rfl, rfl⟩ := hs
   have hxw := Lib.hid (Hw.out.at k)
   have hwat := Lib.hid (wat_lt ws k hlt)
   gi_wp2
   gi_loopw [4] (fun wv wr2 => ∃ (dn : List Nat) (x : Nat), wv = .int .u64 x ∧ U64 x ∧ dn ++ bitl x = bitl (wat ws k) ∧ J (elsW ws k ++ dn.map (64 * k + ·)) wr2 ∧ Below W0.heap.size W wr2) (fun wv _ => (intOf wv).toNat)
   case atStart => exact ⟨[], _, rfl, hxw.out, by rw [hwat.out]; rfl, by simpa using hJs, hnx⟩
   case round =>
    obtain ⟨dn, x, rfl, hx, hdn, hJ2, hnx2⟩ := hrel
    by_cases hx0 : x = 0
    ·subst hx0
     rw [bitl_zero, List.append_nil] at hdn
     have Hdn := Lib.hid hdn
     clear hdn
     gi_wp2
     go_roundw
     case rel => exact ⟨k + 1, by omega, by go_num, by rw [elsW_succ, ← Hdn.out]; exact hJ2, hnx2⟩
     case measure => simp [intOf]; omega
    ·obtain ⟨hb, ht, hless⟩ := bitl_step x hx hx0
     have hand := and_pred x hx hx0
     have hnz : ((x : Int) != 0) = true := by rw [bne_iff_ne]; omega
     have hwr : IntKind.u64.wrap ((x : Int) - 1) = (x : Int) - 1 := by unfold U64 at hx; exact u64_wraps _ (by omega) (by omega)
     rw [hb] at hdn
     have hpre := els_next (by omega) hdn
     have hlen : (elsW ws k ++ dn.map (64 * k + ·)).length < (els ws).length := by
      have := hpre.length_le
      simp only [List.length_append, List.length_map, List.length_cons, List.length_nil] at this ⊢
      omega
     have hyy := HY.out _ (64 * k + Lib.ctz 64 x) wr hJ2 hlen
     have hT2 := HT.out.below (HbW.out.trans hnx2) Hpos.out
     have htz := tz_any x wr hx hx0 hT2
     have Hdn := Lib.hid hdn
     have Hpre := Lib.hid hpre
     have Hx := Lib.hid hx
     have hlx : U64 (x &&& (x - 1)) := Nat.lt_trans hless hx
     have Hlx := Lib.hid hlx
     have Htz := Lib.hid htz
     clear hdn hpre hb hx hlx htz hlen hT2
     generalize Lib.ctz 64 x = t at *
     generalize x &&& (x - 1) = x' at *
     rw [show (((64 * k + t : Nat) : Int)) = (k : Int) * 64 + (t : Int) by omega] at hyy
     obtain ⟨fn, tmps, assign, body, hy, hR⟩ := hyy
     gi_wp2
     refine ⟨trivial, (callsIn_wide.2 Htz.out).mono ?_⟩
     rintro e w1 ⟨rfl, rfl⟩
     gi_wp2
     refine hR.mono ?_
     rintro e W3 (⟨rfl, hJ3, hk3⟩ | ⟨rfl, hJx3⟩)
     ·gi_wp2
      go_roundw
      case rel => exact ⟨dn ++ [t], x', rfl, Hlx.out, by rw [List.append_assoc]; exact Hdn.out, by rw [List.map_append, ← List.append_assoc]; exact hJ3, hnx2.trans hk3⟩
      case measure => simp [intOf]; omega
     ·gi_wp2
      refine bodyPost_ret (results_none rfl _ _ _) rfl ?_
      exact ⟨⟨_, rfl⟩, .inr ⟨_, Hpre.out, hJx3⟩⟩
  ·obtain rfl : k = ulen ws := by omega
   gi_wp2
   go_end0
   exact ⟨⟨_, rfl⟩, .inl ⟨_, elsW_ulen ws, hJs⟩⟩

theorem elems_stops (n : Nat) (hn : 1 ≤ n) (Bs : Nat) (sv : Value) (ws : List Nat) (W0 w : World) (hS : Sl uv W0 sv ws) (hl : Room2 ws.length) (hw : Wds ws) (hT : Tab W0) (hb : Below W0.heap.size W0 w) (hBs : Bs < w.heap.size) (hc : w.cell? ⟨Bs, 0, none⟩ = some sv) :
  SeqStopsK .wide n Tryd.prog 49 #[.pointer (some ⟨Bs, 0, none⟩)] (fun x : Nat => #[Value.int .i64 (x : Int)]) (Below W0.heap.size) (fun ys => ys = els ws) (fun pre => pre <+: els ws) (els ws).length w := fun l J Jx W hW _ _ hY h0 =>
 elems1_in .wide n rfl hn l Bs _ sv ws W0 rfl hS hl hw hT J Jx hY W (hb.trans (hW.mono hb.size)) ((hW.cell (p := ⟨Bs, 0, none⟩) hBs).trans hc) h0
/-- elements(s): the set is boxed; the function value captures the box. -/
theorem elems_make (n : Nat) (A : Option Addr) (len cap : Nat) (w : World) :
  CallsIn .wide n Tryd.prog 25 #[.slice A len cap] w fun e w' => e = .returned (.func (.func 49) #[] #[.pointer (some ⟨w.heap.size, 0, none⟩)]) ∧ w' = w.alloc (.cells #[.slice A len cap] 35) := by
 refine callsIn_of_wp Tryd.func25 rfl trivial ?_ rfl
 simp only [Tryd.ntmps25, List.size_toArray, List.length_cons, List.length_nil, Nat.reduceAdd, Nat.reduceSub, Array.replicate_succ, Array.replicate_zero, List.push_toArray, List.append_toArray, List.nil_append, List.cons_append]
 gi_wp2
 go_ret
 exact ⟨rfl, rfl⟩
end Go.Proofs.YtockgbilbnheaaaDoor
