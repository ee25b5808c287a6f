/- The contracts of List and Least. -/
import Derived.Test.YtockgbilbnheaaaDoorBitsEls
import Derived.Test.YtockgbilbnheaaaDoorMBitsComb
namespace Go.Proofs.YtockgbilbnheaaaDoor
open Go.RowKit Go.Shelf
attribute [local go_sem] Oper.semAt_some

theorem info_int : (Tryd.prog.info? 3).map (fun i => (i.zero, i.size, i.bytes)) = some (some (.int .i64 0), 1, 8) := by kernel_rfl
set_option maxRecDepth 100000 in
set_option maxHeartbeats 2000000 in
theorem list_in (v : Value) (ws : List Nat) (w : World) (h : Sl uv w v ws) (hl : Room2 ws.length) (hw : Wds ws) (hT : Tab w) :
  CallsIn .wide 9 Tryd.prog 10 #[v] w fun e w' => ∃ v', e = .returned v' ∧ w'.ownsRow w.heap.size 3 1 v' (els ws).length ((els ws).map nv) ∧ Below w.heap.size w w' := by
 obtain ⟨A, c, rfl⟩ := h.shape
 have HS := Lib.hid h; have Hl := Lib.hid hl; have Hw := Lib.hid hw; have HT := Lib.hid hT
 clear h hl hw hT
 obtain ⟨i0, hi, hz0, hz1, hz2⟩ := info_parts info_int
 refine callsIn_of_wp_marks Tryd.func10 rfl trivial ?_ rfl
 simp only [Tryd.ntmps10, List.size_toArray, List.length_cons, List.length_nil, Nat.reduceAdd, Nat.reduceSub, Array.replicate_succ, Array.replicate_zero, List.push_toArray, List.append_toArray, List.nil_append, List.cons_append]
 gi_wp2
 refine ⟨trivial, (callsIn_wide.2 (len_any _ ws _ HS.out Hl.out Hw.out)).mono ?_⟩
 rintro e w1 ⟨rfl, rfl⟩
 have hlen := slen_els ws
 have hle := els_len_le ws
 obtain ⟨m, hm⟩ : ∃ m, m = (els ws).length := ⟨_, rfl⟩
 rw [hlen, ← hm]
 rw [← hm] at hle
 have Hm := Lib.hid hm
 clear hm hlen
 gi_wp2_with (gi_at_make; refine wpListIn_make_own _ rfl _ _ _ rfl w.heap.size 3 i0 _ 1 (by kernel_rfl) hi hz0 hz1 _ _ _ m rfl rfl rfl (by rw [hz2]; omega) (by unfold maxLen; omega) (Nat.le_refl _) ?_; intro w1 hown hgr)
 refine ⟨trivial, (elems_make _ A ws.length c _).mono ?_⟩
 rintro e w' ⟨rfl, rfl⟩
 gi_wp2
 have hb1 : Below w.heap.size w w1 := (Below.refl _ w).grown hgr (Nat.le_refl _) (fun k e => by cases e)
 have hs1 := hb1.size
 have bO := Boxed.new w1 22 (.slice (some ⟨w.heap.size, 0, none⟩) 0 m)
 have bN := Boxed.new (w1.alloc (.cells #[.slice (some ⟨w.heap.size, 0, none⟩) 0 m] 22)) 35 (.slice A ws.length c)
 rw [World.size_alloc] at bN
 have hB0 : Below w.heap.size w ((w1.alloc (.cells #[.slice (some ⟨w.heap.size, 0, none⟩) 0 m] 22)).alloc (.cells #[.slice A ws.length c] 35)) := (hb1.alloc hs1 _).alloc (by simp; omega) _
 refine wpIn_rangeFunc_ownG (n := 9) rfl (by decide) (gf := 49) (lb := #[.pointer (some ⟨w1.heap.size + 1, 0, none⟩)]) rfl trivial (enters_of Tryd.func49 (by kernel_rfl) rfl)
  (elems_stops 8 (by decide) (w1.heap.size + 1) (.slice A ws.length c) ws w _ HS.out Hl.out Hw.out HT.out hB0 (by simp) bN.cell) belowK_t (belowK_b (by simp; omega)) (Below.refl _ _) (fun _ => rfl)
  (fun (pre : List Nat) W => (∃ v, Boxed W w1.heap.size 22 v ∧ W.ownsRow w.heap.size 3 1 v pre.length (pre.map nv) ∧ True) ∧ Below w.heap.size w W)
  (fun _ _ _ => False)
  (OwnFrom.and (Own.from (holdsRow_own w.heap.size w1.heap.size 22 3 1 (fun pre : List Nat => pre.length) (fun pre => pre.map nv) (fun _ _ => True)) _) (ownFrom_below (Nat.le_refl _) (by simp; omega)))
  (fun _ _ _ _ _ hs _ _ => hs)
  ⟨⟨_, bO.alloc _, (hown.alloc _).alloc _, trivial⟩, hB0⟩
  (fun x : Nat => { tmps := #[.slice A ws.length c, undef, .slice none 0 0, .pointer (some ⟨w1.heap.size, 0, none⟩), .int .i64 (x : Int), .slice A ws.length c, .int .i64 m, .slice (some ⟨w.heap.size, 0, none⟩) 0 m, .slice A ws.length c, .func (.func 49) #[] #[.pointer (some ⟨w1.heap.size + 1, 0, none⟩)], .int .i64 (x : Int), undef, undef, undef, undef, undef], defers := [] }) ?assign ?body ?done ?stop
 case assign =>
  intro l x W K hK
  gi_wp2
  exact hK
 case body =>
  rintro l pre x W ⟨⟨v, hv, hrow, _⟩, hB⟩ hlt
  have hc := hv.cell
  rw [← Hm.out] at hlt
  gi_wp2_with (gi_at_builtin; refine wpListIn_append_own _ rfl _ _ 22 rfl w.heap.size 3 i0 (.int .i64 0) 1 8 (by kernel_rfl) hi hz0 hz1 hz2 rfl (by decide) _ _ _ rfl (hrow.alloc _) ⟨W.heap.size, 0, none⟩ 1 1 [.int .i64 (x : Int)] rfl rfl (cell_one_new _ _ _) (by simp [Value.oneCell']) (by unfold maxLen; omega) (by omega) (by have := hB.size; simp; omega) ?_; intro v' w2 hown' hgrow _; obtain ⟨g', cap', rfl⟩ := ownsRow_succ hown'; obtain ⟨hv1, hv2, hr2, hk2, hb2⟩ := hv.appended (by decide) hrow hB.size (by omega) hown' hgrow; have hc1 := hv1.cell; have hf1 := hv1.frozen)
  exact ⟨hk2.from _, hb2, ⟨_, hv2, by simpa [nv] using hr2, trivial⟩, hB.trans hb2⟩
 case done =>
  rintro D ys W hD rfl ⟨⟨v, hv, hrow, _⟩, hB⟩ hK
  have hc := hv.cell
  gi_wp2
  refine ⟨by simp, .inl ⟨_, _, rfl, run_takeDeferred hK, ?_⟩⟩
  exact ⟨_, results_tmp rfl _ _ _, v, rfl, ownsRow_putObj hrow _ hK rfl, hB.trans (belowK_b (w := w) (Nat.le_refl _) W D _ _ (by simp at hD; omega) hK rfl rfl)⟩
 case stop =>
  rintro D c pre W _ _ h _
  exact h.elim
theorem list_any (v : Value) (ws : List Nat) (w : World) (h : Sl uv w v ws) (hl : Room2 ws.length) (hw : Wds ws) (hT : Tab w) :
  Calls Tryd.prog 10 #[v] w fun e w' => ∃ v', e = .returned v' ∧ Sl nv w' v' (els ws) ∧ Below w.heap.size w w' :=
 ((callsIn_wide (n := 9)).1 (list_in v ws w h hl hw hT)).mono fun _ _ ⟨v', he, hr, hb⟩ => ⟨v', he, Sl.of_own hr, hb⟩
end Go.Proofs.YtockgbilbnheaaaDoor
