/- nfa's Determinize: the walk (tools/det2_gen.py). -/
import Derived.Test.YtockgbilbnheaaaDoorNfaDeF
namespace Go.Proofs.YtockgbilbnheaaaDoor
open Go.RowKit Go.Maps

set_option maxRecDepth 100000 in
set_option maxHeartbeats 4000000 in
theorem det_any (S : Nat) (st : List Int) (fin : List Bool) (ar : List Ac) (sv fv v : Value) (lim : Int) (w : World) (h : VN S st fin ar) (hs : Sl iv w sv st) (hf : Sl bl w fv fin) (ha : Acs w v ar) (hT : Tab w) :
  Calls Tryd.prog 19 #[.agg #[.int .i64 (S : Int), sv, fv, v], .int .i64 lim] w (DetP S ar st fin (min lim 1000) w) := by
 obtain ⟨As, cs, rfl⟩ := hs.shape
 have Hn := Lib.hid h; have Hs := Lib.hid hs; have Hf := Lib.hid hf; have Ha := Lib.hid ha; have HT := Lib.hid hT
 have hS := h.few
 have hsl := h.stl
 have hT0 := hT.size
 clear h hs hf ha hT
 have hmm := @run_makeMap Tryd.prog
 obtain ⟨R0, hR0⟩ : ∃ R0 : Value, R0 = .agg #[.slice none 0 0, .slice none 0 0, .slice none 0 0] := ⟨_, rfl⟩
 obtain ⟨W, hW⟩ : ∃ W, W = (w.alloc (.cells #[.int .i64 (S : Int), .slice As st.length cs, fv, v] 32)).alloc (.cells #[.slice none 0 0, .slice none 0 0, .slice none 0 0] 55) := ⟨_, rfl⟩
 have hbw : Below w.heap.size w W := by rw [hW]; exact ((Below.refl _ w).alloc (Nat.le_refl _) _).alloc (by simp) _
 have hWs : W.heap.size = w.heap.size + 2 := by rw [hW]; simp
 have hWb : W.heap[w.heap.size]? = some (.cells #[.int .i64 (S : Int), .slice As st.length cs, fv, v] 32 (0, 0)) := by rw [hW]; exact heap_alloc_2 w _ _
 have hWr : W.heap[w.heap.size + 1]? = some (.cells #[.slice none 0 0, .slice none 0 0, .slice none 0 0] 55 (0, 0)) := by rw [hW]; exact heap_alloc_2' w _ _
 have KB := Lib.hid (show ∀ w', Below W.heap.size W w' → Below w.heap.size w w' from fun w' h => below_ext2 hbw h)
 have KX := Lib.hid (show ∀ w', Below W.heap.size W w' → w'.cell? ⟨w.heap.size, 0, none⟩ = some (.int .i64 (S : Int)) ∧ w'.cell? ⟨w.heap.size, 1, none⟩ = some (.slice As st.length cs) ∧ w'.cell? ⟨w.heap.size, 2, none⟩ = some fv ∧ w'.cell? ⟨w.heap.size, 3, none⟩ = some v from fun w' h => by
  have g1 := (h.block _ (lt_of_some hWb)).trans hWb
  exact ⟨cell_of_row _ _ 0 _ _ _ g1, cell_of_row _ _ 1 _ _ _ g1, cell_of_row _ _ 2 _ _ _ g1, cell_of_row _ _ 3 _ _ _ g1⟩)
 have HWr := Lib.hid hWr; have HWs := Lib.hid hWs; have Hbw := Lib.hid hbw
 obtain ⟨x0, x1, x2, x3⟩ := KX.out _ (Below.refl _ _)
 clear hbw hWb hWr hWs
 go_enter Tryd.func19, Tryd.ntmps19
 go_wp2_with fail
 rw [← hW]
 clear hW
 refine (check_ok S st fin ar (.slice As st.length cs) fv v none 0 [] W Hn.out (Hs.out.below Hbw.out) (Hf.out.below Hbw.out) (Ha.out.below Hbw.out) (.inl ⟨rfl, rfl⟩) (by simp) (by simp)).mono ?_
 rintro e w1 ⟨rfl, hb1⟩
 have B1 := Lib.hid hb1
 clear hb1 x0 x1 x2 x3
 obtain ⟨x0, x1, x2, x3⟩ := KX.out _ B1.out
 obtain ⟨L, hL⟩ : ∃ L, L = min lim 1000 := ⟨_, rfl⟩
 have hL1 : L ≤ 1000 := by omega
 have HL := Lib.hid hL
 clear hL
 go_wp2_with fail
 refine (each_any S (.slice As st.length cs) fv v ar w1 (Ha.out.below (KB.out _ B1.out)) Hn.out.va hS).mono ?_
 rintro e w2 ⟨g, vals0, rfl, hg0, hce, hb2⟩
 rw [← HL.out]
 have B2 := Lib.hid (B1.out.trans (hb2.mono B1.out.size))
 have HC := Lib.hid hce
 clear hb2 x0 x1 x2 x3 hce
 obtain ⟨x0, x1, x2, x3⟩ := KX.out _ B2.out
 go_wp2_with fail
 refine (closure_any S (.slice As st.length cs) fv v ar As cs st w2 (Ha.out.below (KB.out _ B2.out)) Hn.out.va hS (Hs.out.below (KB.out _ B2.out)) (by omega) Hn.out.bds).mono ?_
 rintro e w3 ⟨v0, s0, rfl, hset0, hb3⟩
 obtain ⟨A0, c0, rfl⟩ := hset0.st.shape
 have B3 := Lib.hid (B2.out.trans (hb3.mono B2.out.size))
 have HC3 := Lib.hid (HC.out.keep hb3)
 have HS0 := Lib.hid hset0
 clear hb3 x0 x1 x2 x3 hset0
 -- the box, the row of sets and the map of numbers
 obtain ⟨Z, hZ⟩ : ∃ Z, Z = ((w3.alloc (.cells #[.slice A0 s0.length c0] 35)).alloc (.cells #[.slice (some ⟨w3.heap.size, 0, none⟩) 1 1, .slice none 0 0, .slice none 0 0] 55)).alloc (.map #[] 0) := ⟨_, rfl⟩
 have y0 : Z.cell? ⟨w3.heap.size + 1, 0, none⟩ = some (.slice (some ⟨w3.heap.size, 0, none⟩) 1 1) := by
  rw [hZ]; exact cell_of_row _ _ 0 _ _ _ (heap_alloc_3 w3 _ _ _).2.1
 have y1 : Z.cell? ⟨w3.heap.size, 0, none⟩ = some (.slice A0 s0.length c0) := by
  rw [hZ]; exact cell_of_row _ _ 0 _ _ _ (heap_alloc_3 w3 _ _ _).1
 have hZs : Z.heap.size = w3.heap.size + 3 := by rw [hZ]; simp
 have hZb : Below w3.heap.size w3 Z := by rw [hZ]; exact (((Below.refl _ w3).alloc (Nat.le_refl _) _).alloc (by simp) _).alloc (by simp; omega) _
 have hZm : Z.ownsMap Tryd.prog 9 Rv (w3.heap.size + 2) 0 (.map []) := by
  have h := World.ownsMap_made ((w3.alloc (.cells #[.slice A0 s0.length c0] 35)).alloc (.cells #[.slice (some ⟨w3.heap.size, 0, none⟩) 1 1, .slice none 0 0, .slice none 0 0] 55)) Tryd.prog 9 Rv
  have e : ((w3.alloc (.cells #[.slice A0 s0.length c0] 35)).alloc (.cells #[.slice (some ⟨w3.heap.size, 0, none⟩) 1 1, .slice none 0 0, .slice none 0 0] 55)).heap.size = w3.heap.size + 2 := by simp
  rw [e] at h
  rw [hZ]; exact h
 have hZr : Z.heap[w3.heap.size]? = some (.cells #[.slice A0 s0.length c0] 35 (0, 0)) := by rw [hZ]; exact (heap_alloc_3 w3 _ _ _).1
 have hZx : Z.heap[w3.heap.size + 1]? = some (.cells #[.slice (some ⟨w3.heap.size, 0, none⟩) 1 1, .slice none 0 0, .slice none 0 0] 55 (0, 0)) := by rw [hZ]; exact (heap_alloc_3 w3 _ _ _).2.1
 have hD0 : Dm Z w3.heap.size (w3.heap.size + 1) (w3.heap.size + 2) (.slice (some ⟨w3.heap.size, 0, none⟩) 1 1) (.slice none 0 0) [.slice A0 s0.length c0] [s0] [] (.map []) 0 :=
  ⟨by omega, hZx, ⟨rfl, .inr ⟨w3.heap.size, 1, #[.slice A0 s0.length c0], rfl, Nat.le_refl _, hZr, Nat.le_refl _, by decide, rfl, rfl⟩⟩, World.ownsRow_nil _ _ _ _, hZm, fun i v ws h1 h2 => by
   cases i with
   | zero => cases h1; cases h2; exact HS0.out.st.below hZb
   | succ i => cases h1⟩
 have HD0 := Lib.hid hD0; have HZs := Lib.hid hZs; have HZb := Lib.hid hZb
 rw [hZ] at y0 y1
 have HZ := Lib.hid hZ
 clear hD0 hZs hZb hZm hZr hZx hZ
 go_wp2_with fail
 rw [← HZ.out]
 refine (key_any (.slice A0 s0.length c0) s0 Z (HS0.out.st.sl.below HZb.out) HS0.out.wds HS0.out.len).mono ?_
 rintro e w4 ⟨rfl, hb4⟩
 obtain ⟨w5, hr5, ho5, hg5⟩ := num_store (HD0.out.below hb4).num HS0.out.len (by decide) (.int .i64 0)
 have HD5 := Lib.hid ((HD0.out.below hb4).num_put hg5 ho5)
 have HK5 := Lib.hid (Dk.nil.put (s := s0) (by simp) ⟨HS0.out.can, HS0.out.wds, HS0.out.len⟩)
 have hb35 : Below w3.heap.size w3 w4 := HZb.out.trans (hb4.mono (by have := HZs.out; omega))
 have hs4 : w3.heap.size + 3 ≤ w4.heap.size := by have := HZs.out; have := hb4.size; omega
 have HB5 := Lib.hid (hb35.grown hg5 (by omega) (by intro k hk; cases hk; omega))
 have hs5 : w3.heap.size + 3 ≤ w5.heap.size := Nat.le_trans hs4 hg5.size
 clear hb4 ho5 hg5 hb35 y0 y1
 go_wp2_with fail
 clear hr5
 go_loopw [10] (fun i wr => Do S w3 w3.heap.size (w3.heap.size + 1) (w3.heap.size + 2) ar s0 L i wr) (fun i _ => 1001 - (intOf i).toNat)
 case atStart => exact ⟨0, _, _, _, [s0], [], _, 1, rfl, by omega, rfl, by omega, ⟨HD5.out, HK5.out, by simp, fun ws hws n hn => by rw [List.mem_singleton.1 hws] at hn; have := Cl.bd Hn.out.va (fun x hx => Hn.out.bds x hx) (rc_cl.1 ((HS0.out.has n).1 hn)); omega⟩, by simp, by simp, HB5.out, by omega, fun i hi => by omega⟩
 case round =>
  obtain ⟨k, vS, vA, vals, SS, A, D, nn, rfl, hk, heq, hkS, hdst, hS3, hA, hb, hsz, hist⟩ := hrel
  have HM := Lib.hid hdst.m; have HK := Lib.hid hdst.k; have HB := Lib.hid hb; have Hist := Lib.hid hist; have Heq := Lib.hid heq
  have hnn := hdst.n
  have Hbs := Lib.hid hdst.b
  obtain ⟨AS, cS, rfl⟩ := own_shapeG hdst.m.rs
  obtain ⟨AA, cA, rfl⟩ := own_shapeG hdst.m.ra
  have z0 := hdst.m.c0
  clear hdst hb hist heq
  by_cases hlt : k < SS.length ∧ (SS.length : Int) ≤ L
  ·obtain ⟨h1, h2⟩ := hlt
   have t1 : (k : Int) < (SS.length : Int) := by omega
   obtain ⟨ad, cS', u, e1, hcap, hcell, hwst⟩ := HM.out.at k h1
   simp only [Value.slice.injEq, true_and] at e1
   obtain ⟨rfl, rfl⟩ := e1
   obtain ⟨Au, cu, rfl⟩ := hwst.shape
   have hwf := HK.out.wf _ (List.getElem_mem h1)
   obtain ⟨ws, hws⟩ : ∃ ws, ws = SS[k] := ⟨_, rfl⟩
   rw [← hws] at hwst hwf hcell
   have hgd : SS[k]?.getD [] = ws := by rw [List.getElem?_eq_getElem h1, hws]; rfl
   have Hgd := Lib.hid hgd; have Hwf := Lib.hid hwf
   clear hws hgd hwf
   have B3r := Lib.hid (B3.out.trans (HB.out.mono B3.out.size))
   obtain ⟨x0, x1, x2, x3⟩ := KX.out _ B3r.out
   have Keep := Lib.hid (show ∀ w', Below wr.heap.size wr w' → w'.cell? ⟨w.heap.size, 0, none⟩ = some (.int .i64 (S : Int)) ∧ w'.cell? ⟨w.heap.size, 1, none⟩ = some (.slice As st.length cs) ∧ w'.cell? ⟨w.heap.size, 2, none⟩ = some fv ∧ w'.cell? ⟨w.heap.size, 3, none⟩ = some v ∧ w'.cell? ⟨w3.heap.size + 1, 0, none⟩ = some (.slice (some ad) SS.length cS) ∧ w'.cell? (ad.add k) = some (.slice Au ws.length cu) from fun w' hb' => by
    obtain ⟨q0, q1, q2, q3⟩ := KX.out _ (B3r.out.trans (hb'.mono B3r.out.size))
    exact ⟨q0, q1, q2, q3, by rw [hb'.cell (World.block_lt_of_cell? _ _ z0)]; exact z0, by rw [hb'.cell (World.block_lt_of_cell? _ _ hcell)]; exact hcell⟩)
   have g0 : (0 : Int) ≤ (k : Int) := by omega
   have Hst := Lib.hid (show ∀ w', Below wr.heap.size wr w' → Calls Tryd.prog 40 #[.agg #[.int .i64 (S : Int), .slice As st.length cs, fv, v], .slice (some ⟨g, 0, none⟩) S S, .slice Au ws.length cu] w' (StsP ar ws w') from fun w' hb' =>
    steps_any S (.slice As st.length cs) fv v (.slice Au ws.length cu) ar g vals0 ws w' (Ha.out.below (KB.out _ (B3r.out.trans (hb'.mono B3r.out.size)))) Hn.out.va (HC3.out.keep (HB.out.trans (hb'.mono hsz))) (hwst.sl.below hb') Hwf.out.2.1 Hwf.out.2.2 (HT.out.below (Hbw.out.trans ((B3r.out.trans (hb'.mono B3r.out.size)).mono Hbw.out.size)) hT0))
   clear hwst
   go_wp2_with fail
   refine wp_region_noPanic ?_
   refine wp_region_held_drew (S := fun w' => w'.cell? ⟨w.heap.size, 0, none⟩ = some (.int .i64 (S : Int)) ∧ w'.cell? ⟨w.heap.size, 1, none⟩ = some (.slice As st.length cs) ∧ w'.cell? ⟨w.heap.size, 2, none⟩ = some fv ∧ w'.cell? ⟨w.heap.size, 3, none⟩ = some v ∧ w'.cell? ⟨w3.heap.size + 1, 0, none⟩ = some (.slice (some ad) SS.length cS) ∧ w'.cell? (ad.add k) = some (.slice Au ws.length cu)) (by kernel_rfl) ⟨x0, x1, x2, x3, z0, hcell⟩ (fun hHeld => ?_)
   refine wpAnyH_take (i := 0) (v := ?_) rfl (by kernel_rfl) (by kernel_rfl) (by kernel_rfl) (fun _ _ _ h => h) (Or.inl ⟨by rfl, ?_⟩) hHeld ?_
   rotate_left
   focus ((intro w hSw; (try dsimp only at hSw); go_simp); try with_reducible rfl)
   try simp only [Act.put]
   refine wpAnyH_take (i := 1) (v := ?_) rfl (by kernel_rfl) (by kernel_rfl) (by kernel_rfl) (fun _ _ _ h => h) (Or.inl ⟨by rfl, ?_⟩) hHeld ?_
   rotate_left
   focus ((intro w hSw; (try dsimp only at hSw); go_simp); try with_reducible rfl)
   try simp only [Act.put]
   refine wpAnyH_take (i := 2) (v := ?_) rfl (by kernel_rfl) (by kernel_rfl) (by kernel_rfl) (fun _ _ _ h => h) (Or.inl ⟨by rfl, ?_⟩) hHeld ?_
   rotate_left
   focus ((intro w hSw; (try dsimp only at hSw); go_simp); try with_reducible rfl)
   try simp only [Act.put]
   refine wpAnyH_take (i := 3) (v := ?_) rfl (by kernel_rfl) (by kernel_rfl) (by kernel_rfl) (fun _ _ _ h => h) (Or.inl ⟨by rfl, ?_⟩) hHeld ?_
   rotate_left
   focus ((intro w hSw; (try dsimp only at hSw); go_simp); try with_reducible rfl)
   try simp only [Act.put]
   refine wpAnyH_take (i := 4) (v := ?_) rfl (by kernel_rfl) (by kernel_rfl) (by kernel_rfl) (fun _ _ _ h => h) (Or.inl ⟨by rfl, ?_⟩) hHeld ?_
   rotate_left
   focus ((intro w hSw; (try dsimp only at hSw); go_simp); try with_reducible rfl)
   try simp only [Act.put]
   refine wpAnyH_take (i := 5) (v := ?_) rfl (by kernel_rfl) (by kernel_rfl) (by kernel_rfl) (fun _ _ _ h => h) (Or.inl ⟨by rfl, ?_⟩) hHeld ?_
   rotate_left
   focus ((intro w hSw; (try dsimp only at hSw); go_simp); try with_reducible rfl)
   try simp only [Act.put]
   refine wpAnyH_take (i := 6) (v := ?_) rfl (by kernel_rfl) (by kernel_rfl) (by kernel_rfl) (fun _ _ _ h => h) (Or.inl ⟨by rfl, ?_⟩) hHeld ?_
   rotate_left
   focus ((intro w hSw; (try dsimp only at hSw); go_simp); try with_reducible rfl)
   try simp only [Act.put]
   refine wpAnyH_ready (rs := [7]) (by kernel_rfl) (by simp) ?_
   refine AllReadyH.cons rfl (fun K hK => ?_) ?_
   focus ((go_simp; refine (Hst.out _ (Below.drewN' (Below.refl _ _) 1)).mono ?_; rintro e w6 ⟨b6, n6, D6, rfl, hbl6, hown6, hn6, hm6, hb6⟩; have hb6' : Below wr.heap.size wr w6 := ⟨hb6.os, hb6.tape, hb6.output, hb6.size, hb6.block⟩); refine hK.out _ _ (Keep.out _ hb6') (fun hHeld => ?_); clear hK K; try simp only [Act.put])
   rotate_left
   exact AllReadyH.nil
   refine wpAnyH_ready (rs := [8]) (by kernel_rfl) (by simp) ?_
   refine AllReadyH.cons rfl (fun K hK => ?_) ?_
   focus (go_simp; refine hK.out _ _ (Keep.out _ hb6') (fun hHeld => ?_); clear hK K; try simp only [Act.put])
   rotate_left
   exact AllReadyH.nil
   refine wpAnyH_done (by kernel_rfl) ?_ _
   refine NoPanic.normal ?_
   have hbl6' : wr.heap.size ≤ b6 := hbl6
   have O6 := Lib.hid hown6; have M6 := Lib.hid hm6; have Bw6 := Lib.hid hb6'
   clear hHeld x0 x1 x2 x3 z0 hcell hown6 hm6 hb6 hb6' hbl6
   go_wp2_with fail
   refine (keys_any _ _).mono ?_
   rintro e w7 ⟨rfl, rfl⟩
   go_wp2_with fail
   refine (sorted_any b6 n6 D6 w6 O6.out hn6).mono ?_
   rintro e w8 ⟨vl, ss, rfl, hperm, hrow, hb8⟩
   have hlis := lets_is O6.out M6.out hperm
   have hlen : ss.length = (ss.mergeSort leZ).length := (List.length_mergeSort ss).symm
   obtain ⟨ls, hls⟩ : ∃ ls, ls = ss.mergeSort leZ := ⟨_, rfl⟩
   rw [← hls] at hlis hlen hrow
   rw [hlen] at hrow
   have hle := letsOf_eq hlis
   have hbd : ∀ c ∈ ls, 1 ≤ c ∧ c ≤ 10000 := fun c hc => by
    obtain ⟨x, h3, _, h4, h5⟩ := (hlis.2 c).1 hc
    rw [← h5]; exact ⟨h4, (Hn.out.va.lt _ h3).2⟩
   have hll : ls.length ≤ 10001 := nodup_len (S := 10001) (hlis.1.imp fun h => by omega) (fun x hx => by have := hbd x hx; omega)
   obtain ⟨Al, cl, rfl⟩ := own_shapeA hrow
   have hb8' : Below wr.heap.size wr w8 := Bw6.out.trans (hb8.mono Bw6.out.size)
   have hM8 := HM.out.below hb8'
   have hnb : b6 ≠ w3.heap.size + 2 := by have := HM.out.num.lt; omega
   have Kls := Lib.hid (show ∀ w', Fd (w3.heap.size + 2) w8 w' → Sl iv w' (.slice Al ls.length cl) ls from fun w' h => Sl.of_own (h.ints hM8.num hrow))
   have Kst := Lib.hid (show ∀ w', Fd (w3.heap.size + 2) w8 w' → w'.ownsMap Tryd.prog 3 Rv b6 n6 D6 ∧ MapS w' ar D6 (fun x => x ∈ ar ∧ Els ws x.1 ∧ 1 ≤ x.2.1) from fun w' h =>
    ⟨h.map (O6.out.kept (grown_below hb8 none) (by simp)) hnb, (M6.out.keep fun _ _ h2 => h2.below hb8).keep fun _ _ h2 => h.wst hM8.num h2⟩)
   have Hle := Lib.hid hle; have Hbd := Lib.hid hbd; have HM8 := Lib.hid hM8
   have HB8 := Lib.hid (HB.out.trans (hb8'.mono hsz))
   have hsz8 : w3.heap.size ≤ w8.heap.size := Nat.le_trans hsz hb8'.size
   clear hls hlis hlen hrow hle hbd hb8 hb8' hM8 hperm
   go_wp2_with fail
   go_loopw [68] (fun i wr => Di S w3 w8 w3.heap.size (w3.heap.size + 1) (w3.heap.size + 2) ar k ws (SS, A) ls i wr) (fun i _ => ls.length - (intOf i).toNat)
   case atStart => exact ⟨0, _, _, _, SS, A, _, _, Nat.zero_le _, rfl, rfl, ⟨HM8.out, HK.out, hnn, Hbs.out⟩, Nat.le_refl _, by omega, by omega, HB8.out, hsz8, Fd.refl _ _⟩
   case round =>
    obtain ⟨j, vS2, vA2, vals2, SS2, A2, D2, nn2, hj, rfl, heq2, hdst2, hp0, hl2, hA2, hb2, hsz2, hfd⟩ := hrel
    have HM2 := Lib.hid hdst2.m; have HK2 := Lib.hid hdst2.k; have HB2 := Lib.hid hb2; have Heq2 := Lib.hid heq2; have HF := Lib.hid hfd
    have hnn2 := hdst2.n
    have Hbs2 := Lib.hid hdst2.b
    obtain ⟨AS2, cS2, rfl⟩ := own_shapeG hdst2.m.rs
    obtain ⟨AA2, cA2, rfl⟩ := own_shapeG hdst2.m.ra
    dsimp only at hp0
    clear hdst2 hb2 heq2 hfd
    by_cases hlt2 : j < ls.length
    ·obtain ⟨adl, cl2, hs, hcapl, hcl⟩ := sl_cell (Kls.out _ HF.out) j hlt2
     simp only [Value.slice.injEq, true_and] at hs
     obtain ⟨rfl, rfl⟩ := hs
     have hcb := Hbd.out _ (List.getElem_mem hlt2)
     have hfold := foldl_take_succ (dst1 ar k ws) (SS, A) ls j hlt2
     rw [Heq2.out] at hfold
     obtain ⟨c, hc⟩ : ∃ c, c = ls[j] := ⟨_, rfl⟩
     rw [← hc] at hcl hcb hfold
     have Hfold := Lib.hid hfold
     clear hc hfold
     unfold iv at hcl
     have hi64 : I64 c := by unfold I64; omega
     obtain ⟨hst1, hst2⟩ := Kst.out _ HF.out
     obtain ⟨u2, hlk, hat⟩ := map_lookup hst1 hi64
     obtain ⟨s, hset, hnx⟩ := map_step Hn.out.va hst2 hcb.1 hat
     obtain ⟨Au2, cu2, rfl⟩ := hset.st.shape
     have Hset := Lib.hid hset; have Hat := Lib.hid hat; have Hnx := Lib.hid hnx
     clear hst1 hst2 hat hset hnx
     go_wp2_with fail
     refine (key_any (.slice Au2 s.length cu2) s wr Hset.out.st.sl Hset.out.wds Hset.out.len).mono ?_
     rintro e w9 ⟨rfl, hb9⟩
     have HM9 := Lib.hid (HM2.out.below hb9)
     have HF9 := Lib.hid (HF.out.trans (Fd.below hb9))
     have HB9 := Lib.hid (HB2.out.trans (hb9.mono hsz2))
     have hsz9 : w3.heap.size ≤ w9.heap.size := Nat.le_trans hsz2 hb9.size
     have HW9 := Lib.hid (Hset.out.st.below hb9)
     obtain ⟨uo, hlo, hato⟩ := num_look HM9.out.num Hset.out.len
     have q0 := HM9.out.c0
     have q2 := HM9.out.c2
     have hsbd : ∀ n, has s n = true → n < S := fun n hn => by have := Sp.bd Hn.out.va ((Hset.out.has n).1 hn); omega
     have Hsbd := Lib.hid hsbd
     clear hb9 hcl hlk hsbd
     by_cases hin : s ∈ SS2
     ·rw [(HK2.out.hs s Hset.out.wds).2 hin] at hlo
      rw [HK2.out.at_ s hin] at hato
      cases hato
      go_wp2_with (at_builtin; refine app1A rfl _ _ 30 rfl 52 _ 24 info_arc rfl Tryd.underlying30 w3.heap.size _ _ _ rfl HM9.out.ra _ _ _ rfl (by intro c hc; simp at hc; rcases hc with rfl | rfl | rfl <;> rfl) (by omega) (by omega) hsz9 ?_; intro vA3 w10 hown10 hf10; obtain ⟨AA3, cA3, rfl⟩ := own_shapeG hown10; have HM10 := Lib.hid (HM9.out.putA (x := ((k : Int), c, ((SS2.idxOf s : Nat) : Int))) hf10 hown10); have bx10 := hf10.keeps HM9.out.box (by decide); have r0 := cell_of_row _ _ 2 _ _ _ bx10; have r1 := frozen_of bx10 2; have hs10 := hf10.size; have HB10 := Lib.hid (HB9.out.trans (hf10.below hsz9)); have HF10 := Lib.hid (HF9.out.trans ((Fd.frmA hf10).trans (Fd.set (i := 2) (v := .slice AA3 (A2.length + 1) cA3) bx10))); clear hown10 hf10 bx10)
      go_wp2
      go_roundw
      case rel =>
       exact ⟨j + 1, _, _, _, SS2, _, D2, nn2, by omega, by go_num, by rw [Hfold.out, dst1_known Hnx.out hin], ⟨HM10.out, HK2.out, hnn2, Hbs2.out⟩, hp0, by omega, by rw [List.length_append, List.length_singleton]; omega, HB10.out.setCell (p := ⟨w3.heap.size + 1, 2, none⟩) (by simp) _, by simp [World.setCell]; omega, HF10.out⟩
      case measure => simp [intOf]; omega
     ·rw [show Maps.has D2 (ks s) = false from Bool.eq_false_iff.2 (fun h => hin ((HK2.out.hs s Hset.out.wds).1 h))] at hlo
      clear hato
      obtain ⟨w10, hr10, ho10, hg10⟩ := num_store HM9.out.num Hset.out.len (by unfold maxLen; omega) (.int .i64 ((SS2.length : Nat) : Int))
      have HM10 := Lib.hid (HM9.out.num_put hg10 ho10)
      have HK10 := Lib.hid (HK2.out.put hin ⟨Hset.out.can, Hset.out.wds, Hset.out.len⟩)
      have HW10 := Lib.hid ((Fd.grown hg10).wst HM9.out.num HW9.out)
      have HF10 := Lib.hid (HF9.out.trans (Fd.grown hg10))
      obtain ⟨u3, hlk3, hat3⟩ := map_lookup (Kst.out _ HF10.out).1 hi64
      rw [Hat.out] at hat3
      cases hat3
      have p0 := HM10.out.c0
      have HB10 := Lib.hid (HB9.out.grown hg10 hsz9 (by intro k hk; cases hk; omega))
      have hsz10 : w3.heap.size ≤ w10.heap.size := Nat.le_trans hsz9 hg10.size
      clear ho10 hg10
      go_wp2_with (first
       | (at_builtin; refine app1S rfl _ _ 53 rfl 35 (.slice none 0 0) 24 info_set rfl Tryd.underlying53 w3.heap.size _ _ _ rfl HM10.out.rs _ rfl rfl (by omega) (by omega) hsz10 ?_; intro vS3 w11 hown11 hf11; obtain ⟨AS3, cS3, rfl⟩ := own_shapeG hown11; have bx11 := hf11.keeps HM10.out.box (by decide); have HM11 := Lib.hid (HM10.out.putS hf11 hown11 HW10.out); have r0 := cell_of_row _ _ 0 _ _ _ bx11; have r1 := frozen_of bx11 0; have r2 := HM11.out.c2; have r3 := cell_of_row _ _ 2 _ _ _ bx11; have hs11 := hf11.size; have HB11 := Lib.hid ((HB10.out.trans (hf11.below hsz10)).setCell (p := ⟨w3.heap.size + 1, 0, none⟩) (by simp) (.slice AS3 (SS2.length + 1) cS3)); have HF11 := Lib.hid (HF10.out.trans ((Fd.frmS hf11).trans (Fd.set (i := 0) (v := .slice AS3 (SS2.length + 1) cS3) bx11))); have Hz11 := Lib.hid (show (w11.setCell ⟨w3.heap.size + 1, 0, none⟩ (.slice AS3 (SS2.length + 1) cS3)).heap.size = w11.heap.size by simp [World.setCell]); have hsz11 : w3.heap.size ≤ (w11.setCell ⟨w3.heap.size + 1, 0, none⟩ (.slice AS3 (SS2.length + 1) cS3)).heap.size := (by simp [World.setCell]; omega); clear hown11 hf11 bx11)
       | (at_builtin; refine app1A rfl _ _ 30 rfl 52 _ 24 info_arc rfl Tryd.underlying30 w3.heap.size _ _ _ rfl HM11.out.ra _ _ _ (by rw [Hz11.out]; rfl) (by intro c hc; simp at hc; rcases hc with rfl | rfl | rfl <;> rfl) (by omega) (by omega) hsz11 ?_; intro vA3 w12 hown12 hf12; obtain ⟨AA3, cA3, rfl⟩ := own_shapeG hown12; have HM12 := Lib.hid (HM11.out.putA (x := ((k : Int), c, ((SS2.length : Nat) : Int))) hf12 hown12); have bx12 := hf12.keeps HM11.out.box (by decide); have t0 := cell_of_row _ _ 2 _ _ _ bx12; have t1' := frozen_of bx12 2; have hs12 := hf12.size; have HB12 := Lib.hid (HB11.out.trans (hf12.below hsz11)); have HF12 := Lib.hid (HF11.out.trans ((Fd.frmA hf12).trans (Fd.set (i := 2) (v := .slice AA3 (A2.length + 1) cA3) bx12))); clear hown12 hf12 bx12))
      go_wp2
      go_roundw
      case rel =>
       exact ⟨j + 1, _, _, _, _, _, _, _, by omega, by go_num, by rw [Hfold.out, dst1_new Hnx.out hin], ⟨HM12.out, HK10.out, by rw [List.length_append, List.length_singleton]; omega, fun ws hws => by
        rcases List.mem_append.1 hws with h | h
        ·exact Hbs2.out ws h
        ·rw [List.mem_singleton.1 h]; exact Hsbd.out⟩, by rw [List.length_append, List.length_singleton]; dsimp only; omega, by rw [List.length_append, List.length_singleton]; omega, by rw [List.length_append, List.length_singleton]; omega, HB12.out.setCell (p := ⟨w3.heap.size + 1, 2, none⟩) (by simp) _, by simp [World.setCell] at hsz11 hs12 ⊢; omega, HF12.out⟩
      case measure => simp [intOf]; omega
    ·go_wp2_with fail
     go_roundw
     case rel =>
      refine ⟨k + 1, _, _, _, SS2, A2, D2, nn2, by go_num, by omega, ?_, by omega, ⟨HM2.out, HK2.out, hnn2, Hbs2.out⟩, by omega, by omega, HB2.out, hsz2, fun i hi => ?_⟩
      ·show drow ar (dget ar s0 k) k = _
       have h3 := Heq2.out
       rw [List.take_of_length_le (by omega)] at h3
       rw [Heq.out]
       unfold drow
       dsimp only
       rw [Hgd.out, Hle.out]
       exact h3
      ·by_cases hik : i < k
       ·exact Hist.out i hik
       ·obtain rfl : i = k := by omega
        rw [Heq.out]
        exact ⟨h1, h2⟩
     case measure => simp [intOf]; omega
  ·by_cases hgt : L < (SS.length : Int)
   ·have B3r := Lib.hid (B3.out.trans (HB.out.mono B3.out.size))
    have hWc := (B3r.out.block _ (lt_of_some HWr.out)).trans HWr.out
    have f0 := frozen_of hWc 0
    have f1 := frozen_of hWc 1
    have f2 := frozen_of hWc 2
    have c0' := cell_of_row _ _ 0 _ _ _ hWc
    have c1' := cell_of_row _ _ 1 _ _ _ hWc
    have c2' := cell_of_row _ _ 2 _ _ _ hWc
    have KRet := Lib.hid (show ∀ w', Below (w.heap.size) wr w' → Below w.heap.size w w' from fun w' h => (KB.out _ B3r.out).trans h)
    by_cases hks : k < SS.length
    ·have t1 : (k : Int) < (SS.length : Int) := by omega
     go_wp2_with fail
     refine bodyPost_ret (v := .tuple #[.agg #[.slice none 0 0, .slice none 0 0, .slice none 0 0], .int .i64 6]) (results_cell_row2 Tryd.results19 _ _ (w.heap.size + 1) 55 _ (0, 0) _ rfl (heap_set_3 hWc _ _ _) Tryd.underlying55 rfl (by kernel_rfl)) rfl ?_
     exact ⟨k, SS, A, by rw [wordsOf_eq HS0.out.of]; exact Heq.out, hkS, by rw [wordsOf_eq HS0.out.of, ← HL.out]; exact Hist.out, HK.out.nd, HK.out.wf, Hbs.out, hS3, by omega, KRet.out _ ((((Below.refl _ _).setCell (p := ⟨w.heap.size + 1, 0, none⟩) (by simp) _).setCell (p := ⟨w.heap.size + 1, 1, none⟩) (by simp) _).setCell (p := ⟨w.heap.size + 1, 2, none⟩) (by simp) _), .inl ⟨by rw [← HL.out]; exact hgt, rfl⟩⟩
    ·go_wp2_with fail
     refine bodyPost_ret (v := .tuple #[.agg #[.slice none 0 0, .slice none 0 0, .slice none 0 0], .int .i64 6]) (results_cell_row2 Tryd.results19 _ _ (w.heap.size + 1) 55 _ (0, 0) _ rfl (heap_set_3 hWc _ _ _) Tryd.underlying55 rfl (by kernel_rfl)) rfl ?_
     exact ⟨k, SS, A, by rw [wordsOf_eq HS0.out.of]; exact Heq.out, hkS, by rw [wordsOf_eq HS0.out.of, ← HL.out]; exact Hist.out, HK.out.nd, HK.out.wf, Hbs.out, hS3, by omega, KRet.out _ ((((Below.refl _ _).setCell (p := ⟨w.heap.size + 1, 0, none⟩) (by simp) _).setCell (p := ⟨w.heap.size + 1, 1, none⟩) (by simp) _).setCell (p := ⟨w.heap.size + 1, 2, none⟩) (by simp) _), .inl ⟨by rw [← HL.out]; exact hgt, rfl⟩⟩
   ·obtain rfl : k = SS.length := by omega
    have t2 : ¬ (L < (SS.length : Int)) := hgt
    have hw3 : w.heap.size < w3.heap.size := Nat.lt_of_lt_of_le (World.block_lt_of_cell? _ _ (KX.out _ (Below.refl _ _)).1) B3.out.size
    go_wp2_with fail
    clear z0
    go_loopw [117] (fun i wr => Do3 w3 w3.heap.size (w3.heap.size + 1) (.slice AS SS.length cS) (.slice AA A.length cA) vals SS A fin i wr) (fun i _ => SS.length - (intOf i).toNat)
    case atStart => exact ⟨0, _, rfl, Nat.zero_le _, Df.start HM.out, HB.out, hsz⟩
    case round =>
     obtain ⟨m, vF, rfl, hm, hdf, hb, hsz'⟩ := hrel
     have HDf := Lib.hid hdf; have HB' := Lib.hid hb
     obtain ⟨AF, cF, rfl⟩ := own_shapeG hdf.rf
     have z1 := hdf.c1
     clear hdf hb
     have hml : ((SS.take m).map (FinB fin)).length = m := by rw [List.length_map, List.length_take]; omega
     by_cases hltm : m < SS.length
     ·obtain ⟨ad, cS', u, e1, hcap, hcell, hwst⟩ := HDf.out.at m hltm
      simp only [Value.slice.injEq, true_and] at e1
      obtain ⟨rfl, rfl⟩ := e1
      obtain ⟨Au, cu, rfl⟩ := hwst.shape
      have hwf := HK.out.wf _ (List.getElem_mem hltm)
      have hbs := Hbs.out _ (List.getElem_mem hltm)
      have htk : (SS.take (m + 1)).map (FinB fin) = (SS.take m).map (FinB fin) ++ [FinB fin SS[m]] := by rw [List.take_succ_eq_append_getElem hltm, List.map_append]; rfl
      obtain ⟨ws, hws⟩ : ∃ ws, ws = SS[m] := ⟨_, rfl⟩
      rw [← hws] at hwst hwf hcell hbs htk
      have Htk := Lib.hid htk
      clear hws htk
      have B3r := Lib.hid (B3.out.trans (HB'.out.mono B3.out.size))
      obtain ⟨x0, x1, x2, x3⟩ := KX.out _ B3r.out
      have Keep := Lib.hid (show ∀ w', Below wr.heap.size wr w' → w'.cell? ⟨w.heap.size, 0, none⟩ = some (.int .i64 (S : Int)) ∧ w'.cell? ⟨w.heap.size, 1, none⟩ = some (.slice As st.length cs) ∧ w'.cell? ⟨w.heap.size, 2, none⟩ = some fv ∧ w'.cell? ⟨w.heap.size, 3, none⟩ = some v ∧ w'.cell? ⟨w3.heap.size + 1, 1, none⟩ = some (.slice AF m cF) from fun w' hb' => by
       obtain ⟨q0, q1, q2, q3⟩ := KX.out _ (B3r.out.trans (hb'.mono B3r.out.size))
       exact ⟨q0, q1, q2, q3, by rw [hb'.cell (World.block_lt_of_cell? _ _ z1)]; exact z1⟩)
      have g0 : (0 : Int) ≤ (m : Int) := by omega
      have gm : (m : Int) < (SS.length : Int) := by omega
      have Hhf := Lib.hid (show ∀ w', Below wr.heap.size wr w' → Calls Tryd.prog 37 #[.agg #[.int .i64 (S : Int), .slice As st.length cs, fv, v], .slice Au ws.length cu] w' fun e w'' => e = .returned (.bool (FinB fin ws)) ∧ Below w'.heap.size w' w'' from fun w' hb' =>
       hasfinal_any (S : Int) (.slice As st.length cs) fv v (.slice Au ws.length cu) fin ws w' (Hf.out.below (KB.out _ (B3r.out.trans (hb'.mono B3r.out.size)))) (hwst.sl.below hb') hwf.2.1 hwf.2.2 (HT.out.below (Hbw.out.trans ((B3r.out.trans (hb'.mono B3r.out.size)).mono Hbw.out.size)) hT0) (fun n hn => by rw [Hn.out.fins]; exact hbs n hn))
      obtain ⟨j0, hj, hy0, hy1, hy2⟩ := info_parts info_bool
      clear hwst hwf hbs
      go_wp2_with fail
      have KN := Lib.hid (show ∀ w', Below wr.heap.size wr w' → w'.cell? ⟨w.heap.size, 0, none⟩ = some (.int .i64 (S : Int)) ∧ w'.cell? ⟨w.heap.size, 1, none⟩ = some (.slice As st.length cs) ∧ w'.cell? ⟨w.heap.size, 2, none⟩ = some fv ∧ w'.cell? ⟨w.heap.size, 3, none⟩ = some v from fun w' hb' => KX.out _ (B3r.out.trans (hb'.mono B3r.out.size)))
      refine wp_region_noPanic ?_
      refine wp_region_held_drew (S := fun w' => w'.cell? ⟨w.heap.size, 0, none⟩ = some (.int .i64 (S : Int)) ∧ w'.cell? ⟨w.heap.size, 1, none⟩ = some (.slice As st.length cs) ∧ w'.cell? ⟨w.heap.size, 2, none⟩ = some fv ∧ w'.cell? ⟨w.heap.size, 3, none⟩ = some v) (by kernel_rfl) ⟨x0, x1, x2, x3⟩ (fun hHeld => ?_)
      refine wpAnyH_take (i := 0) (v := ?_) rfl (by kernel_rfl) (by kernel_rfl) (by kernel_rfl) (fun _ _ _ h => h) (Or.inl ⟨by rfl, ?_⟩) hHeld ?_
      rotate_left
      focus ((intro w hSw; (try dsimp only at hSw); go_simp); try with_reducible rfl)
      try simp only [Act.put]
      refine wpAnyH_take (i := 2) (v := ?_) rfl (by kernel_rfl) (by kernel_rfl) (by kernel_rfl) (fun _ _ _ h => h) (Or.inl ⟨by rfl, ?_⟩) hHeld ?_
      rotate_left
      focus ((intro w hSw; (try dsimp only at hSw); go_simp); try with_reducible rfl)
      try simp only [Act.put]
      refine wpAnyH_take (i := 3) (v := ?_) rfl (by kernel_rfl) (by kernel_rfl) (by kernel_rfl) (fun _ _ _ h => h) (Or.inl ⟨by rfl, ?_⟩) hHeld ?_
      rotate_left
      focus ((intro w hSw; (try dsimp only at hSw); go_simp); try with_reducible rfl)
      try simp only [Act.put]
      refine wpAnyH_ready (rs := [1, 4]) (by kernel_rfl) (by simp) ?_
      refine AllReadyH.cons rfl (fun K hK => ?_) ?_
      focus (go_simp; refine hK.out _ _ ⟨x0, x1, x2, x3⟩ (fun hHeld => ?_); clear hK K; try simp only [Act.put])
      ·refine wpAnyH_ready (rs := [4]) (by kernel_rfl) (by simp) ?_
       refine AllReadyH.cons rfl (fun K hK => ?_) ?_
       focus ((go_simp; refine (Hhf.out _ (Below.drewN' (Below.refl _ _) 1)).mono ?_; rintro e w6 ⟨rfl, hb6⟩; have hb6' : Below wr.heap.size wr w6 := ⟨hb6.os, hb6.tape, hb6.output, hb6.size, hb6.block⟩; have hs6 := hb6'.size; have HDf6 := Lib.hid (HDf.out.below hb6'); have z6 := HDf6.out.c1; have z6a := (HDf6.out.below ((Below.refl _ w6).alloc (Nat.le_refl _) (.cells #[.bool (FinB fin ws)] 4))).c1); refine hK.out _ _ (KN.out _ hb6') (fun hHeld => ?_); clear hK K; try simp only [Act.put])
       rotate_left
       exact AllReadyH.nil
       refine wpAnyH_ready (rs := [5]) (by kernel_rfl) (by simp) ?_
       refine AllReadyH.cons rfl (fun K hK => ?_) ?_
       focus (go_simp; refine hK.out _ _ (KN.out _ (hb6'.alloc hs6 _)) (fun hHeld => ?_); clear hK K; try simp only [Act.put])
       rotate_left
       exact AllReadyH.nil
       refine wpAnyH_ready (rs := [6]) (by kernel_rfl) (by simp) ?_
       refine AllReadyH.cons rfl (fun K hK => ?_) ?_
       focus (((refine step_append_lies _ (by rfl) _ _ _ (by rfl) w3.heap.size 4 j0 _ 1 1 (by kernel_rfl) hj hy0 hy1 hy2 rfl (by omega) (.slice AF m cF) _ _ (by rfl) (by exact HDf6.out.rf.alloc _) ⟨w6.heap.size, 0, none⟩ 1 1 [.bool (FinB fin ws)] (by rfl) (by rfl) (World.news_of_block (cs := #[.bool (FinB fin ws)]) (t := 4) (fr := (0, 0)) (heap_alloc_new w6 _)) (by simp [Value.oneCell']) (by omega) (by unfold maxLen; omega) (by omega) (by simp; omega) (w6.heap.size + 1) (by simp) ?_; intro gg cap w7 hown7 hgrow hat7 hlt7; have hf7 : Frm 4 w3.heap.size w6 w7 := (Frm.alloc_ w6 _).trans (Frm.grownG (HDf6.out.rf.alloc _) hgrow); have HDf7 := Lib.hid (HDf6.out.putF hf7 hown7); have bx7 := hf7.keeps HDf6.out.box (by decide); have c7 := cell_of_row _ _ 1 _ _ _ bx7; have f7 := frozen_of bx7 1; have HB7 := Lib.hid ((HB'.out.trans (hb6'.mono hsz')).trans (hf7.below (Nat.le_trans hsz' hs6))); have hs7 := hf7.size; have k7 := KX.out _ (B3.out.trans (HB7.out.mono B3.out.size)); clear hown7 hgrow hf7 bx7 hat7 hlt7)); refine hK.out _ _ k7 (fun hHeld => ?_); clear hK K; try simp only [Act.put])
       rotate_left
       exact AllReadyH.nil
       refine wpAnyH_ready (rs := [7]) (by kernel_rfl) (by simp) ?_
       refine AllReadyH.cons rfl (fun K hK => ?_) ?_
       focus (go_simp; refine hK.out _ _ k7 (fun hHeld => ?_); clear hK K; try simp only [Act.put])
       rotate_left
       exact AllReadyH.nil
       refine wpAnyH_ready (rs := [8]) (by kernel_rfl) (by simp) ?_
       refine AllReadyH.cons rfl (fun K hK => ?_) ?_
       focus (go_simp; refine hK.out _ _ ⟨(World.cell?_setCell_far _ _ _ _ (by simp; omega)).trans k7.1, (World.cell?_setCell_far _ _ _ _ (by simp; omega)).trans k7.2.1, (World.cell?_setCell_far _ _ _ _ (by simp; omega)).trans k7.2.2.1, (World.cell?_setCell_far _ _ _ _ (by simp; omega)).trans k7.2.2.2⟩ (fun hHeld => ?_); clear hK K; try simp only [Act.put])
       rotate_left
       exact AllReadyH.nil
       refine wpAnyH_done (by kernel_rfl) ?_ _
       refine NoPanic.normal ?_
       clear hHeld x0 x1 x2 x3 z1 z6 z6a k7 c7 f7 hcell
       go_wp2
       go_roundw
       case rel => exact ⟨m + 1, _, by go_num, by omega, by rw [Htk.out]; exact HDf7.out, HB7.out.setCell (p := ⟨w3.heap.size + 1, 1, none⟩) (by simp) _, by simp [World.setCell]; omega⟩
       case measure => simp [intOf]; omega
      refine AllReadyH.cons rfl (fun K hK => ?_) ?_
      focus ((go_simp; refine (Hhf.out _ (Below.drewN' (Below.refl _ _) 1)).mono ?_; rintro e w6 ⟨rfl, hb6⟩; have hb6' : Below wr.heap.size wr w6 := ⟨hb6.os, hb6.tape, hb6.output, hb6.size, hb6.block⟩; have hs6 := hb6'.size; have HDf6 := Lib.hid (HDf.out.below hb6'); have z6 := HDf6.out.c1; have z6a := (HDf6.out.below ((Below.refl _ w6).alloc (Nat.le_refl _) (.cells #[.bool (FinB fin ws)] 4))).c1); refine hK.out _ _ (KN.out _ hb6') (fun hHeld => ?_); clear hK K; try simp only [Act.put])
      ·refine wpAnyH_ready (rs := [1, 5]) (by kernel_rfl) (by simp) ?_
       refine AllReadyH.cons rfl (fun K hK => ?_) ?_
       focus (go_simp; refine hK.out _ _ (KN.out _ hb6') (fun hHeld => ?_); clear hK K; try simp only [Act.put])
       ·refine wpAnyH_ready (rs := [5]) (by kernel_rfl) (by simp) ?_
        refine AllReadyH.cons rfl (fun K hK => ?_) ?_
        focus (go_simp; refine hK.out _ _ (KN.out _ (hb6'.alloc hs6 _)) (fun hHeld => ?_); clear hK K; try simp only [Act.put])
        rotate_left
        exact AllReadyH.nil
        refine wpAnyH_ready (rs := [6]) (by kernel_rfl) (by simp) ?_
        refine AllReadyH.cons rfl (fun K hK => ?_) ?_
        focus (((refine step_append_lies _ (by rfl) _ _ _ (by rfl) w3.heap.size 4 j0 _ 1 1 (by kernel_rfl) hj hy0 hy1 hy2 rfl (by omega) (.slice AF m cF) _ _ (by rfl) (by exact HDf6.out.rf.alloc _) ⟨w6.heap.size, 0, none⟩ 1 1 [.bool (FinB fin ws)] (by rfl) (by rfl) (World.news_of_block (cs := #[.bool (FinB fin ws)]) (t := 4) (fr := (0, 0)) (heap_alloc_new w6 _)) (by simp [Value.oneCell']) (by omega) (by unfold maxLen; omega) (by omega) (by simp; omega) (w6.heap.size + 1) (by simp) ?_; intro gg cap w7 hown7 hgrow hat7 hlt7; have hf7 : Frm 4 w3.heap.size w6 w7 := (Frm.alloc_ w6 _).trans (Frm.grownG (HDf6.out.rf.alloc _) hgrow); have HDf7 := Lib.hid (HDf6.out.putF hf7 hown7); have bx7 := hf7.keeps HDf6.out.box (by decide); have c7 := cell_of_row _ _ 1 _ _ _ bx7; have f7 := frozen_of bx7 1; have HB7 := Lib.hid ((HB'.out.trans (hb6'.mono hsz')).trans (hf7.below (Nat.le_trans hsz' hs6))); have hs7 := hf7.size; have k7 := KX.out _ (B3.out.trans (HB7.out.mono B3.out.size)); clear hown7 hgrow hf7 bx7 hat7 hlt7)); refine hK.out _ _ k7 (fun hHeld => ?_); clear hK K; try simp only [Act.put])
        rotate_left
        exact AllReadyH.nil
        refine wpAnyH_ready (rs := [7]) (by kernel_rfl) (by simp) ?_
        refine AllReadyH.cons rfl (fun K hK => ?_) ?_
        focus (go_simp; refine hK.out _ _ k7 (fun hHeld => ?_); clear hK K; try simp only [Act.put])
        rotate_left
        exact AllReadyH.nil
        refine wpAnyH_ready (rs := [8]) (by kernel_rfl) (by simp) ?_
        refine AllReadyH.cons rfl (fun K hK => ?_) ?_
        focus (go_simp; refine hK.out _ _ ⟨(World.cell?_setCell_far _ _ _ _ (by simp; omega)).trans k7.1, (World.cell?_setCell_far _ _ _ _ (by simp; omega)).trans k7.2.1, (World.cell?_setCell_far _ _ _ _ (by simp; omega)).trans k7.2.2.1, (World.cell?_setCell_far _ _ _ _ (by simp; omega)).trans k7.2.2.2⟩ (fun hHeld => ?_); clear hK K; try simp only [Act.put])
        rotate_left
        exact AllReadyH.nil
        refine wpAnyH_done (by kernel_rfl) ?_ _
        refine NoPanic.normal ?_
        clear hHeld x0 x1 x2 x3 z1 z6 z6a k7 c7 f7 hcell
        go_wp2
        go_roundw
        case rel => exact ⟨m + 1, _, by go_num, by omega, by rw [Htk.out]; exact HDf7.out, HB7.out.setCell (p := ⟨w3.heap.size + 1, 1, none⟩) (by simp) _, by simp [World.setCell]; omega⟩
        case measure => simp [intOf]; omega
       refine AllReadyH.cons rfl (fun K hK => ?_) ?_
       focus (go_simp; refine hK.out _ _ (KN.out _ (hb6'.alloc hs6 _)) (fun hHeld => ?_); clear hK K; try simp only [Act.put])
       ·refine wpAnyH_ready (rs := [1]) (by kernel_rfl) (by simp) ?_
        refine AllReadyH.cons rfl (fun K hK => ?_) ?_
        focus (go_simp; refine hK.out _ _ (KN.out _ (hb6'.alloc hs6 _)) (fun hHeld => ?_); clear hK K; try simp only [Act.put])
        rotate_left
        exact AllReadyH.nil
        refine wpAnyH_ready (rs := [6]) (by kernel_rfl) (by simp) ?_
        refine AllReadyH.cons rfl (fun K hK => ?_) ?_
        focus (((refine step_append_lies _ (by rfl) _ _ _ (by rfl) w3.heap.size 4 j0 _ 1 1 (by kernel_rfl) hj hy0 hy1 hy2 rfl (by omega) (.slice AF m cF) _ _ (by rfl) (by exact HDf6.out.rf.alloc _) ⟨w6.heap.size, 0, none⟩ 1 1 [.bool (FinB fin ws)] (by rfl) (by rfl) (World.news_of_block (cs := #[.bool (FinB fin ws)]) (t := 4) (fr := (0, 0)) (heap_alloc_new w6 _)) (by simp [Value.oneCell']) (by omega) (by unfold maxLen; omega) (by omega) (by simp; omega) (w6.heap.size + 1) (by simp) ?_; intro gg cap w7 hown7 hgrow hat7 hlt7; have hf7 : Frm 4 w3.heap.size w6 w7 := (Frm.alloc_ w6 _).trans (Frm.grownG (HDf6.out.rf.alloc _) hgrow); have HDf7 := Lib.hid (HDf6.out.putF hf7 hown7); have bx7 := hf7.keeps HDf6.out.box (by decide); have c7 := cell_of_row _ _ 1 _ _ _ bx7; have f7 := frozen_of bx7 1; have HB7 := Lib.hid ((HB'.out.trans (hb6'.mono hsz')).trans (hf7.below (Nat.le_trans hsz' hs6))); have hs7 := hf7.size; have k7 := KX.out _ (B3.out.trans (HB7.out.mono B3.out.size)); clear hown7 hgrow hf7 bx7 hat7 hlt7)); refine hK.out _ _ k7 (fun hHeld => ?_); clear hK K; try simp only [Act.put])
        rotate_left
        exact AllReadyH.nil
        refine wpAnyH_ready (rs := [7]) (by kernel_rfl) (by simp) ?_
        refine AllReadyH.cons rfl (fun K hK => ?_) ?_
        focus (go_simp; refine hK.out _ _ k7 (fun hHeld => ?_); clear hK K; try simp only [Act.put])
        rotate_left
        exact AllReadyH.nil
        refine wpAnyH_ready (rs := [8]) (by kernel_rfl) (by simp) ?_
        refine AllReadyH.cons rfl (fun K hK => ?_) ?_
        focus (go_simp; refine hK.out _ _ ⟨(World.cell?_setCell_far _ _ _ _ (by simp; omega)).trans k7.1, (World.cell?_setCell_far _ _ _ _ (by simp; omega)).trans k7.2.1, (World.cell?_setCell_far _ _ _ _ (by simp; omega)).trans k7.2.2.1, (World.cell?_setCell_far _ _ _ _ (by simp; omega)).trans k7.2.2.2⟩ (fun hHeld => ?_); clear hK K; try simp only [Act.put])
        rotate_left
        exact AllReadyH.nil
        refine wpAnyH_done (by kernel_rfl) ?_ _
        refine NoPanic.normal ?_
        clear hHeld x0 x1 x2 x3 z1 z6 z6a k7 c7 f7 hcell
        go_wp2
        go_roundw
        case rel => exact ⟨m + 1, _, by go_num, by omega, by rw [Htk.out]; exact HDf7.out, HB7.out.setCell (p := ⟨w3.heap.size + 1, 1, none⟩) (by simp) _, by simp [World.setCell]; omega⟩
        case measure => simp [intOf]; omega
       exact AllReadyH.nil
      exact AllReadyH.nil
     ·obtain rfl : m = SS.length := by omega
      have B3r := Lib.hid (B3.out.trans (HB'.out.mono B3.out.size))
      have hWc := (B3r.out.block _ (lt_of_some HWr.out)).trans HWr.out
      have f0 := frozen_of hWc 0
      have f1 := frozen_of hWc 1
      have f2 := frozen_of hWc 2
      have c0' := cell_of_row _ _ 0 _ _ _ hWc
      have c1' := cell_of_row _ _ 1 _ _ _ hWc
      have c2' := cell_of_row _ _ 2 _ _ _ hWc
      have y0 := cell_of_row _ _ 0 _ _ _ HDf.out.box
      have y2 := cell_of_row _ _ 2 _ _ _ HDf.out.box
      go_wp2_with fail
      refine bodyPost_ret (v := .tuple #[.agg #[.slice AS SS.length cS, .slice AF SS.length cF, .slice AA A.length cA], .int .i64 0]) (results_cell_row2 Tryd.results19 _ _ (w.heap.size + 1) 55 _ (0, 0) _ rfl (heap_set_3 hWc _ _ _) Tryd.underlying55 rfl (by kernel_rfl)) rfl ?_
      obtain ⟨r1, r2, r3, r4⟩ := HDf.out.ret (B0 := w.heap.size) hWc _ _ _ rfl (Nat.le_of_lt hw3)
      rw [List.take_of_length_le (Nat.le_refl _), List.map_map] at r3
      exact ⟨SS.length, SS, A, by rw [wordsOf_eq HS0.out.of]; exact Heq.out, Nat.le_refl _, by rw [wordsOf_eq HS0.out.of, ← HL.out]; exact Hist.out, HK.out.nd, HK.out.wf, Hbs.out, hS3, by omega, (((KB.out _ B3r.out).setCell (p := ⟨w.heap.size + 1, 0, none⟩) (by simp) _).setCell (p := ⟨w.heap.size + 1, 1, none⟩) (by simp) _).setCell (p := ⟨w.heap.size + 1, 2, none⟩) (by simp) _, .inr ⟨by rw [← HL.out]; omega, rfl, _, _, _, vals, rfl, r1, r2, r3, r4⟩⟩
end Go.Proofs.YtockgbilbnheaaaDoor
