/- nfa.Equal at equal automata, and nfa.Reverse (tools/gen_rq.py). -/
import Derived.Test.YtcpjpogglecddaaDoorNfaSe
namespace Go.Proofs.YtcpjpogglecddaaDoor
open Go.RowKit

set_option maxRecDepth 100000 in
set_option maxHeartbeats 4000000 in
theorem nequal_same (S : Nat) (st : List Int) (fin : List Bool) (ar : List Ac) (s1 f1 a1 s2 f2 a2 : Value) (w : World) (ls : st.length ≤ 1000000) (lf : fin.length ≤ 1000000) (la : ar.length ≤ 1000000)
    (hs1 : Sl iv w s1 st) (hs2 : Sl iv w s2 st) (hf1 : Sl bl w f1 fin) (hf2 : Sl bl w f2 fin) (ha1 : Acs w a1 ar) (ha2 : Acs w a2 ar) :
    Calls Tryd.prog 19 #[.agg #[.int .i64 (S : Int), s1, f1, a1], .agg #[.int .i64 (S : Int), s2, f2, a2]] w fun e w' => e = .returned (.bool true) ∧ Below w.heap.size w w' := by
  obtain ⟨As1, cs1, rfl⟩ := hs1.shape
  obtain ⟨As2, cs2, rfl⟩ := hs2.shape
  obtain ⟨Af1, cf1, rfl⟩ := hf1.shape
  obtain ⟨Af2, cf2, rfl⟩ := hf2.shape
  obtain ⟨Aa1, ca1, rfl⟩ := ha1.shape
  obtain ⟨Aa2, ca2, rfl⟩ := ha2.shape
  obtain ⟨W, hW⟩ : ∃ W, W = (w.alloc (.cells #[.int .i64 (S : Int), .slice As1 st.length cs1, .slice Af1 fin.length cf1, .slice Aa1 ar.length ca1] 32)).alloc (.cells #[.int .i64 (S : Int), .slice As2 st.length cs2, .slice Af2 fin.length cf2, .slice Aa2 ar.length ca2] 32) := ⟨_, rfl⟩
  have hbw : Below w.heap.size w W := by rw [hW]; exact al2 w _ _
  have hx : Bx W w.heap.size 32 #[.int .i64 (S : Int), .slice As1 st.length cs1, .slice Af1 fin.length cf1, .slice Aa1 ar.length ca1] := by rw [hW]; exact heap_alloc_2 w _ _
  have hy : Bx W (w.heap.size + 1) 32 #[.int .i64 (S : Int), .slice As2 st.length cs2, .slice Af2 fin.length cf2, .slice Aa2 ar.length ca2] := by rw [hW]; exact heap_alloc_2' w _ _
  have HX := Lib.hid (show ∀ w', Below W.heap.size W w' → w'.cell? ⟨w.heap.size, 0, none⟩ = some (.int .i64 (S : Int)) ∧ w'.cell? ⟨w.heap.size, 1, none⟩ = some (.slice As1 st.length cs1) ∧ w'.cell? ⟨w.heap.size, 2, none⟩ = some (.slice Af1 fin.length cf1) ∧ w'.cell? ⟨w.heap.size, 3, none⟩ = some (.slice Aa1 ar.length ca1) from fun w' h => ⟨(hx.below h).cell 0, (hx.below h).cell 1, (hx.below h).cell 2, (hx.below h).cell 3⟩)
  have HY := Lib.hid (show ∀ w', Below W.heap.size W w' → w'.cell? ⟨w.heap.size + 1, 0, none⟩ = some (.int .i64 (S : Int)) ∧ w'.cell? ⟨w.heap.size + 1, 1, none⟩ = some (.slice As2 st.length cs2) ∧ w'.cell? ⟨w.heap.size + 1, 2, none⟩ = some (.slice Af2 fin.length cf2) ∧ w'.cell? ⟨w.heap.size + 1, 3, none⟩ = some (.slice Aa2 ar.length ca2) from fun w' h => ⟨(hy.below h).cell 0, (hy.below h).cell 1, (hy.below h).cell 2, (hy.below h).cell 3⟩)
  have HS := Lib.hid (show ∀ w', Below W.heap.size W w' → Calls Tryd.prog 39 #[.slice As1 st.length cs1, .slice As2 st.length cs2] w' fun e w9 => e = .returned (.bool true) ∧ Below w'.heap.size w' w9 from fun w' h => seq_int _ _ st w' (hs1.below (below_ext2 hbw h)) (hs2.below (below_ext2 hbw h)) ls)
  have HF := Lib.hid (show ∀ w', Below W.heap.size W w' → Calls Tryd.prog 40 #[.slice Af1 fin.length cf1, .slice Af2 fin.length cf2] w' fun e w9 => e = .returned (.bool true) ∧ Below w'.heap.size w' w9 from fun w' h => seq_bool _ _ fin w' (hf1.below (below_ext2 hbw h)) (hf2.below (below_ext2 hbw h)) lf)
  have HA := Lib.hid (show ∀ w', Below W.heap.size W w' → Calls Tryd.prog 41 #[.slice Aa1 ar.length ca1, .slice Aa2 ar.length ca2] w' fun e w9 => e = .returned (.bool true) ∧ Below w'.heap.size w' w9 from fun w' h => seq_arc _ _ ar w' (ha1.below (below_ext2 hbw h)) (ha2.below (below_ext2 hbw h)) la)
  have HW := Lib.hid hW; have Hbw := Lib.hid hbw
  clear hx hy hW hbw hs1 hs2 hf1 hf2 ha1 ha2 ls lf la
  go_enter Tryd.func19, Tryd.ntmps19
  go_wp2_with fail
  rw [← HW.out]
  refine (HS.out _ (Below.refl _ _)).mono ?_
  rintro e w1 ⟨rfl, hb1⟩
  have B1 := Lib.hid hb1
  clear hb1
  obtain ⟨x0, x1, x2, x3⟩ := HX.out _ B1.out
  obtain ⟨y0, y1, y2, y3⟩ := HY.out _ B1.out
  go_wp2_with fail
  refine (HF.out _ B1.out).mono ?_
  rintro e w2 ⟨rfl, hb2⟩
  have B2 := Lib.hid (below_ext2 B1.out hb2)
  clear hb2 x0 x1 x2 x3 y0 y1 y2 y3
  obtain ⟨x0, x1, x2, x3⟩ := HX.out _ B2.out
  obtain ⟨y0, y1, y2, y3⟩ := HY.out _ B2.out
  go_wp2_with fail
  refine (HA.out _ B2.out).mono ?_
  rintro e w3 ⟨rfl, hb3⟩
  have B3 := Lib.hid (below_ext2 B2.out hb3)
  clear hb3 x0 x1 x2 x3 y0 y1 y2 y3
  go_wp2_with fail
  go_ret
  exact ⟨rfl, below_ext2 Hbw.out B3.out⟩
def ReP (S : Nat) (st : List Int) (fin : List Bool) (ar : List Ac) (w : World) (e : Ending) (w' : World) : Prop :=
  ∃ A1 c1 A2 c2 A3 c3, e = .returned (.tuple #[.agg #[.int .i64 (S : Int), .slice A1 st.length c1, .slice A2 fin.length c2, .slice A3 ar.length c3], .int .i64 0]) ∧ Sl iv w' (.slice A1 st.length c1) st ∧ Sl bl w' (.slice A2 fin.length c2) fin ∧ Acs w' (.slice A3 ar.length c3) ar ∧ Below w.heap.size w w'
set_option maxRecDepth 100000 in
set_option maxHeartbeats 4000000 in
theorem reverse_any (S : Nat) (st : List Int) (fin : List Bool) (ar : List Ac) (sv fv v : Value) (w : World) (h : VN S st fin ar) (hs : Sl iv w sv st) (hf : Sl bl w fv fin) (ha : Acs w v ar) :
    Calls Tryd.prog 16 #[.agg #[.int .i64 (S : Int), sv, fv, v]] w (ReP S (rvS fin S) (rvF S st) (srtA (rvA ar)) w) := by
  obtain ⟨As, cs, rfl⟩ := hs.shape
  obtain ⟨Af, cf, rfl⟩ := hf.shape
  obtain ⟨Aa, ca, rfl⟩ := ha.shape
  obtain ⟨W, hW⟩ : ∃ W, W = (w.alloc (.cells #[.int .i64 (S : Int), .slice As st.length cs, .slice Af fin.length cf, .slice Aa ar.length ca] 32)).alloc (.cells #[.int .i64 0, .slice none 0 0, .slice none 0 0, .slice none 0 0] 32) := ⟨_, rfl⟩
  have hbw : Below w.heap.size w W := by rw [hW]; exact al2 w _ _
  have hx : Bx W w.heap.size 32 #[.int .i64 (S : Int), .slice As st.length cs, .slice Af fin.length cf, .slice Aa ar.length ca] := by rw [hW]; exact heap_alloc_2 w _ _
  have hr : Bx W (w.heap.size + 1) 32 #[.int .i64 0, .slice none 0 0, .slice none 0 0, .slice none 0 0] := by rw [hW]; exact heap_alloc_2' w _ _
  have hWs : W.heap.size = w.heap.size + 2 := by rw [hW]; simp
  have HWs := Lib.hid hWs
  have HX := Lib.hid (show ∀ w', Below W.heap.size W w' → w'.cell? ⟨w.heap.size, 0, none⟩ = some (.int .i64 (S : Int)) ∧ w'.cell? ⟨w.heap.size, 1, none⟩ = some (.slice As st.length cs) ∧ w'.cell? ⟨w.heap.size, 2, none⟩ = some (.slice Af fin.length cf) ∧ w'.cell? ⟨w.heap.size, 3, none⟩ = some (.slice Aa ar.length ca) from fun w' h => ⟨(hx.below h).cell 0, (hx.below h).cell 1, (hx.below h).cell 2, (hx.below h).cell 3⟩)
  have HR := Lib.hid (show ∀ w', Below W.heap.size W w' → Bx w' (w.heap.size + 1) 32 #[.int .i64 0, .slice none 0 0, .slice none 0 0, .slice none 0 0] from fun w' h => hr.below h)
  have Hbw := Lib.hid hbw
  have HC := Lib.hid (check_ok S st fin ar (.slice As st.length cs) (.slice Af fin.length cf) (.slice Aa ar.length ca) none 0 [] W h (hs.below hbw) (hf.below hbw) (ha.below hbw) (.inl ⟨rfl, rfl⟩) (by simp) (by simp))
  have HV := Lib.hid (show ∀ w', Below W.heap.size W w' → Calls Tryd.prog 34 #[.agg #[.int .i64 (S : Int), .slice As st.length cs, .slice Af fin.length cf, .slice Aa ar.length ca]] w' (RevP S (rvS fin S) (rvF S st) (srtA (rvA ar)) w') from fun w' hb => reversed_any S st fin ar _ _ _ w' h (hs.below (below_ext2 hbw hb)) (hf.below (below_ext2 hbw hb)) (ha.below (below_ext2 hbw hb)))
  have HW := Lib.hid hW
  clear hx hr hW hbw hs hf ha h hWs
  obtain ⟨x0, x1, x2, x3⟩ := HX.out _ (Below.refl _ _)
  rw [HW.out] at x0 x1 x2 x3
  go_enter Tryd.func16, Tryd.ntmps16
  go_wp2_with fail
  rw [← HW.out]
  refine HC.out.mono ?_
  rintro e w1 ⟨rfl, hb1⟩
  have B1 := Lib.hid hb1
  clear hb1 x0 x1 x2 x3
  obtain ⟨x0, x1, x2, x3⟩ := HX.out _ B1.out
  go_wp2_with fail
  refine (HV.out _ B1.out).mono ?_
  rintro e w2 ⟨A1, c1, A2, c2, A3, c3, rfl, h1, h2, h3, hb2, g1, g2, g3⟩
  have hn : ∀ {A : Option Addr}, (∀ ad, A = some ad → w1.heap.size ≤ ad.block) → ∀ ad, A = some ad → ad.block ≠ w.heap.size + 1 := fun hg ad hA => by
    have := hg ad hA
    have := B1.out.size
    have := HWs.out
    omega
  have G1 := Lib.hid (hn g1); have G2 := Lib.hid (hn g2); have G3 := Lib.hid (hn g3)
  have H1 := Lib.hid h1; have H2 := Lib.hid h2; have H3 := Lib.hid h3
  have hbb : Below W.heap.size W w2 := below_ext2 B1.out hb2
  have HB := Lib.hid (below_ext2 Hbw.out hbb)
  have hr := HR.out _ hbb
  have HRR := Lib.hid hr
  have r0 := hr.cell 0; have r1 := hr.cell 1; have r2 := hr.cell 2; have r3 := hr.cell 3
  have f0 := hr.free 0; have f1 := hr.free 1; have f2 := hr.free 2; have f3 := hr.free 3
  clear h1 h2 h3 hb2 g1 g2 g3 hn hbb hr x0 x1 x2 x3
  go_wp2_with fail
  refine bodyPost_ret (v := .tuple #[.agg #[.int .i64 (S : Int), .slice A1 (rvS fin S).length c1, .slice A2 (rvF S st).length c2, .slice A3 (srtA (rvA ar)).length c3], .int .i64 0]) (bx_ret2 ((((HRR.out.set 0 _).set 1 _).set 2 _).set 3 _) Tryd.results16 _ rfl Tryd.underlying32 rfl (by kernel_rfl)) rfl ?_
  have hq : w.heap.size ≤ w.heap.size + 1 := by omega
  exact ⟨A1, c1, A2, c2, A3, c3, rfl, (((H1.out.off G1.out).off G1.out).off G1.out).off G1.out, (((H2.out.off G2.out).off G2.out).off G2.out).off G2.out, (((H3.out.off G3.out).off G3.out).off G3.out).off G3.out,
    (((HB.out.setCell (p := ⟨w.heap.size + 1, 0, none⟩) hq _).setCell (p := ⟨w.heap.size + 1, 1, none⟩) hq _).setCell (p := ⟨w.heap.size + 1, 2, none⟩) hq _).setCell (p := ⟨w.heap.size + 1, 3, none⟩) hq _⟩
end Go.Proofs.YtcpjpogglecddaaDoor
