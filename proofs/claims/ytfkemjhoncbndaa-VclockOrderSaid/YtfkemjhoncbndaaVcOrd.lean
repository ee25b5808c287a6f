/- VclockOrder: for every input the law returns true (tools/vcord_gen.py). -/
import Derived.Test.YtfkemjhoncbndaaVcRows
namespace Go.Proofs.Ytfkemjhoncbndaa
open Go.RowKit

theorem addr_lit0 (b k : Nat) : (⟨b, 0, none⟩ : Addr).add k = ⟨b, k, none⟩ := by unfold Addr.add; split <;> simp_all
theorem one_cell {w : World} {g : Nat} {c : Int} (h : w.heap[g]? = some (.cells #[.int .i64 c] 3 (0, 0))) : ∀ (j : Nat) u, [Value.int .i64 c][j]? = some u → w.cell? ((⟨g, 0, none⟩ : Addr).add j) = some u := by
  intro j u hj
  match j, hj with
  | 0, hj => cases hj; rw [addr_lit0, cell_of_row w g 0 _ _ _ h]; rfl
  | j + 1, hj => simp at hj
def modL (m : Nat) (l : List Nat) : List Int := l.map fun n : Nat => ((n % m : Nat) : Int)
theorem modL_len (m : Nat) (l : List Nat) : (modL m l).length = l.length := by simp [modL]
theorem modL_take {m : Nat} {l : List Nat} {k : Nat} (hk : k < l.length) : (modL m l).take (k + 1) = (modL m l).take k ++ [((l.getD k 0 % m : Nat) : Int)] := by
  have h : k < (modL m l).length := by rw [modL_len]; exact hk
  have e : (modL m l)[k] = ((l.getD k 0 % m : Nat) : Int) := by
    simp only [modL, List.getElem_map]
    rw [List.getD_eq_getElem?_getD, List.getElem?_eq_getElem hk]; rfl
  rw [List.take_succ_eq_append_getElem h, e]
theorem wrap_small {m : Nat} (hm : 0 < m) (h2 : m ≤ 100000) (n : Nat) : IntKind.i64.wrap ((n % m : Nat) : Int) = ((n % m : Nat) : Int) := by
  have := Nat.mod_lt n hm
  exact IntWalk.i64_in _ (by omega)
theorem tmod_nat (a n : Nat) : (a : Int).tmod (n : Int) = ((a % n : Nat) : Int) := rfl
theorem modL_le (m : Nat) (l : List Nat) : ∀ x ∈ modL m l, 0 ≤ x ∧ (0 < m → x < (m : Int)) := by
  intro x hx
  obtain ⟨n, _, rfl⟩ := List.mem_map.1 hx
  exact ⟨by omega, fun h => by have := Nat.mod_lt n h; omega⟩
theorem one_kind (a b : List Int) (h : a.length = b.length) : [eqB a b, bfB a b, bfB b a, ccB a b].count true = 1 := by
  unfold eqB bfB ccB
  rw [decide_eq_true h]
  cases amB a b <;> cases amB b a <;> rfl
theorem bf_self (a : List Int) : bfB a a = false := by unfold bfB; cases amB a a <;> rfl
theorem am_self (a : List Int) : amB a a = true := amB_iff.2 ⟨rfl, fun _ _ => Int.le_refl _⟩
theorem cc_self (a : List Int) : ccB a a = false := by unfold ccB; rw [am_self]; simp
theorem am_trans {a b c : List Int} (h1 : amB a b = true) (h2 : amB b c = true) : amB a c = true := by
  obtain ⟨h1, h3⟩ := amB_iff.1 h1
  obtain ⟨h2, h4⟩ := amB_iff.1 h2
  exact amB_iff.2 ⟨h1.trans h2, fun i hi => Int.le_trans (h3 i hi) (h4 i (by omega))⟩
theorem bf_trans (a b c : List Int) : bfB a b = true → bfB b c = true → bfB a c = true := by
  unfold bfB
  rw [Bool.and_eq_true, Bool.and_eq_true, Bool.and_eq_true]
  rintro ⟨h1, h2⟩ ⟨h3, h4⟩
  refine ⟨am_trans h1 h3, ?_⟩
  cases h : amB c a with
  | false => rfl
  | true => have := am_trans h h1; rw [this] at h4; cases h4
theorem cnt_succ {l : List Bool} {k : Nat} (hk : k < l.length) : (l.take (k + 1)).count true = (l.take k).count true + (if l[k] = true then 1 else 0) := by
  rw [List.take_succ_eq_append_getElem hk, List.count_append, List.count_singleton]
  simp
set_option maxRecDepth 100000 in
set_option maxHeartbeats 8000000 in
theorem vclockorder_walk (a0 a1 a2 a3 b0 b1 b2 b3 c0 c1 c2 c3 : Nat) (w : World) :
    Calls Try.prog 6 #[.agg #[.int .u8 (a0 : Int), .int .u8 (a1 : Int), .int .u8 (a2 : Int), .int .u8 (a3 : Int)], .agg #[.int .u8 (b0 : Int), .int .u8 (b1 : Int), .int .u8 (b2 : Int), .int .u8 (b3 : Int)], .agg #[.int .u8 (c0 : Int), .int .u8 (c1 : Int), .int .u8 (c2 : Int), .int .u8 (c3 : Int)]] w (Ok w) := by
  have KW := Lib.hid (show ∀ w', Below (((w.alloc (.cells #[.int .u8 (a0 : Int), .int .u8 (a1 : Int), .int .u8 (a2 : Int), .int .u8 (a3 : Int)] 43)).alloc (.cells #[.int .u8 (b0 : Int), .int .u8 (b1 : Int), .int .u8 (b2 : Int), .int .u8 (b3 : Int)] 43)).alloc (.cells #[.int .u8 (c0 : Int), .int .u8 (c1 : Int), .int .u8 (c2 : Int), .int .u8 (c3 : Int)] 43)).heap.size (((w.alloc (.cells #[.int .u8 (a0 : Int), .int .u8 (a1 : Int), .int .u8 (a2 : Int), .int .u8 (a3 : Int)] 43)).alloc (.cells #[.int .u8 (b0 : Int), .int .u8 (b1 : Int), .int .u8 (b2 : Int), .int .u8 (b3 : Int)] 43)).alloc (.cells #[.int .u8 (c0 : Int), .int .u8 (c1 : Int), .int .u8 (c2 : Int), .int .u8 (c3 : Int)] 43)) w' →
      w'.heap[w.heap.size]? = some (.cells #[.int .u8 (a0 : Int), .int .u8 (a1 : Int), .int .u8 (a2 : Int), .int .u8 (a3 : Int)] 43 (0, 0)) ∧ w'.heap[w.heap.size + 1]? = some (.cells #[.int .u8 (b0 : Int), .int .u8 (b1 : Int), .int .u8 (b2 : Int), .int .u8 (b3 : Int)] 43 (0, 0)) ∧ w'.heap[w.heap.size + 1 + 1]? = some (.cells #[.int .u8 (c0 : Int), .int .u8 (c1 : Int), .int .u8 (c2 : Int), .int .u8 (c3 : Int)] 43 (0, 0)) ∧ Below w.heap.size w w' ∧ w.heap.size + 1 + 1 < w'.heap.size from fun w' h => by
    obtain ⟨h1, h2, h3⟩ := heap_alloc_3 w (.cells #[.int .u8 (a0 : Int), .int .u8 (a1 : Int), .int .u8 (a2 : Int), .int .u8 (a3 : Int)] 43) (.cells #[.int .u8 (b0 : Int), .int .u8 (b1 : Int), .int .u8 (b2 : Int), .int .u8 (b3 : Int)] 43) (.cells #[.int .u8 (c0 : Int), .int .u8 (c1 : Int), .int .u8 (c2 : Int), .int .u8 (c3 : Int)] 43)
    have hs := h.size
    simp at hs
    exact ⟨(h.block _ (by simp <;> omega)).trans h1, (h.block _ (by simp <;> omega)).trans h2, (h.block _ (by simp <;> omega)).trans h3, ((((Below.refl _ w).alloc (Nat.le_refl _) _).alloc (by simp) _).alloc (by simp; omega) _).trans (h.mono (by simp; omega)), by omega⟩)
  obtain ⟨i0, hi, hz0, hz1, hz2⟩ := info_parts info_int
  go_enter Try.func6, Try.ntmps6
  go_wp2_with fail
  refine (awake_any _).mono ?_
  rintro e w1 ⟨rfl, hb⟩
  obtain ⟨ka, kb, kc, hb1, hsz⟩ := KW.out _ hb
  have HE := Lib.hid (show ∀ (e : Ending) (w' : World), e = .returned (.bool true) → Below w1.heap.size w1 w' → Ok w e w' from fun e w' h1 h2 => ⟨h1, hb1.trans (h2.mono hb1.size)⟩)
  have cut := fun (k : Nat) (hk : k < 4) (w' : World) (h : Below w1.heap.size w1 w') => (show w'.cell? ⟨w.heap.size, k, none⟩ = some (.int .u8 (([a0, a1, a2, a3].getD k 0 : Nat) : Int)) ∧ w'.cell? ⟨w.heap.size + 1, k, none⟩ = some (.int .u8 (([b0, b1, b2, b3].getD k 0 : Nat) : Int)) ∧ w'.cell? ⟨w.heap.size + 1 + 1, k, none⟩ = some (.int .u8 (([c0, c1, c2, c3].getD k 0 : Nat) : Int)) from by
    have k1 := (h.block _ (by omega)).trans ka
    have k2 := (h.block _ (by omega)).trans kb
    have k3 := (h.block _ (by omega)).trans kc
    rw [cell_of_row _ _ k _ _ _ k1, cell_of_row _ _ k _ _ _ k2, cell_of_row _ _ k _ _ _ k3]
    match k, hk with
    | 0, _ => exact ⟨rfl, rfl, rfl⟩
    | 1, _ => exact ⟨rfl, rfl, rfl⟩
    | 2, _ => exact ⟨rfl, rfl, rfl⟩
    | 3, _ => exact ⟨rfl, rfl, rfl⟩
    | k + 4, hk => omega)
  have KC := Lib.hid cut
  clear hb ka kb kc hb1 cut KW
  have hla : [a0, a1, a2, a3].length = 4 := rfl
  have hlb : [b0, b1, b2, b3].length = 4 := rfl
  have hlc : [c0, c1, c2, c3].length = 4 := rfl
  generalize [a0, a1, a2, a3] = la at *
  generalize [b0, b1, b2, b3] = lb at *
  generalize [c0, c1, c2, c3] = lc at *
  have Hla := Lib.hid hla; have Hlb := Lib.hid hlb; have Hlc := Lib.hid hlc
  clear hla hlb hlc
  generalize hba : w.heap.size = ba at *
  generalize hbb : ba + 1 = bb at *
  generalize hbc : bb + 1 = bc at *
  clear hba hbb hbc
  go_wp2_with fail
  go_loopw [7, 8, 9, 16] (fun vx vy vz i wr => ∃ k : Nat, k ≤ 4 ∧ i = .int .i64 k ∧ R3 w1 w1.heap.size vx vy vz ((modL 4 la).take k) ((modL 4 lb).take k) ((modL 4 lc).take k) wr) (fun _ _ _ i _ => 4 - (intOf i).toNat)
  case atStart => exact ⟨0, Nat.zero_le _, rfl, ⟨World.ownsRow_nil _ _ _ _, World.ownsRow_nil _ _ _ _, World.ownsRow_nil _ _ _ _, (fun b h => by cases h), (fun b h => by cases h), (fun b h => by cases h), Below.refl _ _, Nat.le_refl _⟩⟩
  case round =>
    obtain ⟨k, hk, rfl, hr3⟩ := hrel
    have HR3 := Lib.hid hr3
    clear hr3
    by_cases hlt : k < 4
    · have Hx := Lib.hid (modL_take (m := 4) (l := la) (k := k) (by have := Hla.out; omega))
      have Hy := Lib.hid (modL_take (m := 4) (l := lb) (k := k) (by have := Hlb.out; omega))
      have Hz := Lib.hid (modL_take (m := 4) (l := lc) (k := k) (by have := Hlc.out; omega))
      have K0 := Lib.hid (fun (w' : World) (h : Below w1.heap.size w1 w') => (KC.out k hlt w' h).1)
      have K1 := Lib.hid (fun (w' : World) (h : Below w1.heap.size w1 w') => (KC.out k hlt w' h).2.1)
      have K2 := Lib.hid (fun (w' : World) (h : Below w1.heap.size w1 w') => (KC.out k hlt w' h).2.2)
      have hxl : ((modL 4 la).take k).length = k := by rw [List.length_take, modL_len]; have := Hla.out; omega
      have hyl : ((modL 4 lb).take k).length = k := by rw [List.length_take, modL_len]; have := Hlb.out; omega
      have hzl : ((modL 4 lc).take k).length = k := by rw [List.length_take, modL_len]; have := Hlc.out; omega
      have E0 := Lib.hid (show ((la.getD k 0 : Nat) : Int).tmod 4 = ((la.getD k 0 % 4 : Nat) : Int) from rfl); have E1 := Lib.hid (show ((lb.getD k 0 : Nat) : Int).tmod 4 = ((lb.getD k 0 % 4 : Nat) : Int) from rfl); have E2 := Lib.hid (show ((lc.getD k 0 : Nat) : Int).tmod 4 = ((lc.getD k 0 % 4 : Nat) : Int) from rfl)
      have W0 := Lib.hid (wrap_small (m := 4) (by omega) (by omega) (la.getD k 0)); have W1 := Lib.hid (wrap_small (m := 4) (by omega) (by omega) (lb.getD k 0)); have W2 := Lib.hid (wrap_small (m := 4) (by omega) (by omega) (lc.getD k 0))
      generalize (((la.getD k 0 % 4 : Nat)) : Int) = rx at *
      generalize (((lb.getD k 0 % 4 : Nat)) : Int) = ry at *
      generalize (((lc.getD k 0 % 4 : Nat)) : Int) = rz at *
      generalize ((la.getD k 0 : Nat) : Int) = ax at *
      generalize ((lb.getD k 0 : Nat) : Int) = ay at *
      generalize ((lc.getD k 0 : Nat) : Int) = az at *
      generalize (modL 4 la).take k = xs at *
      generalize (modL 4 lb).take k = ys at *
      generalize (modL 4 lc).take k = zs at *
      have hk4 : (k : Int) < 4 := by omega
      have hk0 : (0 : Int) ≤ (k : Int) := by omega
      have hu26 : Try.prog.underlying 26 = some (.slice 3) := by kernel_rfl
      go_wp2_with fail
      refine region_inv (n := 100) (Inv3 (Ph3 .u8 k u7 u8 u9 ba bb bc ax ay az rx ry rz wr.heap.size) (St3 w1 w1.heap.size u7 u8 u9 xs ys zs rx ry rz wr.heap.size)) (by kernel_rfl) (by kernel_rfl) rfl ?_ (allOps_spec ?_) ?_
      · intro vs
        exact ⟨(fun i h => by cases h), St3.start ((HR3.out).ext (Below.drewNs wr 1)) (Nat.le_refl _)⟩
      · refine ⟨?_, ?_, ?_, ?_, ?_, ?_, ?_, ?_, ?_, ?_, ?_, ?_, ?_, ?_, ?_, ?_, ?_, ?_, ?_, ?_, ?_, ?_, ?_, ?_, ?_, ?_, ?_, trivial⟩
        · intro L vs a w2 hB hL hd hI
          have b7 : a.tmps[7]?.getD undef = u7 := hB.pre 7 0 hL (by kernel_rfl)
          exact stepI_run (v := u7) rfl (by simp [execOp, go_sem, Act.eval, b7]) (hI.step (fun _ _ h => h) rfl (hI.2.quiet (by decide) (by decide) (by decide) (by decide) (by decide) (by decide)))
        · intro L vs a w2 hB hL hd hI
          have b10 : a.tmps[10]?.getD undef = .int .i64 (k : Int) := hB.at 10 (by kernel_rfl)
          exact stepI_run (v := .int .i64 (k : Int)) rfl (by simp [execOp, go_sem, Act.eval, b10]) (hI.step (fun _ _ h => h) rfl (hI.2.quiet (by decide) (by decide) (by decide) (by decide) (by decide) (by decide)))
        · intro L vs a w2 hB hL hd hI
          have b3 : a.tmps[3]?.getD undef = .pointer (some ⟨ba, 0, none⟩) := hB.at 3 (by kernel_rfl)
          have b20 : a.tmps[20]?.getD undef = .int .i64 (k : Int) := (hB.val 1 (hd ⟨1, .data⟩ (by simp) rfl) 20 rfl).trans (hI.1 1 (hd ⟨1, .data⟩ (by simp) rfl))
          exact stepI_run (v := .pointer (some ⟨ba, k, none⟩)) rfl (by simp [execOp, go_sem, Act.eval, b3, b20, hk4, hk0, addr_lit0]) (hI.step (fun _ _ h => h) rfl (hI.2.quiet (by decide) (by decide) (by decide) (by decide) (by decide) (by decide)))
        · intro L vs a w2 hB hL hd hI
          have b21 : a.tmps[21]?.getD undef = .pointer (some ⟨ba, k, none⟩) := (hB.val 2 (hd ⟨2, .data⟩ (by simp) rfl) 21 rfl).trans (hI.1 2 (hd ⟨2, .data⟩ (by simp) rfl))
          have bC := K0.out _ hI.2.1.below
          exact stepI_run (v := .int .u8 ax) rfl (by simp [execOp, go_sem, Act.eval, b21, bC]) (hI.step (fun _ _ h => h) rfl (hI.2.quiet (by decide) (by decide) (by decide) (by decide) (by decide) (by decide)))
        · intro L vs a w2 hB hL hd hI
          have b22 : a.tmps[22]?.getD undef = .int .u8 ax := (hB.val 3 (hd ⟨3, .data⟩ (by simp) rfl) 22 rfl).trans (hI.1 3 (hd ⟨3, .data⟩ (by simp) rfl))
          exact stepI_run (v := .int .u8 rx) rfl (by simp [execOp, go_sem, Act.eval, b22, E0.out]) (hI.step (fun _ _ h => h) rfl (hI.2.quiet (by decide) (by decide) (by decide) (by decide) (by decide) (by decide)))
        · intro L vs a w2 hB hL hd hI
          have b23 : a.tmps[23]?.getD undef = .int .u8 rx := (hB.val 4 (hd ⟨4, .data⟩ (by simp) rfl) 23 rfl).trans (hI.1 4 (hd ⟨4, .data⟩ (by simp) rfl))
          exact stepI_run (v := .int .i64 rx) rfl (by simp [execOp, go_sem, Act.eval, b23, W0.out]) (hI.step (fun _ _ h => h) rfl (hI.2.quiet (by decide) (by decide) (by decide) (by decide) (by decide) (by decide)))
        · intro L vs a w2 hB hL hd hI
          have b24 : a.tmps[24]?.getD undef = .int .i64 rx := (hB.val 5 (hd ⟨5, .data⟩ (by simp) rfl) 24 rfl).trans (hI.1 5 (hd ⟨5, .data⟩ (by simp) rfl))
          have hb2 : Below w2.heap.size w2 (w2.alloc (.cells #[.int .i64 rx] 3)) := below_alloc _ _
          exact stepI_run (v := .slice (some ⟨w2.heap.size, 0, none⟩) 1 1) (w' := w2.alloc (.cells #[.int .i64 rx] 3)) rfl (by simp [execOp, go_sem, Act.eval, b24]) (hI.step (fun j u h => Ph3.stay (Nst.below hb2) j u h) ⟨w2.heap.size, rfl, hI.2.2.1, heap_alloc_new w2 _⟩ ((hI.2.ext hb2).quiet (by decide) (by decide) (by decide) (by decide) (by decide) (by decide)))
        · intro L vs a w2 hB hL hd hI
          have b19 : a.tmps[19]?.getD undef = u7 := (hB.val 0 (hd ⟨0, .data⟩ (by simp) rfl) 19 rfl).trans (hI.1 0 (hd ⟨0, .data⟩ (by simp) rfl))
          have hn : NewB wr.heap.size rx (vs 6) w2 := hI.1 6 (hd ⟨6, .data⟩ (by simp) rfl)
          obtain ⟨g, hg1, hg2, hg3⟩ := hn
          have b25 : a.tmps[25]?.getD undef = .slice (some ⟨g, 0, none⟩) 1 1 := (hB.val 6 (hd ⟨6, .data⟩ (by simp) rfl) 25 rfl).trans hg1
          have hl2 : L 24 = false := hB.wait 7 24 hL (by kernel_rfl)
          refine stepI_on rfl (wp_append_lies w2 (.tmp 19) (.tmp 25) _ rfl w1.heap.size 3 i0 _ 1 8 hu26 hi hz0 hz1 hz2 rfl (by omega) u7 xs.length (xs.map iv) (by simp [Act.eval, b19]) (hI.2.rowx hL) ⟨g, 0, none⟩ 1 1 [.int .i64 rx] (by simp [Act.eval, b25]) rfl (one_cell hg3) (by simp [Value.oneCell']) (by omega) (by unfold maxLen; omega) (by omega) hI.2.1.size w2.heap.size rfl ?_)
          intro g2 cap w3 hown hgr hg2 hlt
          exact ⟨_, rfl, hI.step (fun j u h => Ph3.stay (Nst.grown hgr HR3.out.x (Nat.le_refl _)) j u h) trivial (hI.2.growx hL hl2 hown hgr hg2)⟩
        · intro L vs a w2 hB hL hd hI
          have b8 : a.tmps[8]?.getD undef = u8 := hB.pre 8 8 hL (by kernel_rfl)
          exact stepI_run (v := u8) rfl (by simp [execOp, go_sem, Act.eval, b8]) (hI.step (fun _ _ h => h) rfl (hI.2.quiet (by decide) (by decide) (by decide) (by decide) (by decide) (by decide)))
        · intro L vs a w2 hB hL hd hI
          have b10 : a.tmps[10]?.getD undef = .int .i64 (k : Int) := hB.at 10 (by kernel_rfl)
          exact stepI_run (v := .int .i64 (k : Int)) rfl (by simp [execOp, go_sem, Act.eval, b10]) (hI.step (fun _ _ h => h) rfl (hI.2.quiet (by decide) (by decide) (by decide) (by decide) (by decide) (by decide)))
        · intro L vs a w2 hB hL hd hI
          have b4 : a.tmps[4]?.getD undef = .pointer (some ⟨bb, 0, none⟩) := hB.at 4 (by kernel_rfl)
          have b28 : a.tmps[28]?.getD undef = .int .i64 (k : Int) := (hB.val 9 (hd ⟨9, .data⟩ (by simp) rfl) 28 rfl).trans (hI.1 9 (hd ⟨9, .data⟩ (by simp) rfl))
          exact stepI_run (v := .pointer (some ⟨bb, k, none⟩)) rfl (by simp [execOp, go_sem, Act.eval, b4, b28, hk4, hk0, addr_lit0]) (hI.step (fun _ _ h => h) rfl (hI.2.quiet (by decide) (by decide) (by decide) (by decide) (by decide) (by decide)))
        · intro L vs a w2 hB hL hd hI
          have b29 : a.tmps[29]?.getD undef = .pointer (some ⟨bb, k, none⟩) := (hB.val 10 (hd ⟨10, .data⟩ (by simp) rfl) 29 rfl).trans (hI.1 10 (hd ⟨10, .data⟩ (by simp) rfl))
          have bC := K1.out _ hI.2.1.below
          exact stepI_run (v := .int .u8 ay) rfl (by simp [execOp, go_sem, Act.eval, b29, bC]) (hI.step (fun _ _ h => h) rfl (hI.2.quiet (by decide) (by decide) (by decide) (by decide) (by decide) (by decide)))
        · intro L vs a w2 hB hL hd hI
          have b30 : a.tmps[30]?.getD undef = .int .u8 ay := (hB.val 11 (hd ⟨11, .data⟩ (by simp) rfl) 30 rfl).trans (hI.1 11 (hd ⟨11, .data⟩ (by simp) rfl))
          exact stepI_run (v := .int .u8 ry) rfl (by simp [execOp, go_sem, Act.eval, b30, E1.out]) (hI.step (fun _ _ h => h) rfl (hI.2.quiet (by decide) (by decide) (by decide) (by decide) (by decide) (by decide)))
        · intro L vs a w2 hB hL hd hI
          have b31 : a.tmps[31]?.getD undef = .int .u8 ry := (hB.val 12 (hd ⟨12, .data⟩ (by simp) rfl) 31 rfl).trans (hI.1 12 (hd ⟨12, .data⟩ (by simp) rfl))
          exact stepI_run (v := .int .i64 ry) rfl (by simp [execOp, go_sem, Act.eval, b31, W1.out]) (hI.step (fun _ _ h => h) rfl (hI.2.quiet (by decide) (by decide) (by decide) (by decide) (by decide) (by decide)))
        · intro L vs a w2 hB hL hd hI
          have b32 : a.tmps[32]?.getD undef = .int .i64 ry := (hB.val 13 (hd ⟨13, .data⟩ (by simp) rfl) 32 rfl).trans (hI.1 13 (hd ⟨13, .data⟩ (by simp) rfl))
          have hb2 : Below w2.heap.size w2 (w2.alloc (.cells #[.int .i64 ry] 3)) := below_alloc _ _
          exact stepI_run (v := .slice (some ⟨w2.heap.size, 0, none⟩) 1 1) (w' := w2.alloc (.cells #[.int .i64 ry] 3)) rfl (by simp [execOp, go_sem, Act.eval, b32]) (hI.step (fun j u h => Ph3.stay (Nst.below hb2) j u h) ⟨w2.heap.size, rfl, hI.2.2.1, heap_alloc_new w2 _⟩ ((hI.2.ext hb2).quiet (by decide) (by decide) (by decide) (by decide) (by decide) (by decide)))
        · intro L vs a w2 hB hL hd hI
          have b27 : a.tmps[27]?.getD undef = u8 := (hB.val 8 (hd ⟨8, .data⟩ (by simp) rfl) 27 rfl).trans (hI.1 8 (hd ⟨8, .data⟩ (by simp) rfl))
          have hn : NewB wr.heap.size ry (vs 14) w2 := hI.1 14 (hd ⟨14, .data⟩ (by simp) rfl)
          obtain ⟨g, hg1, hg2, hg3⟩ := hn
          have b33 : a.tmps[33]?.getD undef = .slice (some ⟨g, 0, none⟩) 1 1 := (hB.val 14 (hd ⟨14, .data⟩ (by simp) rfl) 33 rfl).trans hg1
          have hl2 : L 25 = false := hB.wait 15 25 hL (by kernel_rfl)
          refine stepI_on rfl (wp_append_lies w2 (.tmp 27) (.tmp 33) _ rfl w1.heap.size 3 i0 _ 1 8 hu26 hi hz0 hz1 hz2 rfl (by omega) u8 ys.length (ys.map iv) (by simp [Act.eval, b27]) (hI.2.rowy hL) ⟨g, 0, none⟩ 1 1 [.int .i64 ry] (by simp [Act.eval, b33]) rfl (one_cell hg3) (by simp [Value.oneCell']) (by omega) (by unfold maxLen; omega) (by omega) hI.2.1.size w2.heap.size rfl ?_)
          intro g2 cap w3 hown hgr hg2 hlt
          exact ⟨_, rfl, hI.step (fun j u h => Ph3.stay (Nst.grown hgr HR3.out.y (Nat.le_refl _)) j u h) trivial (hI.2.growy hL hl2 hown hgr hg2)⟩
        · intro L vs a w2 hB hL hd hI
          have b9 : a.tmps[9]?.getD undef = u9 := hB.pre 9 16 hL (by kernel_rfl)
          exact stepI_run (v := u9) rfl (by simp [execOp, go_sem, Act.eval, b9]) (hI.step (fun _ _ h => h) rfl (hI.2.quiet (by decide) (by decide) (by decide) (by decide) (by decide) (by decide)))
        · intro L vs a w2 hB hL hd hI
          have b10 : a.tmps[10]?.getD undef = .int .i64 (k : Int) := hB.at 10 (by kernel_rfl)
          exact stepI_run (v := .int .i64 (k : Int)) rfl (by simp [execOp, go_sem, Act.eval, b10]) (hI.step (fun _ _ h => h) rfl (hI.2.quiet (by decide) (by decide) (by decide) (by decide) (by decide) (by decide)))
        · intro L vs a w2 hB hL hd hI
          have b5 : a.tmps[5]?.getD undef = .pointer (some ⟨bc, 0, none⟩) := hB.at 5 (by kernel_rfl)
          have b36 : a.tmps[36]?.getD undef = .int .i64 (k : Int) := (hB.val 17 (hd ⟨17, .data⟩ (by simp) rfl) 36 rfl).trans (hI.1 17 (hd ⟨17, .data⟩ (by simp) rfl))
          exact stepI_run (v := .pointer (some ⟨bc, k, none⟩)) rfl (by simp [execOp, go_sem, Act.eval, b5, b36, hk4, hk0, addr_lit0]) (hI.step (fun _ _ h => h) rfl (hI.2.quiet (by decide) (by decide) (by decide) (by decide) (by decide) (by decide)))
        · intro L vs a w2 hB hL hd hI
          have b37 : a.tmps[37]?.getD undef = .pointer (some ⟨bc, k, none⟩) := (hB.val 18 (hd ⟨18, .data⟩ (by simp) rfl) 37 rfl).trans (hI.1 18 (hd ⟨18, .data⟩ (by simp) rfl))
          have bC := K2.out _ hI.2.1.below
          exact stepI_run (v := .int .u8 az) rfl (by simp [execOp, go_sem, Act.eval, b37, bC]) (hI.step (fun _ _ h => h) rfl (hI.2.quiet (by decide) (by decide) (by decide) (by decide) (by decide) (by decide)))
        · intro L vs a w2 hB hL hd hI
          have b38 : a.tmps[38]?.getD undef = .int .u8 az := (hB.val 19 (hd ⟨19, .data⟩ (by simp) rfl) 38 rfl).trans (hI.1 19 (hd ⟨19, .data⟩ (by simp) rfl))
          exact stepI_run (v := .int .u8 rz) rfl (by simp [execOp, go_sem, Act.eval, b38, E2.out]) (hI.step (fun _ _ h => h) rfl (hI.2.quiet (by decide) (by decide) (by decide) (by decide) (by decide) (by decide)))
        · intro L vs a w2 hB hL hd hI
          have b39 : a.tmps[39]?.getD undef = .int .u8 rz := (hB.val 20 (hd ⟨20, .data⟩ (by simp) rfl) 39 rfl).trans (hI.1 20 (hd ⟨20, .data⟩ (by simp) rfl))
          exact stepI_run (v := .int .i64 rz) rfl (by simp [execOp, go_sem, Act.eval, b39, W2.out]) (hI.step (fun _ _ h => h) rfl (hI.2.quiet (by decide) (by decide) (by decide) (by decide) (by decide) (by decide)))
        · intro L vs a w2 hB hL hd hI
          have b40 : a.tmps[40]?.getD undef = .int .i64 rz := (hB.val 21 (hd ⟨21, .data⟩ (by simp) rfl) 40 rfl).trans (hI.1 21 (hd ⟨21, .data⟩ (by simp) rfl))
          have hb2 : Below w2.heap.size w2 (w2.alloc (.cells #[.int .i64 rz] 3)) := below_alloc _ _
          exact stepI_run (v := .slice (some ⟨w2.heap.size, 0, none⟩) 1 1) (w' := w2.alloc (.cells #[.int .i64 rz] 3)) rfl (by simp [execOp, go_sem, Act.eval, b40]) (hI.step (fun j u h => Ph3.stay (Nst.below hb2) j u h) ⟨w2.heap.size, rfl, hI.2.2.1, heap_alloc_new w2 _⟩ ((hI.2.ext hb2).quiet (by decide) (by decide) (by decide) (by decide) (by decide) (by decide)))
        · intro L vs a w2 hB hL hd hI
          have b35 : a.tmps[35]?.getD undef = u9 := (hB.val 16 (hd ⟨16, .data⟩ (by simp) rfl) 35 rfl).trans (hI.1 16 (hd ⟨16, .data⟩ (by simp) rfl))
          have hn : NewB wr.heap.size rz (vs 22) w2 := hI.1 22 (hd ⟨22, .data⟩ (by simp) rfl)
          obtain ⟨g, hg1, hg2, hg3⟩ := hn
          have b41 : a.tmps[41]?.getD undef = .slice (some ⟨g, 0, none⟩) 1 1 := (hB.val 22 (hd ⟨22, .data⟩ (by simp) rfl) 41 rfl).trans hg1
          have hl2 : L 26 = false := hB.wait 23 26 hL (by kernel_rfl)
          refine stepI_on rfl (wp_append_lies w2 (.tmp 35) (.tmp 41) _ rfl w1.heap.size 3 i0 _ 1 8 hu26 hi hz0 hz1 hz2 rfl (by omega) u9 zs.length (zs.map iv) (by simp [Act.eval, b35]) (hI.2.rowz hL) ⟨g, 0, none⟩ 1 1 [.int .i64 rz] (by simp [Act.eval, b41]) rfl (one_cell hg3) (by simp [Value.oneCell']) (by omega) (by unfold maxLen; omega) (by omega) hI.2.1.size w2.heap.size rfl ?_)
          intro g2 cap w3 hown hgr hg2 hlt
          exact ⟨_, rfl, hI.step (fun j u h => Ph3.stay (Nst.grown hgr HR3.out.z (Nat.le_refl _)) j u h) trivial (hI.2.growz hL hl2 hown hgr hg2)⟩
        · intro L vs a w2 hB hL hd hI
          have b26 : a.tmps[26]?.getD undef = vs 7 := hB.val 7 (hd ⟨7, .data⟩ (by simp) rfl) 26 rfl
          exact stepI_run (v := vs 7) rfl (by simp [execOp, Act.eval, b26]) (hI.step (fun _ _ h => h) trivial (hI.2.fill (.inl ⟨rfl, rfl⟩)))
        · intro L vs a w2 hB hL hd hI
          have b34 : a.tmps[34]?.getD undef = vs 15 := hB.val 15 (hd ⟨15, .data⟩ (by simp) rfl) 34 rfl
          exact stepI_run (v := vs 15) rfl (by simp [execOp, Act.eval, b34]) (hI.step (fun _ _ h => h) trivial (hI.2.fill (.inr (.inl ⟨rfl, rfl⟩))))
        · intro L vs a w2 hB hL hd hI
          have b42 : a.tmps[42]?.getD undef = vs 23 := hB.val 23 (hd ⟨23, .data⟩ (by simp) rfl) 42 rfl
          exact stepI_run (v := vs 23) rfl (by simp [execOp, Act.eval, b42]) (hI.step (fun _ _ h => h) trivial (hI.2.fill (.inr (.inr ⟨rfl, rfl⟩))))
      · intro L vs w2 hall hI
        have hr := hI.2.all (fun i hi => hall i hi)
        have HR := Lib.hid hr
        clear hr hI hall
        simp only [putAll, Act.put, List.setIfInBounds_toArray, List.set_cons_zero, List.set_cons_succ, Nat.zero_add, Nat.reduceAdd]
        generalize vs 24 = vx' at *
        generalize vs 25 = vy' at *
        generalize vs 26 = vz' at *
        go_wp2
        go_roundw
        case rel => exact ⟨k + 1, by omega, by go_num, by rw [Hx.out, Hy.out, Hz.out]; exact HR.out⟩
        case measure => simp [intOf]; omega
    · obtain rfl : k = 4 := by omega
      have hr3 := HR3.out
      rw [List.take_of_length_le (by rw [modL_len]; have := Hla.out; omega), List.take_of_length_le (by rw [modL_len]; have := Hlb.out; omega), List.take_of_length_le (by rw [modL_len]; have := Hlc.out; omega)] at hr3
      have lx : (modL 4 la).length = 4 := by rw [modL_len]; exact Hla.out
      have ly : (modL 4 lb).length = 4 := by rw [modL_len]; exact Hlb.out
      have lz : (modL 4 lc).length = 4 := by rw [modL_len]; exact Hlc.out
      have Mx := Lib.hid (modL_le 4 la); have My := Lib.hid (modL_le 4 lb); have Mz := Lib.hid (modL_le 4 lc)
      generalize modL 4 la = X at *
      generalize modL 4 lb = Y at *
      generalize modL 4 lc = Z at *
      have Hx := Lib.hid (Sl.of_own hr3.x); have Hy := Lib.hid (Sl.of_own hr3.y); have Hz := Lib.hid (Sl.of_own hr3.z)
      have HB := Lib.hid hr3.below
      obtain ⟨A7, c7, rfl⟩ := own_shapeG hr3.x
      obtain ⟨A8, c8, rfl⟩ := own_shapeG hr3.y
      obtain ⟨A9, c9, rfl⟩ := own_shapeG hr3.z
      have Lx := Lib.hid lx; have Ly := Lib.hid ly; have Lz := Lib.hid lz
      have lx2 : X.length ≤ 1000 := by omega
      have ly2 : Y.length ≤ 1000 := by omega
      have lz2 : Z.length ≤ 1000 := by omega
      clear hr3 HR3 KC Hla Hlb Hlc hlt hk lx ly lz
      have hone := one_kind X Y (Lx.out.trans Ly.out.symm)
      have htr := bf_trans X Y Z
      have R1 := Lib.hid (bf_self X); have R2 := Lib.hid (cc_self X)
      obtain ⟨r1, h1⟩ : ∃ r, r = eqB X Y := ⟨_, rfl⟩
      obtain ⟨r2, h2⟩ : ∃ r, r = bfB X Y := ⟨_, rfl⟩
      obtain ⟨r3, h3⟩ : ∃ r, r = bfB Y X := ⟨_, rfl⟩
      obtain ⟨r4, h4⟩ : ∃ r, r = ccB X Y := ⟨_, rfl⟩
      obtain ⟨r5, h5⟩ : ∃ r, r = bfB Y Z := ⟨_, rfl⟩
      obtain ⟨r6, h6⟩ : ∃ r, r = bfB X Z := ⟨_, rfl⟩
      rw [← h1, ← h2, ← h3, ← h4] at hone
      rw [← h2, ← h5, ← h6] at htr
      have H1 := Lib.hid h1.symm; have H2 := Lib.hid h2.symm; have H3 := Lib.hid h3.symm; have H4 := Lib.hid h4.symm; have H5 := Lib.hid h5.symm; have H6 := Lib.hid h6.symm
      have Hone := Lib.hid hone; have Htr := Lib.hid htr
      clear h1 h2 h3 h4 h5 h6 hone htr
      go_wp2_with fail
      refine (equal_any _ _ X Y _ Hx.out Hy.out lx2 ly2).mono ?_
      rintro e w2 ⟨rfl, hq⟩
      have hb := quiet_below hq
      replace HB := Lib.hid (HB.out.trans (hb.mono HB.out.size))
      replace Hx := Lib.hid (Hx.out.below hb)
      replace Hy := Lib.hid (Hy.out.below hb)
      replace Hz := Lib.hid (Hz.out.below hb)
      clear hb hq
      rw [H1.out]
      go_wp2_with fail
      refine (before_any _ _ X Y _ Hx.out Hy.out lx2 ly2).mono ?_
      rintro e w3 ⟨rfl, hq⟩
      have hb := quiet_below hq
      replace HB := Lib.hid (HB.out.trans (hb.mono HB.out.size))
      replace Hx := Lib.hid (Hx.out.below hb)
      replace Hy := Lib.hid (Hy.out.below hb)
      replace Hz := Lib.hid (Hz.out.below hb)
      clear hb hq
      rw [H2.out]
      go_wp2_with fail
      refine (before_any _ _ Y X _ Hy.out Hx.out ly2 lx2).mono ?_
      rintro e w4 ⟨rfl, hq⟩
      have hb := quiet_below hq
      replace HB := Lib.hid (HB.out.trans (hb.mono HB.out.size))
      replace Hx := Lib.hid (Hx.out.below hb)
      replace Hy := Lib.hid (Hy.out.below hb)
      replace Hz := Lib.hid (Hz.out.below hb)
      clear hb hq
      rw [H3.out]
      go_wp2_with fail
      refine (conc_any _ _ X Y _ Hx.out Hy.out lx2 ly2).mono ?_
      rintro e w5 ⟨rfl, hq⟩
      have hb := quiet_below hq
      replace HB := Lib.hid (HB.out.trans (hb.mono HB.out.size))
      replace Hx := Lib.hid (Hx.out.below hb)
      replace Hy := Lib.hid (Hy.out.below hb)
      replace Hz := Lib.hid (Hz.out.below hb)
      clear hb hq
      rw [H4.out]
      have hblk := heap_alloc_new w5 (.cells #[.bool r1, .bool r2, .bool r3, .bool r4] 4)
      have hb := below_alloc w5 (.cells #[.bool r1, .bool r2, .bool r3, .bool r4] 4)
      replace HB := Lib.hid (HB.out.trans (hb.mono HB.out.size))
      replace Hx := Lib.hid (Hx.out.below hb)
      replace Hy := Lib.hid (Hy.out.below hb)
      replace Hz := Lib.hid (Hz.out.below hb)
      obtain ⟨W, hW⟩ : ∃ W, W = w5.alloc (.cells #[.bool r1, .bool r2, .bool r3, .bool r4] 4) := ⟨_, rfl⟩
      rw [← hW] at hblk HB Hx Hy Hz
      obtain ⟨bs, hbs⟩ : ∃ bs : List Bool, bs = [r1, r2, r3, r4] := ⟨_, rfl⟩
      have hbl : bs.length = 4 := by rw [hbs]; rfl
      have hcell := fun (k : Nat) (hk : k < bs.length) => (show W.cell? ⟨w5.heap.size, k, none⟩ = some (.bool bs[k]) from by
        rw [cell_of_row W _ k _ _ _ hblk]
        subst hbs
        match k, hk with
        | 0, _ => rfl
        | 1, _ => rfl
        | 2, _ => rfl
        | 3, _ => rfl)
      have Hcell := Lib.hid hcell; have HW := Lib.hid hW; have Hbs := Lib.hid hbs
      clear hblk hb hW hbs hcell
      go_wp2_with fail
      rw [← HW.out]
      go_loop [59, 11] (fun i kk => ∃ k : Nat, k ≤ bs.length ∧ i = .int .i64 k ∧ kk = .int .i64 ((bs.take k).count true : Nat)) (fun i _ => bs.length - (intOf i).toNat)
      case atStart => exact ⟨0, Nat.zero_le _, rfl, rfl⟩
      case round =>
        obtain ⟨k, hk, rfl, rfl⟩ := hrel
        by_cases hlt : k < bs.length
        · have hc := Hcell.out k hlt
          have hcn := cnt_succ hlt
          have hcb : (bs.take k).count true ≤ k := Nat.le_trans List.count_le_length (by rw [List.length_take]; omega)
          generalize (bs.take k).count true = n at *
          have Hcn := Lib.hid hcn
          cases hv : bs[k] with
          | true =>
            rw [hv] at hc Hcn
            clear hcn hv
            go_wp2
            go_round
            case rel => exact ⟨k + 1, by omega, by go_num, by rw [Hcn.out]; go_num⟩
            case measure => simp [intOf]; omega
          | false =>
            rw [hv] at hc Hcn
            clear hcn hv
            go_wp2
            go_round
            case rel => exact ⟨k + 1, by omega, by go_num, by rw [Hcn.out]; first | done | go_num⟩
            case measure => simp [intOf]; omega
        · have hcn : (bs.take k).count true = 1 := by rw [List.take_of_length_le (by omega), Hbs.out]; exact Hone.out
          rw [hcn]
          clear hcn
          go_wp2_with fail
          refine (before_any _ _ X X _ Hx.out Hx.out lx2 lx2).mono ?_
          rintro e w6 ⟨rfl, hq⟩
          have hb := quiet_below hq
          replace HB := Lib.hid (HB.out.trans (hb.mono HB.out.size))
          replace Hx := Lib.hid (Hx.out.below hb)
          replace Hy := Lib.hid (Hy.out.below hb)
          replace Hz := Lib.hid (Hz.out.below hb)
          clear hb hq
          rw [R1.out]
          go_wp2_with fail
          refine (conc_any _ _ X X _ Hx.out Hx.out lx2 lx2).mono ?_
          rintro e w7 ⟨rfl, hq⟩
          have hb := quiet_below hq
          replace HB := Lib.hid (HB.out.trans (hb.mono HB.out.size))
          replace Hx := Lib.hid (Hx.out.below hb)
          replace Hy := Lib.hid (Hy.out.below hb)
          replace Hz := Lib.hid (Hz.out.below hb)
          clear hb hq
          rw [R2.out]
          go_wp2_with fail
          refine (before_any _ _ X Y _ Hx.out Hy.out lx2 ly2).mono ?_
          rintro e w8 ⟨rfl, hq⟩
          have hb := quiet_below hq
          replace HB := Lib.hid (HB.out.trans (hb.mono HB.out.size))
          replace Hx := Lib.hid (Hx.out.below hb)
          replace Hy := Lib.hid (Hy.out.below hb)
          replace Hz := Lib.hid (Hz.out.below hb)
          clear hb hq
          rw [H2.out]
          cases r2 with
          | false =>
            go_wp2
            go_ret
            exact HE.out _ _ rfl HB.out
          | true =>
            go_wp2_with fail
            refine (before_any _ _ Y Z _ Hy.out Hz.out ly2 lz2).mono ?_
            rintro e w9 ⟨rfl, hq⟩
            have hb := quiet_below hq
            replace HB := Lib.hid (HB.out.trans (hb.mono HB.out.size))
            replace Hx := Lib.hid (Hx.out.below hb)
            replace Hy := Lib.hid (Hy.out.below hb)
            replace Hz := Lib.hid (Hz.out.below hb)
            clear hb hq
            rw [H5.out]
            cases r5 with
            | false =>
              go_wp2
              go_ret
              exact HE.out _ _ rfl HB.out
            | true =>
              have h6 : r6 = true := by have := Htr.out; simpa using this
              subst h6
              go_wp2_with fail
              refine (before_any _ _ X Z _ Hx.out Hz.out lx2 lz2).mono ?_
              rintro e w10 ⟨rfl, hq⟩
              have hb := quiet_below hq
              replace HB := Lib.hid (HB.out.trans (hb.mono HB.out.size))
              clear hb hq
              rw [H6.out]
              go_wp2
              go_ret
              exact HE.out _ _ rfl HB.out
end Go.Proofs.Ytfkemjhoncbndaa
