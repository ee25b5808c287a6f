/- VclockLeast: for every input the law returns true (tools/vcord_gen.py). -/
import Derived.Test.YtfkemjhoncbndaaVcRows
namespace Go.Proofs.Ytfkemjhoncbndaa
open Go.RowKit

theorem addr_lit0 (b k : Nat) : (⟨b, 0, none⟩ : Addr).add k = ⟨b, k, none⟩ := by unfold Addr.add; split <;> simp_all
theorem one_cell {w : World} {g : Nat} {c : Int} (h : w.heap[g]? = some (.cells #[.int .i64 c] 3 (0, 0))) : ∀ (j : Nat) u, [Value.int .i64 c][j]? = some u → w.cell? ((⟨g, 0, none⟩ : Addr).add j) = some u := by
  intro j u hj
  match j, hj with
  | 0, hj => cases hj; rw [addr_lit0, cell_of_row w g 0 _ _ _ h]; rfl
  | j + 1, hj => simp at hj
def modL (m : Nat) (l : List Nat) : List Int := l.map fun n : Nat => ((n % m : Nat) : Int)
theorem modL_len (m : Nat) (l : List Nat) : (modL m l).length = l.length := by simp [modL]
theorem modL_take {m : Nat} {l : List Nat} {k : Nat} (hk : k < l.length) : (modL m l).take (k + 1) = (modL m l).take k ++ [((l.getD k 0 % m : Nat) : Int)] := by
  have h : k < (modL m l).length := by rw [modL_len]; exact hk
  have e : (modL m l)[k] = ((l.getD k 0 % m : Nat) : Int) := by
    simp only [modL, List.getElem_map]
    rw [List.getD_eq_getElem?_getD, List.getElem?_eq_getElem hk]; rfl
  rw [List.take_succ_eq_append_getElem h, e]
theorem wrap_small {m : Nat} (hm : 0 < m) (h2 : m ≤ 100000) (n : Nat) : IntKind.i64.wrap ((n % m : Nat) : Int) = ((n % m : Nat) : Int) := by
  have := Nat.mod_lt n hm
  exact IntWalk.i64_in _ (by omega)
theorem tmod_nat (a n : Nat) : (a : Int).tmod (n : Int) = ((a % n : Nat) : Int) := rfl
theorem modL_le (m : Nat) (l : List Nat) : ∀ x ∈ modL m l, 0 ≤ x ∧ (0 < m → x < (m : Int)) := by
  intro x hx
  obtain ⟨n, _, rfl⟩ := List.mem_map.1 hx
  exact ⟨by omega, fun h => by have := Nat.mod_lt n h; omega⟩
theorem am_self (a : List Int) : amB a a = true := amB_iff.2 ⟨rfl, fun _ _ => Int.le_refl _⟩
theorem am_trans {a b c : List Int} (h1 : amB a b = true) (h2 : amB b c = true) : amB a c = true := by
  obtain ⟨h1, h3⟩ := amB_iff.1 h1
  obtain ⟨h2, h4⟩ := amB_iff.1 h2
  exact amB_iff.2 ⟨h1.trans h2, fun i hi => Int.le_trans (h3 i hi) (h4 i (by omega))⟩
theorem zip_len {a b : List Int} (h : a.length = b.length) : (List.zipWith mx a b).length = a.length := by rw [List.length_zipWith]; omega
theorem zip_get {a b : List Int} (h : a.length = b.length) {i : Nat} (hi : i < a.length) : (List.zipWith mx a b).getD i 0 = mx (a.getD i 0) (b.getD i 0) := by
  simp only [List.getD_eq_getElem?_getD]
  rw [List.getElem?_eq_getElem (by rw [zip_len h]; exact hi), List.getElem?_eq_getElem hi, List.getElem?_eq_getElem (by omega), List.getElem_zipWith]; rfl
theorem mx_le {x y z : Int} : mx x y ≤ z ↔ x ≤ z ∧ y ≤ z := by unfold mx; split <;> omega
theorem zip_le {a b c : List Int} (h : a.length = b.length) : amB (List.zipWith mx a b) c = (amB a c && amB b c) := by
  rw [Bool.eq_iff_iff, Bool.and_eq_true, amB_iff, amB_iff, amB_iff, zip_len h]
  constructor
  · rintro ⟨h1, h2⟩
    refine ⟨⟨h1, fun i hi => ?_⟩, h.symm.trans h1, fun i hi => ?_⟩
    · have := h2 i hi; rw [zip_get h hi] at this; exact (mx_le.1 this).1
    · have := h2 i (by omega); rw [zip_get h (by omega)] at this; exact (mx_le.1 this).2
  · rintro ⟨⟨h1, h2⟩, h3, h4⟩
    refine ⟨h1, fun i hi => ?_⟩
    rw [zip_get h hi]
    exact mx_le.2 ⟨h2 i hi, h4 i (by omega)⟩
theorem am_left {a b : List Int} (h : a.length = b.length) : amB a (List.zipWith mx a b) = true := by
  have := zip_le (c := List.zipWith mx a b) h
  rw [am_self] at this
  exact (Bool.and_eq_true_iff.1 this.symm).1
theorem am_right {a b : List Int} (h : a.length = b.length) : amB b (List.zipWith mx a b) = true := by
  have := zip_le (c := List.zipWith mx a b) h
  rw [am_self] at this
  exact (Bool.and_eq_true_iff.1 this.symm).2
theorem am_eq {a b : List Int} (h1 : amB a b = true) (h2 : amB b a = true) : eqB a b = true := by unfold eqB; rw [h1, h2]; rfl
theorem zip_comm {a b : List Int} (h : a.length = b.length) : eqB (List.zipWith mx a b) (List.zipWith mx b a) = true :=
  am_eq (by rw [zip_le h, am_left h.symm, am_right h.symm]; rfl) (by rw [zip_le h.symm, am_left h, am_right h]; rfl)
theorem zip_again {a b : List Int} (h : a.length = b.length) : eqB (List.zipWith mx (List.zipWith mx a b) a) (List.zipWith mx a b) = true :=
  am_eq (by rw [zip_le (zip_len h), am_self, am_left h]; rfl) (am_left (zip_len h))
theorem zip_assoc {a b c : List Int} (h : a.length = b.length) (h2 : b.length = c.length) : eqB (List.zipWith mx (List.zipWith mx a b) c) (List.zipWith mx a (List.zipWith mx b c)) = true := by
  have e1 : (List.zipWith mx a b).length = c.length := (zip_len h).trans (h.trans h2)
  have e2 : a.length = (List.zipWith mx b c).length := h.trans (zip_len h2).symm
  refine am_eq ?_ ?_
  · rw [zip_le e1, zip_le h, am_left e2, am_trans (am_left h2) (am_right e2), am_trans (am_right h2) (am_right e2)]; rfl
  · rw [zip_le e2, zip_le h2, am_trans (am_left h) (am_left e1), am_trans (am_right h) (am_left e1), am_right e1]; rfl
theorem bf_up {a b : List Int} (h : amB b a = true) : bfB a b = false := by unfold bfB; rw [h]; simp
theorem cc_up {a b : List Int} (h : amB b a = true) : ccB a b = false := by unfold ccB; rw [h]; simp
theorem am_of {a b : List Int} (h : bfB a b = true ∨ eqB a b = true) : amB a b = true := by
  unfold bfB eqB at h
  rw [Bool.and_eq_true, Bool.and_eq_true] at h
  rcases h with h | h <;> exact h.1
theorem of_am {a b : List Int} (h : amB a b = true) (h2 : bfB a b = false) : eqB a b = true := by
  unfold bfB at h2; unfold eqB
  rw [h] at h2 ⊢
  simpa using h2
theorem okB_small {m : Nat} {l : List Int} (hl : 1 ≤ l.length ∧ l.length ≤ 6) (h : ∀ x ∈ l, 0 ≤ x ∧ (0 < m → x < (m : Int))) (hm : 0 < m) (hm2 : m ≤ 1000) : okB l = true :=
  okB_iff.2 ⟨hl, fun x hx => by have := h x hx; have h2 := this.2 hm; unfold InC; omega⟩
theorem okB_zip {a b : List Int} (h : okB a = true) (h2 : okB b = true) (hl : a.length = b.length) : okB (List.zipWith mx a b) = true := by
  have := joinR_ok a b
  rw [join_good h h2 hl] at this
  exact this
theorem join_ok (va vb : Value) (a b : List Int) (w : World) (ha : Sl iv w va a) (hb : Sl iv w vb b) (h1 : okB a = true) (h2 : okB b = true) (hl : a.length = b.length) (hla : a.length ≤ 1000) :
    Calls Try.prog 23 #[va, vb] w fun e w' => ∃ v, e = .returned (.tuple #[v, .int .i64 0]) ∧ w'.ownsRow w.heap.size 3 1 v (List.zipWith mx a b).length ((List.zipWith mx a b).map iv) ∧ Below w.heap.size w w' := by
  refine (join_any va vb a b w ha hb hla (by omega)).mono ?_
  rw [join_good h1 h2 hl]
  exact fun _ _ h => h
set_option maxRecDepth 100000 in
set_option maxHeartbeats 8000000 in
theorem vclockleast_walk (a0 a1 a2 b0 b1 b2 c0 c1 c2 : Nat) (w : World) :
    Calls Try.prog 7 #[.agg #[.int .u16 (a0 : Int), .int .u16 (a1 : Int), .int .u16 (a2 : Int)], .agg #[.int .u16 (b0 : Int), .int .u16 (b1 : Int), .int .u16 (b2 : Int)], .agg #[.int .u16 (c0 : Int), .int .u16 (c1 : Int), .int .u16 (c2 : Int)]] w (Ok w) := by
  have KW := Lib.hid (show ∀ w', Below (((w.alloc (.cells #[.int .u16 (a0 : Int), .int .u16 (a1 : Int), .int .u16 (a2 : Int)] 47)).alloc (.cells #[.int .u16 (b0 : Int), .int .u16 (b1 : Int), .int .u16 (b2 : Int)] 47)).alloc (.cells #[.int .u16 (c0 : Int), .int .u16 (c1 : Int), .int .u16 (c2 : Int)] 47)).heap.size (((w.alloc (.cells #[.int .u16 (a0 : Int), .int .u16 (a1 : Int), .int .u16 (a2 : Int)] 47)).alloc (.cells #[.int .u16 (b0 : Int), .int .u16 (b1 : Int), .int .u16 (b2 : Int)] 47)).alloc (.cells #[.int .u16 (c0 : Int), .int .u16 (c1 : Int), .int .u16 (c2 : Int)] 47)) w' →
      w'.heap[w.heap.size]? = some (.cells #[.int .u16 (a0 : Int), .int .u16 (a1 : Int), .int .u16 (a2 : Int)] 47 (0, 0)) ∧ w'.heap[w.heap.size + 1]? = some (.cells #[.int .u16 (b0 : Int), .int .u16 (b1 : Int), .int .u16 (b2 : Int)] 47 (0, 0)) ∧ w'.heap[w.heap.size + 1 + 1]? = some (.cells #[.int .u16 (c0 : Int), .int .u16 (c1 : Int), .int .u16 (c2 : Int)] 47 (0, 0)) ∧ Below w.heap.size w w' ∧ w.heap.size + 1 + 1 < w'.heap.size from fun w' h => by
    obtain ⟨h1, h2, h3⟩ := heap_alloc_3 w (.cells #[.int .u16 (a0 : Int), .int .u16 (a1 : Int), .int .u16 (a2 : Int)] 47) (.cells #[.int .u16 (b0 : Int), .int .u16 (b1 : Int), .int .u16 (b2 : Int)] 47) (.cells #[.int .u16 (c0 : Int), .int .u16 (c1 : Int), .int .u16 (c2 : Int)] 47)
    have hs := h.size
    simp at hs
    exact ⟨(h.block _ (by simp <;> omega)).trans h1, (h.block _ (by simp <;> omega)).trans h2, (h.block _ (by simp <;> omega)).trans h3, ((((Below.refl _ w).alloc (Nat.le_refl _) _).alloc (by simp) _).alloc (by simp; omega) _).trans (h.mono (by simp; omega)), by omega⟩)
  obtain ⟨i0, hi, hz0, hz1, hz2⟩ := info_parts info_int
  go_enter Try.func7, Try.ntmps7
  go_wp2_with fail
  refine (awake_any _).mono ?_
  rintro e w1 ⟨rfl, hb⟩
  obtain ⟨ka, kb, kc, hb1, hsz⟩ := KW.out _ hb
  have HE := Lib.hid (show ∀ (e : Ending) (w' : World), e = .returned (.bool true) → Below w1.heap.size w1 w' → Ok w e w' from fun e w' h1 h2 => ⟨h1, hb1.trans (h2.mono hb1.size)⟩)
  have cut := fun (k : Nat) (hk : k < 3) (w' : World) (h : Below w1.heap.size w1 w') => (show w'.cell? ⟨w.heap.size, k, none⟩ = some (.int .u16 (([a0, a1, a2].getD k 0 : Nat) : Int)) ∧ w'.cell? ⟨w.heap.size + 1, k, none⟩ = some (.int .u16 (([b0, b1, b2].getD k 0 : Nat) : Int)) ∧ w'.cell? ⟨w.heap.size + 1 + 1, k, none⟩ = some (.int .u16 (([c0, c1, c2].getD k 0 : Nat) : Int)) from by
    have k1 := (h.block _ (by omega)).trans ka
    have k2 := (h.block _ (by omega)).trans kb
    have k3 := (h.block _ (by omega)).trans kc
    rw [cell_of_row _ _ k _ _ _ k1, cell_of_row _ _ k _ _ _ k2, cell_of_row _ _ k _ _ _ k3]
    match k, hk with
    | 0, _ => exact ⟨rfl, rfl, rfl⟩
    | 1, _ => exact ⟨rfl, rfl, rfl⟩
    | 2, _ => exact ⟨rfl, rfl, rfl⟩
    | k + 3, hk => omega)
  have KC := Lib.hid cut
  clear hb ka kb kc hb1 cut KW
  have hla : [a0, a1, a2].length = 3 := rfl
  have hlb : [b0, b1, b2].length = 3 := rfl
  have hlc : [c0, c1, c2].length = 3 := rfl
  generalize [a0, a1, a2] = la at *
  generalize [b0, b1, b2] = lb at *
  generalize [c0, c1, c2] = lc at *
  have Hla := Lib.hid hla; have Hlb := Lib.hid hlb; have Hlc := Lib.hid hlc
  clear hla hlb hlc
  generalize hba : w.heap.size = ba at *
  generalize hbb : ba + 1 = bb at *
  generalize hbc : bb + 1 = bc at *
  clear hba hbb hbc
  go_wp2_with fail
  go_loopw [7, 8, 9, 26] (fun vx vy vz i wr => ∃ k : Nat, k ≤ 3 ∧ i = .int .i64 k ∧ R3 w1 w1.heap.size vx vy vz ((modL 300 la).take k) ((modL 300 lb).take k) ((modL 600 lc).take k) wr) (fun _ _ _ i _ => 3 - (intOf i).toNat)
  case atStart => exact ⟨0, Nat.zero_le _, rfl, ⟨World.ownsRow_nil _ _ _ _, World.ownsRow_nil _ _ _ _, World.ownsRow_nil _ _ _ _, (fun b h => by cases h), (fun b h => by cases h), (fun b h => by cases h), Below.refl _ _, Nat.le_refl _⟩⟩
  case round =>
    obtain ⟨k, hk, rfl, hr3⟩ := hrel
    have HR3 := Lib.hid hr3
    clear hr3
    by_cases hlt : k < 3
    · have Hx := Lib.hid (modL_take (m := 300) (l := la) (k := k) (by have := Hla.out; omega))
      have Hy := Lib.hid (modL_take (m := 300) (l := lb) (k := k) (by have := Hlb.out; omega))
      have Hz := Lib.hid (modL_take (m := 600) (l := lc) (k := k) (by have := Hlc.out; omega))
      have K0 := Lib.hid (fun (w' : World) (h : Below w1.heap.size w1 w') => (KC.out k hlt w' h).1)
      have K1 := Lib.hid (fun (w' : World) (h : Below w1.heap.size w1 w') => (KC.out k hlt w' h).2.1)
      have K2 := Lib.hid (fun (w' : World) (h : Below w1.heap.size w1 w') => (KC.out k hlt w' h).2.2)
      have hxl : ((modL 300 la).take k).length = k := by rw [List.length_take, modL_len]; have := Hla.out; omega
      have hyl : ((modL 300 lb).take k).length = k := by rw [List.length_take, modL_len]; have := Hlb.out; omega
      have hzl : ((modL 600 lc).take k).length = k := by rw [List.length_take, modL_len]; have := Hlc.out; omega
      have E0 := Lib.hid (show ((la.getD k 0 : Nat) : Int).tmod 300 = ((la.getD k 0 % 300 : Nat) : Int) from rfl); have E1 := Lib.hid (show ((lb.getD k 0 : Nat) : Int).tmod 300 = ((lb.getD k 0 % 300 : Nat) : Int) from rfl); have E2 := Lib.hid (show ((lc.getD k 0 : Nat) : Int).tmod 600 = ((lc.getD k 0 % 600 : Nat) : Int) from rfl)
      have W0 := Lib.hid (wrap_small (m := 300) (by omega) (by omega) (la.getD k 0)); have W1 := Lib.hid (wrap_small (m := 300) (by omega) (by omega) (lb.getD k 0)); have W2 := Lib.hid (wrap_small (m := 600) (by omega) (by omega) (lc.getD k 0))
      generalize (((la.getD k 0 % 300 : Nat)) : Int) = rx at *
      generalize (((lb.getD k 0 % 300 : Nat)) : Int) = ry at *
      generalize (((lc.getD k 0 % 600 : Nat)) : Int) = rz at *
      generalize ((la.getD k 0 : Nat) : Int) = ax at *
      generalize ((lb.getD k 0 : Nat) : Int) = ay at *
      generalize ((lc.getD k 0 : Nat) : Int) = az at *
      generalize (modL 300 la).take k = xs at *
      generalize (modL 300 lb).take k = ys at *
      generalize (modL 600 lc).take k = zs at *
      have hk4 : (k : Int) < 3 := by omega
      have hk0 : (0 : Int) ≤ (k : Int) := by omega
      have hu26 : Try.prog.underlying 26 = some (.slice 3) := by kernel_rfl
      go_wp2_with fail
      refine region_inv (n := 178) (Inv3 (Ph3 .u16 k u7 u8 u9 ba bb bc ax ay az rx ry rz wr.heap.size) (St3 w1 w1.heap.size u7 u8 u9 xs ys zs rx ry rz wr.heap.size)) (by kernel_rfl) (by kernel_rfl) rfl ?_ (allOps_spec ?_) ?_
      · intro vs
        exact ⟨(fun i h => by cases h), St3.start ((HR3.out).ext (Below.drewNs wr 1)) (Nat.le_refl _)⟩
      · refine ⟨?_, ?_, ?_, ?_, ?_, ?_, ?_, ?_, ?_, ?_, ?_, ?_, ?_, ?_, ?_, ?_, ?_, ?_, ?_, ?_, ?_, ?_, ?_, ?_, ?_, ?_, ?_, trivial⟩
        · intro L vs a w2 hB hL hd hI
          have b7 : a.tmps[7]?.getD undef = u7 := hB.pre 7 0 hL (by kernel_rfl)
          exact stepI_run (v := u7) rfl (by simp [execOp, go_sem, Act.eval, b7]) (hI.step (fun _ _ h => h) rfl (hI.2.quiet (by decide) (by decide) (by decide) (by decide) (by decide) (by decide)))
        · intro L vs a w2 hB hL hd hI
          have b10 : a.tmps[10]?.getD undef = .int .i64 (k : Int) := hB.at 10 (by kernel_rfl)
          exact stepI_run (v := .int .i64 (k : Int)) rfl (by simp [execOp, go_sem, Act.eval, b10]) (hI.step (fun _ _ h => h) rfl (hI.2.quiet (by decide) (by decide) (by decide) (by decide) (by decide) (by decide)))
        · intro L vs a w2 hB hL hd hI
          have b3 : a.tmps[3]?.getD undef = .pointer (some ⟨ba, 0, none⟩) := hB.at 3 (by kernel_rfl)
          have b30 : a.tmps[30]?.getD undef = .int .i64 (k : Int) := (hB.val 1 (hd ⟨1, .data⟩ (by simp) rfl) 30 rfl).trans (hI.1 1 (hd ⟨1, .data⟩ (by simp) rfl))
          exact stepI_run (v := .pointer (some ⟨ba, k, none⟩)) rfl (by simp [execOp, go_sem, Act.eval, b3, b30, hk4, hk0, addr_lit0]) (hI.step (fun _ _ h => h) rfl (hI.2.quiet (by decide) (by decide) (by decide) (by decide) (by decide) (by decide)))
        · intro L vs a w2 hB hL hd hI
          have b31 : a.tmps[31]?.getD undef = .pointer (some ⟨ba, k, none⟩) := (hB.val 2 (hd ⟨2, .data⟩ (by simp) rfl) 31 rfl).trans (hI.1 2 (hd ⟨2, .data⟩ (by simp) rfl))
          have bC := K0.out _ hI.2.1.below
          exact stepI_run (v := .int .u16 ax) rfl (by simp [execOp, go_sem, Act.eval, b31, bC]) (hI.step (fun _ _ h => h) rfl (hI.2.quiet (by decide) (by decide) (by decide) (by decide) (by decide) (by decide)))
        · intro L vs a w2 hB hL hd hI
          have b32 : a.tmps[32]?.getD undef = .int .u16 ax := (hB.val 3 (hd ⟨3, .data⟩ (by simp) rfl) 32 rfl).trans (hI.1 3 (hd ⟨3, .data⟩ (by simp) rfl))
          exact stepI_run (v := .int .u16 rx) rfl (by simp [execOp, go_sem, Act.eval, b32, E0.out]) (hI.step (fun _ _ h => h) rfl (hI.2.quiet (by decide) (by decide) (by decide) (by decide) (by decide) (by decide)))
        · intro L vs a w2 hB hL hd hI
          have b33 : a.tmps[33]?.getD undef = .int .u16 rx := (hB.val 4 (hd ⟨4, .data⟩ (by simp) rfl) 33 rfl).trans (hI.1 4 (hd ⟨4, .data⟩ (by simp) rfl))
          exact stepI_run (v := .int .i64 rx) rfl (by simp [execOp, go_sem, Act.eval, b33, W0.out]) (hI.step (fun _ _ h => h) rfl (hI.2.quiet (by decide) (by decide) (by decide) (by decide) (by decide) (by decide)))
        · intro L vs a w2 hB hL hd hI
          have b34 : a.tmps[34]?.getD undef = .int .i64 rx := (hB.val 5 (hd ⟨5, .data⟩ (by simp) rfl) 34 rfl).trans (hI.1 5 (hd ⟨5, .data⟩ (by simp) rfl))
          have hb2 : Below w2.heap.size w2 (w2.alloc (.cells #[.int .i64 rx] 3)) := below_alloc _ _
          exact stepI_run (v := .slice (some ⟨w2.heap.size, 0, none⟩) 1 1) (w' := w2.alloc (.cells #[.int .i64 rx] 3)) rfl (by simp [execOp, go_sem, Act.eval, b34]) (hI.step (fun j u h => Ph3.stay (Nst.below hb2) j u h) ⟨w2.heap.size, rfl, hI.2.2.1, heap_alloc_new w2 _⟩ ((hI.2.ext hb2).quiet (by decide) (by decide) (by decide) (by decide) (by decide) (by decide)))
        · intro L vs a w2 hB hL hd hI
          have b29 : a.tmps[29]?.getD undef = u7 := (hB.val 0 (hd ⟨0, .data⟩ (by simp) rfl) 29 rfl).trans (hI.1 0 (hd ⟨0, .data⟩ (by simp) rfl))
          have hn : NewB wr.heap.size rx (vs 6) w2 := hI.1 6 (hd ⟨6, .data⟩ (by simp) rfl)
          obtain ⟨g, hg1, hg2, hg3⟩ := hn
          have b35 : a.tmps[35]?.getD undef = .slice (some ⟨g, 0, none⟩) 1 1 := (hB.val 6 (hd ⟨6, .data⟩ (by simp) rfl) 35 rfl).trans hg1
          have hl2 : L 24 = false := hB.wait 7 24 hL (by kernel_rfl)
          refine stepI_on rfl (wp_append_lies w2 (.tmp 29) (.tmp 35) _ rfl w1.heap.size 3 i0 _ 1 8 hu26 hi hz0 hz1 hz2 rfl (by omega) u7 xs.length (xs.map iv) (by simp [Act.eval, b29]) (hI.2.rowx hL) ⟨g, 0, none⟩ 1 1 [.int .i64 rx] (by simp [Act.eval, b35]) rfl (one_cell hg3) (by simp [Value.oneCell']) (by omega) (by unfold maxLen; omega) (by omega) hI.2.1.size w2.heap.size rfl ?_)
          intro g2 cap w3 hown hgr hg2 hlt
          exact ⟨_, rfl, hI.step (fun j u h => Ph3.stay (Nst.grown hgr HR3.out.x (Nat.le_refl _)) j u h) trivial (hI.2.growx hL hl2 hown hgr hg2)⟩
        · intro L vs a w2 hB hL hd hI
          have b8 : a.tmps[8]?.getD undef = u8 := hB.pre 8 8 hL (by kernel_rfl)
          exact stepI_run (v := u8) rfl (by simp [execOp, go_sem, Act.eval, b8]) (hI.step (fun _ _ h => h) rfl (hI.2.quiet (by decide) (by decide) (by decide) (by decide) (by decide) (by decide)))
        · intro L vs a w2 hB hL hd hI
          have b10 : a.tmps[10]?.getD undef = .int .i64 (k : Int) := hB.at 10 (by kernel_rfl)
          exact stepI_run (v := .int .i64 (k : Int)) rfl (by simp [execOp, go_sem, Act.eval, b10]) (hI.step (fun _ _ h => h) rfl (hI.2.quiet (by decide) (by decide) (by decide) (by decide) (by decide) (by decide)))
        · intro L vs a w2 hB hL hd hI
          have b4 : a.tmps[4]?.getD undef = .pointer (some ⟨bb, 0, none⟩) := hB.at 4 (by kernel_rfl)
          have b38 : a.tmps[38]?.getD undef = .int .i64 (k : Int) := (hB.val 9 (hd ⟨9, .data⟩ (by simp) rfl) 38 rfl).trans (hI.1 9 (hd ⟨9, .data⟩ (by simp) rfl))
          exact stepI_run (v := .pointer (some ⟨bb, k, none⟩)) rfl (by simp [execOp, go_sem, Act.eval, b4, b38, hk4, hk0, addr_lit0]) (hI.step (fun _ _ h => h) rfl (hI.2.quiet (by decide) (by decide) (by decide) (by decide) (by decide) (by decide)))
        · intro L vs a w2 hB hL hd hI
          have b39 : a.tmps[39]?.getD undef = .pointer (some ⟨bb, k, none⟩) := (hB.val 10 (hd ⟨10, .data⟩ (by simp) rfl) 39 rfl).trans (hI.1 10 (hd ⟨10, .data⟩ (by simp) rfl))
          have bC := K1.out _ hI.2.1.below
          exact stepI_run (v := .int .u16 ay) rfl (by simp [execOp, go_sem, Act.eval, b39, bC]) (hI.step (fun _ _ h => h) rfl (hI.2.quiet (by decide) (by decide) (by decide) (by decide) (by decide) (by decide)))
        · intro L vs a w2 hB hL hd hI
          have b40 : a.tmps[40]?.getD undef = .int .u16 ay := (hB.val 11 (hd ⟨11, .data⟩ (by simp) rfl) 40 rfl).trans (hI.1 11 (hd ⟨11, .data⟩ (by simp) rfl))
          exact stepI_run (v := .int .u16 ry) rfl (by simp [execOp, go_sem, Act.eval, b40, E1.out]) (hI.step (fun _ _ h => h) rfl (hI.2.quiet (by decide) (by decide) (by decide) (by decide) (by decide) (by decide)))
        · intro L vs a w2 hB hL hd hI
          have b41 : a.tmps[41]?.getD undef = .int .u16 ry := (hB.val 12 (hd ⟨12, .data⟩ (by simp) rfl) 41 rfl).trans (hI.1 12 (hd ⟨12, .data⟩ (by simp) rfl))
          exact stepI_run (v := .int .i64 ry) rfl (by simp [execOp, go_sem, Act.eval, b41, W1.out]) (hI.step (fun _ _ h => h) rfl (hI.2.quiet (by decide) (by decide) (by decide) (by decide) (by decide) (by decide)))
        · intro L vs a w2 hB hL hd hI
          have b42 : a.tmps[42]?.getD undef = .int .i64 ry := (hB.val 13 (hd ⟨13, .data⟩ (by simp) rfl) 42 rfl).trans (hI.1 13 (hd ⟨13, .data⟩ (by simp) rfl))
          have hb2 : Below w2.heap.size w2 (w2.alloc (.cells #[.int .i64 ry] 3)) := below_alloc _ _
          exact stepI_run (v := .slice (some ⟨w2.heap.size, 0, none⟩) 1 1) (w' := w2.alloc (.cells #[.int .i64 ry] 3)) rfl (by simp [execOp, go_sem, Act.eval, b42]) (hI.step (fun j u h => Ph3.stay (Nst.below hb2) j u h) ⟨w2.heap.size, rfl, hI.2.2.1, heap_alloc_new w2 _⟩ ((hI.2.ext hb2).quiet (by decide) (by decide) (by decide) (by decide) (by decide) (by decide)))
        · intro L vs a w2 hB hL hd hI
          have b37 : a.tmps[37]?.getD undef = u8 := (hB.val 8 (hd ⟨8, .data⟩ (by simp) rfl) 37 rfl).trans (hI.1 8 (hd ⟨8, .data⟩ (by simp) rfl))
          have hn : NewB wr.heap.size ry (vs 14) w2 := hI.1 14 (hd ⟨14, .data⟩ (by simp) rfl)
          obtain ⟨g, hg1, hg2, hg3⟩ := hn
          have b43 : a.tmps[43]?.getD undef = .slice (some ⟨g, 0, none⟩) 1 1 := (hB.val 14 (hd ⟨14, .data⟩ (by simp) rfl) 43 rfl).trans hg1
          have hl2 : L 25 = false := hB.wait 15 25 hL (by kernel_rfl)
          refine stepI_on rfl (wp_append_lies w2 (.tmp 37) (.tmp 43) _ rfl w1.heap.size 3 i0 _ 1 8 hu26 hi hz0 hz1 hz2 rfl (by omega) u8 ys.length (ys.map iv) (by simp [Act.eval, b37]) (hI.2.rowy hL) ⟨g, 0, none⟩ 1 1 [.int .i64 ry] (by simp [Act.eval, b43]) rfl (one_cell hg3) (by simp [Value.oneCell']) (by omega) (by unfold maxLen; omega) (by omega) hI.2.1.size w2.heap.size rfl ?_)
          intro g2 cap w3 hown hgr hg2 hlt
          exact ⟨_, rfl, hI.step (fun j u h => Ph3.stay (Nst.grown hgr HR3.out.y (Nat.le_refl _)) j u h) trivial (hI.2.growy hL hl2 hown hgr hg2)⟩
        · intro L vs a w2 hB hL hd hI
          have b9 : a.tmps[9]?.getD undef = u9 := hB.pre 9 16 hL (by kernel_rfl)
          exact stepI_run (v := u9) rfl (by simp [execOp, go_sem, Act.eval, b9]) (hI.step (fun _ _ h => h) rfl (hI.2.quiet (by decide) (by decide) (by decide) (by decide) (by decide) (by decide)))
        · intro L vs a w2 hB hL hd hI
          have b10 : a.tmps[10]?.getD undef = .int .i64 (k : Int) := hB.at 10 (by kernel_rfl)
          exact stepI_run (v := .int .i64 (k : Int)) rfl (by simp [execOp, go_sem, Act.eval, b10]) (hI.step (fun _ _ h => h) rfl (hI.2.quiet (by decide) (by decide) (by decide) (by decide) (by decide) (by decide)))
        · intro L vs a w2 hB hL hd hI
          have b5 : a.tmps[5]?.getD undef = .pointer (some ⟨bc, 0, none⟩) := hB.at 5 (by kernel_rfl)
          have b46 : a.tmps[46]?.getD undef = .int .i64 (k : Int) := (hB.val 17 (hd ⟨17, .data⟩ (by simp) rfl) 46 rfl).trans (hI.1 17 (hd ⟨17, .data⟩ (by simp) rfl))
          exact stepI_run (v := .pointer (some ⟨bc, k, none⟩)) rfl (by simp [execOp, go_sem, Act.eval, b5, b46, hk4, hk0, addr_lit0]) (hI.step (fun _ _ h => h) rfl (hI.2.quiet (by decide) (by decide) (by decide) (by decide) (by decide) (by decide)))
        · intro L vs a w2 hB hL hd hI
          have b47 : a.tmps[47]?.getD undef = .pointer (some ⟨bc, k, none⟩) := (hB.val 18 (hd ⟨18, .data⟩ (by simp) rfl) 47 rfl).trans (hI.1 18 (hd ⟨18, .data⟩ (by simp) rfl))
          have bC := K2.out _ hI.2.1.below
          exact stepI_run (v := .int .u16 az) rfl (by simp [execOp, go_sem, Act.eval, b47, bC]) (hI.step (fun _ _ h => h) rfl (hI.2.quiet (by decide) (by decide) (by decide) (by decide) (by decide) (by decide)))
        · intro L vs a w2 hB hL hd hI
          have b48 : a.tmps[48]?.getD undef = .int .u16 az := (hB.val 19 (hd ⟨19, .data⟩ (by simp) rfl) 48 rfl).trans (hI.1 19 (hd ⟨19, .data⟩ (by simp) rfl))
          exact stepI_run (v := .int .u16 rz) rfl (by simp [execOp, go_sem, Act.eval, b48, E2.out]) (hI.step (fun _ _ h => h) rfl (hI.2.quiet (by decide) (by decide) (by decide) (by decide) (by decide) (by decide)))
        · intro L vs a w2 hB hL hd hI
          have b49 : a.tmps[49]?.getD undef = .int .u16 rz := (hB.val 20 (hd ⟨20, .data⟩ (by simp) rfl) 49 rfl).trans (hI.1 20 (hd ⟨20, .data⟩ (by simp) rfl))
          exact stepI_run (v := .int .i64 rz) rfl (by simp [execOp, go_sem, Act.eval, b49, W2.out]) (hI.step (fun _ _ h => h) rfl (hI.2.quiet (by decide) (by decide) (by decide) (by decide) (by decide) (by decide)))
        · intro L vs a w2 hB hL hd hI
          have b50 : a.tmps[50]?.getD undef = .int .i64 rz := (hB.val 21 (hd ⟨21, .data⟩ (by simp) rfl) 50 rfl).trans (hI.1 21 (hd ⟨21, .data⟩ (by simp) rfl))
          have hb2 : Below w2.heap.size w2 (w2.alloc (.cells #[.int .i64 rz] 3)) := below_alloc _ _
          exact stepI_run (v := .slice (some ⟨w2.heap.size, 0, none⟩) 1 1) (w' := w2.alloc (.cells #[.int .i64 rz] 3)) rfl (by simp [execOp, go_sem, Act.eval, b50]) (hI.step (fun j u h => Ph3.stay (Nst.below hb2) j u h) ⟨w2.heap.size, rfl, hI.2.2.1, heap_alloc_new w2 _⟩ ((hI.2.ext hb2).quiet (by decide) (by decide) (by decide) (by decide) (by decide) (by decide)))
        · intro L vs a w2 hB hL hd hI
          have b45 : a.tmps[45]?.getD undef = u9 := (hB.val 16 (hd ⟨16, .data⟩ (by simp) rfl) 45 rfl).trans (hI.1 16 (hd ⟨16, .data⟩ (by simp) rfl))
          have hn : NewB wr.heap.size rz (vs 22) w2 := hI.1 22 (hd ⟨22, .data⟩ (by simp) rfl)
          obtain ⟨g, hg1, hg2, hg3⟩ := hn
          have b51 : a.tmps[51]?.getD undef = .slice (some ⟨g, 0, none⟩) 1 1 := (hB.val 22 (hd ⟨22, .data⟩ (by simp) rfl) 51 rfl).trans hg1
          have hl2 : L 26 = false := hB.wait 23 26 hL (by kernel_rfl)
          refine stepI_on rfl (wp_append_lies w2 (.tmp 45) (.tmp 51) _ rfl w1.heap.size 3 i0 _ 1 8 hu26 hi hz0 hz1 hz2 rfl (by omega) u9 zs.length (zs.map iv) (by simp [Act.eval, b45]) (hI.2.rowz hL) ⟨g, 0, none⟩ 1 1 [.int .i64 rz] (by simp [Act.eval, b51]) rfl (one_cell hg3) (by simp [Value.oneCell']) (by omega) (by unfold maxLen; omega) (by omega) hI.2.1.size w2.heap.size rfl ?_)
          intro g2 cap w3 hown hgr hg2 hlt
          exact ⟨_, rfl, hI.step (fun j u h => Ph3.stay (Nst.grown hgr HR3.out.z (Nat.le_refl _)) j u h) trivial (hI.2.growz hL hl2 hown hgr hg2)⟩
        · intro L vs a w2 hB hL hd hI
          have b36 : a.tmps[36]?.getD undef = vs 7 := hB.val 7 (hd ⟨7, .data⟩ (by simp) rfl) 36 rfl
          exact stepI_run (v := vs 7) rfl (by simp [execOp, Act.eval, b36]) (hI.step (fun _ _ h => h) trivial (hI.2.fill (.inl ⟨rfl, rfl⟩)))
        · intro L vs a w2 hB hL hd hI
          have b44 : a.tmps[44]?.getD undef = vs 15 := hB.val 15 (hd ⟨15, .data⟩ (by simp) rfl) 44 rfl
          exact stepI_run (v := vs 15) rfl (by simp [execOp, Act.eval, b44]) (hI.step (fun _ _ h => h) trivial (hI.2.fill (.inr (.inl ⟨rfl, rfl⟩))))
        · intro L vs a w2 hB hL hd hI
          have b52 : a.tmps[52]?.getD undef = vs 23 := hB.val 23 (hd ⟨23, .data⟩ (by simp) rfl) 52 rfl
          exact stepI_run (v := vs 23) rfl (by simp [execOp, Act.eval, b52]) (hI.step (fun _ _ h => h) trivial (hI.2.fill (.inr (.inr ⟨rfl, rfl⟩))))
      · intro L vs w2 hall hI
        have hr := hI.2.all (fun i hi => hall i hi)
        have HR := Lib.hid hr
        clear hr hI hall
        simp only [putAll, Act.put, List.setIfInBounds_toArray, List.set_cons_zero, List.set_cons_succ, Nat.zero_add, Nat.reduceAdd]
        generalize vs 24 = vx' at *
        generalize vs 25 = vy' at *
        generalize vs 26 = vz' at *
        go_wp2
        go_roundw
        case rel => exact ⟨k + 1, by omega, by go_num, by rw [Hx.out, Hy.out, Hz.out]; exact HR.out⟩
        case measure => simp [intOf]; omega
    · obtain rfl : k = 3 := by omega
      have hr3 := HR3.out
      rw [List.take_of_length_le (by rw [modL_len]; have := Hla.out; omega), List.take_of_length_le (by rw [modL_len]; have := Hlb.out; omega), List.take_of_length_le (by rw [modL_len]; have := Hlc.out; omega)] at hr3
      have lx : (modL 300 la).length = 3 := by rw [modL_len]; exact Hla.out
      have ly : (modL 300 lb).length = 3 := by rw [modL_len]; exact Hlb.out
      have lz : (modL 600 lc).length = 3 := by rw [modL_len]; exact Hlc.out
      have Mx := Lib.hid (modL_le 300 la); have My := Lib.hid (modL_le 300 lb); have Mz := Lib.hid (modL_le 600 lc)
      generalize modL 300 la = X at *
      generalize modL 300 lb = Y at *
      generalize modL 600 lc = Z at *
      have Hx := Lib.hid (Sl.of_own hr3.x); have Hy := Lib.hid (Sl.of_own hr3.y); have Hz := Lib.hid (Sl.of_own hr3.z)
      have HB := Lib.hid hr3.below
      obtain ⟨A7, c7, rfl⟩ := own_shapeG hr3.x
      obtain ⟨A8, c8, rfl⟩ := own_shapeG hr3.y
      obtain ⟨A9, c9, rfl⟩ := own_shapeG hr3.z
      have Lx := Lib.hid lx; have Ly := Lib.hid ly; have Lz := Lib.hid lz
      have lx2 : X.length ≤ 1000 := by omega
      have ly2 : Y.length ≤ 1000 := by omega
      have lz2 : Z.length ≤ 1000 := by omega
      clear hr3 HR3 KC Hla Hlb Hlc hlt hk lx ly lz
      have ox : okB X = true := okB_small (m := 300) (by have := Lx.out; omega) Mx.out (by omega) (by omega)
      have oy : okB Y = true := okB_small (m := 300) (by have := Ly.out; omega) My.out (by omega) (by omega)
      have oz : okB Z = true := okB_small (m := 600) (by have := Lz.out; omega) Mz.out (by omega) (by omega)
      have exy : X.length = Y.length := Lx.out.trans Ly.out.symm
      have eyz : Y.length = Z.length := Ly.out.trans Lz.out.symm
      have oj := okB_zip ox oy exy
      have ok_ := okB_zip oy ox exy.symm
      have oyz := okB_zip oy oz eyz
      have ej : (List.zipWith mx X Y).length = X.length := zip_len exy
      have eyz2 : (List.zipWith mx Y Z).length = Y.length := zip_len eyz
      have G1 := Lib.hid (zip_comm exy); have G2 := Lib.hid (zip_again exy); have G3 := Lib.hid (zip_assoc exy eyz)
      have G4 := Lib.hid (bf_up (am_left exy)); have G5 := Lib.hid (bf_up (am_right exy)); have G6 := Lib.hid (cc_up (am_left exy)); have G7 := Lib.hid (cc_up (am_right exy))
      have G8 := Lib.hid (show amB X Z = true → amB Y Z = true → amB (List.zipWith mx X Y) Z = true from fun h1 h2 => by rw [zip_le exy, h1, h2]; rfl)
      have J1 := Lib.hid (fun w va vb h1 h2 => join_ok va vb X Y w h1 h2 ox oy exy lx2)
      have J2 := Lib.hid (fun w va vb h1 h2 => join_ok va vb Y X w h1 h2 oy ox exy.symm ly2)
      have J3 := Lib.hid (fun w va vb h1 h2 => join_ok va vb (List.zipWith mx X Y) X w h1 h2 oj ox ej (by omega))
      have J4 := Lib.hid (fun w va vb h1 h2 => join_ok va vb (List.zipWith mx X Y) Z w h1 h2 oj oz (by omega) (by omega))
      have J5 := Lib.hid (fun w va vb h1 h2 => join_ok va vb Y Z w h1 h2 oy oz eyz ly2)
      have J6 := Lib.hid (fun w va vb h1 h2 => join_ok va vb X (List.zipWith mx Y Z) w h1 h2 ox oyz (by omega) lx2)
      have Lj := Lib.hid (show (List.zipWith mx X Y).length = 3 by have := Lx.out; omega)
      have Lk := Lib.hid (show (List.zipWith mx Y X).length = 3 by rw [List.length_zipWith]; have := Lx.out; omega)
      have La := Lib.hid (show (List.zipWith mx (List.zipWith mx X Y) X).length = 3 by simp only [List.length_zipWith]; have := Lx.out; omega)
      have Ll := Lib.hid (show (List.zipWith mx (List.zipWith mx X Y) Z).length = 3 by simp only [List.length_zipWith]; have := Lx.out; omega)
      have Lq := Lib.hid (show (List.zipWith mx Y Z).length = 3 by have := Ly.out; omega)
      have Lr := Lib.hid (show (List.zipWith mx X (List.zipWith mx Y Z)).length = 3 by simp only [List.length_zipWith]; have := Lx.out; omega)
      clear ox oy oz exy eyz oj ok_ oyz ej eyz2
      generalize List.zipWith mx (List.zipWith mx X Y) X = Ag at *
      generalize List.zipWith mx (List.zipWith mx X Y) Z = Le at *
      generalize List.zipWith mx X (List.zipWith mx Y Z) = Ri at *
      generalize List.zipWith mx X Y = J at *
      generalize List.zipWith mx Y X = K at *
      generalize List.zipWith mx Y Z = Q at *
      have lj2 : J.length ≤ 1000 := by have := Lj.out; omega
      have lk2 : K.length ≤ 1000 := by have := Lk.out; omega
      have la2 : Ag.length ≤ 1000 := by have := La.out; omega
      have ll2 : Le.length ≤ 1000 := by have := Ll.out; omega
      have lr2 : Ri.length ≤ 1000 := by have := Lr.out; omega
      go_wp2_with fail
      refine (J1.out _ _ _ Hx.out Hy.out).mono ?_
      rintro e w2 ⟨vj, rfl, ho, hb⟩
      replace HB := Lib.hid (HB.out.trans (hb.mono HB.out.size))
      replace Hx := Lib.hid (Hx.out.below hb)
      replace Hy := Lib.hid (Hy.out.below hb)
      replace Hz := Lib.hid (Hz.out.below hb)
      have Hj := Lib.hid (Sl.of_own ho)
      obtain ⟨Aj, cj, rfl⟩ := own_shapeG ho
      rw [Lj.out] at Hj ⊢
      clear ho hb
      go_wp2_with fail
      refine (J2.out _ _ _ Hy.out Hx.out).mono ?_
      rintro e w3 ⟨vk, rfl, ho, hb⟩
      replace HB := Lib.hid (HB.out.trans (hb.mono HB.out.size))
      replace Hx := Lib.hid (Hx.out.below hb)
      replace Hy := Lib.hid (Hy.out.below hb)
      replace Hz := Lib.hid (Hz.out.below hb)
      replace Hj := Lib.hid (Hj.out.below hb)
      have Hk := Lib.hid (Sl.of_own ho)
      obtain ⟨Ak, ck, rfl⟩ := own_shapeG ho
      rw [Lk.out] at Hk ⊢
      clear ho hb
      go_wp2_with fail
      refine (J3.out _ _ _ Hj.out Hx.out).mono ?_
      rintro e w4 ⟨va, rfl, ho, hb⟩
      replace HB := Lib.hid (HB.out.trans (hb.mono HB.out.size))
      replace Hx := Lib.hid (Hx.out.below hb)
      replace Hy := Lib.hid (Hy.out.below hb)
      replace Hz := Lib.hid (Hz.out.below hb)
      replace Hj := Lib.hid (Hj.out.below hb)
      replace Hk := Lib.hid (Hk.out.below hb)
      have Ha := Lib.hid (Sl.of_own ho)
      obtain ⟨Aa, ca, rfl⟩ := own_shapeG ho
      rw [La.out] at Ha ⊢
      clear ho hb
      go_wp2_with fail
      refine (J4.out _ _ _ Hj.out Hz.out).mono ?_
      rintro e w5 ⟨vl, rfl, ho, hb⟩
      replace HB := Lib.hid (HB.out.trans (hb.mono HB.out.size))
      replace Hx := Lib.hid (Hx.out.below hb)
      replace Hy := Lib.hid (Hy.out.below hb)
      replace Hz := Lib.hid (Hz.out.below hb)
      replace Hj := Lib.hid (Hj.out.below hb)
      replace Hk := Lib.hid (Hk.out.below hb)
      replace Ha := Lib.hid (Ha.out.below hb)
      have Hl := Lib.hid (Sl.of_own ho)
      obtain ⟨Al, cl, rfl⟩ := own_shapeG ho
      rw [Ll.out] at Hl ⊢
      clear ho hb
      go_wp2_with fail
      refine (J5.out _ _ _ Hy.out Hz.out).mono ?_
      rintro e w6 ⟨vq, rfl, ho, hb⟩
      replace HB := Lib.hid (HB.out.trans (hb.mono HB.out.size))
      replace Hx := Lib.hid (Hx.out.below hb)
      replace Hy := Lib.hid (Hy.out.below hb)
      replace Hz := Lib.hid (Hz.out.below hb)
      replace Hj := Lib.hid (Hj.out.below hb)
      replace Hk := Lib.hid (Hk.out.below hb)
      replace Ha := Lib.hid (Ha.out.below hb)
      replace Hl := Lib.hid (Hl.out.below hb)
      have Hq := Lib.hid (Sl.of_own ho)
      obtain ⟨Aq, cq, rfl⟩ := own_shapeG ho
      rw [Lq.out] at Hq ⊢
      clear ho hb
      go_wp2_with fail
      refine (J6.out _ _ _ Hx.out Hq.out).mono ?_
      rintro e w7 ⟨vr, rfl, ho, hb⟩
      replace HB := Lib.hid (HB.out.trans (hb.mono HB.out.size))
      replace Hx := Lib.hid (Hx.out.below hb)
      replace Hy := Lib.hid (Hy.out.below hb)
      replace Hz := Lib.hid (Hz.out.below hb)
      replace Hj := Lib.hid (Hj.out.below hb)
      replace Hk := Lib.hid (Hk.out.below hb)
      replace Ha := Lib.hid (Ha.out.below hb)
      replace Hl := Lib.hid (Hl.out.below hb)
      have Hr := Lib.hid (Sl.of_own ho)
      obtain ⟨Ar, cr, rfl⟩ := own_shapeG ho
      rw [Lr.out] at Hr ⊢
      clear ho hb
      go_wp2_with fail
      refine (equal_any _ _ J K _ Hj.out Hk.out lj2 lk2).mono ?_
      rintro e w8 ⟨rfl, hq⟩
      have hb := quiet_below hq
      replace HB := Lib.hid (HB.out.trans (hb.mono HB.out.size))
      replace Hx := Lib.hid (Hx.out.below hb)
      replace Hy := Lib.hid (Hy.out.below hb)
      replace Hz := Lib.hid (Hz.out.below hb)
      replace Hj := Lib.hid (Hj.out.below hb)
      replace Ha := Lib.hid (Ha.out.below hb)
      replace Hl := Lib.hid (Hl.out.below hb)
      replace Hr := Lib.hid (Hr.out.below hb)
      clear hb hq
      rw [G1.out]
      go_wp2_with fail
      refine (equal_any _ _ Ag J _ Ha.out Hj.out la2 lj2).mono ?_
      rintro e w9 ⟨rfl, hq⟩
      have hb := quiet_below hq
      replace HB := Lib.hid (HB.out.trans (hb.mono HB.out.size))
      replace Hx := Lib.hid (Hx.out.below hb)
      replace Hy := Lib.hid (Hy.out.below hb)
      replace Hz := Lib.hid (Hz.out.below hb)
      replace Hj := Lib.hid (Hj.out.below hb)
      replace Ha := Lib.hid (Ha.out.below hb)
      replace Hl := Lib.hid (Hl.out.below hb)
      replace Hr := Lib.hid (Hr.out.below hb)
      clear hb hq
      rw [G2.out]
      go_wp2_with fail
      refine (equal_any _ _ Le Ri _ Hl.out Hr.out ll2 lr2).mono ?_
      rintro e w10 ⟨rfl, hq⟩
      have hb := quiet_below hq
      replace HB := Lib.hid (HB.out.trans (hb.mono HB.out.size))
      replace Hx := Lib.hid (Hx.out.below hb)
      replace Hy := Lib.hid (Hy.out.below hb)
      replace Hz := Lib.hid (Hz.out.below hb)
      replace Hj := Lib.hid (Hj.out.below hb)
      replace Ha := Lib.hid (Ha.out.below hb)
      replace Hl := Lib.hid (Hl.out.below hb)
      replace Hr := Lib.hid (Hr.out.below hb)
      clear hb hq
      rw [G3.out]
      go_wp2_with fail
      refine (before_any _ _ J X _ Hj.out Hx.out lj2 lx2).mono ?_
      rintro e w11 ⟨rfl, hq⟩
      have hb := quiet_below hq
      replace HB := Lib.hid (HB.out.trans (hb.mono HB.out.size))
      replace Hx := Lib.hid (Hx.out.below hb)
      replace Hy := Lib.hid (Hy.out.below hb)
      replace Hz := Lib.hid (Hz.out.below hb)
      replace Hj := Lib.hid (Hj.out.below hb)
      clear hb hq
      rw [G4.out]
      go_wp2_with fail
      refine (before_any _ _ J Y _ Hj.out Hy.out lj2 ly2).mono ?_
      rintro e w12 ⟨rfl, hq⟩
      have hb := quiet_below hq
      replace HB := Lib.hid (HB.out.trans (hb.mono HB.out.size))
      replace Hx := Lib.hid (Hx.out.below hb)
      replace Hy := Lib.hid (Hy.out.below hb)
      replace Hz := Lib.hid (Hz.out.below hb)
      replace Hj := Lib.hid (Hj.out.below hb)
      clear hb hq
      rw [G5.out]
      go_wp2_with fail
      refine (conc_any _ _ J X _ Hj.out Hx.out lj2 lx2).mono ?_
      rintro e w13 ⟨rfl, hq⟩
      have hb := quiet_below hq
      replace HB := Lib.hid (HB.out.trans (hb.mono HB.out.size))
      replace Hx := Lib.hid (Hx.out.below hb)
      replace Hy := Lib.hid (Hy.out.below hb)
      replace Hz := Lib.hid (Hz.out.below hb)
      replace Hj := Lib.hid (Hj.out.below hb)
      clear hb hq
      rw [G6.out]
      go_wp2_with fail
      refine (conc_any _ _ J Y _ Hj.out Hy.out lj2 ly2).mono ?_
      rintro e w14 ⟨rfl, hq⟩
      have hb := quiet_below hq
      replace HB := Lib.hid (HB.out.trans (hb.mono HB.out.size))
      replace Hx := Lib.hid (Hx.out.below hb)
      replace Hy := Lib.hid (Hy.out.below hb)
      replace Hz := Lib.hid (Hz.out.below hb)
      replace Hj := Lib.hid (Hj.out.below hb)
      clear hb hq
      rw [G7.out]
      obtain ⟨r, hr⟩ : ∃ r, r = bfB X Z := ⟨_, rfl⟩
      have HRz := Lib.hid hr.symm
      clear hr
      go_wp2_with fail
      refine (before_any _ _ X Z _ Hx.out Hz.out lx2 lz2).mono ?_
      rintro e w15 ⟨rfl, hq⟩
      have hb := quiet_below hq
      replace HB := Lib.hid (HB.out.trans (hb.mono HB.out.size))
      replace Hx := Lib.hid (Hx.out.below hb)
      replace Hy := Lib.hid (Hy.out.below hb)
      replace Hz := Lib.hid (Hz.out.below hb)
      replace Hj := Lib.hid (Hj.out.below hb)
      clear hb hq
      rw [HRz.out]
      cases r with
      | true =>
        have Hxz := Lib.hid (am_of (.inl HRz.out))
        clear HRz
        obtain ⟨r, hr⟩ : ∃ r, r = bfB Y Z := ⟨_, rfl⟩
        have HRz := Lib.hid hr.symm
        clear hr
        go_wp2_with fail
        refine (before_any _ _ Y Z _ Hy.out Hz.out ly2 lz2).mono ?_
        rintro e w17 ⟨rfl, hq⟩
        have hb := quiet_below hq
        replace HB := Lib.hid (HB.out.trans (hb.mono HB.out.size))
        replace Hx := Lib.hid (Hx.out.below hb)
        replace Hy := Lib.hid (Hy.out.below hb)
        replace Hz := Lib.hid (Hz.out.below hb)
        replace Hj := Lib.hid (Hj.out.below hb)
        clear hb hq
        rw [HRz.out]
        cases r with
        | true =>
          have Hyz := Lib.hid (am_of (.inl HRz.out))
          clear HRz
          have Hjz := Lib.hid (G8.out Hxz.out Hyz.out)
          obtain ⟨r, hr⟩ : ∃ r, r = bfB J Z := ⟨_, rfl⟩
          have HRz := Lib.hid hr.symm
          clear hr
          go_wp2_with fail
          refine (before_any _ _ J Z _ Hj.out Hz.out lj2 lz2).mono ?_
          rintro e w19 ⟨rfl, hq⟩
          have hb := quiet_below hq
          replace HB := Lib.hid (HB.out.trans (hb.mono HB.out.size))
          replace Hz := Lib.hid (Hz.out.below hb)
          replace Hj := Lib.hid (Hj.out.below hb)
          clear hb hq
          rw [HRz.out]
          cases r with
          | true =>
            go_wp2
            go_ret
            exact HE.out _ _ rfl HB.out
          | false =>
            have Hee := Lib.hid (of_am Hjz.out HRz.out)
            go_wp2_with fail
            refine (equal_any _ _ J Z _ Hj.out Hz.out lj2 lz2).mono ?_
            rintro e w20 ⟨rfl, hq⟩
            have hb := quiet_below hq
            replace HB := Lib.hid (HB.out.trans (hb.mono HB.out.size))
            clear hb hq
            rw [Hee.out]
            go_wp2
            go_ret
            exact HE.out _ _ rfl HB.out
        | false =>
          clear HRz
          obtain ⟨r, hr⟩ : ∃ r, r = eqB Y Z := ⟨_, rfl⟩
          have HRz := Lib.hid hr.symm
          clear hr
          go_wp2_with fail
          refine (equal_any _ _ Y Z _ Hy.out Hz.out ly2 lz2).mono ?_
          rintro e w18 ⟨rfl, hq⟩
          have hb := quiet_below hq
          replace HB := Lib.hid (HB.out.trans (hb.mono HB.out.size))
          replace Hx := Lib.hid (Hx.out.below hb)
          replace Hy := Lib.hid (Hy.out.below hb)
          replace Hz := Lib.hid (Hz.out.below hb)
          replace Hj := Lib.hid (Hj.out.below hb)
          clear hb hq
          rw [HRz.out]
          cases r with
          | true =>
            have Hyz := Lib.hid (am_of (.inr HRz.out))
            clear HRz
            have Hjz := Lib.hid (G8.out Hxz.out Hyz.out)
            obtain ⟨r, hr⟩ : ∃ r, r = bfB J Z := ⟨_, rfl⟩
            have HRz := Lib.hid hr.symm
            clear hr
            go_wp2_with fail
            refine (before_any _ _ J Z _ Hj.out Hz.out lj2 lz2).mono ?_
            rintro e w19 ⟨rfl, hq⟩
            have hb := quiet_below hq
            replace HB := Lib.hid (HB.out.trans (hb.mono HB.out.size))
            replace Hz := Lib.hid (Hz.out.below hb)
            replace Hj := Lib.hid (Hj.out.below hb)
            clear hb hq
            rw [HRz.out]
            cases r with
            | true =>
              go_wp2
              go_ret
              exact HE.out _ _ rfl HB.out
            | false =>
              have Hee := Lib.hid (of_am Hjz.out HRz.out)
              go_wp2_with fail
              refine (equal_any _ _ J Z _ Hj.out Hz.out lj2 lz2).mono ?_
              rintro e w20 ⟨rfl, hq⟩
              have hb := quiet_below hq
              replace HB := Lib.hid (HB.out.trans (hb.mono HB.out.size))
              clear hb hq
              rw [Hee.out]
              go_wp2
              go_ret
              exact HE.out _ _ rfl HB.out
          | false =>
            go_wp2
            go_ret
            exact HE.out _ _ rfl HB.out
      | false =>
        clear HRz
        obtain ⟨r, hr⟩ : ∃ r, r = eqB X Z := ⟨_, rfl⟩
        have HRz := Lib.hid hr.symm
        clear hr
        go_wp2_with fail
        refine (equal_any _ _ X Z _ Hx.out Hz.out lx2 lz2).mono ?_
        rintro e w16 ⟨rfl, hq⟩
        have hb := quiet_below hq
        replace HB := Lib.hid (HB.out.trans (hb.mono HB.out.size))
        replace Hx := Lib.hid (Hx.out.below hb)
        replace Hy := Lib.hid (Hy.out.below hb)
        replace Hz := Lib.hid (Hz.out.below hb)
        replace Hj := Lib.hid (Hj.out.below hb)
        clear hb hq
        rw [HRz.out]
        cases r with
        | true =>
          have Hxz := Lib.hid (am_of (.inr HRz.out))
          clear HRz
          obtain ⟨r, hr⟩ : ∃ r, r = bfB Y Z := ⟨_, rfl⟩
          have HRz := Lib.hid hr.symm
          clear hr
          go_wp2_with fail
          refine (before_any _ _ Y Z _ Hy.out Hz.out ly2 lz2).mono ?_
          rintro e w17 ⟨rfl, hq⟩
          have hb := quiet_below hq
          replace HB := Lib.hid (HB.out.trans (hb.mono HB.out.size))
          replace Hx := Lib.hid (Hx.out.below hb)
          replace Hy := Lib.hid (Hy.out.below hb)
          replace Hz := Lib.hid (Hz.out.below hb)
          replace Hj := Lib.hid (Hj.out.below hb)
          clear hb hq
          rw [HRz.out]
          cases r with
          | true =>
            have Hyz := Lib.hid (am_of (.inl HRz.out))
            clear HRz
            have Hjz := Lib.hid (G8.out Hxz.out Hyz.out)
            obtain ⟨r, hr⟩ : ∃ r, r = bfB J Z := ⟨_, rfl⟩
            have HRz := Lib.hid hr.symm
            clear hr
            go_wp2_with fail
            refine (before_any _ _ J Z _ Hj.out Hz.out lj2 lz2).mono ?_
            rintro e w19 ⟨rfl, hq⟩
            have hb := quiet_below hq
            replace HB := Lib.hid (HB.out.trans (hb.mono HB.out.size))
            replace Hz := Lib.hid (Hz.out.below hb)
            replace Hj := Lib.hid (Hj.out.below hb)
            clear hb hq
            rw [HRz.out]
            cases r with
            | true =>
              go_wp2
              go_ret
              exact HE.out _ _ rfl HB.out
            | false =>
              have Hee := Lib.hid (of_am Hjz.out HRz.out)
              go_wp2_with fail
              refine (equal_any _ _ J Z _ Hj.out Hz.out lj2 lz2).mono ?_
              rintro e w20 ⟨rfl, hq⟩
              have hb := quiet_below hq
              replace HB := Lib.hid (HB.out.trans (hb.mono HB.out.size))
              clear hb hq
              rw [Hee.out]
              go_wp2
              go_ret
              exact HE.out _ _ rfl HB.out
          | false =>
            clear HRz
            obtain ⟨r, hr⟩ : ∃ r, r = eqB Y Z := ⟨_, rfl⟩
            have HRz := Lib.hid hr.symm
            clear hr
            go_wp2_with fail
            refine (equal_any _ _ Y Z _ Hy.out Hz.out ly2 lz2).mono ?_
            rintro e w18 ⟨rfl, hq⟩
            have hb := quiet_below hq
            replace HB := Lib.hid (HB.out.trans (hb.mono HB.out.size))
            replace Hx := Lib.hid (Hx.out.below hb)
            replace Hy := Lib.hid (Hy.out.below hb)
            replace Hz := Lib.hid (Hz.out.below hb)
            replace Hj := Lib.hid (Hj.out.below hb)
            clear hb hq
            rw [HRz.out]
            cases r with
            | true =>
              have Hyz := Lib.hid (am_of (.inr HRz.out))
              clear HRz
              have Hjz := Lib.hid (G8.out Hxz.out Hyz.out)
              obtain ⟨r, hr⟩ : ∃ r, r = bfB J Z := ⟨_, rfl⟩
              have HRz := Lib.hid hr.symm
              clear hr
              go_wp2_with fail
              refine (before_any _ _ J Z _ Hj.out Hz.out lj2 lz2).mono ?_
              rintro e w19 ⟨rfl, hq⟩
              have hb := quiet_below hq
              replace HB := Lib.hid (HB.out.trans (hb.mono HB.out.size))
              replace Hz := Lib.hid (Hz.out.below hb)
              replace Hj := Lib.hid (Hj.out.below hb)
              clear hb hq
              rw [HRz.out]
              cases r with
              | true =>
                go_wp2
                go_ret
                exact HE.out _ _ rfl HB.out
              | false =>
                have Hee := Lib.hid (of_am Hjz.out HRz.out)
                go_wp2_with fail
                refine (equal_any _ _ J Z _ Hj.out Hz.out lj2 lz2).mono ?_
                rintro e w20 ⟨rfl, hq⟩
                have hb := quiet_below hq
                replace HB := Lib.hid (HB.out.trans (hb.mono HB.out.size))
                clear hb hq
                rw [Hee.out]
                go_wp2
                go_ret
                exact HE.out _ _ rfl HB.out
            | false =>
              go_wp2
              go_ret
              exact HE.out _ _ rfl HB.out
        | false =>
          go_wp2
          go_ret
          exact HE.out _ _ rfl HB.out
end Go.Proofs.Ytfkemjhoncbndaa
