/- Zero, Tick, Join and Receive of vclock and of its reference (tools/vcmk_gen.py). -/
import Derived.Test.YtgfnhkipoicmiaaVcFns
import Derived.BigRegion
import Derived.Laws.Cover3
import Derived.StillTactics
import Derived.Deep.RegionHeld3
import Derived.Deep.AppendLies
namespace Go.Proofs.Ytgfnhkipoicmiaa
open Go.RowKit

/-- A clock and an error: a row of the call's own. -/
def MkP (R : List Int × Int) (w : World) (e : Ending) (w' : World) : Prop := ∃ v, e = .returned (.tuple #[v, .int .i64 R.2]) ∧ w'.ownsRow w.heap.size 3 1 v R.1.length (R.1.map iv) ∧ Below w.heap.size w w'
theorem MkP.nil {w : World} {R : List Int × Int} {x : Int} (h : R = ([], x)) : MkP R w (.returned (.tuple #[.slice none 0 0, .int .i64 x])) w := by
  subst h; exact ⟨_, rfl, World.ownsRow_nil _ _ _ _, Below.refl _ _⟩
theorem Below.drewNs (w : World) (n : Nat) : Below w.heap.size w (w.drewN n) := ⟨rfl, rfl, rfl, Nat.le_refl _, fun _ _ => rfl⟩
theorem MkP.ok {w w' : World} {R : List Int × Int} {l : List Int} {x : Int} {v : Value} {n : Nat} {e : Ending} (h : R = (l, x)) (he : e = .returned (.tuple #[v, .int .i64 x])) (ho : w'.ownsRow w.heap.size 3 1 v n (l.map iv)) (hb : Below w.heap.size w w') : MkP R w e w' := by
  subst h
  obtain rfl : l.length = n := by simpa using ho.1
  exact ⟨v, he, ho, hb⟩
theorem own_at {w : World} {B g n cap : Nat} {l : List Int} (h : w.ownsRow B 3 1 (.slice (some ⟨g, 0, none⟩) n cap) n (l.map iv)) (r : Nat) (hr : r < l.length) : w.cell? ⟨g, r, none⟩ = some (.int .i64 l[r]) := by
  have hl : l.length = n := by simpa using h.1
  rw [h.cellAt r (by omega), List.getElem?_map, List.getElem?_eq_getElem hr]; rfl
theorem own_put {w : World} {B g n cap : Nat} {l : List Int} (h : w.ownsRow B 3 1 (.slice (some ⟨g, 0, none⟩) n cap) n (l.map iv)) (r : Nat) (x : Int) : (w.setCell ⟨g, r, none⟩ (.int .i64 x)).ownsRow B 3 1 (.slice (some ⟨g, 0, none⟩) n cap) n ((l.set r x).map iv) := by
  have := (h.stored r (iv x)).1
  rwa [← List.map_set] at this
theorem own_len_eq {w : World} {B n m : Nat} {v : Value} {xs : List Value} (h : w.ownsRow B 3 1 v n xs) (e : n = m) : w.ownsRow B 3 1 v m xs := e ▸ h
theorem made_ints {w : World} {B g n : Nat} (h : w.ownsRow B 3 1 (.slice (some ⟨g, 0, none⟩) n n) n (madeCells (Value.int .i64 0).cells (n * 1)).toList) : w.ownsRow B 3 1 (.slice (some ⟨g, 0, none⟩) n n) n ((List.replicate n (0 : Int)).map iv) := by
  have e := toList_madeCells_one (iv 0) n
  rw [List.map_replicate, ← e]
  rwa [Nat.mul_one] at h
theorem made_below {w w1 : World} (hgr : w.grownBy w1 none) : Below w.heap.size w w1 := (Below.refl _ w).grown hgr (Nat.le_refl _) (fun k e => by cases e)
theorem run_eql_nil {P : Program} (w : World) (t e : TypeId) (a : Option Addr) (l c : Nat) (h : P.underlying t = some (.slice e)) : (binOp .eql t (.slice a l c) (.slice none 0 0)).run P w = .ok (.bool a.isNone) w := by
  simp [binOp, run_equal_slice_nil w t e a l c h, go_sem]
set_option maxHeartbeats 400000 in
theorem clone_any (v : Value) (l : List Int) (w : World) (h : Sl iv w v l) (hl : l.length ≤ 1000) :
    Calls Try.prog 30 #[v] w fun e w' => ∃ v', e = .returned v' ∧ w'.ownsRow w.heap.size 3 1 v' l.length (l.map iv) ∧ Below w.heap.size w w' := by
  have re := fun (w : World) (a : Option Addr) (l c : Nat) => run_eql_nil (P := Try.prog) w 26 3 a l c (by kernel_rfl)
  rcases h with ⟨rfl, rfl⟩ | ⟨ad, c, rfl, hc, hcell⟩
  · go_enter Try.func30, Try.ntmps30
    go_wp2
    go_ret
    exact ⟨_, rfl, World.ownsRow_nil _ _ _ _, Below.refl _ _⟩
  · have hS : Sl iv w (.slice (some ad) l.length c) l := .inr ⟨ad, c, rfl, hc, hcell⟩
    have HS := Lib.hid hS
    clear hS hcell
    have hg0 : (w.alloc (.cells #[] 3)).ownsRow w.heap.size 3 1 (.slice (some ⟨w.heap.size, 0, none⟩) 0 0) 0 [] := own_litS w _ _ 0 _ [] rfl rfl (by decide) rfl
    go_enter Try.func30, Try.ntmps30
    go_wp2_with (at_builtin; refine appS (f := iv) rfl _ _ 26 rfl 3 (.int .i64 0) 8 info_int rfl (by kernel_rfl) (fun _ => rfl) w.heap.size _ 0 [] rfl hg0 _ l rfl (HS.out.below ((Below.refl _ w).alloc (Nat.le_refl _) _)) (by omega) (by omega) (by simp) ?_; intro v' w' hown hfr)
    go_ret
    refine ⟨_, rfl, by simpa using hown, ((Below.refl _ w).alloc (Nat.le_refl _) _).trans (hfr.below (by simp))⟩

set_option maxHeartbeats 1000000 in
theorem zero_any (n : Int) (w : World) : Calls Try.prog 21 #[.int .i64 n] w (MkP (zeroR n) w) := by
  cases hp : posB n with
  | false =>
    have hr : zeroR n = ([], 2) := by unfold zeroR; rw [hp]; rfl
    have Hr := Lib.hid hr
    have Hp := Lib.hid hp
    clear hr
    clear hp
    go_enter Try.func21, Try.ntmps21
    go_wp2_with fail
    refine (possible_any _ _).mono ?_
    rintro e w1 ⟨rfl, rfl⟩
    rw [Hp.out]
    go_wp2
    go_ret2
    exact MkP.nil Hr.out
  | true =>
    have Hp := Lib.hid hp
    unfold posB at hp
    rw [decide_eq_true_iff] at hp
    obtain ⟨k, rfl⟩ : ∃ k : Nat, n = k := ⟨n.toNat, by omega⟩
    have hr : zeroR (k : Int) = (List.replicate k 0, 0) := by unfold zeroR; rw [Hp.out]; rfl
    have Hr := Lib.hid hr
    have h1 : 1 ≤ (k : Int) := hp.1
    have h2 : (k : Int) ≤ 6 := hp.2
    clear hr hp
    obtain ⟨i0, hi, hz0, hz1, hz2⟩ := info_parts info_int
    go_enter Try.func21, Try.ntmps21
    go_wp2_with fail
    refine (possible_any _ _).mono ?_
    rintro e w1 ⟨rfl, rfl⟩
    rw [Hp.out]
    go_wp2_with (at_make; refine wpList_make_full _ rfl _ _ _ rfl w.heap.size 3 i0 _ 1 (by kernel_rfl) hi hz0 hz1 _ _ _ _ k rfl rfl rfl rfl (by rw [hz2]; omega) (by unfold maxLen; omega) (Nat.le_refl _) ?_; intro w1 hown hgr; have Hg := Lib.hid hgr; have Ho := Lib.hid hown; clear hgr hown)
    go_ret2
    exact MkP.ok Hr.out rfl (made_ints Ho.out) (made_below Hg.out)
set_option maxHeartbeats 1000000 in
theorem rzero_any (n : Int) (w : World) : Calls Try.prog 22 #[.int .i64 n] w (MkP (zeroR n) w) := by
  cases hp : posB n with
  | false =>
    have hr : zeroR n = ([], 2) := by unfold zeroR; rw [hp]; rfl
    have Hr := Lib.hid hr
    have Hp := Lib.hid hp
    clear hr
    unfold posB at hp
    rw [decide_eq_false_iff_not] at hp
    by_cases h1 : 1 ≤ n
    · have h2 : ¬ n ≤ 6 := fun h => hp ⟨h1, h⟩
      clear hp
      go_enter Try.func22, Try.ntmps22
      go_wp2
      go_ret2
      exact MkP.nil Hr.out
    · clear hp
      go_enter Try.func22, Try.ntmps22
      go_wp2
      go_ret2
      exact MkP.nil Hr.out
  | true =>
    have Hp := Lib.hid hp
    unfold posB at hp
    rw [decide_eq_true_iff] at hp
    obtain ⟨k, rfl⟩ : ∃ k : Nat, n = k := ⟨n.toNat, by omega⟩
    have hr : zeroR (k : Int) = (List.replicate k 0, 0) := by unfold zeroR; rw [Hp.out]; rfl
    have Hr := Lib.hid hr
    have h1 : 1 ≤ (k : Int) := hp.1
    have h2 : (k : Int) ≤ 6 := hp.2
    clear hr hp
    obtain ⟨i0, hi, hz0, hz1, hz2⟩ := info_parts info_int
    go_enter Try.func22, Try.ntmps22
    go_wp2_with (at_make; refine wpList_make_full _ rfl _ _ _ rfl w.heap.size 3 i0 _ 1 (by kernel_rfl) hi hz0 hz1 _ _ _ _ k rfl rfl rfl rfl (by rw [hz2]; omega) (by unfold maxLen; omega) (Nat.le_refl _) ?_; intro w1 hown hgr; have Hg := Lib.hid hgr; have Ho := Lib.hid hown; clear hgr hown)
    go_ret2
    exact MkP.ok Hr.out rfl (made_ints Ho.out) (made_below Hg.out)
theorem tick_bad {c : List Int} {r : Int} (h : okB c = false) : tickR c r = ([], 1) := by unfold tickR; rw [if_pos h]
theorem tick_role {c : List Int} {r : Int} (h : okB c = true) (hr : r < 0 ∨ (c.length : Int) ≤ r) : tickR c r = ([], 12) := by unfold tickR; rw [if_neg (by rw [h]; decide), if_pos hr]
theorem tick_lim {c : List Int} {r : Nat} (h : okB c = true) (hr : r < c.length) (hx : c[r] = 1099511627776) : tickR c (r : Int) = ([], 6) := by
  unfold tickR; rw [if_neg (by rw [h]; decide), if_neg (by omega), if_pos (by rw [Int.toNat_natCast, List.getD_eq_getElem?_getD, List.getElem?_eq_getElem hr]; exact hx)]
theorem tick_good {c : List Int} {r : Nat} (h : okB c = true) (hr : r < c.length) (hx : ¬ c[r] = 1099511627776) : tickR c (r : Int) = (c.set r (c[r] + 1), 0) := by
  have e : c.getD r 0 = c[r] := by rw [List.getD_eq_getElem?_getD, List.getElem?_eq_getElem hr]; rfl
  unfold tickR; rw [if_neg (by rw [h]; decide), if_neg (by omega), Int.toNat_natCast, e, if_neg hx]

set_option maxHeartbeats 1000000 in
theorem tick_any (v : Value) (l : List Int) (r : Int) (w : World) (h : Sl iv w v l) (hl : l.length ≤ 1000) : Calls Try.prog 19 #[v, .int .i64 r] w (MkP (tickR l r) w) := by
  obtain ⟨A, c, rfl⟩ := h.shape
  have H := Lib.hid h
  clear h
  cases hv : okB l with
  | false =>
    have Hv := Lib.hid hv
    have Hr := Lib.hid (tick_bad (r := r) hv)
    clear hv
    go_enter Try.func19, Try.ntmps19
    go_wp2_with fail
    refine (valid_any _ _ _ H.out hl).mono ?_
    rintro e w1 ⟨rfl, rfl⟩
    rw [Hv.out]
    go_wp2
    go_ret2
    exact MkP.nil Hr.out
  | true =>
    have Hv := Lib.hid hv
    have hlen := okB_len hv
    by_cases h1 : r < 0
    · have Hr := Lib.hid (tick_role hv (.inl h1))
      clear hv
      go_enter Try.func19, Try.ntmps19
      go_wp2_with fail
      refine (valid_any _ _ _ H.out hl).mono ?_
      rintro e w1 ⟨rfl, rfl⟩
      rw [Hv.out]
      go_wp2
      go_ret2
      exact MkP.nil Hr.out
    · by_cases h2 : (l.length : Int) ≤ r
      · have Hr := Lib.hid (tick_role hv (.inr h2))
        clear hv
        go_enter Try.func19, Try.ntmps19
        go_wp2_with fail
        refine (valid_any _ _ _ H.out hl).mono ?_
        rintro e w1 ⟨rfl, rfl⟩
        rw [Hv.out]
        go_wp2
        go_ret2
        exact MkP.nil Hr.out
      · obtain ⟨k, rfl⟩ : ∃ k : Nat, r = k := ⟨r.toNat, by omega⟩
        have hk : k < l.length := by omega
        have hb := (okB_iff.1 hv).2 _ (List.getElem_mem hk)
        have Hlim := Lib.hid (fun h => tick_lim hv hk h)
        have Hgood := Lib.hid (fun h => tick_good hv hk h)
        obtain ⟨ad, c', hs, hcap, hcell⟩ := sl_cell H.out k hk
        simp only [Value.slice.injEq, true_and] at hs
        obtain ⟨rfl, rfl⟩ := hs
        unfold iv at hcell
        clear h1 h2 hv
        obtain ⟨x, hx⟩ : ∃ x, x = l[k] := ⟨_, rfl⟩
        rw [← hx] at hcell hb Hlim Hgood
        have Hx := Lib.hid hx
        clear hx
        by_cases hm : x = 1099511627776
        · have Hr := Lib.hid (Hlim.out hm)
          have e1 : (x == 1099511627776) = true := by rw [beq_iff_eq]; exact hm
          clear hm hb Hlim Hgood
          go_enter Try.func19, Try.ntmps19
          go_wp2_with fail
          refine (valid_any _ _ _ H.out hl).mono ?_
          rintro e w1 ⟨rfl, rfl⟩
          rw [Hv.out]
          go_wp2
          go_ret2
          exact MkP.nil Hr.out
        · have Hr := Lib.hid (Hgood.out hm)
          have e1 : (x == 1099511627776) = false := by rw [beq_eq_false_iff_ne]; exact hm
          obtain ⟨b1, b2⟩ := hb
          clear hm Hlim Hgood
          go_enter Try.func19, Try.ntmps19
          go_wp2_with fail
          refine (valid_any _ _ _ H.out hl).mono ?_
          rintro e w1 ⟨rfl, rfl⟩
          rw [Hv.out]
          go_wp2_with fail
          refine (clone_any _ _ _ H.out hl).mono ?_
          rintro e w1 ⟨v1, rfl, hown, hb1⟩
          obtain ⟨g, cap, rfl, hg0, hg1, hcp⟩ := own_shape hown hlen.1
          have ck := own_at hown k hk
          have fk := hown.frozenAt k
          rw [← Hx.out] at ck
          have Ho := Lib.hid (own_put hown k (x + 1))
          have Hb1 := Lib.hid hb1
          clear hown hb1 hcell
          go_wp2
          go_ret2
          exact MkP.ok Hr.out rfl Ho.out (Hb1.out.setCell (p := ⟨g, k, none⟩) hg0 _)
set_option maxHeartbeats 1000000 in
theorem rtick_any (v : Value) (l : List Int) (r : Int) (w : World) (h : Sl iv w v l) (hl : l.length ≤ 1000) : Calls Try.prog 20 #[v, .int .i64 r] w (MkP (tickR l r) w) := by
  obtain ⟨A, c, rfl⟩ := h.shape
  have H := Lib.hid h
  clear h
  cases hv : okB l with
  | false =>
    have Hv := Lib.hid hv
    have Hr := Lib.hid (tick_bad (r := r) hv)
    clear hv
    go_enter Try.func20, Try.ntmps20
    go_wp2_with fail
    refine (rvalid_any _ _ _ H.out hl).mono ?_
    rintro e w1 ⟨rfl, rfl⟩
    rw [Hv.out]
    go_wp2
    go_ret2
    exact MkP.nil Hr.out
  | true =>
    have Hv := Lib.hid hv
    have hlen := okB_len hv
    by_cases h1 : r < 0
    · have Hr := Lib.hid (tick_role hv (.inl h1))
      clear hv
      go_enter Try.func20, Try.ntmps20
      go_wp2_with fail
      refine (rvalid_any _ _ _ H.out hl).mono ?_
      rintro e w1 ⟨rfl, rfl⟩
      rw [Hv.out]
      go_wp2
      go_ret2
      exact MkP.nil Hr.out
    · by_cases h2 : (l.length : Int) ≤ r
      · have Hr := Lib.hid (tick_role hv (.inr h2))
        clear hv
        go_enter Try.func20, Try.ntmps20
        go_wp2_with fail
        refine (rvalid_any _ _ _ H.out hl).mono ?_
        rintro e w1 ⟨rfl, rfl⟩
        rw [Hv.out]
        go_wp2
        go_ret2
        exact MkP.nil Hr.out
      · obtain ⟨k, rfl⟩ : ∃ k : Nat, r = k := ⟨r.toNat, by omega⟩
        have hk : k < l.length := by omega
        have hb := (okB_iff.1 hv).2 _ (List.getElem_mem hk)
        have Hlim := Lib.hid (fun h => tick_lim hv hk h)
        have Hgood := Lib.hid (fun h => tick_good hv hk h)
        obtain ⟨ad, c', hs, hcap, hcell⟩ := sl_cell H.out k hk
        simp only [Value.slice.injEq, true_and] at hs
        obtain ⟨rfl, rfl⟩ := hs
        unfold iv at hcell
        clear h1 h2 hv
        obtain ⟨x, hx⟩ : ∃ x, x = l[k] := ⟨_, rfl⟩
        rw [← hx] at hcell hb Hlim Hgood
        have Hx := Lib.hid hx
        clear hx
        by_cases hm : x = 1099511627776
        · have Hr := Lib.hid (Hlim.out hm)
          have e1 : (x == 1099511627776) = true := by rw [beq_iff_eq]; exact hm
          clear hm hb Hlim Hgood
          go_enter Try.func20, Try.ntmps20
          go_wp2_with fail
          refine (rvalid_any _ _ _ H.out hl).mono ?_
          rintro e w1 ⟨rfl, rfl⟩
          rw [Hv.out]
          go_wp2
          go_ret2
          exact MkP.nil Hr.out
        · have Hr := Lib.hid (Hgood.out hm)
          have e1 : (x == 1099511627776) = false := by rw [beq_eq_false_iff_ne]; exact hm
          obtain ⟨b1, b2⟩ := hb
          clear hm Hlim Hgood
          go_enter Try.func20, Try.ntmps20
          go_wp2_with fail
          refine (rvalid_any _ _ _ H.out hl).mono ?_
          rintro e w1 ⟨rfl, rfl⟩
          rw [Hv.out]
          have hg0 : (w.alloc (.cells #[] 3)).ownsRow w.heap.size 3 1 (.slice (some ⟨w.heap.size, 0, none⟩) 0 0) 0 [] := own_litS w _ _ 0 _ [] rfl rfl (by decide) rfl
          go_wp2_with (at_builtin; refine appS (f := iv) rfl _ _ 23 rfl 3 (.int .i64 0) 8 info_int rfl (by kernel_rfl) (fun _ => rfl) w.heap.size _ 0 [] rfl hg0 _ l rfl (H.out.below ((Below.refl _ w).alloc (Nat.le_refl _) _)) (by omega) (by omega) (by simp) ?_; intro v1 w1 hown hfr; have hb1 : Below w.heap.size w w1 := ((Below.refl _ w).alloc (Nat.le_refl _) _).trans (hfr.below (by simp)); have hown2 : w1.ownsRow w.heap.size 3 1 v1 l.length (l.map iv) := (by simpa using hown); obtain ⟨g, cap, rfl, hg1, hg2, hcp⟩ := own_shape hown2 hlen.1; have ck := own_at hown2 k hk; have fk := hown2.frozenAt k; rw [← Hx.out] at ck; have Ho := Lib.hid (own_put hown2 k (x + 1)); have Hb1 := Lib.hid hb1; have Hg1 := Lib.hid hg1; clear hown hown2 hb1 hfr hcell hg0 hg1 hg2)
          go_ret2
          exact MkP.ok Hr.out rfl Ho.out (Hb1.out.setCell (p := ⟨g, k, none⟩) Hg1.out _)
end Go.Proofs.Ytgfnhkipoicmiaa
