/- Join and Receive of vclock and of its reference, awake, few (tools/vcjn_gen.py). -/
import Derived.Test.YtgfnhkipoicmiaaVcMk
namespace Go.Proofs.Ytgfnhkipoicmiaa
open Go.RowKit

theorem join_bad {a b : List Int} (h : ¬ (okB a = true ∧ okB b = true ∧ a.length = b.length)) : joinR a b = ([], 1) := by unfold joinR; rw [if_neg h]
theorem join_good {a b : List Int} (h : okB a = true) (h2 : okB b = true) (h3 : a.length = b.length) : joinR a b = (List.zipWith mx a b, 0) := by unfold joinR; rw [if_pos ⟨h, h2, h3⟩]
/-- A row that is filled: the first k are the greater ones. -/
def jrow (a b : List Int) (k : Nat) : List Int := (List.zipWith mx a b).take k ++ List.replicate (a.length - k) 0
theorem jrow_zero (a b : List Int) : jrow a b 0 = List.replicate a.length 0 := by simp [jrow]
theorem jrow_len {a b : List Int} (h : a.length = b.length) {k : Nat} (hk : k ≤ a.length) : (jrow a b k).length = a.length := by
  unfold jrow
  rw [List.length_append, List.length_take, List.length_zipWith, List.length_replicate]; omega
theorem jrow_all {a b : List Int} (h : a.length = b.length) : jrow a b a.length = List.zipWith mx a b := by
  unfold jrow
  rw [List.take_of_length_le (by rw [List.length_zipWith]; omega)]
  simp
theorem jrow_set {a b : List Int} (h : a.length = b.length) {k : Nat} (hk : k < a.length) (hb : k < b.length) : (jrow a b k).set k (if a[k] < b[k] then b[k] else a[k]) = jrow a b (k + 1) := by
  have hz : k < (List.zipWith mx a b).length := by rw [List.length_zipWith]; omega
  have ht : ((List.zipWith mx a b).take k).length = k := by rw [List.length_take]; omega
  unfold jrow
  rw [List.set_append_right k _ (by omega), ht, Nat.sub_self, List.take_succ_eq_append_getElem hz, List.append_assoc]
  congr 1
  rw [show a.length - k = (a.length - (k + 1)) + 1 by omega, List.replicate_succ, List.set_cons_zero, List.getElem_zipWith]
  rfl
theorem zip_take_succ {a b : List Int} {k : Nat} (hk : k < a.length) (hb : k < b.length) : (List.zipWith mx a b).take (k + 1) = (List.zipWith mx a b).take k ++ [if a[k] < b[k] then b[k] else a[k]] := by
  have hz : k < (List.zipWith mx a b).length := by rw [List.length_zipWith]; omega
  rw [List.take_succ_eq_append_getElem hz, List.getElem_zipWith]
  rfl

theorem own_monoZ {w : World} {B B' : Nat} {e : TypeId} {z : Nat} {v : Value} {n : Nat} {xs : List Value} (h : w.ownsRow B e z v n xs) (hB : B' ≤ B) : w.ownsRow B' e z v n xs := by
  refine ⟨h.1, ?_⟩
  rcases h.2 with h1 | ⟨g, cap, cur, h1, h2, h3⟩
  · exact .inl h1
  · exact .inr ⟨g, cap, cur, h1, by omega, h3⟩
theorem own_shapeG {w : World} {B e sz n : Nat} {v : Value} {xs : List Value} (h : w.ownsRow B e sz v n xs) : ∃ A c, v = .slice A n c := by
  rcases h.2 with ⟨rfl, h0⟩ | ⟨g, cap, cur, rfl, _⟩
  · exact ⟨none, 0, by rw [h0]⟩
  · exact ⟨_, cap, rfl⟩
set_option maxRecDepth 100000 in
set_option maxHeartbeats 2000000 in
theorem join_any (va vb : Value) (a b : List Int) (w : World) (ha : Sl iv w va a) (hb : Sl iv w vb b) (la : a.length ≤ 1000) (lb : b.length ≤ 1000) : Calls Try.prog 23 #[va, vb] w (MkP (joinR a b) w) := by
  obtain ⟨A, c, rfl⟩ := ha.shape
  obtain ⟨A2, c2, rfl⟩ := hb.shape
  have Ha := Lib.hid ha; have Hb := Lib.hid hb
  clear ha hb
  cases h1 : okB a with
  | false =>
    have H1 := Lib.hid h1
    have Hr := Lib.hid (join_bad (a := a) (b := b) (fun h => by rw [h1] at h; cases h.1))
    clear h1
    go_enter Try.func23, Try.ntmps23
    go_wp2_with fail
    refine (valid_any _ _ _ Ha.out la).mono ?_
    rintro e w1 ⟨rfl, rfl⟩
    rw [H1.out]
    go_wp2
    go_ret2
    exact MkP.nil Hr.out
  | true =>
    have hlen := okB_len h1
    cases h2 : okB b with
    | false =>
      have H1 := Lib.hid h1; have H2 := Lib.hid h2
      have Hr := Lib.hid (join_bad (a := a) (b := b) (fun h => by rw [h2] at h; cases h.2.1))
      clear h1 h2
      go_enter Try.func23, Try.ntmps23
      go_wp2_with fail
      refine (valid_any _ _ _ Ha.out la).mono ?_
      rintro e w1 ⟨rfl, rfl⟩
      rw [H1.out]
      go_wp2_with fail
      refine (valid_any _ _ _ Hb.out lb).mono ?_
      rintro e w1 ⟨rfl, rfl⟩
      rw [H2.out]
      go_wp2
      go_ret2
      exact MkP.nil Hr.out
    | true =>
      by_cases h3 : a.length = b.length
      · have H1 := Lib.hid h1; have H2 := Lib.hid h2; have H3 := Lib.hid h3
        have Hr := Lib.hid (join_good h1 h2 h3)
        have hne : ((a.length : Int) != (b.length : Int)) = false := by rw [bne_eq_false_iff_eq]; omega
        clear h1 h2 h3
        obtain ⟨i0, hi, hz0, hz1, hz2⟩ := info_parts info_int
        go_enter Try.func23, Try.ntmps23
        go_wp2_with fail
        refine (valid_any _ _ _ Ha.out la).mono ?_
        rintro e w1 ⟨rfl, rfl⟩
        rw [H1.out]
        go_wp2_with fail
        refine (valid_any _ _ _ Hb.out lb).mono ?_
        rintro e w1 ⟨rfl, rfl⟩
        rw [H2.out]
        go_wp2_with (at_make; refine wpList_make_full _ rfl _ _ _ rfl w.heap.size 3 i0 _ 1 (by kernel_rfl) hi hz0 hz1 _ _ _ _ a.length rfl rfl rfl rfl (by rw [hz2]; omega) (by unfold maxLen; omega) (Nat.le_refl _) ?_; intro w1 hown hgr; have Hg := Lib.hid (made_below hgr); have Ho := Lib.hid (made_ints hown); clear hgr hown)
        rw [← jrow_zero a b] at Ho
        clear hne
        go_loopw [28] (fun i wr => ∃ k : Nat, k ≤ a.length ∧ i = .int .i64 k ∧ wr.ownsRow w.heap.size 3 1 (.slice (some ⟨w.heap.size, 0, none⟩) a.length a.length) a.length ((jrow a b k).map iv) ∧ Below w.heap.size w wr) (fun i _ => a.length - (intOf i).toNat)
        case atStart => exact ⟨0, Nat.zero_le _, rfl, Ho.out, Hg.out⟩
        case round =>
          obtain ⟨k, hk, rfl, hown, hbel⟩ := hrel
          have Hbel := Lib.hid hbel
          by_cases hlt : k < a.length
          · have hltb : k < b.length := by have := H3.out; omega
            obtain ⟨ad, c', hs, hcap, hcell⟩ := sl_cell (Ha.out.below hbel) k hlt
            simp only [Value.slice.injEq, true_and] at hs
            obtain ⟨rfl, rfl⟩ := hs
            obtain ⟨ad2, c2', hs, hcap2, hcell2⟩ := sl_cell (Hb.out.below hbel) k hltb
            simp only [Value.slice.injEq, true_and] at hs
            obtain ⟨rfl, rfl⟩ := hs
            have fk := hown.frozenAt k
            have ck := own_at hown k (by rw [jrow_len H3.out hk]; exact hlt)
            have hst := own_put hown k (if a[k] < b[k] then b[k] else a[k])
            rw [jrow_set H3.out hlt hltb] at hst
            have Hst := Lib.hid hst
            clear hown hbel hst
            generalize a[k] = x at *
            generalize b[k]'hltb = y at *
            generalize (jrow a b k)[k]'_ = z at *
            unfold iv at hcell hcell2
            go_wp2_with fail
            go_region
            go_wp2
            go_roundw
            case rel => exact ⟨k + 1, by omega, by go_num, Hst.out.drew, (Hbel.out.setCell (p := ⟨w.heap.size, k, none⟩) (Nat.le_refl _) _).drew⟩
            case measure => simp [intOf]; omega
          · obtain rfl : k = a.length := by omega
            rw [jrow_all H3.out] at hown
            have Hown := Lib.hid hown
            clear hown hbel
            go_wp2
            go_ret2
            exact MkP.ok Hr.out rfl Hown.out Hbel.out
      · have H1 := Lib.hid h1; have H2 := Lib.hid h2
        have Hr := Lib.hid (join_bad (a := a) (b := b) (fun h => h3 h.2.2))
        have hne : ((a.length : Int) != (b.length : Int)) = true := by rw [bne_iff_ne]; omega
        clear h1 h2 h3
        go_enter Try.func23, Try.ntmps23
        go_wp2_with fail
        refine (valid_any _ _ _ Ha.out la).mono ?_
        rintro e w1 ⟨rfl, rfl⟩
        rw [H1.out]
        go_wp2_with fail
        refine (valid_any _ _ _ Hb.out lb).mono ?_
        rintro e w1 ⟨rfl, rfl⟩
        rw [H2.out]
        go_wp2
        go_ret2
        exact MkP.nil Hr.out
set_option maxRecDepth 100000 in
set_option maxHeartbeats 2000000 in
theorem rjoin_any (va vb : Value) (a b : List Int) (w : World) (ha : Sl iv w va a) (hb : Sl iv w vb b) (la : a.length ≤ 1000) (lb : b.length ≤ 1000) : Calls Try.prog 24 #[va, vb] w (MkP (joinR a b) w) := by
  obtain ⟨A, c, rfl⟩ := ha.shape
  obtain ⟨A2, c2, rfl⟩ := hb.shape
  have Ha := Lib.hid ha; have Hb := Lib.hid hb
  clear ha hb
  cases h1 : okB a with
  | false =>
    have H1 := Lib.hid h1
    have Hr := Lib.hid (join_bad (a := a) (b := b) (fun h => by rw [h1] at h; cases h.1))
    clear h1
    go_enter Try.func24, Try.ntmps24
    go_wp2_with fail
    refine (rvalid_any _ _ _ Ha.out la).mono ?_
    rintro e w1 ⟨rfl, rfl⟩
    rw [H1.out]
    go_wp2
    go_ret2
    exact MkP.nil Hr.out
  | true =>
    have hlen := okB_len h1
    cases h2 : okB b with
    | false =>
      have H1 := Lib.hid h1; have H2 := Lib.hid h2
      have Hr := Lib.hid (join_bad (a := a) (b := b) (fun h => by rw [h2] at h; cases h.2.1))
      clear h1 h2
      go_enter Try.func24, Try.ntmps24
      go_wp2_with fail
      refine (rvalid_any _ _ _ Ha.out la).mono ?_
      rintro e w1 ⟨rfl, rfl⟩
      rw [H1.out]
      go_wp2_with fail
      refine (rvalid_any _ _ _ Hb.out lb).mono ?_
      rintro e w1 ⟨rfl, rfl⟩
      rw [H2.out]
      go_wp2
      go_ret2
      exact MkP.nil Hr.out
    | true =>
      by_cases h3 : a.length = b.length
      · have H1 := Lib.hid h1; have H2 := Lib.hid h2; have H3 := Lib.hid h3
        have Hr := Lib.hid (join_good h1 h2 h3)
        have hne : ((a.length : Int) != (b.length : Int)) = false := by rw [bne_eq_false_iff_eq]; omega
        clear h1 h2 h3
        obtain ⟨i0, hi, hz0, hz1, hz2⟩ := info_parts info_int
        go_enter Try.func24, Try.ntmps24
        go_wp2_with fail
        refine (rvalid_any _ _ _ Ha.out la).mono ?_
        rintro e w1 ⟨rfl, rfl⟩
        rw [H1.out]
        go_wp2_with fail
        refine (rvalid_any _ _ _ Hb.out lb).mono ?_
        rintro e w1 ⟨rfl, rfl⟩
        rw [H2.out]
        go_wp2_with fail
        clear hne
        go_loopw [6, 7] (fun v i wr => ∃ k : Nat, k ≤ a.length ∧ i = .int .i64 k ∧ wr.ownsRow w.heap.size 3 1 v k (((List.zipWith mx a b).take k).map iv) ∧ Below w.heap.size w wr) (fun _ i _ => a.length - (intOf i).toNat)
        case atStart => exact ⟨0, Nat.zero_le _, rfl, World.ownsRow_nil _ _ _ _, Below.refl _ _⟩
        case round =>
          obtain ⟨k, hk, rfl, hown, hbel⟩ := hrel
          have Hbel := Lib.hid hbel
          by_cases hlt : k < a.length
          · have hltb : k < b.length := by have := H3.out; omega
            obtain ⟨ad, c', hs, hcap, hcell0⟩ := sl_cell Ha.out k hlt
            simp only [Value.slice.injEq, true_and] at hs
            obtain ⟨rfl, rfl⟩ := hs
            obtain ⟨ad2, c2', hs, hcap2, hcell20⟩ := sl_cell Hb.out k hltb
            simp only [Value.slice.injEq, true_and] at hs
            obtain ⟨rfl, rfl⟩ := hs
            have Hz := Lib.hid (zip_take_succ hlt hltb)
            generalize a[k] = x at *
            generalize b[k]'hltb = y at *
            unfold iv at hcell0 hcell20
            have hlb := World.block_lt_of_cell? _ _ hcell0
            have hlb2 := World.block_lt_of_cell? _ _ hcell20
            have KC := Lib.hid (show ∀ w' : World, Below w.heap.size w w' → w'.cell? (ad.add k) = some (.int .i64 x) ∧ w'.cell? (ad2.add k) = some (.int .i64 y) from fun w' h => ⟨(h.cell hlb).trans hcell0, (h.cell hlb2).trans hcell20⟩)
            have Hown := Lib.hid hown
            clear hown hbel hlb hlb2 hcell0 hcell20 hltb
            obtain ⟨x1, x2⟩ := KC.out _ Hbel.out
            have j0 : (0 : Int) ≤ (k : Int) := by omega
            have j1 : (k : Int) < (a.length : Int) := by omega
            have j2 : (k : Int) < (b.length : Int) := by have := H3.out; omega
            have hsz := Hbel.out.size
            go_wp2_with fail
            go_region_held3 (fun w' => w'.cell? (ad.add k) = some (.int .i64 x) ∧ w'.cell? (ad2.add k) = some (.int .i64 y))
              (first | exact KC.out _ hb2 | go_keep)
              ((refine step_append_lies _ (by rfl) _ _ _ (by rfl) w.heap.size 3 i0 _ 1 8 (by kernel_rfl) hi hz0 hz1 hz2 rfl (by omega) _ _ _ (by rfl) (by exact (Hown.out.alloc _).drew) ⟨wr.heap.size, 0, none⟩ 1 1 [.int .i64 (if x < y then y else x)] (by rfl) (by rfl) (World.news_of_block (cs := #[.int .i64 (if x < y then y else x)]) (t := 3) (fr := (0, 0)) (heap_alloc_new wr.drew _)) (by simp [Value.oneCell']) (by omega) (by unfold maxLen; omega) (by omega) (by simp; omega) (wr.heap.size + 1) (by simp) ?_; intro gg cap w2 hown2 hgrow hat2 hlt2; have hb2 := ((Hbel.out.drew).alloc (by simp; omega) (.cells #[.int .i64 (if x < y then y else x)] 3)).grown hgrow (by simp; omega) (fun k e => (Hown.out.lt k e).1)))
            have Hown2 := Lib.hid hown2
            have Hb2 := Lib.hid hb2
            clear hown2 hgrow hat2 hb2 x1 x2
            go_wp2
            go_roundw
            case rel => exact ⟨k + 1, by omega, by go_num, by rw [Hz.out, List.map_append]; exact Hown2.out, Hb2.out⟩
            case measure => simp [intOf]; omega
          · obtain rfl : k = a.length := by omega
            rw [List.take_of_length_le (by rw [List.length_zipWith]; omega)] at hown
            have Hown := Lib.hid hown
            clear hown hbel
            have hshape := own_shapeG Hown.out
            obtain ⟨A0, c0, rfl⟩ := hshape
            go_wp2
            go_ret2
            exact MkP.ok Hr.out rfl Hown.out Hbel.out
      · have H1 := Lib.hid h1; have H2 := Lib.hid h2
        have Hr := Lib.hid (join_bad (a := a) (b := b) (fun h => h3 h.2.2))
        have hne : ((a.length : Int) != (b.length : Int)) = true := by rw [bne_iff_ne]; omega
        clear h1 h2 h3
        go_enter Try.func24, Try.ntmps24
        go_wp2_with fail
        refine (rvalid_any _ _ _ Ha.out la).mono ?_
        rintro e w1 ⟨rfl, rfl⟩
        rw [H1.out]
        go_wp2_with fail
        refine (rvalid_any _ _ _ Hb.out lb).mono ?_
        rintro e w1 ⟨rfl, rfl⟩
        rw [H2.out]
        go_wp2
        go_ret2
        exact MkP.nil Hr.out
set_option maxHeartbeats 1000000 in
theorem recv_any (va vb : Value) (a b : List Int) (r : Int) (w : World) (ha : Sl iv w va a) (hb : Sl iv w vb b) (la : a.length ≤ 1000) (lb : b.length ≤ 1000) : Calls Try.prog 25 #[va, vb, .int .i64 r] w (MkP (recvR a b r) w) := by
  obtain ⟨A, c, rfl⟩ := ha.shape
  obtain ⟨A2, c2, rfl⟩ := hb.shape
  have Ha := Lib.hid ha; have Hb := Lib.hid hb
  clear ha hb
  have Hl := joinR_len a b
  have Hr := Lib.hid (show recvR a b r = if (joinR a b).2 = 0 then tickR (joinR a b).1 r else ([], (joinR a b).2) from rfl)
  have Hj := Lib.hid (fun w h1 h2 => join_any (.slice A a.length c) (.slice A2 b.length c2) a b w h1 h2 la lb)
  obtain ⟨⟨j, x⟩, hj⟩ : ∃ j, j = joinR a b := ⟨_, rfl⟩
  rw [← hj] at Hl Hr Hj
  dsimp only at Hl Hr
  clear hj
  by_cases hx : x = 0
  · rw [if_pos hx] at Hr
    subst hx
    go_enter Try.func25, Try.ntmps25
    go_wp2_with fail
    refine (Hj.out _ Ha.out Hb.out).mono ?_
    rintro e w1 ⟨v1, rfl, hown, hb1⟩
    have Hs := Lib.hid (Sl.of_own hown)
    have HB := Lib.hid hb1
    clear hown hb1
    go_wp2_with fail
    refine (tick_any _ _ _ _ Hs.out (by omega)).mono ?_
    rintro e w2 ⟨v2, rfl, hown, hb2⟩
    have Ho := Lib.hid (own_monoZ hown HB.out.size)
    have HB2 := Lib.hid (HB.out.trans (hb2.mono HB.out.size))
    clear hown hb2
    go_wp2
    go_ret2
    rw [Hr.out]
    exact ⟨v2, rfl, Ho.out, HB2.out⟩
  · rw [if_neg hx] at Hr
    have hne : (x != 0) = true := by rw [bne_iff_ne]; exact hx
    clear hx
    go_enter Try.func25, Try.ntmps25
    go_wp2_with fail
    refine (Hj.out _ Ha.out Hb.out).mono ?_
    rintro e w1 ⟨v1, rfl, hown, hb1⟩
    have HB := Lib.hid hb1
    clear hown hb1
    go_wp2
    go_ret2
    exact MkP.ok (l := []) Hr.out rfl (World.ownsRow_nil _ _ _ _) HB.out
set_option maxHeartbeats 1000000 in
theorem rrecv_any (va vb : Value) (a b : List Int) (r : Int) (w : World) (ha : Sl iv w va a) (hb : Sl iv w vb b) (la : a.length ≤ 1000) (lb : b.length ≤ 1000) : Calls Try.prog 26 #[va, vb, .int .i64 r] w (MkP (recvR a b r) w) := by
  obtain ⟨A, c, rfl⟩ := ha.shape
  obtain ⟨A2, c2, rfl⟩ := hb.shape
  have Ha := Lib.hid ha; have Hb := Lib.hid hb
  clear ha hb
  have Hl := joinR_len a b
  have Hr := Lib.hid (show recvR a b r = if (joinR a b).2 = 0 then tickR (joinR a b).1 r else ([], (joinR a b).2) from rfl)
  have Hj := Lib.hid (fun w h1 h2 => rjoin_any (.slice A a.length c) (.slice A2 b.length c2) a b w h1 h2 la lb)
  obtain ⟨⟨j, x⟩, hj⟩ : ∃ j, j = joinR a b := ⟨_, rfl⟩
  rw [← hj] at Hl Hr Hj
  dsimp only at Hl Hr
  clear hj
  by_cases hx : x = 0
  · rw [if_pos hx] at Hr
    subst hx
    go_enter Try.func26, Try.ntmps26
    go_wp2_with fail
    refine (Hj.out _ Ha.out Hb.out).mono ?_
    rintro e w1 ⟨v1, rfl, hown, hb1⟩
    have Hs := Lib.hid (Sl.of_own hown)
    have HB := Lib.hid hb1
    clear hown hb1
    go_wp2_with fail
    refine (rtick_any _ _ _ _ Hs.out (by omega)).mono ?_
    rintro e w2 ⟨v2, rfl, hown, hb2⟩
    have Ho := Lib.hid (own_monoZ hown HB.out.size)
    have HB2 := Lib.hid (HB.out.trans (hb2.mono HB.out.size))
    clear hown hb2
    go_wp2
    go_ret2
    rw [Hr.out]
    exact ⟨v2, rfl, Ho.out, HB2.out⟩
  · rw [if_neg hx] at Hr
    have hne : (x != 0) = true := by rw [bne_iff_ne]; exact hx
    clear hx
    go_enter Try.func26, Try.ntmps26
    go_wp2_with fail
    refine (Hj.out _ Ha.out Hb.out).mono ?_
    rintro e w1 ⟨v1, rfl, hown, hb1⟩
    have HB := Lib.hid hb1
    clear hown hb1
    go_wp2
    go_ret2
    exact MkP.ok (l := []) Hr.out rfl (World.ownsRow_nil _ _ _ _) HB.out
end Go.Proofs.Ytgfnhkipoicmiaa
