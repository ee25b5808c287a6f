/- Linear of order, and the reference's SameInts. -/
import Derived.Test.YtcekfgahhicdcaaOrdLin
namespace Go.Proofs.Ytcekfgahhicdcaa
open Go.RowKit

/-- Numbers and an error: a row of the call's own. -/
def MkP (R : List Int × Int) (w : World) (e : Ending) (w' : World) : Prop := ∃ v, e = .returned (.tuple #[v, .int .i64 R.2]) ∧ w'.ownsRow w.heap.size 3 1 v R.1.length (R.1.map iv) ∧ Below w.heap.size w w'
theorem own_lower {w : World} {B B' e n : Nat} {v : Value} {xs : List Value} (h : w.ownsRow B e 1 v n xs) (hB : B' ≤ B) : w.ownsRow B' e 1 v n xs := by
  refine ⟨h.1, ?_⟩
  rcases h.2 with h2 | ⟨g, cap, cur, h1, hb, h3⟩
  · exact .inl h2
  · exact .inr ⟨g, cap, cur, h1, Nat.le_trans hB hb, h3⟩
theorem MkP.nil {w w' : World} {R : List Int × Int} {x : Int} (h : R = ([], x)) (hb : Below w.heap.size w w') : MkP R w (.returned (.tuple #[.slice none 0 0, .int .i64 x])) w' := by
  subst h; exact ⟨_, rfl, World.ownsRow_nil _ _ _ _, hb⟩
theorem MkP.ok {w w' : World} {R : List Int × Int} {l : List Int} {x : Int} {v : Value} {n B : Nat} (h : R = (l, x)) (ho : w'.ownsRow B 3 1 v n (l.map iv)) (hB : w.heap.size ≤ B) (hb : Below w.heap.size w w') : MkP R w (.returned (.tuple #[v, .int .i64 x])) w' := by
  subst h
  obtain rfl : l.length = n := by simpa using ho.1
  exact ⟨v, rfl, own_lower ho hB, hb⟩
def linR (N : Int) (es : List (Int × Int)) : List Int × Int := if valO N es = true then ((liW (psts N es) N.toNat).1.map (fun x : Nat => (x : Int)), 0) else ([], 1)
def Lk (n : Nat) (es : List (Int × Int)) (k : Nat) : List Int := (liW (psts (n : Int) es) k).1.map (fun x : Nat => (x : Int))
theorem Lk_succ (n : Nat) (es : List (Int × Int)) (k : Nat) : (Lk n es (k + 1)).map iv = (Lk n es k).map iv ++ [.int .i64 ((nxW (psts (n : Int) es) (liW (psts (n : Int) es) k).2 : Nat) : Int)] := by
  simp [Lk, liW, iv]
set_option maxHeartbeats 4000000 in
theorem linear_any (N : Int) (v : Value) (es : List (Int × Int)) (w : World) (h : Prs w v es) (hl : es.length ≤ 100000) : Calls Try.prog 19 #[.agg #[.int .i64 N, v]] w (MkP (linR N es) w) := by
  have H := Lib.hid h; clear h
  cases hv : valO N es with
  | false =>
    have Hr := Lib.hid (show linR N es = ([], 1) by unfold linR; rw [hv]; rfl)
    have Hv := Lib.hid hv; clear hv
    go_enter Try.func19, Try.ntmps19
    go_wp2_with fail
    refine (pastsof_any N v es _ (H.out.below (below_alloc _ _)) hl).mono ?_
    rintro e w1 ⟨v1, rfl, hb, _⟩
    rw [Hv.out]
    have Hb := Lib.hid (box_low hb)
    clear hb
    go_wp2
    go_ret2
    exact MkP.nil Hr.out Hb.out
  | true =>
    have Hv := Lib.hid hv
    obtain ⟨⟨n0, n1, n2⟩, _, hac⟩ := valO_parts hv
    obtain ⟨n, rfl⟩ : ∃ n : Nat, N = n := ⟨N.toNat, by omega⟩
    have hn : n ≤ 60 := by omega
    have Hr := Lib.hid (show linR n es = (Lk n es n, 0) by unfold linR Lk; rw [hv, if_pos rfl, Int.toNat_natCast])
    have Hac := Lib.hid hac
    clear hv n0 n1 hac
    go_enter Try.func19, Try.ntmps19
    go_wp2_with fail
    refine (pastsof_any n v es _ (H.out.below (below_alloc _ _)) hl).mono ?_
    rintro e w1 ⟨v1, rfl, hb, hs⟩
    have Hs := Lib.hid (hs Hv.out)
    have hx := box_keep hb
    have x0 := cell_of_row _ _ 0 _ _ _ hx
    have x1 := cell_of_row _ _ 1 _ _ _ hx
    rw [Hv.out]
    have Hbox := Lib.hid hb
    clear hb hs
    go_wp2
    go_loopw [6, 7, 18] (fun lv p i wr => ∃ k : Nat, k ≤ n ∧ p = .int .u64 ((liW (psts (n : Int) es) k).2 : Nat) ∧ i = .int .i64 k ∧ Hid (wr.ownsRow w1.heap.size 3 1 lv k ((Lk n es k).map iv)) ∧ Hid (Below w1.heap.size w1 wr)) (fun _ _ i _ => n - (intOf i).toNat)
    case atStart => exact ⟨0, Nat.zero_le _, rfl, rfl, Lib.hid (World.ownsRow_nil _ _ _ _), Lib.hid (Below.refl _ _)⟩
    case round =>
      clear hx x0 x1
      obtain ⟨k, hk, rfl, rfl, Ho, Hb⟩ := hrel
      by_cases hlt : k < n
      · have Hsuc := Lib.hid (Lk_succ n es k)
        have Hli := Lib.hid (show (liW (psts (n : Int) es) (k + 1)).2 = (liW (psts (n : Int) es) k).2 ||| 2 ^ nxW (psts (n : Int) es) (liW (psts (n : Int) es) k).2 from rfl)
        have hf := li_facts (N := (n : Int)) Hac.out k (by omega)
        have hsl : (liW (psts (n : Int) es) k).2 < 2 ^ 64 := Nat.lt_of_lt_of_le hf.2.1 (Nat.pow_le_pow_right (by decide) (by omega))
        have hnx := nx_is (N := (n : Int)) Hac.out (s := (liW (psts (n : Int) es) k).2) (by omega)
        rw [Int.toNat_natCast] at hnx
        generalize (liW (psts (n : Int) es) k).2 = s at *
        generalize nxW (psts (n : Int) es) s = t at *
        obtain ⟨htn, htr, htf⟩ := hnx
        have Htr := Lib.hid htr
        have Htf := Lib.hid htf
        have Hsl := Lib.hid hsl
        have Hs2 := Lib.hid (Hs.out.below Hb.out)
        have hsz := Hb.out.size
        clear hf hsl htr htf
        go_wp2
        go_loopw [8] (fun i wr2 => ∃ e : Nat, e ≤ t ∧ i = .int .i64 e ∧ wr2 = wr) (fun i _ => t - (intOf i).toNat)
        case atStart => exact ⟨0, Nat.zero_le _, rfl, rfl⟩
        case round =>
          obtain ⟨e, he, rfl, rfl⟩ := hrel
          by_cases het : e < t
          · have Hf := Lib.hid (Htf.out e het)
            go_wp2_with fail
            refine (ready_any v1 _ s e _ Hs2.out (words_mem hn) (by rw [psts_len']; exact hn) Hsl.out (by rw [psts_len']; omega)).mono ?_
            rintro r w3 ⟨rfl, rfl⟩
            rw [Hf.out]
            go_wp2
            go_roundw
            case rel => exact ⟨e + 1, by omega, by go_num, (by first | rfl | trivial)⟩
            case measure => simp [intOf]; omega
          · obtain rfl : e = t := by omega
            have eor := or_val Hsl.out (show e < 64 by omega)
            go_wp2_with fail
            refine (ready_any v1 _ s e _ Hs2.out (words_mem hn) (by rw [psts_len']; exact hn) Hsl.out (by rw [psts_len']; omega)).mono ?_
            rintro r w3 ⟨rfl, rfl⟩
            rw [Htr.out]
            go_wp2_with (at_builtin; refine app1S rfl _ _ 31 rfl 3 (.int .i64 0) 8 info_int rfl (by kernel_rfl) w1.heap.size _ _ _ rfl Ho.out (.int .i64 (e : Int)) rfl rfl (by omega) (by omega) hsz ?_; intro v' w2 hown2 hfr2; have Hb2 := Lib.hid (hfr2.below hsz); have Hown2 := Lib.hid hown2; clear hown2 hfr2)
            refine (only_any e _ (by omega)).mono ?_
            rintro r w3 ⟨rfl, rfl⟩
            go_wp2
            go_roundw
            case rel => exact ⟨k + 1, by omega, by rw [Hli.out], by go_num, Lib.hid (by rw [Hsuc.out]; exact Hown2.out), Lib.hid (Hb.out.trans Hb2.out)⟩
            case measure => simp [intOf]; omega
      · obtain rfl : k = n := by omega
        go_wp2
        go_ret2
        exact MkP.ok Hr.out Ho.out (box_low Hbox.out).size (box_low (bl2 Hbox.out Hb.out))
set_option maxHeartbeats 1000000 in
theorem same_any (va vb : Value) (a b : List Int) (w : World) (ha : Sl iv w va a) (hb : Sl iv w vb b) (hla : a.length ≤ 1000) : Calls Try.prog 21 #[va, vb] w fun e w' => e = .returned (.bool (decide (a = b))) ∧ ∃ m, w' = w.drewN m := by
  obtain ⟨A, c, rfl⟩ := ha.shape
  obtain ⟨A2, c2, rfl⟩ := hb.shape
  have Ha := Lib.hid ha; have Hb := Lib.hid hb
  clear ha hb
  obtain ⟨R, hR⟩ : ∃ R, R = decide (a = b) := ⟨_, rfl⟩
  rw [← hR]
  have HR := Lib.hid hR; clear hR
  by_cases hl : a.length = b.length
  · have Hl := Lib.hid hl
    go_enter Try.func21, Try.ntmps21
    have hne : ((a.length : Int) != (b.length : Int)) = false := by rw [bne_eq_false_iff_eq]; omega
    go_wp2
    go_loopw [5] (fun i wr => ∃ k : Nat, k ≤ a.length ∧ i = .int .i64 k ∧ Hid (a.take k = b.take k) ∧ ∃ m, wr = w.drewN m) (fun i _ => a.length - (intOf i).toNat)
    case atStart => exact ⟨0, Nat.zero_le _, rfl, Lib.hid rfl, 0, rfl⟩
    case round =>
      obtain ⟨k, hk, rfl, Ht, m, rfl⟩ := hrel
      by_cases hlt : k < a.length
      · have hlt2 : k < b.length := by omega
        obtain ⟨ad, c', hs, hcap, hcell⟩ := sl_cell Ha.out k hlt
        simp only [Value.slice.injEq, true_and] at hs
        obtain ⟨rfl, rfl⟩ := hs
        obtain ⟨ad2, c2', hs2, hcap2, hcell2⟩ := sl_cell Hb.out k hlt2
        simp only [Value.slice.injEq, true_and] at hs2
        obtain ⟨rfl, rfl⟩ := hs2
        have Hn := Lib.hid (show a[k] = b[k] → a.take (k + 1) = b.take (k + 1) from fun h => by rw [List.take_succ_eq_append_getElem hlt, List.take_succ_eq_append_getElem hlt2, Ht.out, h])
        have Hno := Lib.hid (show a[k] ≠ b[k] → decide (a = b) = false from fun h => decide_eq_false (fun h2 => h (by subst h2; rfl)))
        generalize a[k] = x at *
        generalize b[k] = y at *
        unfold iv at hcell hcell2
        by_cases hxy : x = y
        · have Hn2 := Lib.hid (Hn.out hxy)
          subst hxy
          clear Hn Hno
          go_wp2_with fail
          go_quiet (fail)
          go_wp2
          go_roundw
          case rel => exact ⟨k + 1, by omega, by go_num, Hn2, _, rfl⟩
          case measure => simp [intOf]; omega
        · have hr : R = false := HR.out.trans (Hno.out hxy)
          subst hr
          have hne2 : (x != y) = true := by rw [bne_iff_ne]; exact hxy
          clear Hn Hno
          go_wp2_with fail
          go_quiet (fail)
          go_wp2
          go_ret
          exact ⟨rfl, m + nq, by rw [World.drewN_drewN]⟩
      · obtain rfl : k = a.length := by omega
        have hr : R = true := by
          rw [HR.out]
          refine decide_eq_true ?_
          have := Ht.out
          rwa [List.take_length, Hl.out, List.take_length] at this
        subst hr
        go_wp2
        go_ret
        exact ⟨rfl, _, rfl⟩
  · have hr : R = false := HR.out.trans (decide_eq_false (fun h => hl (by rw [h])))
    subst hr
    have hne : ((a.length : Int) != (b.length : Int)) = true := by rw [bne_iff_ne]; omega
    go_enter Try.func21, Try.ntmps21
    go_wp2
    go_ret
    exact ⟨rfl, 0, rfl⟩
end Go.Proofs.Ytcekfgahhicdcaa
