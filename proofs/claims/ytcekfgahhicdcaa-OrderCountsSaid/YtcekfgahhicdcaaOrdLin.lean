/- IsLinear, Cut, Linear of order, and the reference's SameInts (tools/ordlin_gen.py). -/
import Derived.Test.YtcekfgahhicdcaaOrdCon
import Derived.Test.YtcekfgahhicdcaaOrdU
namespace Go.Proofs.Ytcekfgahhicdcaa
open Go.RowKit

theorem info_int : (Try.prog.info? 3).map (fun i => (i.zero, i.size, i.bytes)) = some (some (.int .i64 0), 1, 8) := by kernel_rfl
theorem psts_len' (n : Nat) (es : List (Int × Int)) : (psts (n : Int) es).length = n := by rw [psts_len, Int.toNat_natCast]
theorem words_mem {n : Nat} {es : List (Int × Int)} (hn : n ≤ 60) : ∀ x ∈ psts (n : Int) es, x < 2 ^ 64 := fun x hx => psts_mem (by omega) hx
theorem or_u64 {s e : Nat} (hs : s < 2 ^ 64) (he : e < 64) : s ||| 2 ^ e < 2 ^ 64 := or_lt hs he
theorem or_val {s e : Nat} (hs : s < 2 ^ 64) (he : e < 64) : bits .or .u64 (s : Int) ((2 : Int) ^ e) = ((s ||| 2 ^ e : Nat) : Int) := by rw [pow_cast]; exact u64_or_nat s (2 ^ e) hs (pow_u64 he)
theorem or_val' {s e : Nat} (hs : s < 2 ^ 64) (he : e < 64) : bits .or .u64 (s : Int) ((2 ^ e : Nat) : Int) = ((s ||| 2 ^ e : Nat) : Int) := u64_or_nat s (2 ^ e) hs (pow_u64 he)
theorem isW_drop {N : Int} {ps : List Nat} {l : List Int} {k s : Nat} (hk : k < l.length) : isW N ps (l.drop k) s = (inB N l[k] && (rdyW ps s l[k].toNat && isW N ps (l.drop (k + 1)) (s ||| 2 ^ l[k].toNat))) := by
  rw [List.drop_eq_getElem_cons hk]; rfl
theorem seW_drop {N : Int} {l : List Int} {k s : Nat} (hk : k < l.length) : seW N (l.drop k) s = if (inB N l[k] && !s.testBit l[k].toNat) = true then seW N (l.drop (k + 1)) (s ||| 2 ^ l[k].toNat) else none := by
  rw [List.drop_eq_getElem_cons hk]; rfl
theorem all_drop {l : List Int} {f : Int → Bool} {k : Nat} (hk : k < l.length) : (l.drop k).all f = (f l[k] && (l.drop (k + 1)).all f) := by
  rw [List.drop_eq_getElem_cons hk]; rfl
theorem take_in {N : Int} {l : List Int} {k : Nat} (hk : k < l.length) (h : ∀ x ∈ l.take k, inB N x = true) (hx : inB N l[k] = true) : ∀ x ∈ l.take (k + 1), inB N x = true := by
  rw [List.take_succ_eq_append_getElem hk]
  intro x h2
  rcases List.mem_append.1 h2 with h3 | h3
  · exact h x h3
  · rw [List.mem_singleton] at h3; rw [h3]; exact hx

set_option maxHeartbeats 4000000 in
theorem islin_any (N : Int) (v : Value) (es : List (Int × Int)) (lv : Value) (l : List Int) (w : World) (h : Prs w v es) (hl : es.length ≤ 100000) (hs0 : Sl iv w lv l) : Calls Try.prog 22 #[.agg #[.int .i64 N, v], lv] w fun e w' => e = .returned (.bool (isO N es l)) ∧ Below w.heap.size w w' := by
  have H := Lib.hid h; clear h
  have HL := Lib.hid hs0; clear hs0
  obtain ⟨A, cL, rfl⟩ := HL.out.shape
  obtain ⟨R, hR⟩ : ∃ R, R = isO N es l := ⟨_, rfl⟩
  rw [← hR]
  unfold isO at hR
  have HR := Lib.hid hR; clear hR
  cases hv : valO N es with
  | false =>
    have hr : R = false := by rw [HR.out, hv]; rfl
    subst hr
    have Hv := Lib.hid hv; clear hv
    go_enter Try.func22, Try.ntmps22
    go_wp2_with fail
    refine (pastsof_any N v es _ (H.out.below (below_alloc _ _)) hl).mono ?_
    rintro e w1 ⟨v1, rfl, hb, _⟩
    rw [Hv.out]
    have Hb := Lib.hid (box_low hb)
    clear hb
    go_wp2
    go_ret
    exact ⟨rfl, Hb.out⟩
  | true =>
    rw [hv, Bool.true_and] at HR
    have Hv := Lib.hid hv
    obtain ⟨⟨n0, n1, n2⟩, _, _⟩ := valO_parts hv
    obtain ⟨n, rfl⟩ : ∃ n : Nat, N = n := ⟨N.toNat, by omega⟩
    have hn : n ≤ 60 := by omega
    clear hv n0 n1
    by_cases hlen : (l.length : Int) = n
    · rw [decide_eq_true hlen, Bool.true_and] at HR
      have hlen' : l.length = n := by omega
      go_enter Try.func22, Try.ntmps22
      go_wp2_with fail
      refine (pastsof_any n v es _ (H.out.below (below_alloc _ _)) hl).mono ?_
      rintro e w1 ⟨v1, rfl, hb, hs⟩
      have Hs := Lib.hid (hs Hv.out)
      have hx := box_keep hb
      have x0 := cell_of_row _ _ 0 _ _ _ hx
      have x1 := cell_of_row _ _ 1 _ _ _ hx
      rw [Hv.out]
      have hne : ((l.length : Int) != (n : Int)) = false := by rw [bne_eq_false_iff_eq]; exact hlen
      have Hbox := Lib.hid hb
      clear hb hs
      go_wp2
      go_loopw [7, 26] (fun p i wr => ∃ k s : Nat, k ≤ l.length ∧ p = .int .u64 (s : Int) ∧ i = .int .i64 k ∧ Hid (s < 2 ^ 64) ∧ Hid (isW n (psts n es) (l.drop k) s = R) ∧ Hid (Below w1.heap.size w1 wr)) (fun _ i _ => l.length - (intOf i).toNat)
      case atStart => exact ⟨0, 0, Nat.zero_le _, rfl, rfl, Lib.hid (by decide), Lib.hid HR.out.symm, Lib.hid (Below.refl _ _)⟩
      case round =>
        clear hx x0 x1
        obtain ⟨k, s, hk, rfl, rfl, Hsl, Hw, Hb⟩ := hrel
        have Hbw := Lib.hid (bl2 Hbox.out Hb.out)
        have hx := box_keep Hbw.out
        have x0 := cell_of_row _ _ 0 _ _ _ hx
        have x1 := cell_of_row _ _ 1 _ _ _ hx
        by_cases hlt : k < l.length
        · obtain ⟨ad, c', hsl, hcap, hcell⟩ := sl_cell (HL.out.below (box_low Hbw.out)) k hlt
          simp only [Value.slice.injEq, true_and] at hsl
          obtain ⟨rfl, rfl⟩ := hsl
          have hw := Hw.out
          rw [isW_drop hlt] at hw
          obtain ⟨x, hxe⟩ : ∃ x, x = l[k] := ⟨_, rfl⟩
          rw [← hxe] at hw hcell
          unfold iv at hcell
          clear hxe
          cases hin : inB n x with
          | false =>
            have hr : R = false := by rw [← hw, hin]; rfl
            subst hr
            have Hin := Lib.hid hin
            clear hin hw
            go_wp2_with fail
            refine (exists_any _ _ _ _).mono ?_
            rintro e w2 ⟨rfl, hb2⟩
            rw [Hin.out]
            have Hb2 := Lib.hid (box_low (bl2 Hbw.out hb2))
            clear hb2
            go_wp2
            go_ret
            exact ⟨rfl, Hb2.out⟩
          | true =>
            rw [hin, Bool.true_and] at hw
            have Hin := Lib.hid hin
            obtain ⟨y0, y1⟩ := inB_iff.1 hin
            obtain ⟨x, rfl⟩ : ∃ m : Nat, x = m := ⟨x.toNat, by omega⟩
            rw [Int.toNat_natCast] at hw
            have hxl : x < (psts (n : Int) es).length := by rw [psts_len']; omega
            have hx64 : x < 64 := by omega
            clear hin
            cases hrd : rdyW (psts n es) s x with
            | false =>
              have hr : R = false := by rw [← hw, hrd]; rfl
              subst hr
              have Hrd := Lib.hid hrd
              clear hrd hw
              go_wp2_with fail
              refine (exists_any _ _ _ _).mono ?_
              rintro e w2 ⟨rfl, hb2⟩
              rw [Hin.out]
              have Hs2 := Lib.hid ((Hs.out.below Hb.out).below hb2)
              have Hb2 := Lib.hid (box_low (bl2 Hbw.out hb2))
              clear hb2
              go_wp2_with fail
              refine (ready_any v1 _ s x _ Hs2.out (words_mem hn) (by rw [psts_len']; exact hn) Hsl.out hxl).mono ?_
              rintro r w3 ⟨rfl, rfl⟩
              rw [Hrd.out]
              go_wp2
              go_ret
              exact ⟨rfl, Hb2.out⟩
            | true =>
              rw [hrd, Bool.true_and] at hw
              have Hrd := Lib.hid hrd
              have Hw2 := Lib.hid hw
              have eor := or_val Hsl.out hx64
              have Hsl2 := Lib.hid (or_u64 Hsl.out hx64)
              clear hrd hw
              go_wp2_with fail
              refine (exists_any _ _ _ _).mono ?_
              rintro e w2 ⟨rfl, hb2⟩
              rw [Hin.out]
              have Hs2 := Lib.hid ((Hs.out.below Hb.out).below hb2)
              have Hb2 := Lib.hid (bl2 Hb.out hb2)
              clear hb2
              go_wp2_with fail
              refine (ready_any v1 _ s x _ Hs2.out (words_mem hn) (by rw [psts_len']; exact hn) Hsl.out hxl).mono ?_
              rintro r w3 ⟨rfl, rfl⟩
              rw [Hrd.out]
              go_wp2_with fail
              refine (only_any x _ hx64).mono ?_
              rintro r w3 ⟨rfl, rfl⟩
              go_wp2
              go_roundw
              case rel => exact ⟨k + 1, s ||| 2 ^ x, by omega, (by first | rfl | rw [eor]), by go_num, Hsl2, Hw2, Hb2⟩
              case measure => simp [intOf]; omega
        · obtain rfl : k = l.length := by omega
          have hw := Hw.out
          rw [List.drop_length] at hw
          have hr : R = true := hw.symm
          subst hr
          clear hw
          go_wp2
          go_ret
          exact ⟨rfl, box_low Hbw.out⟩
    · have hr : R = false := by rw [HR.out, decide_eq_false hlen]; rfl
      subst hr
      have hne : ((l.length : Int) != (n : Int)) = true := by rw [bne_iff_ne]; exact hlen
      go_enter Try.func22, Try.ntmps22
      go_wp2_with fail
      refine (pastsof_any n v es _ (H.out.below (below_alloc _ _)) hl).mono ?_
      rintro e w1 ⟨v1, rfl, hb, hs⟩
      have hx := box_keep hb
      have x0 := cell_of_row _ _ 0 _ _ _ hx
      have x1 := cell_of_row _ _ 1 _ _ _ hx
      rw [Hv.out]
      have Hbox := Lib.hid hb
      clear hb hs
      go_wp2
      go_ret
      exact ⟨rfl, box_low Hbox.out⟩
set_option maxHeartbeats 4000000 in
theorem cut_any (N : Int) (v : Value) (es : List (Int × Int)) (lv : Value) (l : List Int) (w : World) (h : Prs w v es) (hl : es.length ≤ 100000) (hs0 : Sl iv w lv l) (hll : l.length ≤ 1000) : Calls Try.prog 24 #[.agg #[.int .i64 N, v], lv] w fun e w' => e = .returned (.bool (cutO N es l)) ∧ Below w.heap.size w w' := by
  have H := Lib.hid h; clear h
  have HL := Lib.hid hs0; clear hs0
  obtain ⟨A, cL, rfl⟩ := HL.out.shape
  obtain ⟨R, hR⟩ : ∃ R, R = cutO N es l := ⟨_, rfl⟩
  rw [← hR]
  unfold cutO at hR
  have HR := Lib.hid hR; clear hR
  cases hv : valO N es with
  | false =>
    have hr : R = false := by rw [HR.out, hv]; rfl
    subst hr
    have Hv := Lib.hid hv; clear hv
    go_enter Try.func24, Try.ntmps24
    go_wp2_with fail
    refine (pastsof_any N v es _ (H.out.below (below_alloc _ _)) hl).mono ?_
    rintro e w1 ⟨v1, rfl, hb, _⟩
    rw [Hv.out]
    have Hb := Lib.hid (box_low hb)
    clear hb
    go_wp2
    go_ret
    exact ⟨rfl, Hb.out⟩
  | true =>
    rw [hv, Bool.true_and] at HR
    have Hv := Lib.hid hv
    obtain ⟨⟨n0, n1, n2⟩, _, _⟩ := valO_parts hv
    obtain ⟨n, rfl⟩ : ∃ n : Nat, N = n := ⟨N.toNat, by omega⟩
    have hn : n ≤ 60 := by omega
    clear hv n0 n1
    go_enter Try.func24, Try.ntmps24
    go_wp2_with fail
    refine (pastsof_any n v es _ (H.out.below (below_alloc _ _)) hl).mono ?_
    rintro e w1 ⟨v1, rfl, hb, hs⟩
    have Hs := Lib.hid (hs Hv.out)
    have hx := box_keep hb
    have x0 := cell_of_row _ _ 0 _ _ _ hx
    have x1 := cell_of_row _ _ 1 _ _ _ hx
    rw [Hv.out]
    have Hbox := Lib.hid hb
    clear hb hs
    go_wp2
    go_loopw [7, 21] (fun p i wr => ∃ k s : Nat, k ≤ l.length ∧ p = .int .u64 (s : Int) ∧ i = .int .i64 k ∧ Hid (s < 2 ^ 64) ∧ Hid (seW n (l.drop k) s = seW n l 0) ∧ Hid (∀ x ∈ l.take k, inB n x = true) ∧ Hid (Below w1.heap.size w1 wr)) (fun _ i _ => l.length - (intOf i).toNat)
    case atStart => exact ⟨0, 0, Nat.zero_le _, rfl, rfl, Lib.hid (by decide), Lib.hid rfl, Lib.hid (by simp), Lib.hid (Below.refl _ _)⟩
    case round =>
      clear hx x0 x1
      obtain ⟨k, s, hk, rfl, rfl, Hsl, Hw, Hall, Hb⟩ := hrel
      have Hbw := Lib.hid (bl2 Hbox.out Hb.out)
      have hx := box_keep Hbw.out
      have x0 := cell_of_row _ _ 0 _ _ _ hx
      have x1 := cell_of_row _ _ 1 _ _ _ hx
      by_cases hlt : k < l.length
      · obtain ⟨ad, c', hsl, hcap, hcell⟩ := sl_cell (HL.out.below (box_low Hbw.out)) k hlt
        simp only [Value.slice.injEq, true_and] at hsl
        obtain ⟨rfl, rfl⟩ := hsl
        have hw := Hw.out
        rw [seW_drop hlt] at hw
        have Hnx := Lib.hid (fun h => take_in hlt Hall.out h)
        obtain ⟨x, hxe⟩ : ∃ x, x = l[k] := ⟨_, rfl⟩
        rw [← hxe] at hw hcell Hnx
        unfold iv at hcell
        clear hxe
        cases hin : inB n x with
        | false =>
          rw [hin] at hw
          have hr : R = false := by rw [HR.out]; unfold cutW; rw [← hw]; rfl
          subst hr
          have Hin := Lib.hid hin
          clear hin hw Hnx
          go_wp2_with fail
          refine (exists_any _ _ _ _).mono ?_
          rintro e w2 ⟨rfl, hb2⟩
          rw [Hin.out]
          have Hb2 := Lib.hid (box_low (bl2 Hbw.out hb2))
          clear hb2
          go_wp2
          go_ret
          exact ⟨rfl, Hb2.out⟩
        | true =>
          rw [hin, Bool.true_and] at hw
          have Hall2 := Lib.hid (Hnx.out hin)
          have Hin := Lib.hid hin
          obtain ⟨y0, y1⟩ := inB_iff.1 hin
          obtain ⟨x, rfl⟩ : ∃ m : Nat, x = m := ⟨x.toNat, by omega⟩
          rw [Int.toNat_natCast] at hw
          have hx64 : x < 64 := by omega
          clear hin Hnx
          cases hrd : s.testBit x with
          | true =>
            rw [hrd] at hw
            have hr : R = false := by rw [HR.out]; unfold cutW; rw [← hw]; rfl
            subst hr
            have Hrd := Lib.hid hrd
            clear hrd hw
            go_wp2_with fail
            refine (exists_any _ _ _ _).mono ?_
            rintro e w2 ⟨rfl, hb2⟩
            rw [Hin.out]
            have Hb2 := Lib.hid (box_low (bl2 Hbw.out hb2))
            clear hb2
            go_wp2_with fail
            refine (has_any s x _ Hsl.out hx64).mono ?_
            rintro r w3 ⟨rfl, rfl⟩
            rw [Hrd.out]
            go_wp2
            go_ret
            exact ⟨rfl, Hb2.out⟩
          | false =>
            rw [hrd] at hw
            have Hrd := Lib.hid hrd
            have Hw2 := Lib.hid (show seW n (l.drop (k + 1)) (s ||| 2 ^ x) = seW n l 0 from hw)
            have eor := or_val Hsl.out hx64
            have Hsl2 := Lib.hid (or_u64 Hsl.out hx64)
            clear hrd hw
            go_wp2_with fail
            refine (exists_any _ _ _ _).mono ?_
            rintro e w2 ⟨rfl, hb2⟩
            rw [Hin.out]
            have Hb2 := Lib.hid (bl2 Hb.out hb2)
            clear hb2
            go_wp2_with fail
            refine (has_any s x _ Hsl.out hx64).mono ?_
            rintro r w3 ⟨rfl, rfl⟩
            rw [Hrd.out]
            go_wp2_with fail
            refine (only_any x _ hx64).mono ?_
            rintro r w3 ⟨rfl, rfl⟩
            go_wp2
            go_roundw
            case rel => exact ⟨k + 1, s ||| 2 ^ x, by omega, (by first | rfl | rw [eor]), by go_num, Hsl2, Hw2, Hall2, Hb2⟩
            case measure => simp [intOf]; omega
      · obtain rfl : k = l.length := by omega
        have hw := Hw.out
        rw [List.drop_length] at hw
        have Hin := Lib.hid (show ∀ x ∈ l, inB n x = true from fun x hx => Hall.out x (by rwa [List.take_length]))
        have hr : (l.drop 0).all (fun x => decide (sdiff ((psts (n : Int) es).getD x.toNat 0) s = 0)) = R := by rw [HR.out]; unfold cutW; rw [← hw]; rfl
        have Hr := Lib.hid hr
        clear hw hr Hall Hw
        go_wp2
        go_loopw [41] (fun i wr2 => ∃ k : Nat, k ≤ l.length ∧ i = .int .i64 k ∧ wr2 = wr ∧ Hid ((l.drop k).all (fun x => decide (sdiff ((psts (n : Int) es).getD x.toNat 0) s = 0)) = R)) (fun i _ => l.length - (intOf i).toNat)
        case atStart => exact ⟨0, Nat.zero_le _, rfl, rfl, Hr⟩
        case round =>
          clear hx x0 x1
          obtain ⟨k, hk, rfl, rfl, Hw⟩ := hrel
          by_cases hlt : k < l.length
          · obtain ⟨ad, c', hsl, hcap, hcell⟩ := sl_cell (HL.out.below (box_low Hbw.out)) k hlt
            simp only [Value.slice.injEq, true_and] at hsl
            obtain ⟨rfl, rfl⟩ := hsl
            have hw := Hw.out
            rw [all_drop hlt] at hw
            have hin := Hin.out _ (List.getElem_mem hlt)
            obtain ⟨x, hxe⟩ : ∃ x, x = l[k] := ⟨_, rfl⟩
            rw [← hxe] at hw hcell hin
            unfold iv at hcell
            clear hxe
            obtain ⟨y0, y1⟩ := inB_iff.1 hin
            obtain ⟨x, rfl⟩ : ∃ m : Nat, x = m := ⟨x.toNat, by omega⟩
            rw [Int.toNat_natCast, psts_at (by omega)] at hw
            obtain ⟨ad2, c2, rfl, hcap2, hcw, hwl⟩ := words_cell (Hs.out.below Hb.out) hn (show x < n by omega)
            generalize pst (n : Int) es x = y at *
            cases hd : decide (sdiff y s = 0) with
            | true =>
              rw [hd, Bool.true_and] at hw
              have Hw2 := Lib.hid hw
              have Hd := Lib.hid hd
              clear hd hw hin
              go_wp2_with fail
              refine (within_any y s _ hwl Hsl.out).mono ?_
              rintro r w3 ⟨rfl, rfl⟩
              rw [Hd.out]
              go_wp2
              go_roundw
              case rel => exact ⟨k + 1, by omega, by go_num, (by first | rfl | trivial), Hw2⟩
              case measure => simp [intOf]; omega
            | false =>
              rw [hd] at hw
              have hr : R = false := hw.symm
              subst hr
              have Hd := Lib.hid hd
              clear hd hw hin
              go_wp2_with fail
              refine (within_any y s _ hwl Hsl.out).mono ?_
              rintro r w3 ⟨rfl, rfl⟩
              rw [Hd.out]
              go_wp2
              go_ret
              exact ⟨rfl, box_low Hbw.out⟩
          · obtain rfl : k = l.length := by omega
            have hw := Hw.out
            rw [List.drop_length] at hw
            have hr : R = true := hw.symm
            subst hr
            clear hw
            go_wp2
            go_ret
            exact ⟨rfl, box_low Hbw.out⟩
end Go.Proofs.Ytcekfgahhicdcaa
