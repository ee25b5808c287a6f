/- NfaClosures: for every input the law returns true. -/
import Derived.Test.YtcfhffbbmehihaaDoorNfaCloL
import Derived.Test.YtcfhffbbmehihaaDoorLaw
import Derived.Test.YtcfhffbbmehihaaDoorRowInv
namespace Go.Proofs.YtcfhffbbmehihaaDoor
open Go.RowKit

theorem Xa.step1 {w : World} {xb n : Nat} {sv fv v : Value} {st : List Int} {fin : List Bool} {ar : List Ac} (h : Xa w xb n sv fv v st fin ar) (hv : VN n st fin ar) (a letter : Int) (ha : 0 ≤ a ∧ a < (n : Int)) :
    Calls Tryd.prog 14 #[.agg #[.int .i64 (n : Int), sv, fv, v], .slice (some ⟨w.heap.size, 0, none⟩) 1 1, .int .i64 letter] (w.alloc (.cells #[.int .i64 a] 3)) (fun e w' => ∃ v ws, e = .returned (.tuple #[v, .int .i64 0]) ∧ SetIs w' v ws (fun m => Sp ar (Cl ar (fun x => x ∈ [a])) letter m) ∧ Below w.heap.size w w') :=
  ((h.below (below_alloc w _)).step hv (some ⟨w.heap.size, 0, none⟩) 1 [a] letter (lit_sl iv w 3 #[.int .i64 a] 1 [a] rfl rfl (0, 0)) (by simp) (by intro x hx; rw [List.mem_singleton.1 hx]; exact ha)).mono fun e w' ⟨v, ws, h1, h2, h3⟩ => ⟨v, ws, h1, h2, below_ext2 (below_alloc w _) h3⟩
theorem Xa.clo1 {w : World} {xb n : Nat} {sv fv v : Value} {st : List Int} {fin : List Bool} {ar : List Ac} (h : Xa w xb n sv fv v st fin ar) (hv : VN n st fin ar) (a : Int) (ha : 0 ≤ a ∧ a < (n : Int)) :
    Calls Tryd.prog 12 #[.agg #[.int .i64 (n : Int), sv, fv, v], .slice (some ⟨w.heap.size, 0, none⟩) 1 1] (w.alloc (.cells #[.int .i64 a] 3)) (fun e w' => ∃ v ws, e = .returned (.tuple #[v, .int .i64 0]) ∧ SetIs w' v ws (fun m => Rc ar [a] m) ∧ Below w.heap.size w w') :=
  ((h.below (below_alloc w _)).clo hv (some ⟨w.heap.size, 0, none⟩) 1 [a] (lit_sl iv w 3 #[.int .i64 a] 1 [a] rfl rfl (0, 0)) (by simp) (by intro x hx; rw [List.mem_singleton.1 hx]; exact ha)).mono fun e w' ⟨v, ws, h1, h2, h3⟩ => ⟨v, ws, h1, h2, below_ext2 (below_alloc w _) h3⟩
theorem ex_snoc {l : List Int} {a : Int} {P : Int → Prop} : (((∃ x, x ∈ l ∧ P x) ∨ P a) ↔ ∃ x, x ∈ l ++ [a] ∧ P x) := by
  constructor
  · rintro (⟨x, h1, h2⟩ | h)
    · exact ⟨x, by simp [h1], h2⟩
    · exact ⟨a, by simp, h⟩
  · rintro ⟨x, h1, h2⟩
    rcases List.mem_append.1 h1 with h | h
    · exact .inl ⟨x, h, h2⟩
    · rw [List.mem_singleton.1 h] at h2; exact .inr h2
theorem own_len_eq {w : World} {B n m : Nat} {v : Value} {xs : List Value} (h : w.ownsRow B 3 1 v n xs) (e : n = m) : w.ownsRow B 3 1 v m xs := e ▸ h
set_option maxRecDepth 100000 in
set_option maxHeartbeats 8000000 in
theorem nfaclosures_walk (S : Int) (A1 A2 A3 : Option Addr) (c1 c2 c3 : Nat) (st : List Int) (fin : List Bool) (ar : List Ac) (A4 : Option Addr) (c4 : Nat) (xs : List Nat) (letter : Int) (w : World) (hT : Tab w) (hs : Sl iv w (.slice A1 st.length c1) st) (hf : Sl bl w (.slice A2 fin.length c2) fin) (ha : Acs w (.slice A3 ar.length c3) ar) (hx : Sl bv w (.slice A4 xs.length c4) xs) (hxb : Byt xs) (_ : xs.length ≤ 140737488351232) (_ : I64 letter) :
    Calls Tryd.prog 5 #[.agg #[.int .i64 S, .slice A1 st.length c1, .slice A2 fin.length c2, .slice A3 ar.length c3], .slice A4 xs.length c4, .int .i64 letter] w (Ok w) := by
  have hT0 := hT.size
  obtain ⟨W, hW⟩ : ∃ W, W = w.alloc (.cells #[.int .i64 S, .slice A1 st.length c1, .slice A2 fin.length c2, .slice A3 ar.length c3] 26) := ⟨_, rfl⟩
  have hbw : Below w.heap.size w W := by rw [hW]; exact below_alloc w _
  have hWb : W.heap[w.heap.size]? = some (.cells #[.int .i64 S, .slice A1 st.length c1, .slice A2 fin.length c2, .slice A3 ar.length c3] 26 (0, 0)) := by rw [hW]; exact heap_alloc_new w _
  have KX := Lib.hid (show ∀ w', Below W.heap.size W w' → w'.cell? ⟨w.heap.size, 0, none⟩ = some (.int .i64 S) ∧ w'.cell? ⟨w.heap.size, 1, none⟩ = some (.slice A1 st.length c1) ∧ w'.cell? ⟨w.heap.size, 2, none⟩ = some (.slice A2 fin.length c2) ∧ w'.cell? ⟨w.heap.size, 3, none⟩ = some (.slice A3 ar.length c3) from fun w' h => by
    have g1 := (h.block _ (lt_of_some hWb)).trans hWb
    exact ⟨cell_of_row _ _ 0 _ _ _ g1, cell_of_row _ _ 1 _ _ _ g1, cell_of_row _ _ 2 _ _ _ g1, cell_of_row _ _ 3 _ _ _ g1⟩)
  have HE := Lib.hid (show ∀ (e : Ending) (w' : World), e = .returned (.bool true) → Below W.heap.size W w' → Ok w e w' from fun e w' h1 h2 => ⟨h1, below_ext2 hbw h2⟩)
  have Hs := Lib.hid (hs.below hbw); have Hf := Lib.hid (hf.below hbw); have Ha := Lib.hid (ha.below hbw); have Hx := Lib.hid (hx.below hbw); have HT := Lib.hid (hT.below hbw hT0); have Hxb := Lib.hid hxb
  have hlW : w.heap.size < W.heap.size := lt_of_some hWb
  have HlW := Lib.hid hlW
  have HW := Lib.hid hW
  clear hs hf ha hx hxb hT hbw hWb hW hlW hT0
  have HT0 := Lib.hid HT.out.size
  go_enter Tryd.func5, Tryd.ntmps5
  go_wp2_with fail
  rw [← HW.out]
  generalize hbox : w.heap.size = bx at KX HlW
  have Hbox := Lib.hid hbox
  clear hbox
  try rw [Hbox.out]
  refine (awake_any W HT.out).mono ?_
  rintro e w1 ⟨rfl, hb1⟩
  have B1 := Lib.hid hb1
  clear hb1
  obtain ⟨x0, x1, x2, x3⟩ := KX.out _ B1.out
  go_wp2_with fail
  refine (few_any S A1 A2 A3 st.length fin.length ar.length c1 c2 c3 w1).mono ?_
  rintro e w2 ⟨rfl, hb2⟩
  have B2 := Lib.hid (below_ext2 B1.out hb2)
  clear hb2 x0 x1 x2 x3
  obtain ⟨x0, x1, x2, x3⟩ := KX.out _ B2.out
  cases hfew : fewA S st.length fin.length ar.length with
  | false =>
    clear hfew
    go_wp2
    go_ret
    exact HE.out _ _ rfl B2.out
  | true =>
  have hlim := fewA_lim hfew
  clear hfew
  obtain ⟨l1, l2, l3, l4⟩ := hlim
  go_wp2_with fail
  refine (rvalid_any S st fin ar _ _ _ w2 (Hs.out.below B2.out) (Hf.out.below B2.out) (Ha.out.below B2.out) (by omega) (by omega)).mono ?_
  rintro e w3 ⟨b, rfl, hvi, hb3⟩
  have B3 := Lib.hid (below_ext2 B2.out hb3)
  clear hb3 x0 x1 x2 x3
  obtain ⟨x0, x1, x2, x3⟩ := KX.out _ B3.out
  cases b with
  | false =>
    clear hvi
    go_wp2
    go_ret
    exact HE.out _ _ rfl B3.out
  | true =>
  obtain ⟨n, rfl, hvn⟩ := (hvi.1 rfl).vn
  have Hv := Lib.hid hvn
  clear hvi hvn
  by_cases hn0 : n = 0
  · have e0 : ((n : Int) == 0) = true := by rw [beq_iff_eq]; omega
    clear hn0
    go_wp2
    go_ret
    exact HE.out _ _ rfl B3.out
  have e0 : ((n : Int) == 0) = false := by rw [beq_eq_false_iff_ne]; omega
  have hnp : 0 < n := by omega
  by_cases hlen : 10 < xs.length
  · go_wp2
    go_ret
    exact HE.out _ _ rfl B3.out
  go_wp2_with fail
  refine (own_any (n : Int) A1 A2 st.length c1 fin.length c2 _ ar w3 (Ha.out.below B3.out) (by omega)).mono ?_
  rintro e w4 ⟨v', rfl, hac, hb4⟩
  obtain ⟨A5, c5, rfl⟩ := hac.shape
  have B4 := Lib.hid (below_ext2 B3.out hb4)
  obtain ⟨V, hV⟩ : ∃ V, V = w4.alloc (.cells #[.int .i64 (n : Int), .slice A1 st.length c1, .slice A2 fin.length c2, .slice A5 ar.length c5] 31) := ⟨_, rfl⟩
  have hbV : Below w4.heap.size w4 V := by rw [hV]; exact below_alloc w4 _
  have BV := Lib.hid (below_ext2 B4.out hbV)
  have HX := Lib.hid (show Xa V w4.heap.size n (.slice A1 st.length c1) (.slice A2 fin.length c2) (.slice A5 ar.length c5) st fin ar from ⟨by rw [hV]; exact heap_alloc_new w4 _, Hs.out.below BV.out, Hf.out.below BV.out, hac.below hbV, HT.out.below BV.out HT0.out⟩)
  have HV := Lib.hid hV
  clear hac hb4 hbV hV x0 x1 x2 x3
  obtain ⟨x0, x1, x2, x3⟩ := KX.out _ BV.out
  go_wp2_with fail
  rw [← HV.out]
  generalize hxb : w4.heap.size = xb at HX
  have Hxb2 := Lib.hid hxb
  clear hxb
  try rw [Hxb2.out]
  obtain ⟨i0, hi, hz0, hz1, hz2⟩ := info_parts info_int
  clear x0 x1 x2 x3
  go_loopw [8, 50] (fun v i wr => ∃ k : Nat, k ≤ xs.length ∧ i = .int .i64 k ∧ wr.ownsRow V.heap.size 3 1 v k (((modL n xs).take k).map iv) ∧ Below V.heap.size V wr) (fun _ i _ => xs.length - (intOf i).toNat)
  case atStart => exact ⟨0, Nat.zero_le _, rfl, World.ownsRow_nil _ _ _ _, Below.refl _ _⟩
  case round =>
    obtain ⟨k, hk, rfl, hown, hbel⟩ := hrel
    have HB := Lib.hid hbel; have Hown := Lib.hid hown
    clear hbel hown
    have BW := Lib.hid (below_ext2 BV.out HB.out)
    obtain ⟨x0, x1, x2, x3⟩ := KX.out _ BW.out
    by_cases hlt : k < xs.length
    · obtain ⟨ad, c', hs, hcap, hcell⟩ := sl_cell (Hx.out.below BV.out) k hlt
      simp only [Value.slice.injEq, true_and] at hs
      obtain ⟨rfl, rfl⟩ := hs
      have Hz := Lib.hid (modL_take (m := n) hlt)
      have hx256 := Hxb.out _ (List.getElem_mem hlt)
      have htm : ((xs[k] : Nat) : Int).tmod (n : Int) = ((xs[k] % n : Nat) : Int) := rfl
      have hem : ((xs[k] : Nat) : Int) % (n : Int) = ((xs[k] % n : Nat) : Int) := rfl
      generalize xs[k] = x at *
      unfold bv at hcell
      have KC := Lib.hid (show ∀ w' : World, Below V.heap.size V w' → w'.cell? (ad.add k) = some (.int .u8 (x : Int)) ∧ w'.cell? ⟨bx, 0, none⟩ = some (.int .i64 (n : Int)) from fun w' h => ⟨(h.cell (World.block_lt_of_cell? _ _ hcell)).trans hcell, (KX.out _ (below_ext2 BV.out h)).1⟩)
      have hr0 : (0 : Int) ≤ ((x % n : Nat) : Int) := by omega
      generalize ((x % n : Nat) : Int) = r at *
      have j0 : (0 : Int) ≤ (k : Int) := by omega
      have j1 : (k : Int) < (xs.length : Int) := by omega
      have hsz := HB.out.size
      have hne : ¬ (n : Int) = 0 := by omega
      clear x0 x1 x2 x3
      clear hcell
      obtain ⟨hcell, x0⟩ := KC.out _ HB.out
      go_wp2_with fail
      have hll : (List.take k (modL n xs)).length = k := by rw [List.length_take, modL_len]; omega
      have hwrap : IntKind.i64.wrap (x : Int) = (x : Int) := by rw [IntKind.wrap_i64]; omega
      have Htm := Lib.hid htm
      clear htm hem
      refine region_inv (n := 174) (RowInv (fun i => match i with | 0 => u8 | 1 => .slice (some ad) xs.length c4 | 2 => .int .i64 (k : Int) | 3 => .pointer (some (ad.add k)) | 4 => .int .u8 (x : Int) | 5 => .int .i64 (x : Int) | 6 => .pointer (some ⟨bx, 0, none⟩) | 7 => .int .i64 (n : Int) | 8 => .int .i64 r | _ => undef) V V.heap.size 9 10 11 u8 (List.take k (modL n xs)) r wr.heap.size) (by kernel_rfl) (by kernel_rfl) rfl ?_ (allOps_spec ?_) ?_
      · intro vs
        exact RowInv.start (own_len_eq Hown.out hll.symm) HB.out HB.out.size
      · refine ⟨?_, ?_, ?_, ?_, ?_, ?_, ?_, ?_, ?_, ?_, ?_, ?_, trivial⟩
        · intro L vs a w2 hB hL hd hI
          have b8 : a.tmps[8]?.getD undef = u8 := hB.pre 8 0 hL (by kernel_rfl)
          exact stepI_run (v := u8) rfl (by simp [execOp, go_sem, Act.eval, b8]) (hI.quiet (by decide) (by decide) (by decide))
        · intro L vs a w2 hB hL hd hI
          have b1 : a.tmps[1]?.getD undef = .slice (some ad) xs.length c4 := hB.at 1 (by kernel_rfl)
          exact stepI_run (v := .slice (some ad) xs.length c4) rfl (by simp [execOp, go_sem, Act.eval, b1]) (hI.quiet (by decide) (by decide) (by decide))
        · intro L vs a w2 hB hL hd hI
          have b9 : a.tmps[9]?.getD undef = .int .i64 (k : Int) := hB.at 9 (by kernel_rfl)
          exact stepI_run (v := .int .i64 (k : Int)) rfl (by simp [execOp, go_sem, Act.eval, b9]) (hI.quiet (by decide) (by decide) (by decide))
        · intro L vs a w2 hB hL hd hI
          have b54 : a.tmps[54]?.getD undef = .slice (some ad) xs.length c4 := (hB.val 1 (hd ⟨1, .data⟩ (by simp) rfl) 54 rfl).trans (hI.at_ (hd ⟨1, .data⟩ (by simp) rfl) (by decide) (by decide) (by decide))
          have b55 : a.tmps[55]?.getD undef = .int .i64 (k : Int) := (hB.val 2 (hd ⟨2, .data⟩ (by simp) rfl) 55 rfl).trans (hI.at_ (hd ⟨2, .data⟩ (by simp) rfl) (by decide) (by decide) (by decide))
          exact stepI_run (v := .pointer (some (ad.add k))) rfl (by simp [execOp, go_sem, Act.eval, b54, b55, j0, j1]) (hI.quiet (by decide) (by decide) (by decide))
        · intro L vs a w2 hB hL hd hI
          have b56 : a.tmps[56]?.getD undef = .pointer (some (ad.add k)) := (hB.val 3 (hd ⟨3, .data⟩ (by simp) rfl) 56 rfl).trans (hI.at_ (hd ⟨3, .data⟩ (by simp) rfl) (by decide) (by decide) (by decide))
          have hc0 := (KC.out _ hI.2.2.1).1
          exact stepI_run (v := .int .u8 (x : Int)) rfl (by simp [execOp, go_sem, Act.eval, b56, hc0]) (hI.quiet (by decide) (by decide) (by decide))
        · intro L vs a w2 hB hL hd hI
          have b57 : a.tmps[57]?.getD undef = .int .u8 (x : Int) := (hB.val 4 (hd ⟨4, .data⟩ (by simp) rfl) 57 rfl).trans (hI.at_ (hd ⟨4, .data⟩ (by simp) rfl) (by decide) (by decide) (by decide))
          exact stepI_run (v := .int .i64 (x : Int)) rfl (by simp [execOp, go_sem, Act.eval, b57, hwrap]) (hI.quiet (by decide) (by decide) (by decide))
        · intro L vs a w2 hB hL hd hI
          have b3 : a.tmps[3]?.getD undef = .pointer (some ⟨bx, 0, none⟩) := hB.at 3 (by kernel_rfl)
          exact stepI_run (v := .pointer (some ⟨bx, 0, none⟩)) rfl (by simp [execOp, go_sem, Act.eval, b3]) (hI.quiet (by decide) (by decide) (by decide))
        · intro L vs a w2 hB hL hd hI
          have b59 : a.tmps[59]?.getD undef = .pointer (some ⟨bx, 0, none⟩) := (hB.val 6 (hd ⟨6, .data⟩ (by simp) rfl) 59 rfl).trans (hI.at_ (hd ⟨6, .data⟩ (by simp) rfl) (by decide) (by decide) (by decide))
          have hc0 := (KC.out _ hI.2.2.1).2
          exact stepI_run (v := .int .i64 (n : Int)) rfl (by simp [execOp, go_sem, Act.eval, b59, hc0]) (hI.quiet (by decide) (by decide) (by decide))
        · intro L vs a w2 hB hL hd hI
          have b58 : a.tmps[58]?.getD undef = .int .i64 (x : Int) := (hB.val 5 (hd ⟨5, .data⟩ (by simp) rfl) 58 rfl).trans (hI.at_ (hd ⟨5, .data⟩ (by simp) rfl) (by decide) (by decide) (by decide))
          have b60 : a.tmps[60]?.getD undef = .int .i64 (n : Int) := (hB.val 7 (hd ⟨7, .data⟩ (by simp) rfl) 60 rfl).trans (hI.at_ (hd ⟨7, .data⟩ (by simp) rfl) (by decide) (by decide) (by decide))
          exact stepI_run (v := .int .i64 r) rfl (by simp [execOp, go_sem, Act.eval, b58, b60, Htm.out, hn0]) (hI.quiet (by decide) (by decide) (by decide))
        · intro L vs a w2 hB hL hd hI
          have b61 : a.tmps[61]?.getD undef = .int .i64 r := (hB.val 8 (hd ⟨8, .data⟩ (by simp) rfl) 61 rfl).trans (hI.at_ (hd ⟨8, .data⟩ (by simp) rfl) (by decide) (by decide) (by decide))
          exact stepI_run (v := .slice (some ⟨w2.heap.size, 0, none⟩) 1 1) rfl (by simp [execOp, go_sem, Act.eval, b61]) (hI.block (by decide) (by decide))
        · intro L vs a w2 hB hL hd hI
          have b53 : a.tmps[53]?.getD undef = u8 := (hB.val 0 (hd ⟨0, .data⟩ (by simp) rfl) 53 rfl).trans (hI.at_ (hd ⟨0, .data⟩ (by simp) rfl) (by decide) (by decide) (by decide))
          exact stepI_app (by kernel_rfl) info_int hI rfl rfl b53 hB (hd ⟨9, .data⟩ (by simp) rfl) rfl hL (hB.wait 10 11 hL (by kernel_rfl)) (by decide) (by decide) (fun q e => (World.ownsRow.lt Hown.out q e).2) (by omega)
        · intro L vs a w2 hB hL hd hI
          have b63 : a.tmps[63]?.getD undef = vs 10 := hB.val 10 (hd ⟨10, .data⟩ (by simp) rfl) 63 rfl
          exact stepI_run (v := vs 10) rfl (by simp [execOp, Act.eval, b63]) (hI.fill (by decide) (by decide))
      · intro L vs w2 hall hI
        obtain ⟨hr2, hb2, hs2⟩ := hI.all (hall 10 (by decide)) (hall 11 (by decide))
        have Hr2 := Lib.hid hr2; have Hb2 := Lib.hid hb2; have Hs2 := Lib.hid hs2
        clear hr2 hb2 hs2 hI hall
        simp only [putAll, Act.put, List.setIfInBounds_toArray, List.set_cons_zero, List.set_cons_succ, Nat.zero_add, Nat.reduceAdd]
        generalize vs 11 = vnew at *
        go_wp2
        go_roundw
        case rel => exact ⟨k + 1, by omega, by go_num, by rw [Hz.out]; exact own_len_eq Hr2.out (by rw [List.length_append, hll]; rfl), Hb2.out⟩
        case measure => simp [intOf]; omega
    · obtain rfl : k = xs.length := by omega
      have hown0 := Hown.out
      rw [List.take_of_length_le (by rw [modL_len]; exact Nat.le_refl _)] at hown0
      replace Hown := Lib.hid hown0
      clear hown0
      obtain ⟨A8, c8, rfl⟩ := own_shapeG Hown.out
      have HMb := Lib.hid (modL_bd hnp xs)
      have hMl : (modL n xs).length = xs.length := modL_len n xs
      have hs := Sl.of_own Hown.out
      rw [← hMl] at hs ⊢
      generalize modL n xs = M at *
      have HM := Lib.hid hs
      clear hs
      replace HX := Lib.hid (HX.out.below HB.out)
      clear x0 x1 x2 x3 Hown
      obtain ⟨y0, y1, y2, y3⟩ := HX.out.cells
      have hM1 : M.length ≤ 1000000 := by omega
      clear hMl
      go_wp2_with fail
      refine (HX.out.clo Hv.out A8 c8 M HM.out hM1 HMb.out).mono ?_
      rintro e w5 ⟨vc, wc, rfl, hset, hb⟩
      have HC := Lib.hid hset
      replace HB := Lib.hid (below_ext2 HB.out hb)
      replace HX := Lib.hid (HX.out.below hb)
      replace HM := Lib.hid (HM.out.below hb)
      obtain ⟨Ac_, cc, rfl⟩ := wst_shape HC.out.st
      clear hset hb y0 y1 y2 y3
      obtain ⟨y0, y1, y2, y3⟩ := HX.out.cells
      have KY := Lib.hid (show ∀ w', Below w5.heap.size w5 w' → w'.cell? ⟨xb, 0, none⟩ = some (.int .i64 (n : Int)) ∧ w'.cell? ⟨xb, 1, none⟩ = some (.slice A1 st.length c1) ∧ w'.cell? ⟨xb, 2, none⟩ = some (.slice A2 fin.length c2) ∧ w'.cell? ⟨xb, 3, none⟩ = some (.slice A5 ar.length c5) from fun w' h => (HX.out.below h).cells)
      have hd1 := Below.drewN' (Below.refl w5.heap.size w5) 1
      go_wp2_with fail
      go_region_held3 (fun w' => w'.cell? ⟨xb, 0, none⟩ = some (.int .i64 (n : Int)) ∧ w'.cell? ⟨xb, 1, none⟩ = some (.slice A1 st.length c1) ∧ w'.cell? ⟨xb, 2, none⟩ = some (.slice A2 fin.length c2) ∧ w'.cell? ⟨xb, 3, none⟩ = some (.slice A5 ar.length c5))
        (first | (exact KY.out _ hb7) | (exact KY.out _ hb6) | (exact KY.out _ hd1))
        (first
          | (go_at_call 27; refine (listI_any _ wc _ (HC.out.below hd1).st HC.out.wds HC.out.len (HX.out.below hd1).t).mono ?_; rintro e w6 ⟨A6, c6, rfl, hs6, hb6'⟩; have hb6 : Below w5.heap.size w5 w6 := hd1.trans hb6'; have H6 := Lib.hid hs6)
          | (go_at_call 12; refine ((HX.out.below hb6).clo Hv.out A6 c6 (elsI wc) H6.out (by have := elsI_le wc; omega) (HC.out.bd (rc_bd Hv.out.va HMb.out))).mono ?_; rintro e w7 ⟨vd, wd, rfl, hsd, hb7'⟩; have hb7 : Below w5.heap.size w5 w7 := below_ext2 hb6 hb7'; have HD := Lib.hid hsd))
      replace HB := Lib.hid (below_ext2 HB.out hb7)
      replace HX := Lib.hid (HX.out.below hb7)
      replace HM := Lib.hid (HM.out.below hb7)
      replace HC := Lib.hid (HC.out.below hb7)
      obtain ⟨Ad, cd, rfl⟩ := wst_shape HD.out.st
      have HDc := Lib.hid (show ∀ m : Nat, Rc ar M m ↔ Rc ar (elsI wc) m from fun m => by
        rw [rc_cl, rc_cl, Cl.congr (fun x => elsI_mem.trans (HC.out.els (P := fun x => Rc ar M x) (fun z hz => (Cl.bd Hv.out.va HMb.out (rc_cl.1 hz)).1) x)), Cl.congr (fun _ => rc_cl), Cl.idem])
      clear hb6 hb6' hb7 hb7' hs6 hsd H6 KY hd1 y0 y1 y2 y3
      obtain ⟨y0, y1, y2, y3⟩ := HX.out.cells
      go_wp2_with fail
      refine (HX.out.step Hv.out A8 c8 M letter HM.out hM1 HMb.out).mono ?_
      rintro e w8 ⟨vs_, wss, rfl, hset, hb⟩
      have HS := Lib.hid hset
      replace HB := Lib.hid (below_ext2 HB.out hb)
      replace HX := Lib.hid (HX.out.below hb)
      replace HM := Lib.hid (HM.out.below hb)
      replace HC := Lib.hid (HC.out.below hb)
      replace HD := Lib.hid (HD.out.below hb)
      obtain ⟨As_, cs_, rfl⟩ := wst_shape HS.out.st
      clear hset hb y0 y1 y2 y3
      obtain ⟨y0, y1, y2, y3⟩ := HX.out.cells
      have KY := Lib.hid (show ∀ w', Below w8.heap.size w8 w' → w'.cell? ⟨xb, 0, none⟩ = some (.int .i64 (n : Int)) ∧ w'.cell? ⟨xb, 1, none⟩ = some (.slice A1 st.length c1) ∧ w'.cell? ⟨xb, 2, none⟩ = some (.slice A2 fin.length c2) ∧ w'.cell? ⟨xb, 3, none⟩ = some (.slice A5 ar.length c5) from fun w' h => (HX.out.below h).cells)
      have hd1 := Below.drewN' (Below.refl w8.heap.size w8) 1
      go_wp2_with fail
      go_region_held3 (fun w' => w'.cell? ⟨xb, 0, none⟩ = some (.int .i64 (n : Int)) ∧ w'.cell? ⟨xb, 1, none⟩ = some (.slice A1 st.length c1) ∧ w'.cell? ⟨xb, 2, none⟩ = some (.slice A2 fin.length c2) ∧ w'.cell? ⟨xb, 3, none⟩ = some (.slice A5 ar.length c5))
        (first | (exact KY.out _ hb7) | (exact KY.out _ hb6) | (exact KY.out _ hd1))
        (first
          | (go_at_call 27; refine (listI_any _ wc _ (HC.out.below hd1).st HC.out.wds HC.out.len (HX.out.below hd1).t).mono ?_; rintro e w6 ⟨A6, c6, rfl, hs6, hb6'⟩; have hb6 : Below w8.heap.size w8 w6 := hd1.trans hb6'; have H6 := Lib.hid hs6)
          | (go_at_call 14; refine ((HX.out.below hb6).step Hv.out A6 c6 (elsI wc) letter H6.out (by have := elsI_le wc; omega) (HC.out.bd (rc_bd Hv.out.va HMb.out))).mono ?_; rintro e w7 ⟨vt, wt, rfl, hsd, hb7'⟩; have hb7 : Below w8.heap.size w8 w7 := below_ext2 hb6 hb7'; have HTt := Lib.hid hsd))
      replace HB := Lib.hid (below_ext2 HB.out hb7)
      replace HX := Lib.hid (HX.out.below hb7)
      replace HM := Lib.hid (HM.out.below hb7)
      replace HC := Lib.hid (HC.out.below hb7)
      replace HD := Lib.hid (HD.out.below hb7)
      replace HS := Lib.hid (HS.out.below hb7)
      obtain ⟨At_, ct_, rfl⟩ := wst_shape HTt.out.st
      have HTc := Lib.hid (show ∀ m : Nat, Sp ar (Cl ar (fun x => x ∈ M)) letter m ↔ Sp ar (Cl ar (fun x => x ∈ elsI wc)) letter m from fun m => Sp.congr fun x => by
        rw [Cl.congr (fun x => elsI_mem.trans (HC.out.els (P := fun x => Rc ar M x) (fun z hz => (Cl.bd Hv.out.va HMb.out (rc_cl.1 hz)).1) x)), Cl.congr (fun _ => rc_cl), Cl.idem])
      clear hb6 hb6' hb7 hb7' hs6 hsd H6 KY hd1 y0 y1 y2 y3
      go_wp2_with fail
      refine (equal_one HC.out HD.out HDc.out).mono ?_
      rintro e w9 ⟨rfl, hb⟩
      replace HB := Lib.hid (below_ext2 HB.out hb)
      replace HX := Lib.hid (HX.out.below hb)
      replace HM := Lib.hid (HM.out.below hb)
      replace HC := Lib.hid (HC.out.below hb)
      replace HS := Lib.hid (HS.out.below hb)
      replace HTt := Lib.hid (HTt.out.below hb)
      clear hb HD HDc
      go_wp2_with fail
      refine (equal_one HS.out HTt.out HTc.out).mono ?_
      rintro e w10 ⟨rfl, hb⟩
      replace HB := Lib.hid (below_ext2 HB.out hb)
      replace HX := Lib.hid (HX.out.below hb)
      replace HM := Lib.hid (HM.out.below hb)
      replace HC := Lib.hid (HC.out.below hb)
      replace HS := Lib.hid (HS.out.below hb)
      clear hb HTt HTc
      go_wp2_with fail
      refine (make_any _ M w10 HM.out (by unfold Room2; omega)).mono ?_
      rintro e w11 ⟨vm, rfl, hsm, hb⟩
      have Hm := Lib.hid hsm
      replace HB := Lib.hid (below_ext2 HB.out hb)
      replace HX := Lib.hid (HX.out.below hb)
      replace HM := Lib.hid (HM.out.below hb)
      replace HC := Lib.hid (HC.out.below hb)
      replace HS := Lib.hid (HS.out.below hb)
      clear hsm hb
      go_wp2_with fail
      refine (sub_one Hm.out HC.out.st.sl (mk_wds M) HC.out.wds (mk_len M) HC.out.len (fun m hm => (HC.out.has m).2 (by rw [mk_has, decide_eq_true_iff] at hm; exact .base hm.2))).mono ?_
      rintro e w12 ⟨rfl, rfl⟩
      clear Hm
      go_wp2_with fail
      have HB0 := Lib.hid HB.out; have HX0 := Lib.hid HX.out; have HM0 := Lib.hid HM.out; have HC0 := Lib.hid HC.out; have HS0 := Lib.hid HS.out
      clear HB HX HM HC HS hlt hk
      go_loopw [18, 19, 128] (fun u18 u19 i wr => ∃ (k : Nat) (s1 s2 : List Nat), k ≤ M.length ∧ i = .int .i64 k ∧ SetIs wr u18 s1 (fun m => ∃ a, a ∈ M.take k ∧ Sp ar (Cl ar (fun x => x ∈ [a])) letter m) ∧ SetIs wr u19 s2 (fun m => ∃ a, a ∈ M.take k ∧ Rc ar [a] m) ∧ Below w11.heap.size w11 wr) (fun _ _ i _ => M.length - (intOf i).toNat)
      case atStart => exact ⟨0, [], [], Nat.zero_le _, rfl, SetIs.empty _ _ (by intro m h; obtain ⟨a, h1, _⟩ := h; simp at h1), SetIs.empty _ _ (by intro m h; obtain ⟨a, h1, _⟩ := h; simp at h1), Below.refl _ _⟩
      case round =>
        obtain ⟨k, s1, s2, hk, rfl, hs1, hs2, hb0⟩ := hrel
        have H1 := Lib.hid hs1; have H2 := Lib.hid hs2; have HB := Lib.hid hb0
        obtain ⟨Au, cu, rfl⟩ := wst_shape H1.out.st
        obtain ⟨Av, cv, rfl⟩ := wst_shape H2.out.st
        clear hs1 hs2 hb0
        by_cases hlt : k < M.length
        · obtain ⟨ad, c', hs, hcap, hcell⟩ := sl_cell (HM0.out.below HB.out) k hlt
          simp only [Value.slice.injEq, true_and] at hs
          obtain ⟨rfl, rfl⟩ := hs
          have htk := List.take_succ_eq_append_getElem hlt
          have hab := HMb.out _ (List.getElem_mem hlt)
          have hmem := List.getElem_mem hlt
          obtain ⟨a, ha⟩ : ∃ a, a = M[k] := ⟨_, rfl⟩
          rw [← ha] at hcell htk hab hmem
          have Htk := Lib.hid htk; have Hab := Lib.hid hab; have Hmem := Lib.hid hmem
          clear ha htk hab hmem
          unfold iv at hcell
          have HX := Lib.hid (HX0.out.below HB.out)
          obtain ⟨y0, y1, y2, y3⟩ := HX.out.cells
          go_wp2_with fail
          refine (HX.out.step1 Hv.out a letter Hab.out).mono ?_
          rintro e w13 ⟨vu, wu, rfl, hset, hb⟩
          have Hu := Lib.hid hset
          replace HB := Lib.hid (below_ext2 HB.out hb)
          replace H1 := Lib.hid (H1.out.below hb)
          replace H2 := Lib.hid (H2.out.below hb)
          replace HX := Lib.hid (HX.out.below hb)
          obtain ⟨Aw, cw, rfl⟩ := wst_shape Hu.out.st
          clear hset hb y0 y1 y2 y3 hcell
          obtain ⟨y0, y1, y2, y3⟩ := HX.out.cells
          go_wp2_with fail
          refine (HX.out.clo1 Hv.out a Hab.out).mono ?_
          rintro e w14 ⟨vv, wv, rfl, hset, hb⟩
          have Hvv := Lib.hid hset
          replace HB := Lib.hid (below_ext2 HB.out hb)
          replace H1 := Lib.hid (H1.out.below hb)
          replace H2 := Lib.hid (H2.out.below hb)
          replace Hu := Lib.hid (Hu.out.below hb)
          obtain ⟨Ax, cx, rfl⟩ := wst_shape Hvv.out.st
          clear hset hb y0 y1 y2 y3 HX
          have HC := Lib.hid (HC0.out.below HB.out)
          go_wp2_with fail
          refine (sub_one Hvv.out.st.sl HC.out.st.sl Hvv.out.wds HC.out.wds Hvv.out.len HC.out.len (fun m hm => (HC.out.has m).2 (rc_list.2 ⟨a, Hmem.out, (Hvv.out.has m).1 hm⟩))).mono ?_
          rintro e w15 ⟨rfl, rfl⟩
          clear HC
          go_wp2_with fail
          refine (union_one H1.out Hu.out).mono ?_
          rintro e w16 ⟨vp, wp, rfl, hset, hb⟩
          have Hp := Lib.hid hset
          replace HB := Lib.hid (below_ext2 HB.out hb)
          replace H2 := Lib.hid (H2.out.below hb)
          replace Hvv := Lib.hid (Hvv.out.below hb)
          clear hset hb
          go_wp2_with fail
          refine (union_one H2.out Hvv.out).mono ?_
          rintro e w17 ⟨vq, wq, rfl, hset, hb⟩
          have Hq := Lib.hid hset
          replace HB := Lib.hid (below_ext2 HB.out hb)
          replace Hp := Lib.hid (Hp.out.below hb)
          clear hset hb
          go_wp2
          go_roundw
          case rel => exact ⟨k + 1, wp, wq, by omega, by go_num, Hp.out.congr (fun m => by rw [Htk.out]; exact ex_snoc), Hq.out.congr (fun m => by rw [Htk.out]; exact ex_snoc), HB.out⟩
          case measure => simp [intOf]; omega
        · have htk : M.take k = M := List.take_of_length_le (by omega)
          have h1' := H1.out
          have h2' := H2.out
          rw [htk] at h1' h2'
          replace H1 := Lib.hid h1'
          replace H2 := Lib.hid h2'
          clear h1' h2' htk
          have HC := Lib.hid (HC0.out.below HB.out); have HS := Lib.hid (HS0.out.below HB.out)
          go_wp2_with fail
          refine (equal_one H1.out HS.out (fun m => sp_list.symm)).mono ?_
          rintro e w13 ⟨rfl, hb⟩
          replace HB := Lib.hid (below_ext2 HB.out hb)
          replace H2 := Lib.hid (H2.out.below hb)
          replace HC := Lib.hid (HC.out.below hb)
          clear hb
          go_wp2_with fail
          refine (equal_one H2.out HC.out (fun m => rc_list.symm)).mono ?_
          rintro e w14 ⟨rfl, hb⟩
          replace HB := Lib.hid (below_ext2 HB.out hb)
          clear hb
          go_wp2
          go_ret
          exact HE.out _ _ rfl (below_ext2 BV.out (below_ext2 HB0.out HB.out))
end Go.Proofs.YtcfhffbbmehihaaDoor
