/- Layer 9: the contract of the reference's token (tools/lexrtok_gen.py). -/
import Derived.Test.YtolanmdckdjfeaaLexRk
namespace Go.Proofs.Ytolanmdckdjfeaa
open Go.RowKit

def mk2 : List (List UInt8) := [[45, 62], [46, 46], [60, 61], [62, 61], [61, 61], [33, 61], [38, 38], [124, 124]]
def mk1 : List (List UInt8) := [[40], [41], [123], [125], [44], [59], [58], [46], [43], [45], [42], [47], [37], [60], [62], [61], [33]]
theorem mk2_is (a b : UInt8) : decide ([a, b] ∈ mk2) = isMk [a, b] := by
  unfold isMk mk2 marks
  congr 1
  simp
theorem mk1_is (a : UInt8) : decide ([a] ∈ mk1) = isMk [a] := by
  unfold isMk mk1 marks
  congr 1
  simp
theorem in2_any (x : List UInt8) (W : World) : Calls Try.prog 35 #[.slice (some ⟨W.heap.size, 0, none⟩) 8 8, .string (ofL x)] (W.alloc (.cells #[.string { data := #[45, 62] }, .string { data := #[46, 46] }, .string { data := #[60, 61] }, .string { data := #[62, 61] }, .string { data := #[61, 61] }, .string { data := #[33, 61] }, .string { data := #[38, 38] }, .string { data := #[124, 124] }] 9)) (BoolIs (decide (x ∈ mk2)) (W.alloc (.cells #[.string { data := #[45, 62] }, .string { data := #[46, 46] }, .string { data := #[60, 61] }, .string { data := #[62, 61] }, .string { data := #[61, 61] }, .string { data := #[33, 61] }, .string { data := #[38, 38] }, .string { data := #[124, 124] }] 9))) :=
  in_any W.heap.size mk2 x (W.alloc (.cells (mk2.map fun l => Value.string (ofL l)).toArray 9)) (fun j u hu => by
    rw [cell_of_row _ W.heap.size j _ _ _ (heap_alloc_new W _), List.getElem?_toArray, List.getElem?_map, hu]
    rfl) (by decide)
theorem in1_any (x : List UInt8) (W : World) : Calls Try.prog 35 #[.slice (some ⟨W.heap.size, 0, none⟩) 17 17, .string (ofL x)] (W.alloc (.cells #[.string { data := #[40] }, .string { data := #[41] }, .string { data := #[123] }, .string { data := #[125] }, .string { data := #[44] }, .string { data := #[59] }, .string { data := #[58] }, .string { data := #[46] }, .string { data := #[43] }, .string { data := #[45] }, .string { data := #[42] }, .string { data := #[47] }, .string { data := #[37] }, .string { data := #[60] }, .string { data := #[62] }, .string { data := #[61] }, .string { data := #[33] }] 9)) (BoolIs (decide (x ∈ mk1)) (W.alloc (.cells #[.string { data := #[40] }, .string { data := #[41] }, .string { data := #[123] }, .string { data := #[125] }, .string { data := #[44] }, .string { data := #[59] }, .string { data := #[58] }, .string { data := #[46] }, .string { data := #[43] }, .string { data := #[45] }, .string { data := #[42] }, .string { data := #[47] }, .string { data := #[37] }, .string { data := #[60] }, .string { data := #[62] }, .string { data := #[61] }, .string { data := #[33] }] 9))) :=
  in_any W.heap.size mk1 x (W.alloc (.cells (mk1.map fun l => Value.string (ofL l)).toArray 9)) (fun j u hu => by
    rw [cell_of_row _ W.heap.size j _ _ _ (heap_alloc_new W _), List.getElem?_toArray, List.getElem?_map, hu]
    rfl) (by decide)
def RnmRel (l : List UInt8) (v : Value) : Prop := ∃ j : Nat, 1 ≤ j ∧ j ≤ l.length ∧ v = .int .i64 (j : Int) ∧ ∀ (i : Nat) (c : UInt8), i < j → l[i]? = some c → cN c.toNat = true
set_option maxRecDepth 100000 in
set_option maxHeartbeats 4000000 in
theorem rtoken_any (s : ByteArray) (l : List UInt8) (hs : s = ofL l) (hl : l.length ≤ 8000) (h1 : 1 ≤ l.length) (w : World) :
    Calls Try.prog 28 #[.string s] w (RkPost w (tk l)) := by
  have hsz : s.size = l.length := by rw [hs, ofL_size]
  have HS := Lib.hid hs
  have HZ := Lib.hid hsz
  have hs8 : s.size ≤ 8000 := by omega
  have h0s : 0 < s.size := by omega
  have h0i : (0 : Int) < (s.size : Int) := by omega
  have hx := at_ofL hs h0s
  rw [List.drop_zero] at hx
  obtain ⟨x, hxe⟩ : ∃ x, nxt l = x := ⟨_, rfl⟩
  rw [hxe] at hx
  have HX : Hid (∀ h : 0 < s.size, (s[0]'h).toNat = x) := fun h => hx
  have HXE := Lib.hid hxe
  have HT : Hid (RBox (w.alloc (.cells #[.int .i64 0, .string { data := #[] }, .int .i64 0, .int .i64 0] 38)) w.heap.size 0 [] 0 0) := RBox.new w
  have HB : Hid (Below w.heap.size w (w.alloc (.cells #[.int .i64 0, .string { data := #[] }, .int .i64 0, .int .i64 0] 38))) := (Below.refl _ _).alloc (Nat.le_refl _) _
  have hl8 := hl
  clear hs hsz hl hx
  cases hL : cL x with
  | true =>
    have HL := Lib.hid hL
    have hT0 := Lib.hid (show tk l = tkName l by unfold tk; rw [hxe, if_pos hL])
    have hcN : Hid (cN x = true) := by unfold Hid cN; rw [hL]; rfl
    clear hL hxe
    go_enter Try.func28, Try.ntmps28
    go_wp2_with fail
    refine (rletter_any _ _).mono ?_; rintro e w2 ⟨rfl, rfl⟩; rw [HX.out, HL.out]
    generalize hw1 : w.alloc (.cells #[.int .i64 0, .string { data := #[] }, .int .i64 0, .int .i64 0] 38) = w1 at *
    clear hw1
    go_wp2
    go_loop [5] (RnmRel l) (fun n => s.size - (intOf n).toNat)
    case atStart =>
      refine ⟨1, by omega, h1, rfl, fun i c hi hc => ?_⟩
      obtain rfl : i = 0 := by omega
      have : nxt l = c.toNat := by
        have := nxt_drop (l := l) (k := 0)
        rw [List.drop_zero, hc] at this
        exact this
      rw [← this, HXE.out]; exact hcN.out
    case round =>
      obtain ⟨j, hj1, hj, rfl, hn⟩ := hrel
      have HN := Lib.hid hn
      clear hn
      by_cases hdig : j < s.size ∧ cN (nxt (l.drop j)) = true
      · obtain ⟨hlt, hcd⟩ := hdig
        obtain ⟨c, hd, hnn, hcj⟩ := drop_cons (l := l) (k := j) (by have := HZ.out; omega)
        have hz := at_ofL HS.out hlt
        obtain ⟨y, hy⟩ : ∃ y, nxt (l.drop j) = y := ⟨_, rfl⟩
        rw [hy] at hz hcd hnn
        have HC := Lib.hid hcd
        have HCJ := Lib.hid hcj
        have HNN := Lib.hid hnn
        clear hd hnn hcj hcd hy
        go_wp2_with (refine (rinner_any _ _).mono ?_; rintro e w2 ⟨rfl, rfl⟩; rw [HC.out])
        go_round
        case rel =>
          refine ⟨j + 1, by omega, by have := HZ.out; omega, by go_num, fun i d hi hd => ?_⟩
          by_cases e : i = j
          · subst e; rw [HCJ.out] at hd; cases hd; rw [← HNN.out]; exact HC.out
          · exact HN.out i d (by omega) hd
        case measure => simp [intOf]; omega
      · have hspn : spn cN l = j := spn_eq hj HN.out fun c hc => by
          have hjl := (List.getElem?_eq_some_iff.1 hc).1
          obtain ⟨c', hd, hnn, hcj⟩ := drop_cons (l := l) (k := j) hjl
          rw [hc] at hcj; cases hcj
          cases h : cN c.toNat with
          | false => rfl
          | true => exact absurd ⟨by have := HZ.out; omega, by rw [hnn]; exact h⟩ hdig
        have hway : (¬ j < s.size) ∨ (∃ h : j < s.size, ∃ y : Nat, (s[j]'h).toNat = y ∧ Hid (cN y = false)) := by
          by_cases hlt : j < s.size
          · refine .inr ⟨hlt, nxt (l.drop j), at_ofL HS.out hlt, ?_⟩
            unfold Hid
            cases h : cN (nxt (l.drop j)) with
            | false => rfl
            | true => exact absurd ⟨hlt, h⟩ hdig
          · exact .inl hlt
        obtain ⟨d0, d1, d2, d3, f0, f1, f2, f3⟩ := HT.out.facts
        by_cases h16 : 16 < j
        · have hT := Lib.hid (show tk l = .err 6 by rw [hT0.out]; unfold tkName; rw [hspn, if_pos h16])
          clear hdig hspn
          rcases hway with hlt | ⟨hlt, y, hz, HI⟩
          all_goals
            go_wp2_with (refine (rinner_any _ _).mono ?_; rintro e w2 ⟨rfl, rfl⟩; rw [HI.out])
            refine bodyPost_ret (v := .tuple #[tokV 0 [] 0 0, .int .i64 0, .int .i64 6]) (RBox.result ((HT.out).store 0 0 0 []) Try.results28 _ rfl _ _ rfl rfl) rfl (RkPost.bad hT.out rfl ?_)
            exact ((((HB.out.setCell (Nat.le_refl _) _).setCell (Nat.le_refl _) _).setCell (Nat.le_refl _) _).setCell (Nat.le_refl _) _)
        · have hT := Lib.hid (show tk l = .ok 1 (l.take j) 0 j by rw [hT0.out]; unfold tkName; rw [hspn, if_neg h16])
          have hex := Lib.hid (show s.extract 0 j = ofL (l.take j) by rw [HS.out, ofL_extract]; simp)
          have hjs : j ≤ s.size := by have := HZ.out; omega
          clear hdig hspn
          rcases hway with hlt | ⟨hlt, y, hz, HI⟩
          all_goals
            go_wp2_with (refine (rinner_any _ _).mono ?_; rintro e w2 ⟨rfl, rfl⟩; rw [HI.out])
            rw [hex.out]
            refine bodyPost_ret (v := .tuple #[tokV 1 (l.take j) 0 0, .int .i64 (j : Int), .int .i64 0]) (RBox.result ((HT.out).store 1 0 0 (l.take j)) Try.results28 _ rfl _ _ rfl rfl) rfl (RkPost.good hT.out rfl ?_)
            exact ((((HB.out.setCell (Nat.le_refl _) _).setCell (Nat.le_refl _) _).setCell (Nat.le_refl _) _).setCell (Nat.le_refl _) _)
  | false =>
    have HL := Lib.hid hL
    cases hD : cD x with
    | true =>
      have HD := Lib.hid hD
      have hT0 := Lib.hid (show tk l = tkNum l by unfold tk; rw [hxe, if_neg (by rw [hL]; simp), if_pos hD])
      clear hL hD hxe
      go_enter Try.func28, Try.ntmps28
      go_wp2_with fail
      refine (rletter_any _ _).mono ?_; rintro e w2 ⟨rfl, rfl⟩; rw [HX.out, HL.out]
      generalize hw1 : w.alloc (.cells #[.int .i64 0, .string { data := #[] }, .int .i64 0, .int .i64 0] 38) = w1 at *
      clear hw1
      go_wp2_with fail
      refine (rdigit_any _ _).mono ?_; rintro e w2 ⟨rfl, rfl⟩; rw [HX.out, HD.out]
      go_wp2_with fail
      refine (rnumber_any s l HS.out hl8 _).mono ?_
      intro e w2 hp
      cases hk : tkNum l with
      | err z =>
        rw [hk] at hp
        obtain ⟨rfl, hb⟩ := hp
        have HT2 := Lib.hid (HT.out.below hb)
        have HB2 := Lib.hid (HB.out.trans (hb.mono HB.out.size))
        have hT := Lib.hid (hT0.out.trans hk)
        clear hb hk
        unfold tokV
        obtain ⟨d0, d1, d2, d3, f0, f1, f2, f3⟩ := HT2.out.facts
        go_wp2
        refine bodyPost_ret (v := .tuple #[tokV 0 [] 0 0, .int .i64 0, .int .i64 (z : Int)]) (RBox.result ((HT2.out).store 0 0 0 []) Try.results28 _ rfl _ _ rfl rfl) rfl (RkPost.bad hT.out rfl ?_)
        exact ((((HB2.out.setCell (Nat.le_refl _) _).setCell (Nat.le_refl _) _).setCell (Nat.le_refl _) _).setCell (Nat.le_refl _) _)
      | ok kd t v n =>
        rw [hk] at hp
        obtain ⟨rfl, hb⟩ := hp
        have HT2 := Lib.hid (HT.out.below hb)
        have HB2 := Lib.hid (HB.out.trans (hb.mono HB.out.size))
        have hT := Lib.hid (hT0.out.trans hk)
        clear hb hk
        unfold tokV
        obtain ⟨d0, d1, d2, d3, f0, f1, f2, f3⟩ := HT2.out.facts
        go_wp2
        refine bodyPost_ret (v := .tuple #[tokV kd t v 0, .int .i64 (n : Int), .int .i64 0]) (RBox.result ((HT2.out).store kd v 0 t) Try.results28 _ rfl _ _ rfl rfl) rfl (RkPost.good hT.out rfl ?_)
        exact ((((HB2.out.setCell (Nat.le_refl _) _).setCell (Nat.le_refl _) _).setCell (Nat.le_refl _) _).setCell (Nat.le_refl _) _)
    | false =>
      have HD := Lib.hid hD
      obtain ⟨d0, d1, d2, d3, f0, f1, f2, f3⟩ := HT.out.facts
      by_cases h34 : x = 34
      · have t34 : ((x : Int) == 34) = true := by rw [h34]; rfl
        have hT0 := Lib.hid (show tk l = tkText (l.drop 1) by unfold tk; rw [hxe, if_neg (by rw [hL]; simp), if_neg (by rw [hD]; simp), if_pos h34, List.drop_one])
        clear hL hD hxe h34
        cases ht : txt (l.drop 1) with
        | none =>
          have hT := Lib.hid (show tk l = .err 3 by rw [hT0.out]; unfold tkText; rw [ht])
          have HTX := Lib.hid ht
          clear ht
          go_enter Try.func28, Try.ntmps28
          go_wp2_with fail
          refine (rletter_any _ _).mono ?_; rintro e w2 ⟨rfl, rfl⟩; rw [HX.out, HL.out]
          generalize hw1 : w.alloc (.cells #[.int .i64 0, .string { data := #[] }, .int .i64 0, .int .i64 0] 38) = w1 at *
          clear hw1
          go_wp2_with fail
          refine (rdigit_any _ _).mono ?_; rintro e w2 ⟨rfl, rfl⟩; rw [HX.out, HD.out]
          have ht0 : (s[0]'h0s).toNat = x := HX.out h0s
          go_wp2_with fail
          refine (rtext_any s l HS.out hl8 _).mono ?_
          rw [HTX.out]
          rintro e w2 ⟨rfl, rfl⟩
          unfold rtR
          go_wp2
          refine bodyPost_ret (v := .tuple #[tokV 0 [] 0 0, .int .i64 0, .int .i64 3]) (RBox.result ((HT.out).store 0 0 0 []) Try.results28 _ rfl _ _ rfl rfl) rfl (RkPost.bad hT.out rfl ?_)
          exact ((((HB.out.setCell (Nat.le_refl _) _).setCell (Nat.le_refl _) _).setCell (Nat.le_refl _) _).setCell (Nat.le_refl _) _)
        | some z =>
          obtain ⟨t, n⟩ := z
          have HTX := Lib.hid ht
          obtain ⟨u, hu⟩ : ∃ u, u = ofL t := ⟨_, rfl⟩
          have hus : u.size = t.length := by rw [hu, ofL_size]
          have HU := Lib.hid hu
          have hn0 : (((n + 1 : Nat) : Int) == 0) = false := by simp; omega
          by_cases h40 : 40 < t.length
          · have hT := Lib.hid (show tk l = .err 6 by rw [hT0.out]; unfold tkText; rw [ht]; simp only [if_pos h40])
            have hu40 : 40 < u.size := by omega
            clear ht hu hus h40
            go_enter Try.func28, Try.ntmps28
            go_wp2_with fail
            refine (rletter_any _ _).mono ?_; rintro e w2 ⟨rfl, rfl⟩; rw [HX.out, HL.out]
            generalize hw1 : w.alloc (.cells #[.int .i64 0, .string { data := #[] }, .int .i64 0, .int .i64 0] 38) = w1 at *
            clear hw1
            go_wp2_with fail
            refine (rdigit_any _ _).mono ?_; rintro e w2 ⟨rfl, rfl⟩; rw [HX.out, HD.out]
            have ht0 : (s[0]'h0s).toNat = x := HX.out h0s
            go_wp2_with fail
            refine (rtext_any s l HS.out hl8 _).mono ?_
            rw [HTX.out]
            rintro e w2 ⟨rfl, rfl⟩
            unfold rtR
            simp only
            rw [← HU.out]
            obtain ⟨m, hm⟩ : ∃ m, m = n + 1 := ⟨_, rfl⟩
            rw [← hm] at hn0 ⊢
            have HM := Lib.hid hm
            clear hm
            go_wp2
            refine bodyPost_ret (v := .tuple #[tokV 0 [] 0 0, .int .i64 0, .int .i64 6]) (RBox.result ((HT.out).store 0 0 0 []) Try.results28 _ rfl _ _ rfl rfl) rfl (RkPost.bad hT.out rfl ?_)
            exact ((((HB.out.setCell (Nat.le_refl _) _).setCell (Nat.le_refl _) _).setCell (Nat.le_refl _) _).setCell (Nat.le_refl _) _)
          · have hT := Lib.hid (show tk l = .ok 3 t 0 (n + 1) by rw [hT0.out]; unfold tkText; rw [ht]; simp only [if_neg h40])
            have hu40 : ¬ 40 < u.size := by omega
            clear ht hu hus h40
            go_enter Try.func28, Try.ntmps28
            go_wp2_with fail
            refine (rletter_any _ _).mono ?_; rintro e w2 ⟨rfl, rfl⟩; rw [HX.out, HL.out]
            generalize hw1 : w.alloc (.cells #[.int .i64 0, .string { data := #[] }, .int .i64 0, .int .i64 0] 38) = w1 at *
            clear hw1
            go_wp2_with fail
            refine (rdigit_any _ _).mono ?_; rintro e w2 ⟨rfl, rfl⟩; rw [HX.out, HD.out]
            have ht0 : (s[0]'h0s).toNat = x := HX.out h0s
            go_wp2_with fail
            refine (rtext_any s l HS.out hl8 _).mono ?_
            rw [HTX.out]
            rintro e w2 ⟨rfl, rfl⟩
            unfold rtR
            simp only
            rw [← HU.out]
            obtain ⟨m, hm⟩ : ∃ m, m = n + 1 := ⟨_, rfl⟩
            rw [← hm] at hn0 ⊢
            have HM := Lib.hid hm
            clear hm
            rw [← HM.out] at hT
            go_wp2
            rw [HU.out]
            refine bodyPost_ret (v := .tuple #[tokV 3 t 0 0, .int .i64 (m : Int), .int .i64 0]) (RBox.result ((HT.out).store 3 0 0 t) Try.results28 _ rfl _ _ rfl rfl) rfl (RkPost.good hT.out rfl ?_)
            exact ((((HB.out.setCell (Nat.le_refl _) _).setCell (Nat.le_refl _) _).setCell (Nat.le_refl _) _).setCell (Nat.le_refl _) _)
      · have t34 : ((x : Int) == 34) = false := by simp; omega
        have hT0 := Lib.hid (show tk l = tkMark l by unfold tk; rw [hxe, if_neg (by rw [hL]; simp), if_neg (by rw [hD]; simp), if_neg h34])
        clear hL hD hxe h34
        obtain ⟨a, r, hl⟩ : ∃ a r, l = a :: r := by
          cases l with
          | nil => simp at h1
          | cons a r => exact ⟨a, r, rfl⟩
        have htk1 : l.take 1 = [a] := by rw [hl]; rfl
        have hex1 := Lib.hid (show s.extract 0 1 = ofL [a] by rw [HS.out, ofL_extract, List.drop_zero, htk1])
        have hs1 : 1 ≤ s.size := by omega
        cases r with
        | nil =>
          have hlen : l.length = 1 := by rw [hl]; rfl
          have h2s : ¬ 1 < s.size := by have := HZ.out; omega
          have h2i : ¬ (1 : Int) < (s.size : Int) := by omega
          cases hb : isMk [a] with
          | true =>
            have hT := Lib.hid (show tk l = .ok 4 [a] 0 1 by rw [hT0.out]; unfold tkMark; rw [htk1, if_neg (by omega), if_pos ⟨by omega, hb⟩])
            have HB1 := Lib.hid ((mk1_is a).trans hb)
            clear hb hlen htk1 hl
            go_enter Try.func28, Try.ntmps28
            go_wp2_with fail
            refine (rletter_any _ _).mono ?_; rintro e w2 ⟨rfl, rfl⟩; rw [HX.out, HL.out]
            generalize hw1 : w.alloc (.cells #[.int .i64 0, .string { data := #[] }, .int .i64 0, .int .i64 0] 38) = w1 at *
            clear hw1
            go_wp2_with fail
            refine (rdigit_any _ _).mono ?_; rintro e w2 ⟨rfl, rfl⟩; rw [HX.out, HD.out]
            have ht0 : (s[0]'h0s).toNat = x := HX.out h0s
            go_wp2_with fail
            rw [hex1.out]
            refine (in1_any _ _).mono ?_; rintro e w3 ⟨rfl, rfl⟩; rw [HB1.out]
            have HT3 := Lib.hid (HT.out.below ((Below.refl _ w1).alloc (Nat.le_refl _) (.cells #[.string { data := #[40] }, .string { data := #[41] }, .string { data := #[123] }, .string { data := #[125] }, .string { data := #[44] }, .string { data := #[59] }, .string { data := #[58] }, .string { data := #[46] }, .string { data := #[43] }, .string { data := #[45] }, .string { data := #[42] }, .string { data := #[47] }, .string { data := #[37] }, .string { data := #[60] }, .string { data := #[62] }, .string { data := #[61] }, .string { data := #[33] }] 9)))
            have HB3 := Lib.hid (HB.out.trans (((Below.refl _ w1).alloc (Nat.le_refl _) (.cells #[.string { data := #[40] }, .string { data := #[41] }, .string { data := #[123] }, .string { data := #[125] }, .string { data := #[44] }, .string { data := #[59] }, .string { data := #[58] }, .string { data := #[46] }, .string { data := #[43] }, .string { data := #[45] }, .string { data := #[42] }, .string { data := #[47] }, .string { data := #[37] }, .string { data := #[60] }, .string { data := #[62] }, .string { data := #[61] }, .string { data := #[33] }] 9)).mono HB.out.size))
            generalize w1.alloc (.cells #[.string { data := #[40] }, .string { data := #[41] }, .string { data := #[123] }, .string { data := #[125] }, .string { data := #[44] }, .string { data := #[59] }, .string { data := #[58] }, .string { data := #[46] }, .string { data := #[43] }, .string { data := #[45] }, .string { data := #[42] }, .string { data := #[47] }, .string { data := #[37] }, .string { data := #[60] }, .string { data := #[62] }, .string { data := #[61] }, .string { data := #[33] }] 9) = w3 at *
            obtain ⟨d0, d1, d2, d3, f0, f1, f2, f3⟩ := HT3.out.facts
            go_wp2
            rw [hex1.out]
            refine bodyPost_ret (v := .tuple #[tokV 4 [a] 0 0, .int .i64 1, .int .i64 0]) (RBox.result ((HT3.out).store 4 0 0 [a]) Try.results28 _ rfl _ _ rfl rfl) rfl (RkPost.good hT.out rfl ?_)
            exact ((((HB3.out.setCell (Nat.le_refl _) _).setCell (Nat.le_refl _) _).setCell (Nat.le_refl _) _).setCell (Nat.le_refl _) _)
          | false =>
            have hT := Lib.hid (show tk l = .err 3 by rw [hT0.out]; unfold tkMark; rw [htk1, if_neg (by omega), if_neg (by rw [hb]; simp)])
            have HB1 := Lib.hid ((mk1_is a).trans hb)
            clear hb hlen htk1 hl
            go_enter Try.func28, Try.ntmps28
            go_wp2_with fail
            refine (rletter_any _ _).mono ?_; rintro e w2 ⟨rfl, rfl⟩; rw [HX.out, HL.out]
            generalize hw1 : w.alloc (.cells #[.int .i64 0, .string { data := #[] }, .int .i64 0, .int .i64 0] 38) = w1 at *
            clear hw1
            go_wp2_with fail
            refine (rdigit_any _ _).mono ?_; rintro e w2 ⟨rfl, rfl⟩; rw [HX.out, HD.out]
            have ht0 : (s[0]'h0s).toNat = x := HX.out h0s
            go_wp2_with fail
            rw [hex1.out]
            refine (in1_any _ _).mono ?_; rintro e w3 ⟨rfl, rfl⟩; rw [HB1.out]
            have HT3 := Lib.hid (HT.out.below ((Below.refl _ w1).alloc (Nat.le_refl _) (.cells #[.string { data := #[40] }, .string { data := #[41] }, .string { data := #[123] }, .string { data := #[125] }, .string { data := #[44] }, .string { data := #[59] }, .string { data := #[58] }, .string { data := #[46] }, .string { data := #[43] }, .string { data := #[45] }, .string { data := #[42] }, .string { data := #[47] }, .string { data := #[37] }, .string { data := #[60] }, .string { data := #[62] }, .string { data := #[61] }, .string { data := #[33] }] 9)))
            have HB3 := Lib.hid (HB.out.trans (((Below.refl _ w1).alloc (Nat.le_refl _) (.cells #[.string { data := #[40] }, .string { data := #[41] }, .string { data := #[123] }, .string { data := #[125] }, .string { data := #[44] }, .string { data := #[59] }, .string { data := #[58] }, .string { data := #[46] }, .string { data := #[43] }, .string { data := #[45] }, .string { data := #[42] }, .string { data := #[47] }, .string { data := #[37] }, .string { data := #[60] }, .string { data := #[62] }, .string { data := #[61] }, .string { data := #[33] }] 9)).mono HB.out.size))
            generalize w1.alloc (.cells #[.string { data := #[40] }, .string { data := #[41] }, .string { data := #[123] }, .string { data := #[125] }, .string { data := #[44] }, .string { data := #[59] }, .string { data := #[58] }, .string { data := #[46] }, .string { data := #[43] }, .string { data := #[45] }, .string { data := #[42] }, .string { data := #[47] }, .string { data := #[37] }, .string { data := #[60] }, .string { data := #[62] }, .string { data := #[61] }, .string { data := #[33] }] 9) = w3 at *
            obtain ⟨d0, d1, d2, d3, f0, f1, f2, f3⟩ := HT3.out.facts
            go_wp2
            refine bodyPost_ret (v := .tuple #[tokV 0 [] 0 0, .int .i64 0, .int .i64 3]) (RBox.result ((HT3.out).store 0 0 0 []) Try.results28 _ rfl _ _ rfl rfl) rfl (RkPost.bad hT.out rfl ?_)
            exact ((((HB3.out.setCell (Nat.le_refl _) _).setCell (Nat.le_refl _) _).setCell (Nat.le_refl _) _).setCell (Nat.le_refl _) _)
        | cons b r =>
          have hlen : 2 ≤ l.length := by rw [hl]; simp
          have htk2 : l.take 2 = [a, b] := by rw [hl]; rfl
          have hex2 := Lib.hid (show s.extract 0 2 = ofL [a, b] by rw [HS.out, ofL_extract, List.drop_zero, htk2])
          have h2s : 1 < s.size := by have := HZ.out; omega
          have h2i : (1 : Int) < (s.size : Int) := by omega
          have h2l : 2 ≤ s.size := by omega
          cases hb2 : isMk [a, b] with
          | true =>
            have hT := Lib.hid (show tk l = .ok 4 [a, b] 0 2 by rw [hT0.out]; unfold tkMark; rw [htk2, if_pos ⟨by omega, hb2⟩])
            have HB2b := Lib.hid ((mk2_is a b).trans hb2)
            clear hb2 hlen htk1 htk2 hl
            go_enter Try.func28, Try.ntmps28
            go_wp2_with fail
            refine (rletter_any _ _).mono ?_; rintro e w2 ⟨rfl, rfl⟩; rw [HX.out, HL.out]
            generalize hw1 : w.alloc (.cells #[.int .i64 0, .string { data := #[] }, .int .i64 0, .int .i64 0] 38) = w1 at *
            clear hw1
            go_wp2_with fail
            refine (rdigit_any _ _).mono ?_; rintro e w2 ⟨rfl, rfl⟩; rw [HX.out, HD.out]
            have ht0 : (s[0]'h0s).toNat = x := HX.out h0s
            go_wp2_with fail
            rw [hex2.out]
            refine (in2_any _ _).mono ?_; rintro e w2 ⟨rfl, rfl⟩; rw [HB2b.out]
            have HT2 := Lib.hid (HT.out.below ((Below.refl _ w1).alloc (Nat.le_refl _) (.cells #[.string { data := #[45, 62] }, .string { data := #[46, 46] }, .string { data := #[60, 61] }, .string { data := #[62, 61] }, .string { data := #[61, 61] }, .string { data := #[33, 61] }, .string { data := #[38, 38] }, .string { data := #[124, 124] }] 9)))
            have HB2 := Lib.hid (HB.out.trans (((Below.refl _ w1).alloc (Nat.le_refl _) (.cells #[.string { data := #[45, 62] }, .string { data := #[46, 46] }, .string { data := #[60, 61] }, .string { data := #[62, 61] }, .string { data := #[61, 61] }, .string { data := #[33, 61] }, .string { data := #[38, 38] }, .string { data := #[124, 124] }] 9)).mono HB.out.size))
            generalize w1.alloc (.cells #[.string { data := #[45, 62] }, .string { data := #[46, 46] }, .string { data := #[60, 61] }, .string { data := #[62, 61] }, .string { data := #[61, 61] }, .string { data := #[33, 61] }, .string { data := #[38, 38] }, .string { data := #[124, 124] }] 9) = w2 at *
            obtain ⟨d0, d1, d2, d3, f0, f1, f2, f3⟩ := HT2.out.facts
            go_wp2
            rw [hex2.out]
            refine bodyPost_ret (v := .tuple #[tokV 4 [a, b] 0 0, .int .i64 2, .int .i64 0]) (RBox.result ((HT2.out).store 4 0 0 [a, b]) Try.results28 _ rfl _ _ rfl rfl) rfl (RkPost.good hT.out rfl ?_)
            exact ((((HB2.out.setCell (Nat.le_refl _) _).setCell (Nat.le_refl _) _).setCell (Nat.le_refl _) _).setCell (Nat.le_refl _) _)
          | false =>
            have HB2b := Lib.hid ((mk2_is a b).trans hb2)
            cases hb : isMk [a] with
            | true =>
              have hT := Lib.hid (show tk l = .ok 4 [a] 0 1 by rw [hT0.out]; unfold tkMark; rw [htk1, htk2, if_neg (by rw [hb2]; simp), if_pos ⟨by omega, hb⟩])
              have HB1 := Lib.hid ((mk1_is a).trans hb)
              clear hb hb2 hlen htk1 htk2 hl
              go_enter Try.func28, Try.ntmps28
              go_wp2_with fail
              refine (rletter_any _ _).mono ?_; rintro e w2 ⟨rfl, rfl⟩; rw [HX.out, HL.out]
              generalize hw1 : w.alloc (.cells #[.int .i64 0, .string { data := #[] }, .int .i64 0, .int .i64 0] 38) = w1 at *
              clear hw1
              go_wp2_with fail
              refine (rdigit_any _ _).mono ?_; rintro e w2 ⟨rfl, rfl⟩; rw [HX.out, HD.out]
              have ht0 : (s[0]'h0s).toNat = x := HX.out h0s
              go_wp2_with fail
              rw [hex2.out]
              refine (in2_any _ _).mono ?_; rintro e w2 ⟨rfl, rfl⟩; rw [HB2b.out]
              have HT2 := Lib.hid (HT.out.below ((Below.refl _ w1).alloc (Nat.le_refl _) (.cells #[.string { data := #[45, 62] }, .string { data := #[46, 46] }, .string { data := #[60, 61] }, .string { data := #[62, 61] }, .string { data := #[61, 61] }, .string { data := #[33, 61] }, .string { data := #[38, 38] }, .string { data := #[124, 124] }] 9)))
              have HB2 := Lib.hid (HB.out.trans (((Below.refl _ w1).alloc (Nat.le_refl _) (.cells #[.string { data := #[45, 62] }, .string { data := #[46, 46] }, .string { data := #[60, 61] }, .string { data := #[62, 61] }, .string { data := #[61, 61] }, .string { data := #[33, 61] }, .string { data := #[38, 38] }, .string { data := #[124, 124] }] 9)).mono HB.out.size))
              generalize w1.alloc (.cells #[.string { data := #[45, 62] }, .string { data := #[46, 46] }, .string { data := #[60, 61] }, .string { data := #[62, 61] }, .string { data := #[61, 61] }, .string { data := #[33, 61] }, .string { data := #[38, 38] }, .string { data := #[124, 124] }] 9) = w2 at *
              go_wp2_with fail
              rw [hex1.out]
              refine (in1_any _ _).mono ?_; rintro e w3 ⟨rfl, rfl⟩; rw [HB1.out]
              have HT3 := Lib.hid (HT2.out.below ((Below.refl _ w2).alloc (Nat.le_refl _) (.cells #[.string { data := #[40] }, .string { data := #[41] }, .string { data := #[123] }, .string { data := #[125] }, .string { data := #[44] }, .string { data := #[59] }, .string { data := #[58] }, .string { data := #[46] }, .string { data := #[43] }, .string { data := #[45] }, .string { data := #[42] }, .string { data := #[47] }, .string { data := #[37] }, .string { data := #[60] }, .string { data := #[62] }, .string { data := #[61] }, .string { data := #[33] }] 9)))
              have HB3 := Lib.hid (HB2.out.trans (((Below.refl _ w2).alloc (Nat.le_refl _) (.cells #[.string { data := #[40] }, .string { data := #[41] }, .string { data := #[123] }, .string { data := #[125] }, .string { data := #[44] }, .string { data := #[59] }, .string { data := #[58] }, .string { data := #[46] }, .string { data := #[43] }, .string { data := #[45] }, .string { data := #[42] }, .string { data := #[47] }, .string { data := #[37] }, .string { data := #[60] }, .string { data := #[62] }, .string { data := #[61] }, .string { data := #[33] }] 9)).mono HB2.out.size))
              generalize w2.alloc (.cells #[.string { data := #[40] }, .string { data := #[41] }, .string { data := #[123] }, .string { data := #[125] }, .string { data := #[44] }, .string { data := #[59] }, .string { data := #[58] }, .string { data := #[46] }, .string { data := #[43] }, .string { data := #[45] }, .string { data := #[42] }, .string { data := #[47] }, .string { data := #[37] }, .string { data := #[60] }, .string { data := #[62] }, .string { data := #[61] }, .string { data := #[33] }] 9) = w3 at *
              obtain ⟨d0, d1, d2, d3, f0, f1, f2, f3⟩ := HT3.out.facts
              go_wp2
              rw [hex1.out]
              refine bodyPost_ret (v := .tuple #[tokV 4 [a] 0 0, .int .i64 1, .int .i64 0]) (RBox.result ((HT3.out).store 4 0 0 [a]) Try.results28 _ rfl _ _ rfl rfl) rfl (RkPost.good hT.out rfl ?_)
              exact ((((HB3.out.setCell (Nat.le_refl _) _).setCell (Nat.le_refl _) _).setCell (Nat.le_refl _) _).setCell (Nat.le_refl _) _)
            | false =>
              have hT := Lib.hid (show tk l = .err 3 by rw [hT0.out]; unfold tkMark; rw [htk1, htk2, if_neg (by rw [hb2]; simp), if_neg (by rw [hb]; simp)])
              have HB1 := Lib.hid ((mk1_is a).trans hb)
              clear hb hb2 hlen htk1 htk2 hl
              go_enter Try.func28, Try.ntmps28
              go_wp2_with fail
              refine (rletter_any _ _).mono ?_; rintro e w2 ⟨rfl, rfl⟩; rw [HX.out, HL.out]
              generalize hw1 : w.alloc (.cells #[.int .i64 0, .string { data := #[] }, .int .i64 0, .int .i64 0] 38) = w1 at *
              clear hw1
              go_wp2_with fail
              refine (rdigit_any _ _).mono ?_; rintro e w2 ⟨rfl, rfl⟩; rw [HX.out, HD.out]
              have ht0 : (s[0]'h0s).toNat = x := HX.out h0s
              go_wp2_with fail
              rw [hex2.out]
              refine (in2_any _ _).mono ?_; rintro e w2 ⟨rfl, rfl⟩; rw [HB2b.out]
              have HT2 := Lib.hid (HT.out.below ((Below.refl _ w1).alloc (Nat.le_refl _) (.cells #[.string { data := #[45, 62] }, .string { data := #[46, 46] }, .string { data := #[60, 61] }, .string { data := #[62, 61] }, .string { data := #[61, 61] }, .string { data := #[33, 61] }, .string { data := #[38, 38] }, .string { data := #[124, 124] }] 9)))
              have HB2 := Lib.hid (HB.out.trans (((Below.refl _ w1).alloc (Nat.le_refl _) (.cells #[.string { data := #[45, 62] }, .string { data := #[46, 46] }, .string { data := #[60, 61] }, .string { data := #[62, 61] }, .string { data := #[61, 61] }, .string { data := #[33, 61] }, .string { data := #[38, 38] }, .string { data := #[124, 124] }] 9)).mono HB.out.size))
              generalize w1.alloc (.cells #[.string { data := #[45, 62] }, .string { data := #[46, 46] }, .string { data := #[60, 61] }, .string { data := #[62, 61] }, .string { data := #[61, 61] }, .string { data := #[33, 61] }, .string { data := #[38, 38] }, .string { data := #[124, 124] }] 9) = w2 at *
              go_wp2_with fail
              rw [hex1.out]
              refine (in1_any _ _).mono ?_; rintro e w3 ⟨rfl, rfl⟩; rw [HB1.out]
              have HT3 := Lib.hid (HT2.out.below ((Below.refl _ w2).alloc (Nat.le_refl _) (.cells #[.string { data := #[40] }, .string { data := #[41] }, .string { data := #[123] }, .string { data := #[125] }, .string { data := #[44] }, .string { data := #[59] }, .string { data := #[58] }, .string { data := #[46] }, .string { data := #[43] }, .string { data := #[45] }, .string { data := #[42] }, .string { data := #[47] }, .string { data := #[37] }, .string { data := #[60] }, .string { data := #[62] }, .string { data := #[61] }, .string { data := #[33] }] 9)))
              have HB3 := Lib.hid (HB2.out.trans (((Below.refl _ w2).alloc (Nat.le_refl _) (.cells #[.string { data := #[40] }, .string { data := #[41] }, .string { data := #[123] }, .string { data := #[125] }, .string { data := #[44] }, .string { data := #[59] }, .string { data := #[58] }, .string { data := #[46] }, .string { data := #[43] }, .string { data := #[45] }, .string { data := #[42] }, .string { data := #[47] }, .string { data := #[37] }, .string { data := #[60] }, .string { data := #[62] }, .string { data := #[61] }, .string { data := #[33] }] 9)).mono HB2.out.size))
              generalize w2.alloc (.cells #[.string { data := #[40] }, .string { data := #[41] }, .string { data := #[123] }, .string { data := #[125] }, .string { data := #[44] }, .string { data := #[59] }, .string { data := #[58] }, .string { data := #[46] }, .string { data := #[43] }, .string { data := #[45] }, .string { data := #[42] }, .string { data := #[47] }, .string { data := #[37] }, .string { data := #[60] }, .string { data := #[62] }, .string { data := #[61] }, .string { data := #[33] }] 9) = w3 at *
              obtain ⟨d0, d1, d2, d3, f0, f1, f2, f3⟩ := HT3.out.facts
              go_wp2
              refine bodyPost_ret (v := .tuple #[tokV 0 [] 0 0, .int .i64 0, .int .i64 3]) (RBox.result ((HT3.out).store 0 0 0 []) Try.results28 _ rfl _ _ rfl rfl) rfl (RkPost.bad hT.out rfl ?_)
              exact ((((HB3.out.setCell (Nat.le_refl _) _).setCell (Nat.le_refl _) _).setCell (Nat.le_refl _) _).setCell (Nat.le_refl _) _)
end Go.Proofs.Ytolanmdckdjfeaa
