/- Layer 9: the contract of the scanner's method for numbers. -/
import Derived.Test.YtolanmdckdjfeaaLexName
namespace Go.Proofs.Ytolanmdckdjfeaa
open Go.RowKit

theorem numF_le : ∀ (d : List UInt8) (v : Nat), (∀ c ∈ d, cD c.toNat = true) → numF v d + 1 ≤ (v + 1) * 10 ^ d.length
  | [], v, _ => by simp [numF]
  | c :: r, v, h => by
    have hc := h c (by simp)
    simp [cD] at hc
    have := numF_le r (10 * v + (c.toNat - 48)) fun x hx => h x (by simp [hx])
    show numF (10 * v + (c.toNat - 48)) r + 1 ≤ _
    refine Nat.le_trans this ?_
    rw [List.length_cons, Nat.pow_succ, Nat.mul_comm (10 ^ r.length) 10, ← Nat.mul_assoc]
    exact Nat.mul_le_mul_right _ (by omega)
theorem numF_snoc (d : List UInt8) (v : Nat) (c : UInt8) : numF v (d ++ [c]) = 10 * numF v d + (c.toNat - 48) := by
  unfold numF; rw [List.foldl_append]; rfl
theorem spn_digits (l : List UInt8) : ∀ c ∈ l.take (spn cD l), cD c.toNat = true := by
  intro c hc
  obtain ⟨j, hj, e⟩ := List.mem_iff_getElem.1 hc
  rw [List.getElem_take] at e
  rw [List.length_take] at hj
  exact spn_mem (l := l) (k := j) (by omega) (by rw [List.getElem?_eq_getElem (by omega), e])
section
variable {w : World} {g k : Nat} {l : List UInt8}
def NumRel (d : List UInt8) (x i : Value) : Prop := ∃ j : Nat, j ≤ d.length ∧ i = .int .i64 (j : Int) ∧ x = .int .i64 (numF 0 (d.take j) : Nat)
set_option maxRecDepth 20000 in
set_option maxHeartbeats 1000000 in
theorem number_any (h : Scn w g l k) : Calls Try.prog 48 #[.pointer (some ⟨g, 0, none⟩)] w (TokPost w g l k (tkNum (l.drop k))) := by
  obtain ⟨n, hn⟩ : ∃ n, spn cD (l.drop k) = n := ⟨_, rfl⟩
  obtain ⟨k', hk'⟩ : ∃ k', k + n = k' := ⟨_, rfl⟩
  obtain ⟨d, hd⟩ : ∃ d, d = (l.drop k).take n := ⟨_, rfl⟩
  obtain ⟨s, hs⟩ : ∃ s, s = ofL d := ⟨_, rfl⟩
  have hle := spn_le cD (l.drop k)
  rw [List.length_drop, hn] at hle
  have hdl : d.length = n := by rw [hd, List.length_take, List.length_drop]; omega
  have hsz : s.size = n := by rw [hs, ofL_size, hdl]
  have hdd : ∀ c ∈ d, cD c.toNat = true := by rw [hd, ← hn]; exact spn_digits _
  have hgt : ∀ (j : Nat) (h : j < s.size) (c : UInt8), d[j]? = some c → s[j] = c := by
    subst hs
    intro j h c hc
    rw [ofL_get d j h]
    exact (List.getElem?_eq_some_iff.1 hc).2
  have hnx : nxt ((l.drop k).drop n) = nxt (l.drop k') := by rw [List.drop_drop, hk']
  have hTk : tkNum (l.drop k) = if cN (nxt (l.drop k')) = true then .err 3 else if 6 < n ∨ (1 < n ∧ nxt (l.drop k) = 48) then .err 2 else .ok 2 [] (numF 0 d) n := by
    unfold tkNum; rw [hn, hnx, ← hd]
  have hn0 : ∀ (h : 0 < s.size), s[0].toNat = nxt (l.drop k) := by
    intro h
    cases hq : l.drop k with
    | nil =>
      have : (l.drop k).length = 0 := by rw [hq]; rfl
      rw [List.length_drop] at this; omega
    | cons c r =>
      rw [hgt 0 h c (by rw [hd, hq, List.getElem?_take, if_pos (by omega)]; rfl)]
      rfl
  have hroom := h.room
  have hlt := h.lt
  have HN := Lib.hid hn
  have HK := Lib.hid hk'
  have HSZ := Lib.hid hsz
  have HDL := Lib.hid hdl
  have HDD := Lib.hid hdd
  have HGT := Lib.hid hgt
  have HTK := Lib.hid hTk
  have HN0 := Lib.hid hn0
  have HSS := Lib.hid hs
  have HDS := Lib.hid hd
  clear hn hk' hd hdl hgt hn0 hsz hdd hnx hTk hs
  have H := Lib.hid h; clear h
  cases hc : cN (nxt (l.drop k')) with
  | true =>
    have HC := Lib.hid hc; clear hc
    have hT := Lib.hid (show tkNum (l.drop k) = .err 3 by rw [HTK.out, HC.out]; rfl)
    go_enter Try.func48, Try.ntmps48
    go_wp2_with fail
    refine (take_any _ _ sort_digit ent_digit (H.out.alloc _) n k' HN.out HK.out).mono ?_; rintro e w1 ⟨rfl, S1, O1⟩
    have HT := Lib.hid ((TBox.new w).keep O1 (by omega))
    have HS := Lib.hid S1
    have HO := Lib.hid O1
    clear S1 O1
    rw [← HDS.out, ← HSS.out]
    go_wp2_with fail
    refine (next_any HS.out).mono ?_; rintro e w2 ⟨rfl, m, rfl⟩
    go_wp2_with fail
    refine (isNamePart_any _ _).mono ?_; rintro e w2 ⟨rfl, rfl⟩; rw [HC.out]
    have HT2 : Hid (TBox (w1.drewN m) w.heap.size 0 [] 0 0) := HT.out
    obtain ⟨d0, d1, d2, d3, f0, f1, f2, f3⟩ := HT2.out.facts
    go_wp2
    refine bodyPost_ret (v := .tuple #[tokV 0 [] 0 0, .int .i64 3]) (TBox.result ((HT2.out).store 0 0 0 []) Try.results48 _ rfl _ rfl) rfl (TokPost.bad hT.out rfl ?_)
    exact ((((((((Only.refl g w).alloc _).trans HO.out).drewN m).own (Nat.le_refl _) _ _).own (Nat.le_refl _) _ _).own (Nat.le_refl _) _ _).own (Nat.le_refl _) _ _)
  | false =>
    have HC := Lib.hid hc; clear hc
    by_cases h6 : 6 < s.size
    · have hT := Lib.hid (show tkNum (l.drop k) = .err 2 by rw [HTK.out, HC.out, if_neg (by simp), if_pos (.inl (by have := HSZ.out; omega))])
      go_enter Try.func48, Try.ntmps48
      go_wp2_with fail
      refine (take_any _ _ sort_digit ent_digit (H.out.alloc _) n k' HN.out HK.out).mono ?_; rintro e w1 ⟨rfl, S1, O1⟩
      have HT := Lib.hid ((TBox.new w).keep O1 (by omega))
      have HS := Lib.hid S1
      have HO := Lib.hid O1
      clear S1 O1
      rw [← HDS.out, ← HSS.out]
      go_wp2_with fail
      refine (next_any HS.out).mono ?_; rintro e w2 ⟨rfl, m, rfl⟩
      go_wp2_with fail
      refine (isNamePart_any _ _).mono ?_; rintro e w2 ⟨rfl, rfl⟩; rw [HC.out]
      have HT2 : Hid (TBox (w1.drewN m) w.heap.size 0 [] 0 0) := HT.out
      have HO2 : Hid (Only g w (w1.drewN m)) := (((Only.refl g w).alloc _).trans HO.out).drewN m
      have HS2 : Hid (Scn (w1.drewN m) g l k') := HS.out.drewN m
      generalize hw2 : w1.drewN m = w2 at *
      clear hw2 HT HS HO
      obtain ⟨d0, d1, d2, d3, f0, f1, f2, f3⟩ := HT2.out.facts
      go_wp2
      refine bodyPost_ret (v := .tuple #[tokV 0 [] 0 0, .int .i64 2]) (TBox.result ((HT2.out).store 0 0 0 []) Try.results48 _ rfl _ rfl) rfl (TokPost.bad hT.out rfl ?_)
      exact ((((HO2.out.own (Nat.le_refl _) _ _).own (Nat.le_refl _) _ _).own (Nat.le_refl _) _ _).own (Nat.le_refl _) _ _)
    · by_cases h1 : 1 < s.size ∧ nxt (l.drop k) = 48
      · have hT := Lib.hid (show tkNum (l.drop k) = .err 2 by rw [HTK.out, HC.out, if_neg (by simp), if_pos (.inr ⟨by have := HSZ.out; omega, h1.2⟩)])
        obtain ⟨h1, h48⟩ := h1
        have t48 : ((s[0].toNat : Int) == 48) = true := by rw [HN0.out (by omega), h48]; rfl
        clear h48
        go_enter Try.func48, Try.ntmps48
        go_wp2_with fail
        refine (take_any _ _ sort_digit ent_digit (H.out.alloc _) n k' HN.out HK.out).mono ?_; rintro e w1 ⟨rfl, S1, O1⟩
        have HT := Lib.hid ((TBox.new w).keep O1 (by omega))
        have HS := Lib.hid S1
        have HO := Lib.hid O1
        clear S1 O1
        rw [← HDS.out, ← HSS.out]
        go_wp2_with fail
        refine (next_any HS.out).mono ?_; rintro e w2 ⟨rfl, m, rfl⟩
        go_wp2_with fail
        refine (isNamePart_any _ _).mono ?_; rintro e w2 ⟨rfl, rfl⟩; rw [HC.out]
        have HT2 : Hid (TBox (w1.drewN m) w.heap.size 0 [] 0 0) := HT.out
        have HO2 : Hid (Only g w (w1.drewN m)) := (((Only.refl g w).alloc _).trans HO.out).drewN m
        have HS2 : Hid (Scn (w1.drewN m) g l k') := HS.out.drewN m
        generalize hw2 : w1.drewN m = w2 at *
        clear hw2 HT HS HO
        obtain ⟨d0, d1, d2, d3, f0, f1, f2, f3⟩ := HT2.out.facts
        go_wp2
        refine bodyPost_ret (v := .tuple #[tokV 0 [] 0 0, .int .i64 2]) (TBox.result ((HT2.out).store 0 0 0 []) Try.results48 _ rfl _ rfl) rfl (TokPost.bad hT.out rfl ?_)
        exact ((((HO2.out.own (Nat.le_refl _) _ _).own (Nat.le_refl _) _ _).own (Nat.le_refl _) _ _).own (Nat.le_refl _) _ _)
      · have hT := Lib.hid (show tkNum (l.drop k) = .ok 2 [] (numF 0 d) n by rw [HTK.out, HC.out, if_neg (by simp), if_neg (by have := HSZ.out; omega)])
        have hcase : (¬ 1 < s.size) ∨ (1 < s.size ∧ ∃ h : 0 < s.size, ((s[0].toNat : Int) == 48) = false) := by
          by_cases h2 : 1 < s.size
          · exact .inr ⟨h2, by omega, by rw [HN0.out (by omega)]; simp; omega⟩
          · exact .inl h2
        clear h1
        rcases hcase with h1 | ⟨h1, h0, t48⟩
        all_goals
          go_enter Try.func48, Try.ntmps48
          go_wp2_with fail
          refine (take_any _ _ sort_digit ent_digit (H.out.alloc _) n k' HN.out HK.out).mono ?_; rintro e w1 ⟨rfl, S1, O1⟩
          have HT := Lib.hid ((TBox.new w).keep O1 (by omega))
          have HS := Lib.hid S1
          have HO := Lib.hid O1
          clear S1 O1
          rw [← HDS.out, ← HSS.out]
          go_wp2_with fail
          refine (next_any HS.out).mono ?_; rintro e w2 ⟨rfl, m, rfl⟩
          go_wp2_with fail
          refine (isNamePart_any _ _).mono ?_; rintro e w2 ⟨rfl, rfl⟩; rw [HC.out]
          have HT2 : Hid (TBox (w1.drewN m) w.heap.size 0 [] 0 0) := HT.out
          have HO2 : Hid (Only g w (w1.drewN m)) := (((Only.refl g w).alloc _).trans HO.out).drewN m
          have HS2 : Hid (Scn (w1.drewN m) g l k') := HS.out.drewN m
          generalize hw2 : w1.drewN m = w2 at *
          clear hw2 HT HS HO
          obtain ⟨d0, d1, d2, d3, f0, f1, f2, f3⟩ := HT2.out.facts
          go_wp2
          go_loop [5, 29] (fun x i => NumRel d x i) (fun _ i => n - (intOf i).toNat)
          case atStart => exact ⟨0, by omega, rfl, rfl⟩
          case round =>
            obtain ⟨j, hj, rfl, rfl⟩ := hrel
            by_cases hjn : j < s.size
            · obtain ⟨c, hcj⟩ : ∃ c, d[j]? = some c := ⟨d[j]'(by have := HSZ.out; have := HDL.out; omega), List.getElem?_eq_getElem _⟩
              have hsj := HGT.out j hjn c hcj
              have hcd := HDD.out c (List.mem_of_getElem? hcj)
              have hb1 : 48 ≤ s[j].toNat ∧ s[j].toNat ≤ 57 := by rw [hsj]; simpa [cD] using hcd
              have hb2 := numF_le (d.take j) 0 fun x hx => HDD.out x (List.mem_of_mem_take hx)
              have hb3 : numF 0 (d.take j) + 1 ≤ 10 ^ 6 := by
                refine Nat.le_trans (by simpa using hb2) (Nat.pow_le_pow_right (by omega) ?_)
                have := HSZ.out; have := HDL.out; omega
              have hstep : Hid (numF 0 (d.take (j + 1)) = 10 * numF 0 (d.take j) + (s[j].toNat - 48)) := by
                have e : d.take (j + 1) = d.take j ++ [c] := by rw [List.take_add_one, hcj]; rfl
                unfold Hid
                rw [e, numF_snoc, hsj]
              clear hb2 hcd hcj hsj
              obtain ⟨x, hx⟩ : ∃ x, x = numF 0 (d.take j) := ⟨_, rfl⟩
              rw [← hx] at hb3 hstep ⊢
              have HX := Lib.hid hx; clear hx
              have hb4 : x ≤ 1000000 := by omega
              clear hb3
              obtain ⟨hb5, hb6⟩ := hb1
              go_wp2
              go_round
              case rel => 
                refine ⟨j + 1, by have := HSZ.out; have := HDL.out; omega, by go_num, ?_⟩
                rw [hstep.out]
                go_num
              case measure => have := HSZ.out; simp [intOf]; omega
            · have hjd : d.take j = d := List.take_of_length_le (by have := HSZ.out; have := HDL.out; omega)
              rw [hjd]
              go_wp2
              refine bodyPost_ret (v := .tuple #[tokV 2 [] (numF 0 d) 0, .int .i64 0]) (TBox.result ((HT2.out).store 2 (numF 0 d) 0 []) Try.results48 _ rfl _ rfl) rfl (TokPost.good hT.out rfl ?_ ?_)
              · rw [HK.out]
                exact (((HS2.out.other (by omega)).other (by omega)).other (by omega)).other (by omega)
              · exact ((((HO2.out.own (Nat.le_refl _) _ _).own (Nat.le_refl _) _ _).own (Nat.le_refl _) _ _).own (Nat.le_refl _) _ _)
end
end Go.Proofs.Ytolanmdckdjfeaa
