/- Layer 9: the contract of the scanner's method for numbers. -/
import Derived.Test.YtekpefcggikcbaaGreatDoorMSynD
import Derived.Deep.LoopGhost
namespace Go.Proofs.YtekpefcggikcbaaGreatDoor
/- Layer 9: the contract of the scanner's method for numbers. -/
open Go.RowKit

theorem numF_le : ∀ (d : List UInt8) (v : Nat), (∀ c ∈ d, cD c.toNat = true) → numF v d + 1 ≤ (v + 1) * 10 ^ d.length
 | [], v, _ => by simp [numF]
 | c :: r, v, h => by
  have hc := h c (by simp)
  simp [cD] at hc
  have := numF_le r (10 * v + (c.toNat - 48)) fun x hx => h x (by simp [hx])
  show numF (10 * v + (c.toNat - 48)) r + 1 ≤ _
  refine Nat.le_trans this ?_
  rw [List.length_cons, Nat.pow_succ, Nat.mul_comm (10 ^ r.length) 10, ← Nat.mul_assoc]
  exact Nat.mul_le_mul_right _ (by omega)
theorem numF_snoc (d : List UInt8) (v : Nat) (c : UInt8) : numF v (d ++ [c]) = 10 * numF v d + (c.toNat - 48) := by
 unfold numF; rw [List.foldl_append]; rfl
theorem spn_digits (l : List UInt8) : ∀ c ∈ l.take (spn cD l), cD c.toNat = true := by
 intro c hc
 obtain ⟨j, hj, e⟩ := List.mem_iff_getElem.1 hc
 rw [List.getElem_take] at e
 rw [List.length_take] at hj
 exact spn_mem (l := l) (k := j) (by omega) (by rw [List.getElem?_eq_getElem (by omega), e])
section
variable {w : World} {g k : Nat} {l : List UInt8}
def NumRel (d : List UInt8) (x i : Value) : Prop := ∃ j : Nat, j ≤ d.length ∧ i = .int .i64 (j : Int) ∧ x = .int .i64 (numF 0 (d.take j) : Nat)
set_option maxRecDepth 20000 in
set_option maxHeartbeats 1000000 in
theorem number_any (h : Scn w g l k) : Calls Tryz.prog 117 #[.pointer (some ⟨g, 0, none⟩)] w (TokPost w g l k (tkNum (l.drop k))) := by
 obtain ⟨n, hn⟩ : ∃ n, spn cD (l.drop k) = n := ⟨_, rfl⟩
 obtain ⟨k', hk'⟩ : ∃ k', k + n = k' := ⟨_, rfl⟩
 obtain ⟨d, hd⟩ : ∃ d, d = (l.drop k).take n := ⟨_, rfl⟩
 obtain ⟨s, hs⟩ : ∃ s, s = ofL d := ⟨_, rfl⟩
 have hle := spn_le cD (l.drop k)
 rw [List.length_drop, hn] at hle
 have hdl : d.length = n := by rw [hd, List.length_take, List.length_drop]; omega
 have hsz : s.size = n := by rw [hs, ofL_size, hdl]
 have hdd : ∀ c ∈ d, cD c.toNat = true := by rw [hd, ← hn]; exact spn_digits _
 have hgt : ∀ (j : Nat) (h : j < s.size) (c : UInt8), d[j]? = some c → s[j] = c := by
  subst hs
  intro j h c hc
  rw [ofL_get d j h]
  exact (List.getElem?_eq_some_iff.1 hc).2
 have hnx : nxt ((l.drop k).drop n) = nxt (l.drop k') := by rw [List.drop_drop, hk']
 have hTk : tkNum (l.drop k) = if cN (nxt (l.drop k')) = true then .err 3 else if 6 < n ∨ (1 < n ∧ nxt (l.drop k) = 48) then .err 2 else .ok 2 [] (numF 0 d) n := by
  unfold tkNum; rw [hn, hnx, ← hd]
 have hn0 : ∀ (h : 0 < s.size), s[0].toNat = nxt (l.drop k) := by
  intro h
  cases hq : l.drop k with
  | nil =>
   have : (l.drop k).length = 0 := by rw [hq]; rfl
   rw [List.length_drop] at this; omega
  | cons c r =>
   rw [hgt 0 h c (by rw [hd, hq, List.getElem?_take, if_pos (by omega)]; rfl)]
   rfl
 have hroom := h.room
 have hlt := h.lt
 have HN := Lib.hid hn
 have HK := Lib.hid hk'
 have HSZ := Lib.hid hsz
 have HDL := Lib.hid hdl
 have HDD := Lib.hid hdd
 have HGT := Lib.hid hgt
 have HTK := Lib.hid hTk
 have HN0 := Lib.hid hn0
 have HSS := Lib.hid hs
 have HDS := Lib.hid hd
 clear hn hk' hd hdl hgt hn0 hsz hdd hnx hTk hs
 have H := Lib.hid h; clear h
 cases hc : cN (nxt (l.drop k')) with
 | true =>
  have HC := Lib.hid hc; clear hc
  have hT := Lib.hid (show tkNum (l.drop k) = .err 3 by rw [HTK.out, HC.out]; rfl)
  go_enter Tryz.func117, Tryz.ntmps117
  go_wp2_with fail
  refine (take_any _ _ sort_digit ent_digit (H.out.alloc _) n k' HN.out HK.out).mono ?_; rintro e w1 ⟨rfl, S1, O1⟩
  have HT := Lib.hid ((TBox.new w).keep O1 (by omega))
  have HS := Lib.hid S1
  have HO := Lib.hid O1
  clear S1 O1
  rw [← HDS.out, ← HSS.out]
  go_wp2_with fail
  refine (next_any HS.out).mono ?_; rintro e w2 ⟨rfl, m, rfl⟩
  go_wp2_with fail
  refine (isNamePart_any _ _).mono ?_; rintro e w2 ⟨rfl, rfl⟩; rw [HC.out]
  have HT2 : Hid (TBox (w1.drewN m) w.heap.size 0 [] 0 0) := HT.out
  obtain ⟨d0, d1, d2, d3, f0, f1, f2, f3⟩ := HT2.out.facts
  go_wp2
  refine bodyPost_ret (v := .tuple #[tokV 0 [] 0 0, .int .i64 3]) (TBox.result ((HT2.out).store 0 0 0 []) Tryz.results117 _ rfl _ rfl) rfl (TokPost.bad hT.out rfl ?_)
  exact ((((((((Only.refl g w).alloc _).trans HO.out).drewN m).own (Nat.le_refl _) _ _).own (Nat.le_refl _) _ _).own (Nat.le_refl _) _ _).own (Nat.le_refl _) _ _)
 | false =>
  have HC := Lib.hid hc; clear hc
  by_cases h6 : 6 < s.size
  ·have hT := Lib.hid (show tkNum (l.drop k) = .err 2 by rw [HTK.out, HC.out, if_neg (by simp), if_pos (.inl (by have := HSZ.out; omega))])
   go_enter Tryz.func117, Tryz.ntmps117
   go_wp2_with fail
   refine (take_any _ _ sort_digit ent_digit (H.out.alloc _) n k' HN.out HK.out).mono ?_; rintro e w1 ⟨rfl, S1, O1⟩
   have HT := Lib.hid ((TBox.new w).keep O1 (by omega))
   have HS := Lib.hid S1
   have HO := Lib.hid O1
   clear S1 O1
   rw [← HDS.out, ← HSS.out]
   go_wp2_with fail
   refine (next_any HS.out).mono ?_; rintro e w2 ⟨rfl, m, rfl⟩
   go_wp2_with fail
   refine (isNamePart_any _ _).mono ?_; rintro e w2 ⟨rfl, rfl⟩; rw [HC.out]
   have HT2 : Hid (TBox (w1.drewN m) w.heap.size 0 [] 0 0) := HT.out
   have HO2 : Hid (Only g w (w1.drewN m)) := (((Only.refl g w).alloc _).trans HO.out).drewN m
   have HS2 : Hid (Scn (w1.drewN m) g l k') := HS.out.drewN m
   generalize hw2 : w1.drewN m = w2 at *
   clear hw2 HT HS HO
   obtain ⟨d0, d1, d2, d3, f0, f1, f2, f3⟩ := HT2.out.facts
   go_wp2
   refine bodyPost_ret (v := .tuple #[tokV 0 [] 0 0, .int .i64 2]) (TBox.result ((HT2.out).store 0 0 0 []) Tryz.results117 _ rfl _ rfl) rfl (TokPost.bad hT.out rfl ?_)
   exact ((((HO2.out.own (Nat.le_refl _) _ _).own (Nat.le_refl _) _ _).own (Nat.le_refl _) _ _).own (Nat.le_refl _) _ _)
  ·by_cases h1 : 1 < s.size ∧ nxt (l.drop k) = 48
   ·have hT := Lib.hid (show tkNum (l.drop k) = .err 2 by rw [HTK.out, HC.out, if_neg (by simp), if_pos (.inr ⟨by have := HSZ.out; omega, h1.2⟩)])
    obtain ⟨h1, h48⟩ := h1
    have t48 : ((s[0].toNat : Int) == 48) = true := by rw [HN0.out (by omega), h48]; rfl
    clear h48
    go_enter Tryz.func117, Tryz.ntmps117
    go_wp2_with fail
    refine (take_any _ _ sort_digit ent_digit (H.out.alloc _) n k' HN.out HK.out).mono ?_; rintro e w1 ⟨rfl, S1, O1⟩
    have HT := Lib.hid ((TBox.new w).keep O1 (by omega))
    have HS := Lib.hid S1
    have HO := Lib.hid O1
    clear S1 O1
    rw [← HDS.out, ← HSS.out]
    go_wp2_with fail
    refine (next_any HS.out).mono ?_; rintro e w2 ⟨rfl, m, rfl⟩
    go_wp2_with fail
    refine (isNamePart_any _ _).mono ?_; rintro e w2 ⟨rfl, rfl⟩; rw [HC.out]
    have HT2 : Hid (TBox (w1.drewN m) w.heap.size 0 [] 0 0) := HT.out
    have HO2 : Hid (Only g w (w1.drewN m)) := (((Only.refl g w).alloc _).trans HO.out).drewN m
    have HS2 : Hid (Scn (w1.drewN m) g l k') := HS.out.drewN m
    generalize hw2 : w1.drewN m = w2 at *
    clear hw2 HT HS HO
    obtain ⟨d0, d1, d2, d3, f0, f1, f2, f3⟩ := HT2.out.facts
    go_wp2
    refine bodyPost_ret (v := .tuple #[tokV 0 [] 0 0, .int .i64 2]) (TBox.result ((HT2.out).store 0 0 0 []) Tryz.results117 _ rfl _ rfl) rfl (TokPost.bad hT.out rfl ?_)
    exact ((((HO2.out.own (Nat.le_refl _) _ _).own (Nat.le_refl _) _ _).own (Nat.le_refl _) _ _).own (Nat.le_refl _) _ _)
   ·have hT := Lib.hid (show tkNum (l.drop k) = .ok 2 [] (numF 0 d) n by rw [HTK.out, HC.out, if_neg (by simp), if_neg (by have := HSZ.out; omega)])
    have hcase : (¬ 1 < s.size) ∨ (1 < s.size ∧ ∃ h : 0 < s.size, ((s[0].toNat : Int) == 48) = false) := by
     by_cases h2 : 1 < s.size
     ·exact .inr ⟨h2, by omega, by rw [HN0.out (by omega)]; simp; omega⟩
     ·exact .inl h2
    clear h1
    rcases hcase with h1 | ⟨h1, h0, t48⟩
    all_goals
     go_enter Tryz.func117, Tryz.ntmps117
     go_wp2_with fail
     refine (take_any _ _ sort_digit ent_digit (H.out.alloc _) n k' HN.out HK.out).mono ?_; rintro e w1 ⟨rfl, S1, O1⟩
     have HT := Lib.hid ((TBox.new w).keep O1 (by omega))
     have HS := Lib.hid S1
     have HO := Lib.hid O1
     clear S1 O1
     rw [← HDS.out, ← HSS.out]
     go_wp2_with fail
     refine (next_any HS.out).mono ?_; rintro e w2 ⟨rfl, m, rfl⟩
     go_wp2_with fail
     refine (isNamePart_any _ _).mono ?_; rintro e w2 ⟨rfl, rfl⟩; rw [HC.out]
     have HT2 : Hid (TBox (w1.drewN m) w.heap.size 0 [] 0 0) := HT.out
     have HO2 : Hid (Only g w (w1.drewN m)) := (((Only.refl g w).alloc _).trans HO.out).drewN m
     have HS2 : Hid (Scn (w1.drewN m) g l k') := HS.out.drewN m
     generalize hw2 : w1.drewN m = w2 at *
     clear hw2 HT HS HO
     obtain ⟨d0, d1, d2, d3, f0, f1, f2, f3⟩ := HT2.out.facts
     go_wp2
     go_loop [5, 29] (fun x i => NumRel d x i) (fun _ i => n - (intOf i).toNat)
     case atStart => exact ⟨0, by omega, rfl, rfl⟩
     case round =>
      obtain ⟨j, hj, rfl, rfl⟩ := hrel
      by_cases hjn : j < s.size
      ·obtain ⟨c, hcj⟩ : ∃ c, d[j]? = some c := ⟨d[j]'(by have := HSZ.out; have := HDL.out; omega), List.getElem?_eq_getElem _⟩
       have hsj := HGT.out j hjn c hcj
       have hcd := HDD.out c (List.mem_of_getElem? hcj)
       have hb1 : 48 ≤ s[j].toNat ∧ s[j].toNat ≤ 57 := by rw [hsj]; simpa [cD] using hcd
       have hb2 := numF_le (d.take j) 0 fun x hx => HDD.out x (List.mem_of_mem_take hx)
       have hb3 : numF 0 (d.take j) + 1 ≤ 10 ^ 6 := by
        refine Nat.le_trans (by simpa using hb2) (Nat.pow_le_pow_right (by omega) ?_)
        have := HSZ.out; have := HDL.out; omega
       have hstep : Hid (numF 0 (d.take (j + 1)) = 10 * numF 0 (d.take j) + (s[j].toNat - 48)) := by
        have e : d.take (j + 1) = d.take j ++ [c] := by rw [List.take_add_one, hcj]; rfl
        unfold Hid
        rw [e, numF_snoc, hsj]
       clear hb2 hcd hcj hsj
       obtain ⟨x, hx⟩ : ∃ x, x = numF 0 (d.take j) := ⟨_, rfl⟩
       rw [← hx] at hb3 hstep ⊢
       have HX := Lib.hid hx; clear hx
       have hb4 : x ≤ 1000000 := by omega
       clear hb3
       obtain ⟨hb5, hb6⟩ := hb1
       go_wp2
       go_round
       case rel => 
        refine ⟨j + 1, by have := HSZ.out; have := HDL.out; omega, by go_num, ?_⟩
        rw [hstep.out]
        go_num
       case measure => have := HSZ.out; simp [intOf]; omega
      ·have hjd : d.take j = d := List.take_of_length_le (by have := HSZ.out; have := HDL.out; omega)
       rw [hjd]
       go_wp2
       refine bodyPost_ret (v := .tuple #[tokV 2 [] (numF 0 d) 0, .int .i64 0]) (TBox.result ((HT2.out).store 2 (numF 0 d) 0 []) Tryz.results117 _ rfl _ rfl) rfl (TokPost.good hT.out rfl ?_ ?_)
       ·rw [HK.out]
        exact (((HS2.out.other (by omega)).other (by omega)).other (by omega)).other (by omega)
       ·exact ((((HO2.out.own (Nat.le_refl _) _ _).own (Nat.le_refl _) _ _).own (Nat.le_refl _) _ _).own (Nat.le_refl _) _ _)
end
/- Layer 9: the contracts of isMark and of the scanner's method for marks. -/
open Go.RowKit

set_option maxRecDepth 20000 in
set_option maxHeartbeats 1000000 in
theorem isMark_s (s : ByteArray) (w : World) : Calls Tryz.prog 175 #[.string s] w (BoolIs (isMk s.toList) w) := by
 go_enter Tryz.func175, Tryz.ntmps175
 go_wp2
 all_goals
  go_ret
  refine BoolIs.mk ?_
  simp_all [isMk, marks]
theorem isMark_any (l : List UInt8) (w : World) : Calls Tryz.prog 175 #[.string (ofL l)] w (BoolIs (isMk l) w) := by
 have := isMark_s (ofL l) w
 rwa [ofL_toList] at this
theorem mark_found {r : List UInt8} {m j : Nat} (hm : m = min 2 r.length) (h1 : 1 ≤ j) (h2 : j ≤ m) (hj : isMk (r.take j) = true) (hn : ∀ i, j < i → i ≤ m → isMk (r.take i) = false) : tkMark r = .ok 4 (r.take j) 0 j := by
 unfold tkMark
 by_cases e : j = 2
 ·subst e
  rw [if_pos ⟨by omega, hj⟩]
 ·have e1 : j = 1 := by omega
  subst e1
  rw [if_neg, if_pos ⟨by omega, hj⟩]
  rintro ⟨h3, h4⟩
  rw [hn 2 (by omega) (by omega)] at h4
  cases h4
theorem mark_none {r : List UInt8} {m : Nat} (hm : m = min 2 r.length) (hn : ∀ i, 0 < i → i ≤ m → isMk (r.take i) = false) : tkMark r = .err 3 := by
 unfold tkMark
 rw [if_neg, if_neg]
 ·rintro ⟨h3, h4⟩
  rw [hn 1 (by omega) (by omega)] at h4
  cases h4
 ·rintro ⟨h3, h4⟩
  rw [hn 2 (by omega) (by omega)] at h4
  cases h4
def MkRel (r : List UInt8) (m : Nat) (v : Value) : Prop := ∃ j : Nat, j ≤ m ∧ v = .int .i64 (j : Int) ∧ ∀ i, j < i → i ≤ m → isMk (r.take i) = false
section
variable {w : World} {g k : Nat} {l : List UInt8}
set_option maxRecDepth 20000 in
set_option maxHeartbeats 1000000 in
theorem mark_any (h : Scn w g l k) : Calls Tryz.prog 119 #[.pointer (some ⟨g, 0, none⟩)] w (TokPost w g l k (tkMark (l.drop k))) := by
 obtain ⟨r, hr⟩ : ∃ r, l.drop k = r := ⟨_, rfl⟩
 obtain ⟨m, hm⟩ : ∃ m, m = min 2 r.length := ⟨_, rfl⟩
 obtain ⟨s, hs⟩ : ∃ s, s = ofL r := ⟨_, rfl⟩
 have hsz : s.size = r.length := by rw [hs, ofL_size]
 have hrl : r.length = l.length - k := by rw [← hr, List.length_drop]
 have hroom := h.room
 have hoff := h.off
 have hlt := h.lt
 have hmi : min (2 : Int) (s.size : Int) = (m : Int) := by omega
 have hms : m ≤ s.size := by omega
 have hkm : k + m ≤ l.length := by omega
 have hm2 : m ≤ 2 := by omega
 have HR := Lib.hid hr
 have HM := Lib.hid hm
 have HS := Lib.hid hs
 clear hr hm hs hrl hsz
 have H := Lib.hid h; clear h
 rw [HR.out]
 go_enter Tryz.func119, Tryz.ntmps119
 go_wp2_with fail
 refine (rest_any (H.out.alloc _)).mono ?_; rintro e w1 ⟨rfl, q, rfl⟩
 rw [HR.out, ← HS.out]
 have HT : Hid (TBox ((w.alloc (.cells #[.int .i64 0, .string ⟨#[]⟩, .int .i64 0, .int .i64 0] 48)).drewN q) w.heap.size 0 [] 0 0) := TBox.new w
 have HO : Hid (Only g w ((w.alloc (.cells #[.int .i64 0, .string ⟨#[]⟩, .int .i64 0, .int .i64 0] 48)).drewN q)) := (((Only.refl g w).alloc _).drewN q)
 have HC : Hid (Scn ((w.alloc (.cells #[.int .i64 0, .string ⟨#[]⟩, .int .i64 0, .int .i64 0] 48)).drewN q) g l k) := ((H.out.alloc _).drewN q)
 generalize hw1 : (w.alloc (.cells #[.int .i64 0, .string ⟨#[]⟩, .int .i64 0, .int .i64 0] 48)).drewN q = w1 at *
 clear hw1 H
 go_wp2
 all_goals
  go_loop [5, 6] (fun v _ => MkRel r m v) (fun v _ => (intOf v).toNat)
  case atStart => exact ⟨m, Nat.le_refl _, by congr 1; omega, fun i h1 h2 => by omega⟩
  case round =>
   obtain ⟨j, hj, rfl, hn⟩ := hrel
   have HN := Lib.hid hn; clear hn
   by_cases h0 : 0 < j
   ·have he : Hid (s.extract 0 j = ofL (r.take j)) := by unfold Hid; rw [HS.out, ofL_extract]; simp
    have hjs : j ≤ s.size := by omega
    cases hb : isMk (r.take j) with
    | true =>
     have HB := Lib.hid hb; clear hb
     have hT := Lib.hid (mark_found HM.out h0 hj HB.out HN.out)
     obtain ⟨d0, d1, d2, d3, f0, f1, f2, f3⟩ := HT.out.facts
     have c1 := HC.out.cell 1
     have e1 := HC.out.free 1
     have hS2 := Lib.hid (HC.out.go (k + j) (by omega))
     have hO2 := Lib.hid (HO.out.set 1 (.int .i64 ((k + j : Nat) : Int)))
     have hT2 := Lib.hid (HT.out.keep ((Only.refl g w1).set 1 (.int .i64 ((k + j : Nat) : Int))) (by omega))
     have hkj : (k : Int) + (j : Int) ≤ 8000 := by omega
     have ecast : Hid ((k : Int) + (j : Int) = ((k + j : Nat) : Int)) := by unfold Hid; omega
     go_wp2_with fail
     rw [he.out]
     refine (isMark_any _ _).mono ?_; rintro e w2 ⟨rfl, rfl⟩; rw [HB.out]
     go_wp2_with fail
     rw [ecast.out]
     refine bodyPost_ret (v := .tuple #[tokV 4 (r.take j) 0 0, .int .i64 0]) (TBox.result ((hT2.out).store 4 0 0 (r.take j)) Tryz.results119 _ rfl _ rfl) rfl (TokPost.good hT.out rfl ?_ ?_)
     ·exact (((hS2.out.other (by omega)).other (by omega)).other (by omega)).other (by omega)
     ·exact ((((hO2.out.own (Nat.le_refl _) _ _).own (Nat.le_refl _) _ _).own (Nat.le_refl _) _ _).own (Nat.le_refl _) _ _)
    | false =>
     have HB := Lib.hid hb; clear hb
     go_wp2_with fail
     rw [he.out]
     refine (isMark_any _ _).mono ?_; rintro e w2 ⟨rfl, rfl⟩; rw [HB.out]
     go_wp2
     go_round
     case rel => 
      refine ⟨j - 1, by omega, by congr 1; omega, fun i h1 h2 => ?_⟩
      by_cases e : i = j
      ·subst e; exact HB.out
      ·exact HN.out i (by omega) h2
     case measure => simp [intOf]; omega
   ·have hT := Lib.hid (mark_none HM.out fun i h1 h2 => HN.out i (by omega) h2)
    obtain ⟨d0, d1, d2, d3, f0, f1, f2, f3⟩ := HT.out.facts
    go_wp2
    refine bodyPost_ret (v := .tuple #[tokV 0 [] 0 0, .int .i64 3]) (TBox.result ((HT.out).store 0 0 0 []) Tryz.results119 _ rfl _ rfl) rfl (TokPost.bad hT.out rfl ?_)
    exact ((((HO.out.own (Nat.le_refl _) _ _).own (Nat.le_refl _) _ _).own (Nat.le_refl _) _ _).own (Nat.le_refl _) _ _)
end
/- Layer 9: the contracts of the scanner's methods for elements and texts. -/
open Go.RowKit

/-- An element: the byte that it stands for, and its length. -/
def elm (r : List UInt8) : Option (Nat × Nat) :=
 if nxt r = 92 then (if cE (nxt r.tail) = true then some (nxt r.tail, 2) else none)
 else if 32 ≤ nxt r ∧ nxt r ≤ 126 ∧ nxt r ≠ 34 then some (nxt r, 1) else none
theorem txt_cons (c : UInt8) (r : List UInt8) : txt (c :: r) = if c.toNat = 34 then some ([], 1)
  else if c.toNat = 92 then
   match r with
   | [] => none
   | d :: r' => if cE d.toNat = true then (txt r').map fun x => (d :: x.1, x.2 + 2) else none
  else if 32 ≤ c.toNat ∧ c.toNat ≤ 126 then (txt r).map fun x => (c :: x.1, x.2 + 1) else none := by
 rw [txt.eq_def]
 rfl
theorem txt_stop {r : List UInt8} (h : nxt r = 34) : txt r = some ([], 1) := by
 obtain ⟨c, t, rfl⟩ := nxt_pos (l := r) (by omega)
 unfold txt
 exact if_pos h
theorem txt_none {r : List UInt8} (h : nxt r ≠ 34) (he : elm r = none) : txt r = none := by
 cases r with
 | nil => rfl
 | cons c t =>
  rw [txt_cons, if_neg (show ¬ c.toNat = 34 from h)]
  unfold elm at he
  by_cases h2 : nxt (c :: t) = 92
  ·rw [if_pos h2] at he
   rw [if_pos (show c.toNat = 92 from h2)]
   cases t with
   | nil => rfl
   | cons d t' =>
    have : ¬ cE d.toNat = true := fun h3 => by rw [if_pos (show cE (nxt (c :: d :: t').tail) = true from h3)] at he; cases he
    simp only [if_neg this]
  ·rw [if_neg h2] at he
   rw [if_neg (show ¬ c.toNat = 92 from h2), if_neg]
   intro h3
   rw [if_pos ⟨h3.1, h3.2, h⟩] at he
   cases he
theorem txt_more {r : List UInt8} {c n : Nat} (h : nxt r ≠ 34) (he : elm r = some (c, n)) : (1 ≤ n ∧ n ≤ r.length ∧ c < 256) ∧ txt r = (txt (r.drop n)).map fun x => (UInt8.ofNat c :: x.1, x.2 + n) := by
 cases r with
 | nil => simp [elm, nxt] at he
 | cons a t =>
  unfold elm at he
  rw [txt_cons, if_neg (show ¬ a.toNat = 34 from h)]
  by_cases h2 : nxt (a :: t) = 92
  ·rw [if_pos h2] at he
   rw [if_pos (show a.toNat = 92 from h2)]
   cases t with
   | nil => simp [nxt, cE] at he
   | cons d t' =>
    by_cases h3 : cE (nxt (a :: d :: t').tail) = true
    ·rw [if_pos h3] at he
     have h4 : cE d.toNat = true := h3
     simp only [Option.some.injEq, Prod.mk.injEq] at he
     obtain ⟨rfl, rfl⟩ := he
     have hd : nxt (a :: d :: t').tail = d.toNat := rfl
     refine ⟨⟨by omega, by simp, by rw [hd]; exact UInt8.toNat_lt d⟩, ?_⟩
     simp only [if_pos h4]
     rw [hd, UInt8.ofNat_toNat]
     rfl
    ·rw [if_neg h3] at he; cases he
  ·rw [if_neg h2] at he
   rw [if_neg (show ¬ a.toNat = 92 from h2)]
   by_cases h3 : 32 ≤ nxt (a :: t) ∧ nxt (a :: t) ≤ 126 ∧ nxt (a :: t) ≠ 34
   ·rw [if_pos h3] at he
    simp only [Option.some.injEq, Prod.mk.injEq] at he
    obtain ⟨rfl, rfl⟩ := he
    have hd : nxt (a :: t) = a.toNat := rfl
    rw [if_pos ⟨h3.1, h3.2.1⟩]
    refine ⟨⟨by omega, by simp, by omega⟩, ?_⟩
    rw [hd, UInt8.ofNat_toNat]
    rfl
   ·rw [if_neg h3] at he; cases he

section
variable {w : World} {g k : Nat} {l : List UInt8}
def ElmPost (w : World) (g : Nat) (l : List UInt8) (k : Nat) : Option (Nat × Nat) → Ending → World → Prop
 | none, e, w' => e = .returned (.tuple #[.int .u8 0, .bool false]) ∧ Only g w w'
 | some (c, n), e, w' => e = .returned (.tuple #[.int .u8 (c : Int), .bool true]) ∧ Scn w' g l (k + n) ∧ Only g w w'
theorem ElmPost.bad {w w' : World} {r : Option (Nat × Nat)} {e : Ending} (hr : r = none) (he : e = .returned (.tuple #[.int .u8 0, .bool false])) (ho : Only g w w') : ElmPost w g l k r e w' := by
 subst hr; exact ⟨he, ho⟩
theorem ElmPost.good {w w' : World} {r : Option (Nat × Nat)} {c n : Nat} {e : Ending} (hr : r = some (c, n)) (he : e = .returned (.tuple #[.int .u8 (c : Int), .bool true])) (hs : Scn w' g l (k + n)) (ho : Only g w w') : ElmPost w g l k r e w' := by
 subst hr; exact ⟨he, hs, ho⟩
set_option maxRecDepth 20000 in
set_option maxHeartbeats 1000000 in
theorem element_any (h : Scn w g l k) : Calls Tryz.prog 174 #[.pointer (some ⟨g, 0, none⟩)] w (ElmPost w g l k (elm (l.drop k))) := by
 obtain ⟨x, hx⟩ : ∃ x, nxt (l.drop k) = x := ⟨_, rfl⟩
 have hroom := h.room
 have hoff := h.off
 have HX := Lib.hid hx
 by_cases h92 : x = 92
 ·obtain ⟨y, hy⟩ : ∃ y, nxt (l.drop (k + 1)) = y := ⟨_, rfl⟩
  have HY := Lib.hid hy
  have hk1 : k + 1 ≤ l.length := by
   by_cases e : k < l.length
   ·omega
   ·rw [nxt_end (by omega)] at hx; omega
  have hel : elm (l.drop k) = if cE y = true then some (y, 2) else none := by
   unfold elm
   rw [hx, if_pos h92, List.tail_drop, hy]
  have t92 : ((x : Int) == 92) = true := by rw [h92]; rfl
  have HE := Lib.hid hel
  clear hx hy hel h92
  have H := Lib.hid h; clear h
  have ecast : Hid ((k : Int) + 1 = ((k + 1 : Nat) : Int)) := by unfold Hid; omega
  have ecast2 : Hid (((k + 1 : Nat) : Int) + 1 = ((k + 2 : Nat) : Int)) := by unfold Hid; omega
  cases hc : cE y with
  | true =>
   have hc2 : y = 34 ∨ y = 92 := by simpa [cE] using hc
   have hT := Lib.hid (show elm (l.drop k) = some (y, 2) by rw [HE.out, hc]; rfl)
   have HC := Lib.hid hc; clear hc
   have hk2 : k + 2 ≤ l.length := by
    by_cases e : k + 1 < l.length
    ·omega
    ·have := HY.out; rw [nxt_end (by omega)] at this; omega
   have hy1 : 32 ≤ y := by omega
   have hy2 : y ≤ 126 := by omega
   clear hc2
   go_enter Tryz.func174, Tryz.ntmps174
   go_wp2_with fail
   refine (next_any H.out).mono ?_; rintro e w1 ⟨rfl, m, rfl⟩; rw [HX.out]
   have c1 : (w.drewN m).cell? ⟨g, 1, none⟩ = some (.int .i64 (k : Int)) := H.out.cell 1
   have f1 : (w.drewN m).frozen? ⟨g, 1, none⟩ = false := H.out.free 1
   have S1 := Lib.hid ((H.out.drewN m).go (k + 1) hk1)
   have O1 := Lib.hid (((Only.refl g w).drewN m).set 1 (.int .i64 ((k + 1 : Nat) : Int)))
   generalize hw1 : w.drewN m = w1 at *
   clear hw1
   go_wp2_with fail
   rw [ecast.out]
   refine (next_any S1.out).mono ?_; rintro e w2 ⟨rfl, m2, rfl⟩; rw [HY.out]
   have c2 : ((w1.setCell ⟨g, 1, none⟩ (.int .i64 ((k + 1 : Nat) : Int))).drewN m2).cell? ⟨g, 1, none⟩ = some (.int .i64 ((k + 1 : Nat) : Int)) := S1.out.cell 1
   have f2 : ((w1.setCell ⟨g, 1, none⟩ (.int .i64 ((k + 1 : Nat) : Int))).drewN m2).frozen? ⟨g, 1, none⟩ = false := S1.out.free 1
   have S2 := Lib.hid ((S1.out.drewN m2).go (k + 2) hk2)
   have O2 := Lib.hid ((O1.out.drewN m2).set 1 (.int .i64 ((k + 2 : Nat) : Int)))
   generalize hw2 : (w1.setCell ⟨g, 1, none⟩ (.int .i64 ((k + 1 : Nat) : Int))).drewN m2 = w2 at *
   clear hw2 c1 f1
   go_wp2_with fail
   refine (isEscaped_any _ _).mono ?_; rintro e w3 ⟨rfl, rfl⟩; rw [HC.out]
   have hk3 : k ≤ 8000 := by omega
   have ek : Hid (((k + 1 : Nat) : Int) + 1 = ((k + 2 : Nat) : Int)) := ecast2
   obtain ⟨q, hq⟩ : ∃ q, q = k + 1 := ⟨_, rfl⟩
   rw [← hq] at c2 ek
   have hq2 : q ≤ 8001 := by omega
   clear hq
   go_wp2
   rw [ek.out]
   go_ret2
   exact ElmPost.good hT.out rfl S2.out O2.out
  | false =>
   have hT := Lib.hid (show elm (l.drop k) = none by rw [HE.out, hc]; rfl)
   have HC := Lib.hid hc; clear hc
   go_enter Tryz.func174, Tryz.ntmps174
   go_wp2_with fail
   refine (next_any H.out).mono ?_; rintro e w1 ⟨rfl, m, rfl⟩; rw [HX.out]
   have c1 : (w.drewN m).cell? ⟨g, 1, none⟩ = some (.int .i64 (k : Int)) := H.out.cell 1
   have f1 : (w.drewN m).frozen? ⟨g, 1, none⟩ = false := H.out.free 1
   have S1 := Lib.hid ((H.out.drewN m).go (k + 1) hk1)
   have O1 := Lib.hid (((Only.refl g w).drewN m).set 1 (.int .i64 ((k + 1 : Nat) : Int)))
   generalize hw1 : w.drewN m = w1 at *
   clear hw1
   go_wp2_with fail
   rw [ecast.out]
   refine (next_any S1.out).mono ?_; rintro e w2 ⟨rfl, m2, rfl⟩; rw [HY.out]
   by_cases hb : y < 32 ∨ 126 < y
   ·rcases hb with hb | hb
    all_goals
     go_wp2
     go_ret2
     exact ElmPost.bad hT.out rfl (O1.out.drewN m2)
   ·have hy1 : 32 ≤ y := by omega
    have hy2 : y ≤ 126 := by omega
    clear hb
    go_wp2_with fail
    refine (isEscaped_any _ _).mono ?_; rintro e w3 ⟨rfl, rfl⟩; rw [HC.out]
    go_wp2
    go_ret2
    exact ElmPost.bad hT.out rfl (O1.out.drewN m2)
 ·have t92 : ((x : Int) == 92) = false := by simp; omega
  have hel : elm (l.drop k) = if 32 ≤ x ∧ x ≤ 126 ∧ x ≠ 34 then some (x, 1) else none := by
   unfold elm
   rw [hx, if_neg h92]
  have HE := Lib.hid hel
  have hce : cE x = decide (x = 34) := by simp [cE, h92]
  clear hel
  have H := Lib.hid h; clear h
  have ecast : Hid ((k : Int) + 1 = ((k + 1 : Nat) : Int)) := by unfold Hid; omega
  by_cases hok : 32 ≤ x ∧ x ≤ 126 ∧ x ≠ 34
  ·have hT := Lib.hid (show elm (l.drop k) = some (x, 1) by rw [HE.out, if_pos hok])
   have hk1 : k + 1 ≤ l.length := by
    by_cases e : k < l.length
    ·omega
    ·rw [nxt_end (by omega)] at hx; omega
   obtain ⟨hx1, hx2, hx3⟩ := hok
   have HC : Hid (cE x = false) := by unfold Hid; rw [hce]; simpa using hx3
   clear hx hce h92 hx3
   go_enter Tryz.func174, Tryz.ntmps174
   go_wp2_with fail
   refine (next_any H.out).mono ?_; rintro e w1 ⟨rfl, m, rfl⟩; rw [HX.out]
   have S0 := Lib.hid (H.out.drewN m)
   have O0 := Lib.hid ((Only.refl g w).drewN m)
   generalize hw1 : w.drewN m = w1 at *
   clear hw1
   go_wp2_with fail
   refine (next_any S0.out).mono ?_; rintro e w2 ⟨rfl, m2, rfl⟩; rw [HX.out]
   have c2 : (w1.drewN m2).cell? ⟨g, 1, none⟩ = some (.int .i64 (k : Int)) := S0.out.cell 1
   have f2 : (w1.drewN m2).frozen? ⟨g, 1, none⟩ = false := S0.out.free 1
   have S2 := Lib.hid ((S0.out.drewN m2).go (k + 1) hk1)
   have O2 := Lib.hid ((O0.out.drewN m2).set 1 (.int .i64 ((k + 1 : Nat) : Int)))
   generalize hw2 : w1.drewN m2 = w2 at *
   clear hw2
   go_wp2_with fail
   refine (isEscaped_any _ _).mono ?_; rintro e w3 ⟨rfl, rfl⟩; rw [HC.out]
   go_wp2
   rw [ecast.out]
   go_ret2
   exact ElmPost.good hT.out rfl S2.out O2.out
  ·have hT := Lib.hid (show elm (l.drop k) = none by rw [HE.out, if_neg hok])
   have hbad : x < 32 ∨ 126 < x ∨ (32 ≤ x ∧ x ≤ 126 ∧ Hid (cE x = true)) := by
    by_cases e1 : x < 32
    ·exact .inl e1
    ·by_cases e2 : 126 < x
     ·exact .inr (.inl e2)
     ·refine .inr (.inr ⟨by omega, by omega, ?_⟩)
      unfold Hid; rw [hce, decide_eq_true_iff]; omega
   clear hok hx hce h92
   rcases hbad with hb | hb | ⟨hb1, hb2, HC⟩
   ·go_enter Tryz.func174, Tryz.ntmps174
    go_wp2_with fail
    refine (next_any H.out).mono ?_; rintro e w1 ⟨rfl, m, rfl⟩; rw [HX.out]
    have S0 := Lib.hid (H.out.drewN m)
    have O0 := Lib.hid ((Only.refl g w).drewN m)
    go_wp2_with fail
    refine (next_any S0.out).mono ?_; rintro e w2 ⟨rfl, m2, rfl⟩; rw [HX.out]
    go_wp2
    go_ret2
    exact ElmPost.bad hT.out rfl ((Only.refl g w).drewN _)
   ·go_enter Tryz.func174, Tryz.ntmps174
    go_wp2_with fail
    refine (next_any H.out).mono ?_; rintro e w1 ⟨rfl, m, rfl⟩; rw [HX.out]
    have S0 := Lib.hid (H.out.drewN m)
    have O0 := Lib.hid ((Only.refl g w).drewN m)
    go_wp2_with fail
    refine (next_any S0.out).mono ?_; rintro e w2 ⟨rfl, m2, rfl⟩; rw [HX.out]
    go_wp2
    go_ret2
    exact ElmPost.bad hT.out rfl ((Only.refl g w).drewN _)
   ·go_enter Tryz.func174, Tryz.ntmps174
    go_wp2_with fail
    refine (next_any H.out).mono ?_; rintro e w1 ⟨rfl, m, rfl⟩; rw [HX.out]
    have S0 := Lib.hid (H.out.drewN m)
    have O0 := Lib.hid ((Only.refl g w).drewN m)
    go_wp2_with fail
    refine (next_any S0.out).mono ?_; rintro e w2 ⟨rfl, m2, rfl⟩; rw [HX.out]
    go_wp2_with fail
    refine (isEscaped_any _ _).mono ?_; rintro e w3 ⟨rfl, rfl⟩; rw [HC.out]
    go_wp2
    go_ret2
    exact ElmPost.bad hT.out rfl ((Only.refl g w).drewN _)

theorem own_only {g B e : Nat} {w w' : World} {v : Value} {n : Nat} {xs : List Value} (h : w.ownsRow B e 1 v n xs) (ho : Only g w w') (hg : g < B) : w'.ownsRow B e 1 v n xs := by
 refine ⟨h.1, ?_⟩
 rcases h.2 with h2 | ⟨a, cap, cur, hv, hb, hh, hr⟩
 ·exact .inl h2
 ·exact .inr ⟨a, cap, cur, hv, hb, (ho.block a (lt_of_some hh) (by omega)).trans hh, hr⟩
theorem Only.frm {e B g : Nat} {a b c : World} (h : Only g a b) (hf : Frm e B b c) (hB : a.heap.size ≤ B) : Only g a c :=
 ⟨hf.os.trans h.os, hf.tape.trans h.tape, hf.output.trans h.output, Nat.le_trans h.size hf.size, fun k hk hn => (hf.block k (Nat.lt_of_lt_of_le hk h.size) (.inl (by omega))).trans (h.block k hk hn)⟩
end
/- Layer 9: the contract of the scanner's method for texts. -/
open Go.RowKit

def TxRel (w : World) (g : Nat) (l : List UInt8) (k : Nat) (gk : Nat) (b : Value) (wr : World) : Prop :=
 ∃ (j : Nat) (xs : List UInt8), k + 1 ≤ j ∧ l.length ≤ gk + j ∧ xs.length ≤ j ∧ Hid (Scn wr g l j) ∧ Hid (Only g w wr) ∧ Hid (TBox wr w.heap.size 0 [] 0 0) ∧
  Hid (wr.ownsRow w.heap.size 5 1 b xs.length ((xs.map UInt8.toNat).map bv)) ∧ Hid (txt (l.drop (k + 1)) = (txt (l.drop j)).map fun x => (xs ++ x.1, x.2 + (j - (k + 1))))
theorem strOf_ofL (xs : List UInt8) : strOf (xs.map UInt8.toNat) = ofL xs := by
 unfold strOf ofL
 rw [List.map_map]
 congr 2
 conv => rhs; rw [← List.map_id xs]
 exact List.map_congr_left fun c _ => UInt8.ofNat_toNat
section
variable {w : World} {g k : Nat} {l : List UInt8}
set_option maxRecDepth 20000 in
set_option maxHeartbeats 1000000 in
theorem text_any (h : Scn w g l k) (hq : nxt (l.drop k) = 34) : Calls Tryz.prog 118 #[.pointer (some ⟨g, 0, none⟩)] w (TokPost w g l k (tkText (l.drop (k + 1)))) := by
 have hroom := h.room
 have hlt := h.lt
 have hk1 : k + 1 ≤ l.length := by
  by_cases e : k < l.length
  ·omega
  ·rw [nxt_end (by omega)] at hq; omega
 clear hq
 have c1 := h.cell 1
 have f1 := h.free 1
 have HA := Lib.hid h
 clear h
 have ecast : Hid ((k : Int) + 1 = ((k + 1 : Nat) : Int)) := by unfold Hid; omega
 have S1 := Lib.hid ((HA.out.go (k + 1) hk1).alloc (.cells #[.int .i64 0, .string ⟨#[]⟩, .int .i64 0, .int .i64 0] 48))
 have T1 : Hid (TBox ((w.setCell ⟨g, 1, none⟩ (.int .i64 ((k + 1 : Nat) : Int))).alloc (.cells #[.int .i64 0, .string ⟨#[]⟩, .int .i64 0, .int .i64 0] 48)) w.heap.size 0 [] 0 0) := by
  have := TBox.new (w.setCell ⟨g, 1, none⟩ (.int .i64 ((k + 1 : Nat) : Int)))
  rwa [show (w.setCell ⟨g, 1, none⟩ (.int .i64 ((k + 1 : Nat) : Int))).heap.size = w.heap.size by simp [World.setCell]] at this
 have O1 : Hid (Only g w ((w.setCell ⟨g, 1, none⟩ (.int .i64 ((k + 1 : Nat) : Int))).alloc (.cells #[.int .i64 0, .string ⟨#[]⟩, .int .i64 0, .int .i64 0] 48))) := ((Only.refl g w).set 1 _).alloc _
 go_enter Tryz.func118, Tryz.ntmps118
 go_wp2
 rw [ecast.out]
 generalize hw1 : (w.setCell ⟨g, 1, none⟩ (.int .i64 ((k + 1 : Nat) : Int))).alloc (.cells #[.int .i64 0, .string ⟨#[]⟩, .int .i64 0, .int .i64 0] 48) = w1 at *
 clear hw1 HA c1 f1 ecast
 go_loopg [4, 5, 6] (l.length) (fun gk b _ _ wr => TxRel w g l k gk b wr)
 case atStart =>
  refine ⟨k + 1, [], by omega, by omega, by simp, S1, O1, T1, World.ownsRow_nil _ _ _ _, ?_⟩
  unfold Hid
  simp
 case round =>
  clear S1 O1 T1
  obtain ⟨j, xs, hkj, hgk, hxl, HS, HO, HT, HB, HX⟩ := hrel
  obtain ⟨x, hx⟩ : ∃ x, nxt (l.drop j) = x := ⟨_, rfl⟩
  have HN := Lib.hid hx
  by_cases h34 : x = 34
  ·have t34 : ((x : Int) != 34) = false := by simp; omega
   have hj1 : j + 1 ≤ l.length := by
    by_cases e : j < l.length
    ·omega
    ·rw [nxt_end (by omega)] at hx; omega
   have HTT := Lib.hid (show txt (l.drop (k + 1)) = some (xs, j - k) by rw [HX.out, txt_stop (by rw [hx]; exact h34)]; simp; omega)
   have ecast : Hid ((j : Int) + 1 = ((j + 1 : Nat) : Int)) := by unfold Hid; omega
   have hj8 : j ≤ 8000 := by omega
   clear hx h34
   have hsl := Bsl.of_own HB.out
   obtain ⟨A, cp, hA⟩ : ∃ A cp, u4 = .slice A xs.length cp := by
    rcases hsl with ⟨rfl, h0⟩ | ⟨ad, c, rfl, _⟩
    ·exact ⟨none, 0, by simp at h0; rw [h0]; rfl⟩
    ·exact ⟨some ad, c, by simp⟩
   subst hA
   clear hsl
   by_cases h40 : 40 < xs.length
   ·have hT := Lib.hid (show tkText (l.drop (k + 1)) = .err 6 by unfold tkText; rw [HTT.out]; simp only [if_pos h40])
    go_wp2_with fail
    refine (next_any HS.out).mono ?_; rintro e w2 ⟨rfl, m, rfl⟩; rw [HN.out]
    have HS2 := Lib.hid (HS.out.drewN m)
    have HO2 := Lib.hid (HO.out.drewN m)
    have HT2 : Hid (TBox (wr.drewN m) w.heap.size 0 [] 0 0) := HT.out
    have HB2 : Hid ((wr.drewN m).ownsRow w.heap.size 5 1 (.slice A xs.length cp) xs.length ((xs.map UInt8.toNat).map bv)) := HB.out
    generalize hw2 : wr.drewN m = w2 at *
    clear hw2
    have c1 := HS2.out.cell 1
    have f1 := HS2.out.free 1
    have HS3 := Lib.hid (HS2.out.go (j + 1) hj1)
    have HO3 := Lib.hid (HO2.out.set 1 (.int .i64 ((j + 1 : Nat) : Int)))
    have HT3 := Lib.hid (HT2.out.keep ((Only.refl g w2).set 1 (.int .i64 ((j + 1 : Nat) : Int))) (by omega))
    have hrs0 := run_str (P := Tryz.prog) (w2.setCell ⟨g, 1, none⟩ (.int .i64 ((j + 1 : Nat) : Int))) 41 5 9 Tryz.underlying41 Tryz.underlying5 Tryz.underlying9 _ (xs.map UInt8.toNat) (Bsl.of_own (own_only HB2.out ((Only.refl g w2).set 1 (.int .i64 ((j + 1 : Nat) : Int))) hlt))
    rw [strOf_ofL, ← ecast.out] at hrs0
    obtain ⟨d0, d1, d2, d3, f10, f11, f12, f13⟩ := HT2.out.facts
    go_wp2
    rw [ecast.out]
    refine bodyPost_ret (v := .tuple #[tokV 0 [] 0 0, .int .i64 6]) (TBox.result ((HT3.out).store 0 0 0 []) Tryz.results118 _ rfl _ rfl) rfl (TokPost.bad hT.out rfl ?_)
    exact ((((HO3.out.own (Nat.le_refl _) _ _).own (Nat.le_refl _) _ _).own (Nat.le_refl _) _ _).own (Nat.le_refl _) _ _)
   ·have hT := Lib.hid (show tkText (l.drop (k + 1)) = .ok 3 xs 0 (j - k + 1) by unfold tkText; rw [HTT.out]; simp only [if_neg h40])
    go_wp2_with fail
    refine (next_any HS.out).mono ?_; rintro e w2 ⟨rfl, m, rfl⟩; rw [HN.out]
    have HS2 := Lib.hid (HS.out.drewN m)
    have HO2 := Lib.hid (HO.out.drewN m)
    have HT2 : Hid (TBox (wr.drewN m) w.heap.size 0 [] 0 0) := HT.out
    have HB2 : Hid ((wr.drewN m).ownsRow w.heap.size 5 1 (.slice A xs.length cp) xs.length ((xs.map UInt8.toNat).map bv)) := HB.out
    generalize hw2 : wr.drewN m = w2 at *
    clear hw2
    have c1 := HS2.out.cell 1
    have f1 := HS2.out.free 1
    have HS3 := Lib.hid (HS2.out.go (j + 1) hj1)
    have HO3 := Lib.hid (HO2.out.set 1 (.int .i64 ((j + 1 : Nat) : Int)))
    have HT3 := Lib.hid (HT2.out.keep ((Only.refl g w2).set 1 (.int .i64 ((j + 1 : Nat) : Int))) (by omega))
    have hrs0 := run_str (P := Tryz.prog) (w2.setCell ⟨g, 1, none⟩ (.int .i64 ((j + 1 : Nat) : Int))) 41 5 9 Tryz.underlying41 Tryz.underlying5 Tryz.underlying9 _ (xs.map UInt8.toNat) (Bsl.of_own (own_only HB2.out ((Only.refl g w2).set 1 (.int .i64 ((j + 1 : Nat) : Int))) hlt))
    rw [strOf_ofL, ← ecast.out] at hrs0
    obtain ⟨d0, d1, d2, d3, f10, f11, f12, f13⟩ := HT2.out.facts
    go_wp2
    rw [ecast.out]
    refine bodyPost_ret (v := .tuple #[tokV 3 xs 0 0, .int .i64 0]) (TBox.result ((HT3.out).store 3 0 0 xs) Tryz.results118 _ rfl _ rfl) rfl (TokPost.good hT.out rfl ?_ ?_)
    ·rw [show k + (j - k + 1) = j + 1 by omega]
     exact (((HS3.out.other (by omega)).other (by omega)).other (by omega)).other (by omega)
    ·exact ((((HO3.out.own (Nat.le_refl _) _ _).own (Nat.le_refl _) _ _).own (Nat.le_refl _) _ _).own (Nat.le_refl _) _ _)
  ·have t34 : ((x : Int) != 34) = true := by simp; omega
   cases he : elm (l.drop j) with
   | none =>
    have HE := Lib.hid he
    have hT := Lib.hid (show tkText (l.drop (k + 1)) = .err 3 by unfold tkText; rw [HX.out, txt_none (by rw [hx]; exact h34) he]; rfl)
    clear he hx h34
    go_wp2_with fail
    refine (next_any HS.out).mono ?_; rintro e w2 ⟨rfl, m, rfl⟩; rw [HN.out]
    have HS2 := Lib.hid (HS.out.drewN m)
    have HO2 := Lib.hid (HO.out.drewN m)
    have HT2 : Hid (TBox (wr.drewN m) w.heap.size 0 [] 0 0) := HT.out
    generalize hw2 : wr.drewN m = w2 at *
    clear hw2
    go_wp2_with fail
    refine (element_any HS2.out).mono ?_
    rw [HE.out]
    rintro e w3 ⟨rfl, O3⟩
    have HT3 := Lib.hid (HT2.out.keep O3 (by omega))
    have HO3 := Lib.hid (HO2.out.trans O3)
    clear O3
    obtain ⟨d0, d1, d2, d3, f0, f1, f2, f3⟩ := HT3.out.facts
    go_wp2
    refine bodyPost_ret (v := .tuple #[tokV 0 [] 0 0, .int .i64 3]) (TBox.result ((HT3.out).store 0 0 0 []) Tryz.results118 _ rfl _ rfl) rfl (TokPost.bad hT.out rfl ?_)
    exact ((((HO3.out.own (Nat.le_refl _) _ _).own (Nat.le_refl _) _ _).own (Nat.le_refl _) _ _).own (Nat.le_refl _) _ _)
   | some y =>
    obtain ⟨c, n⟩ := y
    have HE := Lib.hid he
    obtain ⟨⟨hn1, hn2, hc⟩, htx⟩ := txt_more (by rw [hx]; exact h34) he
    have HTX := Lib.hid htx
    clear he hx h34 htx
    rw [List.length_drop] at hn2
    go_wp2_with fail
    refine (next_any HS.out).mono ?_; rintro e w2 ⟨rfl, m, rfl⟩; rw [HN.out]
    have HS2 := Lib.hid (HS.out.drewN m)
    have HO2 := Lib.hid (HO.out.drewN m)
    have HT2 : Hid (TBox (wr.drewN m) w.heap.size 0 [] 0 0) := HT.out
    have HB2 : Hid ((wr.drewN m).ownsRow w.heap.size 5 1 u4 xs.length ((xs.map UInt8.toNat).map bv)) := HB.out
    generalize hw2 : wr.drewN m = w2 at *
    clear hw2
    go_wp2_with fail
    refine (element_any HS2.out).mono ?_
    rw [HE.out]
    rintro e w3 ⟨rfl, S3, O3⟩
    have HT3 := Lib.hid (HT2.out.keep O3 (by omega))
    have HB3 := Lib.hid (own_only HB2.out O3 hlt)
    have HO3 := Lib.hid (HO2.out.trans O3)
    have HS3 := Lib.hid S3
    have hB3 := HO3.out.size
    clear O3 S3
    go_wp2_with (at_builtin; refine app1 rfl _ _ 41 rfl 5 (.int .u8 0) info_u8 Tryz.underlying41 rfl w.heap.size _ _ _ rfl HB3.out _ rfl rfl (by unfold Room2; omega) hB3 ?_; intro v' w4 hown4 hf4; have HB4 := Lib.hid hown4; have HF4 := Lib.hid hf4; clear hown4 hf4)
    go_roundg (gk - n)
    case rel =>
     refine ⟨j + n, xs ++ [UInt8.ofNat c], by omega, by omega, by simp; omega, ?_, HO3.out.frm HF4.out (Nat.le_refl _), ?_, ?_, ?_⟩
     ·exact ⟨HF4.out.keeps HS3.out.blk (by decide), HS3.out.off, HS3.out.room⟩
     ·exact HF4.out.keeps HT3.out (by decide)
     ·have h4 := HB4.out
      rw [List.length_append, List.map_append, List.map_append]
      have e : [UInt8.ofNat c].map UInt8.toNat = [c] := by simp [Nat.mod_eq_of_lt hc]
      rw [e]
      exact h4
     ·unfold Hid
      rw [HX.out, HTX.out, List.drop_drop]
      cases txt (l.drop (j + n)) with
      | none => rfl
      | some z => simp; omega
    case measure => omega
end
/- Layer 9: the contract of the scanner's reader: a method value that reads the token that stands next. -/
open Go.RowKit

section
variable {w : World} {g k : Nat} {l : List UInt8}
def IsReader (g : Nat) (l : List UInt8) (k K : Nat) : Prop :=
 (∀ args w, (callFunc K args).run Tryz.prog w = .ok (.enter K args) w) ∧ ∀ w, Scn w g l k → Calls Tryz.prog K #[.pointer (some ⟨g, 0, none⟩)] w (TokPost w g l k (tk (l.drop k)))
def RdrPost (w : World) (g : Nat) (l : List UInt8) (k : Nat) (e : Ending) (w' : World) : Prop :=
 ∃ K, e = .returned (.func (.func K) #[.pointer (some ⟨g, 0, none⟩)] #[]) ∧ IsReader g l k K ∧ ∃ m, w' = w.drewN m
theorem rdr_name (hc : cL (nxt (l.drop k)) = true) : IsReader g l k 115 :=
 ⟨fun args w => enters_of Tryz.func115 (by kernel_rfl) rfl args w, fun w h => by
  have := name_any h
  unfold tk
  rwa [if_pos hc]⟩
theorem rdr_number (hc : cL (nxt (l.drop k)) = false) (hd : cD (nxt (l.drop k)) = true) : IsReader g l k 117 :=
 ⟨fun args w => enters_of Tryz.func117 (by kernel_rfl) rfl args w, fun w h => by
  have := number_any h
  unfold tk
  rwa [if_neg (by simp [hc]), if_pos hd]⟩
theorem rdr_text (hc : cL (nxt (l.drop k)) = false) (hd : cD (nxt (l.drop k)) = false) (hq : nxt (l.drop k) = 34) : IsReader g l k 118 :=
 ⟨fun args w => enters_of Tryz.func118 (by kernel_rfl) rfl args w, fun w h => by
  have := text_any h hq
  unfold tk
  rwa [if_neg (by simp [hc]), if_neg (by simp [hd]), if_pos hq, List.tail_drop]⟩
theorem rdr_mark (hc : cL (nxt (l.drop k)) = false) (hd : cD (nxt (l.drop k)) = false) (hq : nxt (l.drop k) ≠ 34) : IsReader g l k 119 :=
 ⟨fun args w => enters_of Tryz.func119 (by kernel_rfl) rfl args w, fun w h => by
  have := mark_any h
  unfold tk
  rwa [if_neg (by simp [hc]), if_neg (by simp [hd]), if_neg hq]⟩
theorem reader_any (h : Scn w g l k) : Calls Tryz.prog 64 #[.pointer (some ⟨g, 0, none⟩)] w (RdrPost w g l k) := by
 obtain ⟨x, hx⟩ : ∃ x, nxt (l.drop k) = x := ⟨_, rfl⟩
 have HX := Lib.hid hx
 have H := Lib.hid h; clear h
 have hmf : ∀ (fn : Fn) (first cap : Array Value) (w : World), (Instr.makeFunc fn first cap).run Tryz.prog w = .ok (.func fn first cap) w := fun _ _ _ _ => rfl
 cases hc : cL x with
 | true =>
  have HC := Lib.hid hc
  have HR := Lib.hid (rdr_name (g := g) (l := l) (k := k) (by rw [hx]; exact hc))
  clear hc hx
  go_enter Tryz.func64, Tryz.ntmps64
  go_wp2_with fail
  refine (next_any H.out).mono ?_; rintro e w1 ⟨rfl, m, rfl⟩; rw [HX.out]
  go_wp2_with fail
  refine (isLetter_any _ _).mono ?_; rintro e w1 ⟨rfl, rfl⟩; rw [HC.out]
  go_wp2
  go_ret
  exact ⟨_, rfl, HR.out, m, rfl⟩
 | false =>
  have HC := Lib.hid hc
  cases hd : cD x with
  | true =>
   have HD := Lib.hid hd
   have HR := Lib.hid (rdr_number (g := g) (l := l) (k := k) (by rw [hx]; exact hc) (by rw [hx]; exact hd))
   clear hc hd hx
   go_enter Tryz.func64, Tryz.ntmps64
   go_wp2_with fail
   refine (next_any H.out).mono ?_; rintro e w1 ⟨rfl, m, rfl⟩; rw [HX.out]
   go_wp2_with fail
   refine (isLetter_any _ _).mono ?_; rintro e w1 ⟨rfl, rfl⟩; rw [HC.out]
   go_wp2_with fail
   refine (isDigit_any _ _).mono ?_; rintro e w1 ⟨rfl, rfl⟩; rw [HD.out]
   go_wp2
   go_ret
   exact ⟨_, rfl, HR.out, m, rfl⟩
  | false =>
   have HD := Lib.hid hd
   by_cases h34 : x = 34
   ·have HR := Lib.hid (rdr_text (g := g) (l := l) (k := k) (by rw [hx]; exact hc) (by rw [hx]; exact hd) (by rw [hx]; exact h34))
    have t34 : ((x : Int) == 34) = true := by rw [h34]; rfl
    clear hc hd hx h34
    go_enter Tryz.func64, Tryz.ntmps64
    go_wp2_with fail
    refine (next_any H.out).mono ?_; rintro e w1 ⟨rfl, m, rfl⟩; rw [HX.out]
    go_wp2_with fail
    refine (isLetter_any _ _).mono ?_; rintro e w1 ⟨rfl, rfl⟩; rw [HC.out]
    go_wp2_with fail
    refine (isDigit_any _ _).mono ?_; rintro e w1 ⟨rfl, rfl⟩; rw [HD.out]
    go_wp2
    go_ret
    exact ⟨_, rfl, HR.out, m, rfl⟩
   ·have HR := Lib.hid (rdr_mark (g := g) (l := l) (k := k) (by rw [hx]; exact hc) (by rw [hx]; exact hd) (by rw [hx]; exact h34))
    have t34 : ((x : Int) == 34) = false := by simp; omega
    clear hc hd hx h34
    go_enter Tryz.func64, Tryz.ntmps64
    go_wp2_with fail
    refine (next_any H.out).mono ?_; rintro e w1 ⟨rfl, m, rfl⟩; rw [HX.out]
    go_wp2_with fail
    refine (isLetter_any _ _).mono ?_; rintro e w1 ⟨rfl, rfl⟩; rw [HC.out]
    go_wp2_with fail
    refine (isDigit_any _ _).mono ?_; rintro e w1 ⟨rfl, rfl⟩; rw [HD.out]
    go_wp2
    go_ret
    exact ⟨_, rfl, HR.out, m, rfl⟩
end
end Go.Proofs.YtekpefcggikcbaaGreatDoor
