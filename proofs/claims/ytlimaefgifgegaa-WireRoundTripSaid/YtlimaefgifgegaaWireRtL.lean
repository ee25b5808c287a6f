/- WireRoundTrip: the law's walk. -/
import Derived.Test.YtlimaefgifgegaaWireRtM
import Derived.Test.YtlimaefgifgegaaWireGrw
import Derived.Test.YtlimaefgifgegaaWireSameI
import Derived.Deep.RegionHeld3
namespace Go.Proofs.Ytlimaefgifgegaa
open Go.RowKit

def Row1 (w : World) (B : Nat) (l : List Int) (b i : Value) (wr : World) : Prop :=
  ∃ k : Nat, k ≤ l.length ∧ i = .int .i64 k ∧ wr.ownsRow B 5 1 b (atI l k) ((encIs l ++ (l.take k).flatMap eI).map bv) ∧ Frm 5 B w wr
def Row2 (w : World) (B : Nat) (l : List Int) (s : List ByteArray) (b i : Value) (wr : World) : Prop :=
  ∃ k : Nat, k ≤ s.length ∧ i = .int .i64 k ∧ wr.ownsRow B 5 1 b (atS l s k) ((encIs l ++ l.flatMap eI ++ (s.take k).flatMap eS).map bv) ∧ Frm 5 B w wr
theorem rbl_at {w : World} {g n c k k1 : Nat} {A : Option Addr} {xs : List Nat} {b : Bool} (h : Rdr w g A n c xs k false) (e : pBool xs k = some (b, k1)) :
    Calls Try.prog 18 #[.pointer (some ⟨g, 0, none⟩)] w fun e w' => e = .returned (.bool b) ∧ Rdr w' g A n c xs k1 false ∧ Only g w w' := by
  have h2 := rbool_any h
  rw [out_some e] at h2
  exact h2.mono fun _ _ h => h
theorem text_at {w : World} {g n c k k1 : Nat} {A : Option Addr} {xs : List Nat} {mx : Int} {s : ByteArray} (h : Rdr w g A n c xs k false) (hm : mx ≤ 9223372036854775807) (e : pText mx xs k = some (s, k1)) :
    Calls Try.prog 19 #[.pointer (some ⟨g, 0, none⟩), .int .i64 mx] w fun e w' => e = .returned (.string s) ∧ Rdr w' g A n c xs k1 false ∧ Only g w w' := by
  have h2 := text_any mx h hm
  rw [out_some e] at h2
  exact h2.mono fun _ _ h => h
theorem bytes_at {w : World} {g n c k k1 : Nat} {A : Option Addr} {xs : List Nat} {mx : Int} {s : List Nat} (h : Rdr w g A n c xs k false) (hm : mx ≤ 9223372036854775807) (e : pBytes mx xs k = some (s, k1)) :
    Calls Try.prog 20 #[.pointer (some ⟨g, 0, none⟩), .int .i64 mx] w fun e w' => ∃ v, e = .returned v ∧ BRow w.heap.size w' v s ∧ Rdr w' g A n c xs k1 false ∧ Only g w w' := by
  have h2 := bytes_any mx h hm
  rw [out_some e] at h2
  exact h2.mono fun _ _ h => h
theorem ints_at {w : World} {g n c k k1 : Nat} {A : Option Addr} {xs : List Nat} {mx : Int} {l : List Int} (h : Rdr w g A n c xs k false) (hm : mx ≤ 1000000) (e : pIts mx xs k = some (l, k1)) :
    Calls Try.prog 16 #[.pointer (some ⟨g, 0, none⟩), .int .i64 mx] w fun e w' => ∃ v, e = .returned v ∧ IRow w.heap.size w' v l ∧ Rdr w' g A n c xs k1 false ∧ Only g w w' := by
  have h2 := ints_any mx h hm
  rw [out_some e] at h2
  exact h2.mono fun _ _ h => h
theorem endOf_zero {n k : Nat} (h : n ≤ k) : endOf n k false = 0 := by
  unfold endOf
  rw [if_neg (fun h2 => h2.elim (fun h3 => by cases h3) (fun h3 => by omega))]
theorem endOf_four {n k : Nat} (h : k < n) : endOf n k false = 4 := by
  unfold endOf
  rw [if_pos (Or.inr h)]
def Red (w : World) (g : Nat) (A : Option Addr) (n c : Nat) (xs : List Nat) (at_ : Nat → Nat) (m : Nat) (i : Value) (wr : World) : Prop :=
  ∃ k : Nat, k ≤ m ∧ i = .int .i64 k ∧ Rdr wr g A n c xs (at_ k) false ∧ Only g w wr
section
variable (A A2 A3 : Option Addr) (c c2 c3 : Nat) (l : List Int) (s : List ByteArray) (rest : List Nat) (w : World)
/-- What is too large is not asked. -/
theorem rt_else1 (q1 : 60 < l.length) : Calls Try.prog 3 #[.slice A l.length c, .slice A2 s.length c2, .slice A3 rest.length c3] w (Ok w) := by
  have z1 : decide ((60 : Int) < (l.length : Int)) = true := by simp; omega
  go_enter Try.func3, Try.ntmps3
  go_wp2_with fail
  refine (awake_any _).mono ?_
  rintro e w1 ⟨rfl, hb1⟩
  have Hb1 := Lib.hid hb1; clear hb1
  go_wp2
  go_ret
  exact ⟨rfl, Hb1.out⟩
theorem rt_else2 (hs : Ssl w (.slice A2 s.length c2) s) (hsl : s.length ≤ 17592186044000) (q1 : l.length ≤ 60) (q : ¬ (∀ x ∈ s, x.size ≤ 200)) (hm : ∀ x ∈ s, x.size ≤ 9223372036854775807) :
    Calls Try.prog 3 #[.slice A l.length c, .slice A2 s.length c2, .slice A3 rest.length c3] w (Ok w) := by
  have z1 : decide ((60 : Int) < (l.length : Int)) = false := by simp; omega
  have Hs := Lib.hid hs; have Hq := Lib.hid q; have Hm := Lib.hid hm
  clear hs q hm
  go_enter Try.func3, Try.ntmps3
  go_wp2_with fail
  refine (awake_any _).mono ?_
  rintro e w1 ⟨rfl, hb1⟩
  have Hb1 := Lib.hid hb1; clear hb1
  go_wp2_with fail
  refine (few_no A2 c2 s w1 (Hs.out.below Hb1.out) hsl Hq.out Hm.out).mono ?_
  rintro e w2 ⟨rfl, hb2⟩
  have B2 := Lib.hid (Hb1.out.trans (hb2.mono Hb1.out.size)); clear hb2
  go_wp2
  go_ret
  exact ⟨rfl, B2.out⟩
theorem rt_else3 (hs : Ssl w (.slice A2 s.length c2) s) (hsl : s.length ≤ 17592186044000) (q1 : l.length ≤ 60) (q3 : ∀ x ∈ s, x.size ≤ 200) (q : 40 < s.length ∨ 300 < rest.length) :
    Calls Try.prog 3 #[.slice A l.length c, .slice A2 s.length c2, .slice A3 rest.length c3] w (Ok w) := by
  have z1 : decide ((60 : Int) < (l.length : Int)) = false := by simp; omega
  have Hs := Lib.hid hs; have H3 := Lib.hid q3
  clear hs q3
  by_cases q2 : s.length ≤ 40
  · have z4 : decide ((300 : Int) < (rest.length : Int)) = true := by simp; omega
    go_enter Try.func3, Try.ntmps3
    go_wp2_with fail
    refine (awake_any _).mono ?_
    rintro e w1 ⟨rfl, hb1⟩
    have Hb1 := Lib.hid hb1; clear hb1
    go_wp2_with fail
    have hfew := few_yes A2 c2 s w1 (Hs.out.below Hb1.out) hsl H3.out
    rw [show decide (s.length ≤ 40) = true from decide_eq_true q2] at hfew
    refine hfew.mono ?_
    rintro e w2 ⟨rfl, hb2⟩
    have B2 := Lib.hid (Hb1.out.trans (hb2.mono Hb1.out.size)); clear hb2 hfew
    go_wp2
    go_ret
    exact ⟨rfl, B2.out⟩
  · go_enter Try.func3, Try.ntmps3
    go_wp2_with fail
    refine (awake_any _).mono ?_
    rintro e w1 ⟨rfl, hb1⟩
    have Hb1 := Lib.hid hb1; clear hb1
    go_wp2_with fail
    have hfew := few_yes A2 c2 s w1 (Hs.out.below Hb1.out) hsl H3.out
    rw [show decide (s.length ≤ 40) = false from decide_eq_false q2] at hfew
    refine hfew.mono ?_
    rintro e w2 ⟨rfl, hb2⟩
    have B2 := Lib.hid (Hb1.out.trans (hb2.mono Hb1.out.size)); clear hb2 hfew
    go_wp2
    go_ret
    exact ⟨rfl, B2.out⟩
set_option maxRecDepth 100000 in
set_option maxHeartbeats 4000000 in
theorem rt_main (hl : Nsl w (.slice A l.length c) l) (hs : Ssl w (.slice A2 s.length c2) s) (hr : Bsl w (.slice A3 rest.length c3) rest) (hok : ∀ x ∈ l, I64 x) (hb : Byt rest)
    (q1 : l.length ≤ 60) (q2 : s.length ≤ 40) (q3 : ∀ x ∈ s, x.size ≤ 200) (q4 : rest.length ≤ 300) :
    Calls Try.prog 3 #[.slice A l.length c, .slice A2 s.length c2, .slice A3 rest.length c3] w (Ok w) := by
  have z1 : decide ((60 : Int) < (l.length : Int)) = false := by simp; omega
  have z4 : decide ((300 : Int) < (rest.length : Int)) = false := by simp; omega
  have Hl := Lib.hid hl; have Hs := Lib.hid hs; have Hr := Lib.hid hr; have Hok := Lib.hid hok; have Hb := Lib.hid hb; have Q3 := Lib.hid q3
  clear hl hs hr hok hb q3
  go_enter Try.func3, Try.ntmps3
  go_wp2_with fail
  refine (awake_any _).mono ?_
  rintro e w1 ⟨rfl, hb1⟩
  have Hb1 := Lib.hid hb1; clear hb1
  go_wp2_with fail
  have hfew := few_yes A2 c2 s w1 (Hs.out.below Hb1.out) (by omega) Q3.out
  rw [show decide (s.length ≤ 40) = true from decide_eq_true q2] at hfew
  refine hfew.mono ?_
  rintro e w2 ⟨rfl, hb2⟩
  have B2 := Lib.hid (Hb1.out.trans (hb2.mono Hb1.out.size)); clear hb2 hfew
  go_wp2_with fail
  have KL := Lib.hid (show ∀ w', Below w2.heap.size w2 w' → Nsl w' (.slice A l.length c) l from fun w' h => (Hl.out.below B2.out).below h)
  have KS := Lib.hid (show ∀ w', Below w2.heap.size w2 w' → Ssl w' (.slice A2 s.length c2) s from fun w' h => (Hs.out.below B2.out).below h)
  have KR := Lib.hid (show ∀ w', Below w2.heap.size w2 w' → Bsl w' (.slice A3 rest.length c3) rest from fun w' h => (Hr.out.below B2.out).below h)
  refine (ints_own A c l w2 _ w2.heap.size 0 [] (Nat.le_refl _) (World.ownsRow_nil _ _ _ _) (by decide) (by omega) Hok.out (fun w' h => KL.out w' (h.below (Nat.le_refl _)))).mono ?_
  rintro e w3 ⟨v3, rfl, hown3, hf3⟩
  have O3 := Lib.hid hown3; have F3 := Lib.hid hf3
  clear hown3 hf3
  go_wp2_with fail
  go_loopw [7, 8] (fun b i wr => Row1 w2 w2.heap.size l b i wr) (fun _ i _ => l.length - (intOf i).toNat)
  case atStart =>
    refine ⟨0, by omega, rfl, ?_, F3.out⟩
    have h := O3.out
    rw [atI_zero]
    simpa using h
  case round =>
    obtain ⟨k, hk, rfl, hown, hf⟩ := hrel
    have HO := Lib.hid hown; have HF := Lib.hid hf
    clear hown hf
    by_cases hlt : k < l.length
    · obtain ⟨ad, rfl, _, h1⟩ := (KL.out _ (HF.out.below (Nat.le_refl _))).at k hlt
      have hxo := Hok.out _ (List.getElem_mem hlt)
      have hnx := take_next l k hlt eI
      have hat := atI_succ l k hlt
      have hle := atI_le l k q1
      have Keep := Lib.hid (show ∀ w', Frm 5 w2.heap.size w2 w' → w'.cell? (ad.add k) = some (.int .i64 l[k]) from fun w' h => by
        obtain ⟨ad', e1, _, h2⟩ := (KL.out w' (h.below (Nat.le_refl _))).at k hlt
        cases e1
        exact h2)
      obtain ⟨x, hx⟩ : ∃ x, x = l[k] := ⟨_, rfl⟩
      rw [← hx] at h1 hxo hnx hat Keep
      have Hat := Lib.hid hat; have Hnx := Lib.hid hnx; have Hxo := Lib.hid hxo; have Hle := Lib.hid hle
      clear hx hat hnx hxo hle
      have i0 : (0 : Int) ≤ (k : Int) := by omega
      have i1 : (k : Int) < (l.length : Int) := by omega
      obtain ⟨A7, c7, rfl⟩ := own_shapeA HO.out
      have HBr : Hid (w2.heap.size ≤ wr.heap.size) := HF.out.size
      go_wp2_with fail
      go_region_held3 (fun w' => w'.cell? (ad.add k) = some (.int .i64 x))
        (first | (exact Keep.out _ f2) | (exact Keep.out _ f1) | (exact Keep.out _ (HF.out.drewN 1)))
        (first
          | (go_at_call 10; refine (int_own x wr.drew _ w2.heap.size _ _ HBr.out HO.out Hxo.out (by have := Hle.out; unfold Room; omega)).mono ?_; rintro e w5 ⟨v5, rfl, hown5, hf5⟩; have f1 := (HF.out.drewN 1).trans hf5; have O5 := Lib.hid hown5)
          | (go_at_call 9; refine (bool_own (even x) _ _ w2.heap.size _ _ f1.size O5.out (by have := Hle.out; have := enc_len x; unfold Room; omega)).mono ?_; rintro e w6 ⟨v6, rfl, hown6, hf6⟩; have f2 := f1.trans hf6; have O6 := Lib.hid hown6))
      have FF := Lib.hid f2
      clear f1 f2 hown5 hown6 hf5 hf6 O5
      go_wp2
      go_roundw
      case rel =>
        refine ⟨k + 1, by omega, by go_num, ?_, FF.out⟩
        have h := O6.out
        rw [Hat.out, Hnx.out]
        rw [encB_len1] at h
        simp only [eI, List.map_append, List.append_assoc] at h ⊢
        exact h
      case measure => simp [intOf]; omega
    · have hown4 : wr.ownsRow w2.heap.size 5 1 u7 (atS l s 0) ((encIs l ++ l.flatMap eI ++ (s.take 0).flatMap eS).map bv) := by
        have h := HO.out
        rw [atI_end l s (by omega), List.take_of_length_le (by omega)] at h
        simpa using h
      have O4 := Lib.hid hown4; have F4 := Lib.hid HF.out
      clear hown4 HO HF
      go_wp2_with fail
      clear hlt hk
      go_loopw [7, 9] (fun b i wr => Row2 w2 w2.heap.size l s b i wr) (fun _ i _ => s.length - (intOf i).toNat)
      case atStart => exact ⟨0, by omega, rfl, O4.out, F4.out⟩
      case round =>
        obtain ⟨k, hk, rfl, hown, hf⟩ := hrel
        have HO := Lib.hid hown; have HF := Lib.hid hf
        clear hown hf
        by_cases hlt : k < s.length
        · obtain ⟨ad, rfl, _, h1⟩ := (KS.out _ (HF.out.below (Nat.le_refl _))).at k hlt
          have hxo := Q3.out _ (List.getElem_mem hlt)
          have hnx := take_next s k hlt eS
          have hat := atS_succ l s k hlt
          have hle := atS_le l s k q1 q2 Q3.out
          have Keep := Lib.hid (show ∀ w', Frm 5 w2.heap.size w2 w' → w'.cell? (ad.add k) = some (.string s[k]) from fun w' h => by
            obtain ⟨ad', e1, _, h2⟩ := (KS.out w' (h.below (Nat.le_refl _))).at k hlt
            cases e1
            exact h2)
          obtain ⟨x, hx⟩ : ∃ x, x = s[k] := ⟨_, rfl⟩
          rw [← hx] at h1 hxo hnx hat Keep
          have Hat := Lib.hid hat; have Hnx := Lib.hid hnx; have Hxo := Lib.hid hxo; have Hle := Lib.hid hle
          clear hx hat hnx hxo hle
          have i0 : (0 : Int) ≤ (k : Int) := by omega
          have i1 : (k : Int) < (s.length : Int) := by omega
          obtain ⟨A7, c7, rfl⟩ := own_shapeA HO.out
          have HBr : Hid (w2.heap.size ≤ wr.heap.size) := HF.out.size
          go_wp2_with fail
          have hcv := Lib.hid (cw_run x)
          have Hgx := Lib.hid (show ∀ W : World, x.size ≤ grownCap W x.size 0 5 from fun W => grownCap_ge W x.size 0 5)
          have Hxl := Lib.hid (show (encS x).length ≤ 210 by rw [encS, List.length_append, bytesOf_len]; have := enc_len (x.size : Int); have := Hxo.out; omega)
          refine wp_region_noPanic ?_
          refine wp_region_held_drew (S := fun w' => w'.cell? (ad.add k) = some (.string x)) (by kernel_rfl) h1 (fun hHeld => ?_)
          refine wpAnyH_take (i := 0) (v := ?_) rfl (by kernel_rfl) (by kernel_rfl) (by kernel_rfl) (fun _ _ _ h => h) (Or.inl ⟨by rfl, ?_⟩) hHeld ?_
          rotate_left
          focus ((intro w hSw; (try dsimp only at hSw); go_simp); try with_reducible rfl)
          try simp only [Act.put]
          refine wpAnyH_take (i := 1) (v := ?_) rfl (by kernel_rfl) (by kernel_rfl) (by kernel_rfl) (fun _ _ _ h => h) (Or.inl ⟨by rfl, ?_⟩) hHeld ?_
          rotate_left
          focus ((intro w hSw; (try dsimp only at hSw); go_simp); try with_reducible rfl)
          try simp only [Act.put]
          refine wpAnyH_take (i := 2) (v := ?_) rfl (by kernel_rfl) (by kernel_rfl) (by kernel_rfl) (fun _ _ _ h => h) (Or.inl ⟨by rfl, ?_⟩) hHeld ?_
          rotate_left
          focus ((intro w hSw; (try dsimp only at hSw); go_simp); try with_reducible rfl)
          try simp only [Act.put]
          refine wpAnyH_take (i := 3) (v := ?_) rfl (by kernel_rfl) (by kernel_rfl) (by kernel_rfl) (fun _ _ _ h => h) (Or.inl ⟨by rfl, ?_⟩) hHeld ?_
          rotate_left
          focus ((intro w hSw; (try dsimp only at hSw); go_simp); try with_reducible rfl)
          try simp only [Act.put]
          refine wpAnyH_take (i := 4) (v := ?_) rfl (by kernel_rfl) (by kernel_rfl) (by kernel_rfl) (fun _ _ _ h => h) (Or.inl ⟨by rfl, ?_⟩) hHeld ?_
          rotate_left
          focus ((intro w hSw; (try dsimp only at hSw); go_simp); try with_reducible rfl)
          try simp only [Act.put]
          refine wpAnyH_take (i := 6) (v := ?_) rfl (by kernel_rfl) (by kernel_rfl) (by kernel_rfl) (fun _ _ _ h => h) (Or.inl ⟨by rfl, ?_⟩) hHeld ?_
          rotate_left
          focus ((intro w hSw; (try dsimp only at hSw); go_simp); try with_reducible rfl)
          try simp only [Act.put]
          refine wpAnyH_take (i := 7) (v := ?_) rfl (by kernel_rfl) (by kernel_rfl) (by kernel_rfl) (fun _ _ _ h => h) (Or.inl ⟨by rfl, ?_⟩) hHeld ?_
          rotate_left
          focus ((intro w hSw; (try dsimp only at hSw); go_simp); try with_reducible rfl)
          try simp only [Act.put]
          refine wpAnyH_take (i := 8) (v := ?_) rfl (by kernel_rfl) (by kernel_rfl) (by kernel_rfl) (fun _ _ _ h => h) (Or.inl ⟨by rfl, ?_⟩) hHeld ?_
          rotate_left
          focus ((intro w hSw; (try dsimp only at hSw); go_simp); try with_reducible rfl)
          try simp only [Act.put]
          refine wpAnyH_take (i := 9) (v := ?_) rfl (by kernel_rfl) (by kernel_rfl) (by kernel_rfl) (fun _ _ _ h => h) (Or.inl ⟨by rfl, ?_⟩) hHeld ?_
          rotate_left
          focus ((intro w hSw; (try dsimp only at hSw); go_simp); try with_reducible rfl)
          try simp only [Act.put]
          refine wpAnyH_ready (rs := [5, 10]) (by kernel_rfl) (by simp) ?_
          refine AllReadyH.cons rfl (fun K hK => ?_) ?_
          focus ((go_simp; refine (text_grw x wr.drew _ w2.heap.size _ _ HBr.out HO.out (by have := Hle.out; unfold Room; omega) (by have := Hxo.out; unfold Room; omega)).mono ?_; rintro e w5 ⟨v5, rfl, hown5, hf5, hst5⟩; have f1 := Lib.hid ((HF.out.drewN 1).trans hf5); have O5 := Lib.hid hown5; clear hown5 hf5 hst5); refine hK.out _ _ (Keep.out _ f1.out) (fun hHeld => ?_); clear hK K; try simp only [Act.put])
          · refine wpAnyH_ready (rs := [10]) (by kernel_rfl) (by simp) ?_
            refine AllReadyH.cons rfl (fun K hK => ?_) ?_
            focus ((go_simp; rw [hcv.out]); refine hK.out _ _ (Keep.out _ (f1.out.trans (cw_frm _ _ _))) (fun hHeld => ?_); clear hK K; try simp only [Act.put])
            rotate_left
            exact AllReadyH.nil
            refine wpAnyH_ready (rs := [11]) (by kernel_rfl) (by simp) ?_
            refine AllReadyH.cons rfl (fun K hK => ?_) ?_
            focus ((go_simp; refine (bytes_own (cw w5 x) v5 _ w2.heap.size (atS l s k + (encS x).length) (encIs l ++ l.flatMap eI ++ (s.take k).flatMap eS ++ encS x) (bytesOf x) (Nat.le_trans f1.out.size (cw_below w5 x).size) (by have h := own_below O5.out (cw_below w5 x); rw [← List.map_append] at h; exact h) (cw_bsl w5 (cw w5 x) x _ (Hgx.out w5) rfl) (by have := Hle.out; have := Hxl.out; omega) (by rw [bytesOf_len]; have := Hxo.out; omega)).mono ?_; rintro e w6 ⟨v6, rfl, hown6, hf6⟩; have F6 := Lib.hid ((f1.out.trans (cw_frm w5 x _)).trans hf6); have O6 := Lib.hid hown6; clear hown6 hf6); refine hK.out _ _ (Keep.out _ F6.out) (fun hHeld => ?_); clear hK K; try simp only [Act.put])
            rotate_left
            exact AllReadyH.nil
            refine wpAnyH_take (i := 12) (v := ?_) rfl (by kernel_rfl) (by kernel_rfl) (by kernel_rfl) (fun _ _ _ h => h) (Or.inl ⟨by rfl, ?_⟩) hHeld ?_
            rotate_left
            focus ((intro w hSw; (try dsimp only at hSw); go_simp); try with_reducible rfl)
            try simp only [Act.put]
            refine wpAnyH_done (by kernel_rfl) ?_ _
            refine NoPanic.normal ?_
            clear f1 O5 hHeld
            go_wp2
            go_roundw
            case rel =>
              refine ⟨k + 1, by omega, by go_num, ?_, F6.out⟩
              have h := O6.out
              rw [Hat.out, Hnx.out]
              rw [bytesOf_len] at h
              have e1 : enc (x.size : Int) ++ bytesOf x = encS x := rfl
              rw [e1] at h
              rw [← List.map_append] at h
              simp only [eS, List.append_assoc] at h ⊢
              exact h
            case measure => simp [intOf]; omega
          refine AllReadyH.cons rfl (fun K hK => ?_) ?_
          focus ((go_simp; rw [hcv.out]); refine hK.out _ _ (Keep.out _ ((HF.out.drewN 1).trans (cw_frm _ _ _))) (fun hHeld => ?_); clear hK K; try simp only [Act.put])
          · refine wpAnyH_ready (rs := [5]) (by kernel_rfl) (by simp) ?_
            refine AllReadyH.cons rfl (fun K hK => ?_) ?_
            focus ((go_simp; refine (text_grw x (cw wr.drew x) _ w2.heap.size _ _ (Nat.le_trans HBr.out (cw_below wr.drew x).size) (own_below (w := wr.drew) HO.out (cw_below wr.drew x)) (by have := Hle.out; unfold Room; omega) (by have := Hxo.out; unfold Room; omega)).mono ?_; rintro e w5 ⟨v5, rfl, hown5, hf5, hst5⟩; have f1 := Lib.hid (((HF.out.drewN 1).trans (cw_frm wr.drew x _)).trans hf5); have O5 := Lib.hid hown5; have S5 := Lib.hid hst5; clear hown5 hf5 hst5); refine hK.out _ _ (Keep.out _ f1.out) (fun hHeld => ?_); clear hK K; try simp only [Act.put])
            rotate_left
            exact AllReadyH.nil
            refine wpAnyH_ready (rs := [11]) (by kernel_rfl) (by simp) ?_
            refine AllReadyH.cons rfl (fun K hK => ?_) ?_
            focus ((go_simp; refine (bytes_own w5 v5 _ w2.heap.size (atS l s k + (encS x).length) (encIs l ++ l.flatMap eI ++ (s.take k).flatMap eS ++ encS x) (bytesOf x) f1.out.size (by have h := O5.out; rw [← List.map_append] at h; exact h) (cw_bsl wr.drew w5 x _ (Hgx.out wr.drew) (S5.out _ (by rw [cw_size]; exact Nat.lt_succ_self _) (fun h => by have h3 := (HO.out.lt _ h).2; exact absurd h3 (Nat.lt_irrefl _)))) (by have := Hle.out; have := Hxl.out; omega) (by rw [bytesOf_len]; have := Hxo.out; omega)).mono ?_; rintro e w6 ⟨v6, rfl, hown6, hf6⟩; have F6 := Lib.hid (f1.out.trans hf6); have O6 := Lib.hid hown6; clear hown6 hf6); refine hK.out _ _ (Keep.out _ F6.out) (fun hHeld => ?_); clear hK K; try simp only [Act.put])
            rotate_left
            exact AllReadyH.nil
            refine wpAnyH_take (i := 12) (v := ?_) rfl (by kernel_rfl) (by kernel_rfl) (by kernel_rfl) (fun _ _ _ h => h) (Or.inl ⟨by rfl, ?_⟩) hHeld ?_
            rotate_left
            focus ((intro w hSw; (try dsimp only at hSw); go_simp); try with_reducible rfl)
            try simp only [Act.put]
            refine wpAnyH_done (by kernel_rfl) ?_ _
            refine NoPanic.normal ?_
            clear f1 O5 hHeld
            go_wp2
            go_roundw
            case rel =>
              refine ⟨k + 1, by omega, by go_num, ?_, F6.out⟩
              have h := O6.out
              rw [Hat.out, Hnx.out]
              rw [bytesOf_len] at h
              have e1 : enc (x.size : Int) ++ bytesOf x = encS x := rfl
              rw [e1] at h
              rw [← List.map_append] at h
              simp only [eS, List.append_assoc] at h ⊢
              exact h
            case measure => simp [intOf]; omega
          exact AllReadyH.nil
        · have hown8 : wr.ownsRow w2.heap.size 5 1 u7 (whol l s).length ((whol l s).map bv) := by
            have h := HO.out
            rw [atS_end l s (by omega), List.take_of_length_le (by omega)] at h
            exact h
          have W8 := Lib.hid (Bsl.of_own hown8); have F8 := Lib.hid (HF.out.below (Nat.le_refl _))
          clear hown8 HO HF
          have hwl := whol_len l s q1 q2 Q3.out
          obtain ⟨XS, hXS⟩ : ∃ XS, XS = whol l s ++ rest := ⟨_, rfl⟩
          have hXl : XS.length = (whol l s).length + rest.length := by rw [hXS, List.length_append]
          have HXS := Lib.hid hXS; have HXl := Lib.hid hXl
          have hwx : XS.length ≤ 20300 := by omega
          clear hXS hXl
          go_wp2_with fail
          clear hlt hk
          refine (joined_any u7 _ (whol l s) rest wr W8.out (KR.out _ F8.out) (by omega) (by omega)).mono ?_
          rintro e w4 ⟨v4, rfl, hs4, hb4⟩
          rw [← HXS.out] at hs4
          have W4 := Lib.hid hs4; have B4 := Lib.hid (F8.out.trans (hb4.mono F8.out.size)); clear hs4 hb4 W8
          go_wp2_with fail
          refine (new_any v4 XS w4 W4.out (by rw [HXS.out]; exact byt_app (whol_byt l s q1 Hok.out Q3.out) Hb.out) (by unfold Room2; omega)).mono ?_
          rintro e w5 ⟨g, A5, c5, rfl, hg, _, hR5, hb5⟩
          have R5 := Lib.hid hR5; have B5 := Lib.hid (B4.out.trans (hb5.mono B4.out.size)); clear hR5 hb5
          have hg2 : w2.heap.size ≤ g := Nat.le_trans B4.out.size hg
          have KO := Lib.hid (show ∀ w', Only g w5 w' → Below w2.heap.size w2 w' from fun w' h => B5.out.trans (h.toBelow hg2 B5.out.size))
          clear W4 hg
          have hri := read_l l s rest q1 Hok.out
          rw [← HXS.out] at hri
          have Hri := Lib.hid hri; clear hri
          go_wp2_with fail
          refine (ints_at R5.out (by decide) Hri.out).mono ?_
          rintro e w6 ⟨v6, rfl, hv6, hR6, ho6⟩
          have V6 := Lib.hid (Nsl.of_row hv6); have R6 := Lib.hid hR6; have G6 := Lib.hid ho6
          clear hv6 hR6 ho6
          obtain ⟨A6, c6, rfl⟩ := V6.out.shape
          go_wp2_with fail
          refine (sameints_any A6 A c6 c l l w6 V6.out (KL.out _ (KO.out _ G6.out)) (by omega) (by omega) rfl).mono ?_
          rintro e w7 ⟨rfl, hb7⟩
          have G7 := Lib.hid (G6.out.below hb7); have R7 := Lib.hid (R6.out.below hb7); clear hb7 V6 G6 R6
          go_wp2_with fail
          go_loopw [11] (fun i wr => Red w5 g A5 XS.length c5 XS (atI l) l.length i wr) (fun i _ => l.length - (intOf i).toNat)
          case atStart => exact ⟨0, by omega, rfl, R7.out, G7.out⟩
          case round =>
            obtain ⟨k, hk, rfl, hR, ho⟩ := hrel
            have HR := Lib.hid hR; have HG := Lib.hid ho
            clear hR ho
            by_cases hlt : k < l.length
            · obtain ⟨ad, rfl, _, h1⟩ := (KL.out _ (KO.out _ HG.out)).at k hlt
              have hxo := Hok.out _ (List.getElem_mem hlt)
              have hrd := read_i l s rest k hlt hxo
              rw [← HXS.out] at hrd
              have Keep := Lib.hid (show ∀ w', Only g w5 w' → w'.cell? (ad.add k) = some (.int .i64 l[k]) from fun w' h => by
                obtain ⟨ad', e1, _, h2⟩ := (KL.out w' (KO.out _ h)).at k hlt
                cases e1
                exact h2)
              obtain ⟨x, hx⟩ : ∃ x, x = l[k] := ⟨_, rfl⟩
              rw [← hx] at h1 hrd Keep
              have Hp := Lib.hid hrd.1; have Hq := Lib.hid hrd.2
              clear hx hrd hxo
              have i0 : (0 : Int) ≤ (k : Int) := by omega
              have i1 : (k : Int) < (l.length : Int) := by omega
              have d0 : (x != x) = false := by simp
              have HD := Lib.hid HR.out.drew
              unfold even at Hq
              go_wp2_with fail
              go_region_held3 (fun w' => w'.cell? (ad.add k) = some (.int .i64 x))
                (first | (exact Keep.out _ f2) | (exact Keep.out _ f1) | (exact Keep.out _ HG.out.drew))
                (first
                  | (go_at_call 17; refine (bnd_some HD.out Hp.out).mono ?_; rintro e w8 ⟨rfl, hR8, ho8⟩; have f1 := HG.out.drew.trans ho8; have R8 := Lib.hid hR8)
                  | (go_at_call 18; refine (rbl_at R8.out Hq.out).mono ?_; rintro e w9 ⟨rfl, hR9, ho9⟩; have f2 := f1.trans ho9; have R9 := Lib.hid hR9))
              have G9 := Lib.hid f2
              clear f1 f2 hR8 ho8 hR9 ho9 R8 HD
              go_wp2
              go_roundw
              case rel => exact ⟨k + 1, by omega, by go_num, R9.out, G9.out⟩
              case measure => simp [intOf]; omega
            · have R8 := Lib.hid (show Rdr wr g A5 XS.length c5 XS (atS l s 0) false by rw [← atI_end l s (k := k) (by omega)]; exact HR.out)
              have G8 := Lib.hid HG.out
              clear HR HG
              go_wp2_with fail
              clear hlt hk
              go_loopw [12] (fun i wr => Red w5 g A5 XS.length c5 XS (atS l s) s.length i wr) (fun i _ => s.length - (intOf i).toNat)
              case atStart => exact ⟨0, by omega, rfl, R8.out, G8.out⟩
              case round =>
                obtain ⟨k, hk, rfl, hR, ho⟩ := hrel
                have HR := Lib.hid hR; have HG := Lib.hid ho
                clear hR ho
                by_cases hlt : k < s.length
                · obtain ⟨ad, rfl, _, h1⟩ := (KS.out _ (KO.out _ HG.out)).at k hlt
                  have hxo := Q3.out _ (List.getElem_mem hlt)
                  have hrd := read_s l s rest k hlt hxo
                  rw [← HXS.out] at hrd
                  have Keep := Lib.hid (show ∀ w', Only g w5 w' → w'.cell? (ad.add k) = some (.string s[k]) from fun w' h => by
                    obtain ⟨ad', e1, _, h2⟩ := (KS.out w' (KO.out _ h)).at k hlt
                    cases e1
                    exact h2)
                  obtain ⟨x, hx⟩ : ∃ x, x = s[k] := ⟨_, rfl⟩
                  rw [← hx] at h1 hrd Keep hxo
                  have Ht := Lib.hid hrd.1; have Hy := Lib.hid hrd.2
                  clear hx hrd
                  have i0 : (0 : Int) ≤ (k : Int) := by omega
                  have i1 : (k : Int) < (s.length : Int) := by omega
                  go_wp2_with fail
                  refine wp_region_noPanic ?_
                  refine wp_region_held_drew (S := fun w' => w'.cell? (ad.add k) = some (.string x)) (by kernel_rfl) h1 (fun hHeld => ?_)
                  refine wpAnyH_take (i := 0) (v := ?_) rfl (by kernel_rfl) (by kernel_rfl) (by kernel_rfl) (fun _ _ _ h => h) (Or.inl ⟨by rfl, ?_⟩) hHeld ?_
                  rotate_left
                  focus ((intro w hSw; (try dsimp only at hSw); go_simp); try with_reducible rfl)
                  try simp only [Act.put]
                  refine wpAnyH_take (i := 1) (v := ?_) rfl (by kernel_rfl) (by kernel_rfl) (by kernel_rfl) (fun _ _ _ h => h) (Or.inl ⟨by rfl, ?_⟩) hHeld ?_
                  rotate_left
                  focus ((intro w hSw; (try dsimp only at hSw); go_simp); try with_reducible rfl)
                  try simp only [Act.put]
                  refine wpAnyH_take (i := 2) (v := ?_) rfl (by kernel_rfl) (by kernel_rfl) (by kernel_rfl) (fun _ _ _ h => h) (Or.inl ⟨by rfl, ?_⟩) hHeld ?_
                  rotate_left
                  focus ((intro w hSw; (try dsimp only at hSw); go_simp); try with_reducible rfl)
                  try simp only [Act.put]
                  refine wpAnyH_take (i := 3) (v := ?_) rfl (by kernel_rfl) (by kernel_rfl) (by kernel_rfl) (fun _ _ _ h => h) (Or.inl ⟨by rfl, ?_⟩) hHeld ?_
                  rotate_left
                  focus ((intro w hSw; (try dsimp only at hSw); go_simp); try with_reducible rfl)
                  try simp only [Act.put]
                  refine wpAnyH_take (i := 4) (v := ?_) rfl (by kernel_rfl) (by kernel_rfl) (by kernel_rfl) (fun _ _ _ h => h) (Or.inl ⟨by rfl, ?_⟩) hHeld ?_
                  rotate_left
                  focus ((intro w hSw; (try dsimp only at hSw); go_simp); try with_reducible rfl)
                  try simp only [Act.put]
                  refine wpAnyH_take (i := 5) (v := ?_) rfl (by kernel_rfl) (by kernel_rfl) (by kernel_rfl) (fun _ _ _ h => h) (Or.inl ⟨by rfl, ?_⟩) hHeld ?_
                  rotate_left
                  focus ((intro w hSw; (try dsimp only at hSw); go_simp); try with_reducible rfl)
                  try simp only [Act.put]
                  refine wpAnyH_take (i := 7) (v := ?_) rfl (by kernel_rfl) (by kernel_rfl) (by kernel_rfl) (fun _ _ _ h => h) (Or.inl ⟨by rfl, ?_⟩) hHeld ?_
                  rotate_left
                  focus ((intro w hSw; (try dsimp only at hSw); go_simp); try with_reducible rfl)
                  try simp only [Act.put]
                  refine wpAnyH_take (i := 8) (v := ?_) rfl (by kernel_rfl) (by kernel_rfl) (by kernel_rfl) (fun _ _ _ h => h) (Or.inl ⟨by rfl, ?_⟩) hHeld ?_
                  rotate_left
                  focus ((intro w hSw; (try dsimp only at hSw); go_simp); try with_reducible rfl)
                  try simp only [Act.put]
                  refine wpAnyH_take (i := 9) (v := ?_) rfl (by kernel_rfl) (by kernel_rfl) (by kernel_rfl) (fun _ _ _ h => h) (Or.inl ⟨by rfl, ?_⟩) hHeld ?_
                  rotate_left
                  focus ((intro w hSw; (try dsimp only at hSw); go_simp); try with_reducible rfl)
                  try simp only [Act.put]
                  refine wpAnyH_take (i := 10) (v := ?_) rfl (by kernel_rfl) (by kernel_rfl) (by kernel_rfl) (fun _ _ _ h => h) (Or.inl ⟨by rfl, ?_⟩) hHeld ?_
                  rotate_left
                  focus ((intro w hSw; (try dsimp only at hSw); go_simp); try with_reducible rfl)
                  try simp only [Act.put]
                  refine wpAnyH_ready (rs := [6]) (by kernel_rfl) (by simp) ?_
                  refine AllReadyH.cons rfl (fun K hK => ?_) ?_
                  focus ((go_simp; refine (text_at HR.out.drew (by omega) Ht.out).mono ?_; rintro e w8 ⟨rfl, hR8, ho8⟩; have G8 := Lib.hid (HG.out.drew.trans ho8); have R8 := Lib.hid hR8; clear hR8 ho8); refine hK.out _ _ (Keep.out _ G8.out) (fun hHeld => ?_); clear hK K; try simp only [Act.put])
                  rotate_left
                  exact AllReadyH.nil
                  refine wpAnyH_take (i := 11) (v := ?_) rfl (by kernel_rfl) (by kernel_rfl) (by kernel_rfl) (fun _ _ _ h => h) (Or.inl ⟨by rfl, ?_⟩) hHeld ?_
                  rotate_left
                  focus ((intro w hSw; (try dsimp only at hSw); go_simp); try with_reducible rfl)
                  try simp only [Act.put]
                  refine wpAnyH_take (i := 12) (v := ?_) rfl (by kernel_rfl) (by kernel_rfl) (by kernel_rfl) (fun _ _ _ h => h) (Or.inl ⟨by rfl, ?_⟩) hHeld ?_
                  rotate_left
                  focus ((intro w hSw; (try dsimp only at hSw); go_simp); try with_reducible rfl)
                  try simp only [Act.put]
                  refine wpAnyH_take (i := 13) (v := ?_) rfl (by kernel_rfl) (by kernel_rfl) (by kernel_rfl) (fun _ _ _ h => h) (Or.inl ⟨by rfl, ?_⟩) hHeld ?_
                  rotate_left
                  focus ((intro w hSw; (try dsimp only at hSw); go_simp); try with_reducible rfl)
                  try simp only [Act.put]
                  refine wpAnyH_take (i := 16) (v := ?_) rfl (by kernel_rfl) (by kernel_rfl) (by kernel_rfl) (fun _ _ _ h => h) (Or.inl ⟨by rfl, ?_⟩) hHeld ?_
                  rotate_left
                  focus ((intro w hSw; (try dsimp only at hSw); go_simp); try with_reducible rfl)
                  try simp only [Act.put]
                  refine wpAnyH_take (i := 17) (v := ?_) rfl (by kernel_rfl) (by kernel_rfl) (by kernel_rfl) (fun _ _ _ h => h) (Or.inl ⟨by rfl, ?_⟩) hHeld ?_
                  rotate_left
                  focus ((intro w hSw; (try dsimp only at hSw); go_simp); try with_reducible rfl)
                  try simp only [Act.put]
                  refine wpAnyH_take (i := 18) (v := ?_) rfl (by kernel_rfl) (by kernel_rfl) (by kernel_rfl) (fun _ _ _ h => h) (Or.inl ⟨by rfl, ?_⟩) hHeld ?_
                  rotate_left
                  focus ((intro w hSw; (try dsimp only at hSw); go_simp); try with_reducible rfl)
                  try simp only [Act.put]
                  refine wpAnyH_take (i := 19) (v := ?_) rfl (by kernel_rfl) (by kernel_rfl) (by kernel_rfl) (fun _ _ _ h => h) (Or.inl ⟨by rfl, ?_⟩) hHeld ?_
                  rotate_left
                  focus ((intro w hSw; (try dsimp only at hSw); go_simp); try with_reducible rfl)
                  try simp only [Act.put]
                  refine wpAnyH_ready (rs := [14]) (by kernel_rfl) (by simp) ?_
                  refine AllReadyH.cons rfl (fun K hK => ?_) ?_
                  focus ((go_simp; refine (bytes_at R8.out (by decide) Hy.out).mono ?_; rintro e w9 ⟨v9, rfl, hv9, hR9, ho9⟩; have G9 := Lib.hid (G8.out.trans ho9); have R9 := Lib.hid hR9; have V9 := Lib.hid (Bsl.of_own hv9); clear hR9 ho9 hv9); refine hK.out _ _ (Keep.out _ G9.out) (fun hHeld => ?_); clear hK K; try simp only [Act.put])
                  rotate_left
                  exact AllReadyH.nil
                  have hrs := run_str (P := Try.prog) w9 24 5 9 Try.underlying24 Try.underlying5 Try.underlying9 v9 (bytesOf x) V9.out
                  rw [strOf_bytesOf] at hrs
                  refine wpAnyH_ready (rs := [15]) (by kernel_rfl) (by simp) ?_
                  refine AllReadyH.cons rfl (fun K hK => ?_) ?_
                  focus ((go_simp; (try rw [hrs])); refine hK.out _ _ (Keep.out _ G9.out) (fun hHeld => ?_); clear hK K; try simp only [Act.put])
                  rotate_left
                  exact AllReadyH.nil
                  clear hrs
                  refine wpAnyH_take (i := 20) (v := ?_) rfl (by kernel_rfl) (by kernel_rfl) (by kernel_rfl) (fun _ _ _ h => h) (Or.inl ⟨by rfl, ?_⟩) hHeld ?_
                  rotate_left
                  focus ((intro w hSw; (try dsimp only at hSw); go_simp); try with_reducible rfl)
                  try simp only [Act.put]
                  refine wpAnyH_take (i := 21) (v := ?_) rfl (by kernel_rfl) (by kernel_rfl) (by kernel_rfl) (fun _ _ _ h => h) (Or.inl ⟨by rfl, ?_⟩) hHeld ?_
                  rotate_left
                  focus ((intro w hSw; (try dsimp only at hSw); go_simp); try with_reducible rfl)
                  try simp only [Act.put]
                  refine wpAnyH_done (by kernel_rfl) ?_ _
                  refine NoPanic.normal ?_
                  clear hHeld
                  go_wp2
                  go_roundw
                  case rel => exact ⟨k + 1, by omega, by go_num, R9.out, G9.out⟩
                  case measure => simp [intOf]; omega
                · have R9 := Lib.hid (show Rdr wr g A5 XS.length c5 XS (whol l s).length false by rw [← atS_end l s (k := k) (by omega)]; exact HR.out)
                  have G9 := Lib.hid HG.out
                  clear HR HG
                  have hlf := left_any R9.out
                  rw [show ((XS.length : Int) - ((whol l s).length : Int)) = (rest.length : Int) by have := HXl.out; omega] at hlf
                  have Hlf := Lib.hid hlf; clear hlf
                  have hee : ((rest.length : Int) == (rest.length : Int)) = true := by simp
                  have hXl2 := HXl.out
                  by_cases hz : rest.length = 0
                  · have hn0 : XS.length ≤ (whol l s).length := by omega
                    clear hXl2
                    have z0 : ((rest.length : Int) == 0) = true := beq_iff_eq.2 (by omega)
                    have he : endOf XS.length (whol l s).length false = 0 := endOf_zero hn0
                    have He := Lib.hid he; clear he hz hn0
                    go_wp2_with fail
                    refine Hlf.out.mono ?_
                    rintro e w10 ⟨rfl, m, rfl⟩
                    have hen := end_any (R9.out.drewN m)
                    rw [He.out] at hen
                    have Hen := Lib.hid hen; clear hen
                    go_wp2_with fail
                    refine Hen.out.mono ?_
                    rintro e w11 ⟨rfl, m2, rfl⟩
                    go_wp2
                    go_ret
                    exact ⟨rfl, B2.out.trans ((KO.out _ (G9.out.drewN (m + m2))).mono B2.out.size)⟩
                  · have hn0 : (whol l s).length < XS.length := by omega
                    clear hXl2
                    have z0 : ((rest.length : Int) == 0) = false := beq_eq_false_iff_ne.2 (by omega)
                    have he : endOf XS.length (whol l s).length false = 4 := endOf_four hn0
                    have He := Lib.hid he; clear he hz hn0
                    go_wp2_with fail
                    refine Hlf.out.mono ?_
                    rintro e w10 ⟨rfl, m, rfl⟩
                    have hen := end_any (R9.out.drewN m)
                    rw [He.out] at hen
                    have Hen := Lib.hid hen; clear hen
                    go_wp2_with fail
                    refine Hen.out.mono ?_
                    rintro e w11 ⟨rfl, m2, rfl⟩
                    go_wp2
                    go_ret
                    exact ⟨rfl, B2.out.trans ((KO.out _ (G9.out.drewN (m + m2))).mono B2.out.size)⟩
theorem rt_walk (hl : Nsl w (.slice A l.length c) l) (hok : ∀ x ∈ l, I64 x) (hs : Ssl w (.slice A2 s.length c2) s) (hsl : s.length ≤ 17592186044000) (hm : ∀ x ∈ s, x.size ≤ 9223372036854775807) (hr : Bsl w (.slice A3 rest.length c3) rest) (hb : Byt rest) :
    Calls Try.prog 3 #[.slice A l.length c, .slice A2 s.length c2, .slice A3 rest.length c3] w (Ok w) := by
  by_cases q1 : l.length ≤ 60
  · by_cases q3 : ∀ x ∈ s, x.size ≤ 200
    · by_cases q : 40 < s.length ∨ 300 < rest.length
      · exact rt_else3 A A2 A3 c c2 c3 l s rest w hs hsl q1 q3 q
      · exact rt_main A A2 A3 c c2 c3 l s rest w hl hs hr hok hb q1 (by omega) q3 (by omega)
    · exact rt_else2 A A2 A3 c c2 c3 l s rest w hs hsl q1 q3 hm
  · exact rt_else1 A A2 A3 c c2 c3 l s rest w (by omega)
end
end Go.Proofs.Ytlimaefgifgegaa
