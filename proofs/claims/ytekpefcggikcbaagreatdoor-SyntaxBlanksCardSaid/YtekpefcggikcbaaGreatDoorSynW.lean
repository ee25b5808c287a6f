/- Layer 10: the contract of items, as deep as there are tokens. -/
import Derived.Test.YtekpefcggikcbaaGreatDoorSynR
import Derived.Deep.LoopGhost
namespace Go.Proofs.YtekpefcggikcbaaGreatDoor
open Go.RowKit

section
variable {E : Nat} {s : St} {p : P (List It)}
theorem sendP_dec : Dec (sendP E) := wordP_dec.bind fun _ => (expectP_dec _).bind fun _ => wordsP_dec.bind fun _ => (expectP_dec _).bind fun _ => pathP_dec.bind fun _ => (expectP_dec _).bind fun _ => Dec.pure _
theorem againP_dec : Dec (againP E) := pathP_dec.bind fun _ => (expectP_dec _).bind fun _ => Dec.pure _
theorem callP_dec : Dec (callP E) := wordP_dec.bind fun _ => (expectP_dec _).bind fun _ => wordsP_dec.bind fun _ => (expectP_dec _).bind fun _ => (expectP_dec _).bind fun _ => wordP_dec.bind fun _ => (expectP_dec _).bind fun _ => Dec.pure _
theorem choiceP_dec (hp : Dec p) : Dec (choiceP E p) := (expectP_dec _).bind fun _ => wordP_dec.bind fun _ => withinP_dec.bind fun _ => (sepP_dec (blockP_dec hp)).bind fun _ => (elseP_dec hp _ _).bind fun _ => Dec.pure _
theorem loopP_dec (hp : Dec p) : Dec (loopP E p) := pathP_dec.bind fun _ => (blockP_dec hp).bind fun _ => Dec.pure _
theorem parP_dec (hp : Dec p) : Dec (parP E p) := (blockP_dec hp).bind fun _ => (expectP_dec _).bind fun _ => (sepP_dec (blockP_dec hp)).bind fun _ => Dec.pure _
theorem itemP_dec (hp : Dec p) : Dec (itemP E p) := (takeP_dec _).bind fun _ => Dec.ite (choiceP_dec hp) ((takeP_dec _).bind fun _ => Dec.ite (loopP_dec hp) ((takeP_dec _).bind fun _ => Dec.ite againP_dec ((takeP_dec _).bind fun _ => Dec.ite (parP_dec hp) ((takeP_dec _).bind fun _ => Dec.ite callP_dec sendP_dec))))
theorem readS_eats (b : Bool) (h : s.r ≠ []) (he : s.e ≠ 0 → s.r = []) : (readS E b s).2.r.length < s.r.length := by
  have hl := List.length_pos_iff.2 h
  cases b with
  | true => rw [readS_yes]; simp; omega
  | false =>
    rw [readS_no]
    have h0 : s.e = 0 := Decidable.byContradiction fun h1 => h (he h1)
    show (failS E 3 s).r.length < _
    rw [failS_ok 3 h0]
    simpa using hl
theorem expectP_eats (x : Bs) (h : s.r ≠ []) (he : s.e ≠ 0 → s.r = []) : (expectP E x s).2.r.length < s.r.length := readS_eats _ h he
theorem itemP_eats (hp : Dec p) (h : s.r ≠ []) (he : s.e ≠ 0 → s.r = []) : (itemP E p s).2.r.length < s.r.length := by
  cases hb0 : (takeP E [99, 104, 111, 105, 99, 101] s).1 with
  | true =>
    have hR : itemP E p s = (choiceP E p) (takeP E [99, 104, 111, 105, 99, 101] s).2 := by unfold itemP; refine (take_yes hb0).trans ?_; rfl
    rw [hR]; have h1 := takeP_yes hb0; have h2 := (choiceP_dec (E := E) hp) (takeP E [99, 104, 111, 105, 99, 101] s).2; omega
  | false =>
    cases hb1 : (takeP E [108, 111, 111, 112] s).1 with
    | true =>
      have hR : itemP E p s = (loopP E p) (takeP E [108, 111, 111, 112] s).2 := by unfold itemP; refine (take_no hb0).trans ?_; rw [takeP_no hb0]; refine (take_yes hb1).trans ?_; rfl
      rw [hR]; have h1 := takeP_yes hb1; have h2 := (loopP_dec (E := E) hp) (takeP E [108, 111, 111, 112] s).2; omega
    | false =>
      cases hb2 : (takeP E [97, 103, 97, 105, 110] s).1 with
      | true =>
        have hR : itemP E p s = (againP E) (takeP E [97, 103, 97, 105, 110] s).2 := by unfold itemP; refine (take_no hb0).trans ?_; rw [takeP_no hb0]; refine (take_no hb1).trans ?_; rw [takeP_no hb1]; refine (take_yes hb2).trans ?_; rfl
        rw [hR]; have h1 := takeP_yes hb2; have h2 := (againP_dec (E := E)) (takeP E [97, 103, 97, 105, 110] s).2; omega
      | false =>
        cases hb3 : (takeP E [112, 97, 114] s).1 with
        | true =>
          have hR : itemP E p s = (parP E p) (takeP E [112, 97, 114] s).2 := by unfold itemP; refine (take_no hb0).trans ?_; rw [takeP_no hb0]; refine (take_no hb1).trans ?_; rw [takeP_no hb1]; refine (take_no hb2).trans ?_; rw [takeP_no hb2]; refine (take_yes hb3).trans ?_; rfl
          rw [hR]; have h1 := takeP_yes hb3; have h2 := (parP_dec (E := E) hp) (takeP E [112, 97, 114] s).2; omega
        | false =>
          cases hb4 : (takeP E [99, 97, 108, 108] s).1 with
          | true =>
            have hR : itemP E p s = (callP E) (takeP E [99, 97, 108, 108] s).2 := by unfold itemP; refine (take_no hb0).trans ?_; rw [takeP_no hb0]; refine (take_no hb1).trans ?_; rw [takeP_no hb1]; refine (take_no hb2).trans ?_; rw [takeP_no hb2]; refine (take_no hb3).trans ?_; rw [takeP_no hb3]; refine (take_yes hb4).trans ?_; rfl
            rw [hR]; have h1 := takeP_yes hb4; have h2 := (callP_dec (E := E)) (takeP E [99, 97, 108, 108] s).2; omega
          | false =>
            have hR : itemP E p s = sendP E s := by unfold itemP; refine (take_no hb0).trans ?_; rw [takeP_no hb0]; refine (take_no hb1).trans ?_; rw [takeP_no hb1]; refine (take_no hb2).trans ?_; rw [takeP_no hb2]; refine (take_no hb3).trans ?_; rw [takeP_no hb3]; refine (take_no hb4).trans ?_; rw [takeP_no hb4]
            rw [hR]
            exact Nat.lt_of_le_of_lt (((expectP_dec _).bind fun _ => wordsP_dec.bind fun _ => (expectP_dec _).bind fun _ => pathP_dec.bind fun _ => (expectP_dec _).bind fun _ => Dec.pure (It.mk 1 (wordP E s).1 _ _ [] 0 [])) (wordP E s).2) (readS_eats _ h he)
theorem itemsL_no {q : P It} (n : Nat) (h : ¬ (s.r ≠ [] ∧ seesB E [125] s = false)) : itemsL E q n s = ([], s) := by
  cases n with
  | zero => rfl
  | succ n => show (if s.r ≠ [] ∧ seesB E [125] s = false then _ else _) = _; rw [if_neg h]
theorem itemsL_yes {q : P It} (n : Nat) (h : s.r ≠ [] ∧ seesB E [125] s = false) : itemsL E q (n + 1) s = ((q s).1 :: (itemsL E q n (q s).2).1, (itemsL E q n (q s).2).2) := by
  show (if s.r ≠ [] ∧ seesB E [125] s = false then _ else _) = _
  rw [if_pos h]
  rfl
theorem itemsL_dec {q : P It} (hq : Dec q) : ∀ n, Dec (itemsL E q n)
  | 0 => Dec.pure _
  | n + 1 => Dec.fork (hq.bind fun _ => (itemsL_dec hq n).bind fun _ => Dec.pure _) (Dec.pure _)
theorem itemsP_dec {q : P It} (hq : Dec q) : Dec (itemsP E q) := fun s => Nat.le_trans (expectP_dec _ _) (itemsL_dec hq _ s)
theorem itemsN_dec : ∀ n, Dec (itemsN E n)
  | 0 => Dec.pure _
  | n + 1 => itemsP_dec (itemP_dec (itemsN_dec n))
theorem bodyP_dec : Dec (bodyP E) := fun s => itemsN_dec _ s
end
def ItRel (w : World) (g E B : Nat) (q : P It) (l0 : Nat) (R : List It × St) (gk : Nat) (v : Value) (wr : World) : Prop :=
  ∃ (acc : List It) (s1 : St), s1.r.length ≤ gk ∧ s1.r.length ≤ l0 ∧ acc.length + gk ≤ 8000 ∧ Hid (Bld wr B 70 7 v acc.length (acc.flatMap dIt)) ∧ Hid (Prs wr g E s1) ∧ Hid (Only g w wr) ∧
    Hid (R.1 = acc ++ (itemsL E q gk s1).1) ∧ Hid (R.2 = (itemsL E q gk s1).2)
theorem info_item : (Tryz.prog.info? 70).map (fun i => (i.zero, i.size, i.bytes)) = some (some (.agg #[.int .i64 0, .string ⟨#[]⟩, .slice none 0 0, .string ⟨#[]⟩, .string ⟨#[]⟩, .int .i64 0, .slice none 0 0]), 7, 112) := by kernel_rfl
section
variable {w w' : World} {g E n : Nat} {s : St} {p : P (List It)}
set_option maxRecDepth 20000 in
set_option maxHeartbeats 2000000 in
theorem pitems_any (hp : Dec p) (HI : ItemsOK g E n p) (h : Prs w g E s) (hn : s.r.length < n + 1) : Calls Tryz.prog 136 #[.pointer (some ⟨g, 0, none⟩)] w (GotD w g E (itemsP E (itemP E p) s).2 (dB (itemsP E (itemP E p) s).1)) := by
  obtain ⟨R, hR⟩ : ∃ R, itemsL E (itemP E p) s.r.length s = R := ⟨_, rfl⟩
  have HRR := Lib.hid (show itemsP E (itemP E p) s = (R.1, (expectP E [125] R.2).2) by subst hR; rfl)
  rw [HRR.out]
  have hlt := h.lt
  have HR := Lib.hid hR
  have H := Lib.hid h
  have HPD := Lib.hid hp
  have HI2 := Lib.hid HI
  have hl8 := h.small.len
  obtain ⟨l0, hl0⟩ : ∃ l0, s.r.length = l0 := ⟨_, rfl⟩
  rw [hl0] at hn hl8
  have HL0 := Lib.hid hl0
  have HSE := Lib.hid (fun w s (h : Prs w g E s) => psees_any h [125])
  clear h hR hp HI hl0
  go_enter Tryz.func136, Tryz.ntmps136
  go_wp2_with fail
  go_loopg [3, 4, 5, 6, 7, 8, 9, 10, 11, 12, 13, 14, 15] l0 (fun gk v _ _ _ _ _ _ _ _ _ _ _ _ wr => ItRel w g E w.heap.size (itemP E p) l0 R gk v wr)
  case atStart =>
    refine ⟨[], s, by have := HL0.out; omega, by have := HL0.out; omega, by simpa using hl8, Bld.nil _ _ _ _, H.out, Only.refl _ _, ?_, ?_⟩
    · unfold Hid; rw [← HR.out, HL0.out]; rfl
    · unfold Hid; rw [← HR.out, HL0.out]
  case round =>
    clear H
    obtain ⟨acc, s2, hr2, hrl, hacc, HB, HS, HO, HE1, HE2⟩ := hrel
    have stop : ¬ (s2.r ≠ [] ∧ seesB E [125] s2 = false) → R = (acc, s2) := fun hno => by
      have h1 := HE1.out
      have h2 := HE2.out
      rw [itemsL_no _ hno] at h1 h2
      rw [List.append_nil] at h1
      exact Prod.ext h1 h2
    have HST := Lib.hid stop
    clear stop
    by_cases hne : s2.r = []
    · have hm := Lib.hid (show decide (s2.r ≠ []) = false by simpa using hne)
      have HX := Lib.hid (HST.out (fun h => h.1 hne))
      clear hne
      go_wp2_with fail
      refine (pmore_any HS.out).mono ?_; rintro e w2 ⟨rfl, m, rfl⟩; rw [hm.out]
      have P2 := Lib.hid (HS.out.drewN m)
      have O2 := Lib.hid (show Only g w (wr.drewN m) from HO.out.drewN m)
      have B2 := Lib.hid (HB.out.drewN m)
      go_wp2_with fail
      refine (pexpect_any P2.out [125]).mono ?_; rintro e w3 ⟨rfl, P3, O3⟩
      have P3' := Lib.hid P3
      have O3' := Lib.hid (O2.out.trans O3)
      have B3' := Lib.hid (B2.out.only O3 hlt)
      clear P3 O3
      go_wp2_with fail
      go_ret
      refine ⟨_, rfl, ?_, by rw [HX.out]; exact P3'.out, O3'.out⟩
      rw [HX.out]
      show Lies _ _ _ (.s 7 (dIs acc))
      rw [dIs_map]
      exact B3'.out.lies
    · have hm := Lib.hid (show decide (s2.r ≠ []) = true by simpa using hne)
      cases hse : seesB E [125] s2 with
      | true =>
        have HX := Lib.hid (HST.out (fun h => by rw [hse] at h; exact absurd h.2 (by decide)))
        have HSE2 := Lib.hid hse
        clear hne hse
        go_wp2_with fail
        refine (pmore_any HS.out).mono ?_; rintro e w2 ⟨rfl, m, rfl⟩; rw [hm.out]
        have P2 := Lib.hid (HS.out.drewN m)
        have O2 := Lib.hid (show Only g w (wr.drewN m) from HO.out.drewN m)
        have B2 := Lib.hid (HB.out.drewN m)
        go_wp2_with fail
        refine (HSE.out _ _ P2.out).mono ?_; rintro e w3 ⟨rfl, hb3⟩; rw [HSE2.out]
        have P3 := Lib.hid (P2.out.below hb3 P2.out.lt)
        have O3 := Lib.hid (O2.out.below hb3)
        have B3 := Lib.hid (B2.out.only ((Only.refl g _).below hb3) hlt)
        clear hb3
        go_wp2_with fail
        refine (pexpect_any P3.out [125]).mono ?_; rintro e w4 ⟨rfl, P4, O4⟩
        have P4' := Lib.hid P4
        have O4' := Lib.hid (O3.out.trans O4)
        have B4' := Lib.hid (B3.out.only O4 hlt)
        clear P4 O4
        go_wp2_with fail
        go_ret
        refine ⟨_, rfl, ?_, by rw [HX.out]; exact P4'.out, O4'.out⟩
        rw [HX.out]
        show Lies _ _ _ (.s 7 (dIs acc))
        rw [dIs_map]
        exact B4'.out.lies
      | false =>
        have heat := itemP_eats (E := E) HPD.out hne HS.out.err
        obtain ⟨gn, rfl⟩ : ∃ gn, gk = gn + 1 := ⟨gk - 1, by have := List.length_pos_iff.2 hne; omega⟩
        obtain ⟨s4, hs4⟩ : ∃ s4, (itemP E p s2).2 = s4 := ⟨_, rfl⟩
        obtain ⟨it, hit⟩ : ∃ it, (itemP E p s2).1 = it := ⟨_, rfl⟩
        rw [hs4] at heat
        have HE3 := Lib.hid (show R.1 = acc ++ it :: (itemsL E (itemP E p) gn s4).1 by have h1 := HE1.out; rw [itemsL_yes _ ⟨hne, hse⟩, hs4, hit] at h1; exact h1)
        have HE4 := Lib.hid (show R.2 = (itemsL E (itemP E p) gn s4).2 by have h1 := HE2.out; rw [itemsL_yes _ ⟨hne, hse⟩, hs4] at h1; exact h1)
        have HSE2 := Lib.hid hse
        have HS4 := Lib.hid hs4
        have HIT := Lib.hid hit
        have hl4 : s4.r.length ≤ gn := by omega
        have hl5 : s4.r.length ≤ l0 := by omega
        have HLT := Lib.hid (show s2.r.length < n + 1 by omega)
        clear hne hse hs4 hit HE1 HE2 heat
        go_wp2_with fail
        refine (pmore_any HS.out).mono ?_; rintro e w2 ⟨rfl, m, rfl⟩; rw [hm.out]
        have P2 := Lib.hid (HS.out.drewN m)
        have O2 := Lib.hid (show Only g w (wr.drewN m) from HO.out.drewN m)
        have B2 := Lib.hid (HB.out.drewN m)
        go_wp2_with fail
        refine (HSE.out _ _ P2.out).mono ?_; rintro e w3 ⟨rfl, hb3⟩; rw [HSE2.out]
        have P3 := Lib.hid (P2.out.below hb3 P2.out.lt)
        have O3 := Lib.hid (O2.out.below hb3)
        have B3 := Lib.hid (B2.out.only ((Only.refl g _).below hb3) hlt)
        clear hb3
        go_wp2_with fail
        refine (pitem_any HPD.out HI2.out P3.out HLT.out).mono ?_; rintro e w4 ⟨cs, rfl, LV, P4, O4⟩
        rw [HS4.out] at P4
        rw [HIT.out] at LV
        obtain ⟨kk, fr, to, nm, al, tk, bl⟩ := it
        obtain ⟨A, m1, c1, A2, m2, c2, hcs⟩ := it_shape LV
        obtain rfl : cs = #[.int .i64 kk, .string (ofL fr), .slice A m1 c1, .string (ofL nm), .string (ofL al), .int .i64 tk, .slice A2 m2 c2] := by rw [← Array.toArray_toList (xs := cs), hcs]
        have P4' := Lib.hid P4
        have O4' := Lib.hid (O3.out.trans O4)
        have B4' := Lib.hid (B3.out.only O4 hlt)
        have LV' := Lib.hid (show LiesL w4 (fun k => w.heap.size ≤ k ∧ u3.ownBlock ≠ some k) [.int .i64 kk, .string (ofL fr), .slice A m1 c1, .string (ofL nm), .string (ofL al), .int .i64 tk, .slice A2 m2 c2] (dIt (.mk kk fr to nm al tk bl)) from LV.mono fun k _ hk => ⟨Nat.le_trans O3.out.size hk, fun e => by have := B3.out.lt e; omega⟩)
        clear P4 O4 LV hcs
        have hsz4 : w.heap.size ≤ w4.heap.size := O4'.out.size
        have hby : (acc.length + 1) * 112 ≤ 140737488355328 := by omega
        go_wp2_with (at_builtin; refine appD rfl _ _ 57 rfl 70 _ 7 112 info_item rfl (by decide) Tryz.underlying57 w.heap.size u3 _ _ rfl B4'.out _ (dIt (.mk kk fr to nm al tk bl)) rfl rfl LV'.out hby hsz4 ?_ (by decide); intro v' w8 hown8 hg8; have hV8 := Lib.hid hown8; have hF8 := Lib.hid (grown_below B4'.out hg8 hsz4); clear hown8 hg8)
        go_roundg gn
        case rel =>
          refine ⟨acc ++ [.mk kk fr to nm al tk bl], s4, hl4, hl5, by simp; omega, ?_, P4'.out.below hF8.out hlt, O4'.out.to hF8.out, ?_, HE4⟩
          · have := hV8.out
            unfold Hid
            rw [List.length_append, List.flatMap_append]
            simpa using this
          · unfold Hid; rw [HE3.out, List.append_assoc]; rfl
        case measure => omega
theorem items_ok : ∀ n, ItemsOK g E n (itemsN E n)
  | 0 => fun _ _ hn _ => absurd hn (Nat.not_lt_zero _)
  | n + 1 => fun _ _ hn h => pitems_any (itemsN_dec n) (items_ok n) h hn
theorem pbody_any (h : Prs w g E s) : Calls Tryz.prog 136 #[.pointer (some ⟨g, 0, none⟩)] w (GotD w g E (bodyP E s).2 (dB (bodyP E s).1)) := items_ok _ _ _ (Nat.lt_succ_self _) h
end
end Go.Proofs.YtekpefcggikcbaaGreatDoor
