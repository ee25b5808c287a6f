/- Layer 10: the contracts of words, path, signed, added. -/
import Derived.Test.YtekpefcggikcbaaGreatDoorMSynB
import Derived.Shelf.Abstract
import Derived.Deep.RegionWith
import Derived.Test.YtekpefcggikcbaaGreatDoorPtSa
import Derived.Test.YtekpefcggikcbaaGreatDoorMSynQ
import Derived.Deep.LoopGhost
namespace Go.Proofs.YtekpefcggikcbaaGreatDoor
/- Layer 10: the contracts of words, path, signed, added. -/
open Go.RowKit

section
variable {w w' : World} {g E : Nat} {s : St}
theorem readS_sm (h : SmT s.r) (b : Bool) : SmT (readS E b s).2.r ∧ (readS E b s).1.t.length ≤ 40 ∧ (readS E b s).1.v ≤ 999999 := by
 cases b with
 | false =>
  refine ⟨?_, by simp [readS], by simp [readS]⟩
  rw [readS_no]
  show SmT (failS E 3 s).r
  unfold failS; split
  ·exact SmT.nil
  ·exact h
 | true =>
  rw [readS_yes]
  refine ⟨h.tail, ?_⟩
  obtain ⟨r, a, e⟩ := s
  cases r with
  | nil => exact ⟨by simp [nextT], by simp [nextT]⟩
  | cons t r => exact ⟨(h.tok t (by simp)).1, (h.tok t (by simp)).2.1⟩
theorem takeP_sm (h : SmT s.r) (x : Bs) : SmT (takeP E x s).2.r := by
 unfold takeP; split
 ·exact (readS_sm h _).1
 ·exact h
theorem wordP_sm (h : SmT s.r) : SmT (wordP E s).2.r ∧ (wordP E s).1.length ≤ 40 := by
 have := readS_sm (E := E) h (decide ((nextT E s).k = 1) && wdB (nextT E s).t)
 exact ⟨this.1, this.2.1⟩
theorem numP_sm (h : SmT s.r) : 0 ≤ (numP E s).1 ∧ (numP E s).1 ≤ 999999 := by
 have := (readS_sm (E := E) h (decide ((nextT E s).k = 2))).2.2
 have e : (numP E s).1 = ((readS E (decide ((nextT E s).k = 2)) s).1.v : Int) := rfl
 rw [e]
 omega
theorem wordsL_sm (mark : Bs) : ∀ (n : Nat) (s : St), SmT s.r → (∀ x ∈ (sepL E mark (wordP E) n s).1, x.length ≤ 40) ∧ (sepL E mark (wordP E) n s).1.length ≤ n
 | 0, s, _ => ⟨fun x hx => by simp [sepL, P.pure_run] at hx, by simp [sepL, P.pure_run]⟩
 | n + 1, s, h => by
  cases ht : (takeP E mark s).1 with
  | false => rw [sepL_no _ ht]; exact ⟨fun x hx => by simp at hx, by simp⟩
  | true =>
   rw [sepL_yes _ ht]
   have h1 := takeP_sm (E := E) h mark
   have h2 := wordP_sm (E := E) h1
   have ih := wordsL_sm mark n _ h2.1
   refine ⟨fun x hx => ?_, by simp; exact ih.2⟩
   rcases List.mem_cons.1 hx with rfl | hx
   ·exact h2.2
   ·exact ih.1 x hx
theorem words_sm (h : SmT s.r) (mark : Bs) : (∀ x ∈ (sepP E mark (wordP E) s).1, x.length ≤ 40) ∧ (sepP E mark (wordP E) s).1.length ≤ 8001 := by
 have h2 := wordP_sm (E := E) h
 have ih := wordsL_sm (E := E) mark (wordP E s).2.r.length _ h2.1
 refine ⟨fun x hx => ?_, ?_⟩
 ·rcases List.mem_cons.1 hx with rfl | hx
  ·exact h2.2
  ·exact ih.1 x hx
 ·have := h2.1.len
  show (_ :: _ : List Bs).length ≤ _
  rw [List.length_cons]
  omega
theorem word_rd (L : Nat) : IsRd 132 g E L (wordP E) vS :=
 ⟨fun args w => enters_of Tryz.func132 (by kernel_rfl) rfl args w, fun _ _ _ h => pword_any h⟩
theorem makeFunc_run (fn : Fn) (first cap : Array Value) (w : World) : (Instr.makeFunc fn first cap).run Tryz.prog w = .ok (.func fn first cap) w := rfl
set_option maxHeartbeats 400000 in
theorem pwords_any (h : Prs w g E s) : Calls Tryz.prog 133 #[.pointer (some ⟨g, 0, none⟩)] w (GotD w g E (wordsP E s).2 (dL (wordsP E s).1)) := by
 have H := Lib.hid h
 have hmf := makeFunc_run
 have HC := Lib.hid (sepString_any (wordP E) wordP_dec (word_rd (g := g) s.r.length) [44] h (Nat.le_refl _) h.small.len)
 clear h
 go_enter Tryz.func133, Tryz.ntmps133
 go_wp2_with fail
 refine HC.out.mono ?_; rintro e w1 ⟨v, rfl, LV, P1, O1⟩
 have LV' := Lib.hid LV
 have P1' := Lib.hid P1
 have O1' := Lib.hid O1
 clear LV P1 O1
 go_wp2_with fail
 go_ret
 exact ⟨_, rfl, LV'.out, P1'.out, O1'.out⟩
set_option maxHeartbeats 400000 in
theorem ppath_any (h : Prs w g E s) : Calls Tryz.prog 192 #[.pointer (some ⟨g, 0, none⟩)] w (Got w g E (pathP E s).2 (.string (ofL (pathP E s).1))) := by
 have H := Lib.hid h
 have hmf := makeFunc_run
 have HC := Lib.hid (sepString_any (wordP E) wordP_dec (word_rd (g := g) s.r.length) [46] h (Nat.le_refl _) h.small.len)
 have hsm := words_sm (E := E) h.small [46]
 have hjl := joinB_len [46] 40 _ hsm.1
 have hlt := h.lt
 have HR := Lib.hid (show pathP E s = (joinB [46] (sepP E [46] (wordP E) s).1, (sepP E [46] (wordP E) s).2) from rfl)
 rw [HR.out]
 obtain ⟨R, hR⟩ : ∃ R, sepP E [46] (wordP E) s = R := ⟨_, rfl⟩
 rw [hR] at HC hsm hjl ⊢
 have hl := Lib.hid (show R.1.length ≤ 10000 by omega)
 have hl2 := Lib.hid (show (joinB [46] R.1).length ≤ 100000000 by
  have : R.1.length * (40 + 1) ≤ 8001 * 41 := Nat.mul_le_mul hsm.2 (by omega)
  exact Nat.le_trans hjl (by show R.1.length * (40 + 1) ≤ _; omega))
 clear h hR hsm hjl
 go_enter Tryz.func192, Tryz.ntmps192
 go_wp2_with fail
 refine HC.out.mono ?_; rintro e w1 ⟨v, rfl, LV, P1, O1⟩
 have LV' := Lib.hid LV
 have P1' := Lib.hid P1
 have O1' := Lib.hid O1
 clear LV P1 O1
 go_wp2_with fail
 refine (join_any R.1 [46] LV'.out hl.out hl2.out).mono ?_; rintro e w2 ⟨rfl, hb2⟩
 have B2 := Lib.hid hb2
 clear hb2
 go_wp2_with fail
 go_ret
 exact ⟨rfl, P1'.out.below B2.out P1'.out.lt, O1'.out.below B2.out⟩
theorem takeP_eq {x : Bs} {b : Bool} {s' : St} (h : takeP E x s = (b, s')) : (takeP E x s).1 = b ∧ (takeP E x s).2 = s' := by rw [h]; exact ⟨rfl, rfl⟩
end
/- Layer 10: the contracts of the parser's methods that fill structs: terms. -/
open Go.RowKit

section
variable {w w' : World} {g E : Nat} {s : St}
theorem take_yes {α : Type} {x : Bs} {A B : P α} (hb : (takeP E x s).1 = true) : (takeP E x >>= fun b => if b = true then A else B) s = A (takeP E x s).2 := by
 show (if (takeP E x s).1 = true then A else B) (takeP E x s).2 = _
 rw [if_pos hb]
theorem take_no {α : Type} {x : Bs} {A B : P α} (hb : (takeP E x s).1 = false) : (takeP E x >>= fun b => if b = true then A else B) s = B (takeP E x s).2 := by
 show (if (takeP E x s).1 = true then A else B) (takeP E x s).2 = _
 rw [if_neg (by simp [hb])]
theorem signedP_dec : Dec (signedP E) := (takeP_dec _).bind fun _ => Dec.ite (numP_dec.bind fun _ => Dec.pure _) numP_dec
theorem addedP_dec : Dec (addedP E) := (takeP_dec _).bind fun _ => Dec.ite numP_dec ((takeP_dec _).bind fun _ => Dec.ite (numP_dec.bind fun _ => Dec.pure _) (Dec.pure _))
theorem neg_small {n : Int} (h0 : 0 ≤ n) (h1 : n ≤ 999999) : wrap64 (-n) = -n := by unfold wrap64; omega
set_option maxRecDepth 20000 in
set_option maxHeartbeats 400000 in
theorem psigned_any (h : Prs w g E s) : Calls Tryz.prog 223 #[.pointer (some ⟨g, 0, none⟩)] w (Got w g E (signedP E s).2 (.int .i64 (signedP E s).1)) := by
 obtain ⟨s1, hs1⟩ : ∃ s1, (takeP E [45] s).2 = s1 := ⟨_, rfl⟩
 obtain ⟨s2, hs2⟩ : ∃ s2, (numP E s1).2 = s2 := ⟨_, rfl⟩
 obtain ⟨n, hn⟩ : ∃ n, (numP E s1).1 = n := ⟨_, rfl⟩
 have hnb := numP_sm (E := E) (s := s1) (by rw [← hs1]; exact takeP_sm h.small _)
 rw [hn] at hnb
 obtain ⟨hn0, hn1⟩ := hnb
 have HS1 := Lib.hid hs1
 have HS2 := Lib.hid hs2
 have HN := Lib.hid hn
 have H := Lib.hid h
 have hlt := h.lt
 have HO := Lib.hid (Only.refl g w)
 cases hb : (takeP E [45] s).1 with
 | true =>
  have HR := Lib.hid (show signedP E s = (-n, s2) by unfold signedP; rw [take_yes hb]; subst hs1; subst hs2; subst hn; rfl)
  rw [HR.out]
  have HB := Lib.hid hb
  clear h hb hs1 hs2 hn
  go_enter Tryz.func223, Tryz.ntmps223
  go_wp2_with fail
  refine (ptake_any H.out [45]).mono ?_; rintro e w1 ⟨rfl, P1, O1⟩
  rw [HS1.out] at P1
  rw [HB.out]
  have P1' := Lib.hid P1
  have O1' := Lib.hid (HO.out.trans O1)
  have hz1 : w.heap.size ≤ w1.heap.size := O1.size
  clear P1 O1
  go_wp2_with fail
  refine (pnumber_any P1'.out).mono ?_; rintro e w2 ⟨rfl, P2, O2⟩
  rw [HS2.out] at P2
  rw [HN.out]
  have P2' := Lib.hid P2
  have O2' := Lib.hid (O1'.out.trans O2)
  have hz2 : w1.heap.size ≤ w2.heap.size := O2.size
  clear P2 O2
  have hw := neg_small hn0 hn1
  go_wp2_with fail
  go_ret
  exact ⟨by rfl, P2'.out, O2'.out⟩
 | false =>
  have HR := Lib.hid (show signedP E s = (n, s2) by unfold signedP; rw [take_no hb]; subst hs1; subst hs2; subst hn; rfl)
  rw [HR.out]
  have HB := Lib.hid hb
  clear h hb hs1 hs2 hn hn0 hn1
  go_enter Tryz.func223, Tryz.ntmps223
  go_wp2_with fail
  refine (ptake_any H.out [45]).mono ?_; rintro e w1 ⟨rfl, P1, O1⟩
  rw [HS1.out] at P1
  rw [HB.out]
  have P1' := Lib.hid P1
  have O1' := Lib.hid (HO.out.trans O1)
  have hz1 : w.heap.size ≤ w1.heap.size := O1.size
  clear P1 O1
  go_wp2_with fail
  refine (pnumber_any P1'.out).mono ?_; rintro e w2 ⟨rfl, P2, O2⟩
  rw [HS2.out] at P2
  rw [HN.out]
  have P2' := Lib.hid P2
  have O2' := Lib.hid (O1'.out.trans O2)
  have hz2 : w1.heap.size ≤ w2.heap.size := O2.size
  clear P2 O2
  go_wp2_with fail
  go_ret
  exact ⟨by rfl, P2'.out, O2'.out⟩
set_option maxRecDepth 20000 in
set_option maxHeartbeats 400000 in
theorem padded_any (h : Prs w g E s) : Calls Tryz.prog 245 #[.pointer (some ⟨g, 0, none⟩)] w (Got w g E (addedP E s).2 (.int .i64 (addedP E s).1)) := by
 obtain ⟨s1, hs1⟩ : ∃ s1, (takeP E [43] s).2 = s1 := ⟨_, rfl⟩
 have h1 : SmT s1.r := by rw [← hs1]; exact takeP_sm h.small _
 have HS1 := Lib.hid hs1
 have H := Lib.hid h
 have hlt := h.lt
 have HO := Lib.hid (Only.refl g w)
 cases hb : (takeP E [43] s).1 with
 | true =>
  have HR := Lib.hid (show addedP E s = numP E s1 by unfold addedP; rw [take_yes hb]; subst hs1; rfl)
  rw [HR.out]
  have HB := Lib.hid hb
  clear h hb hs1
  go_enter Tryz.func245, Tryz.ntmps245
  go_wp2_with fail
  refine (ptake_any H.out [43]).mono ?_; rintro e w1 ⟨rfl, P1, O1⟩
  rw [HS1.out] at P1
  rw [HB.out]
  have P1' := Lib.hid P1
  have O1' := Lib.hid (HO.out.trans O1)
  have hz1 : w.heap.size ≤ w1.heap.size := O1.size
  clear P1 O1
  go_wp2_with fail
  refine (pnumber_any P1'.out).mono ?_; rintro e w2 ⟨rfl, P2, O2⟩
  have P2' := Lib.hid P2
  have O2' := Lib.hid (O1'.out.trans O2)
  have hz2 : w1.heap.size ≤ w2.heap.size := O2.size
  clear P2 O2
  go_wp2_with fail
  go_ret
  exact ⟨by rfl, P2'.out, O2'.out⟩
 | false =>
  obtain ⟨s2, hs2⟩ : ∃ s2, (takeP E [45] s1).2 = s2 := ⟨_, rfl⟩
  obtain ⟨s3, hs3⟩ : ∃ s3, (numP E s2).2 = s3 := ⟨_, rfl⟩
  obtain ⟨n, hn⟩ : ∃ n, (numP E s2).1 = n := ⟨_, rfl⟩
  have hnb := numP_sm (E := E) (s := s2) (by rw [← hs2]; exact takeP_sm h1 _)
  rw [hn] at hnb
  obtain ⟨hn0, hn1⟩ := hnb
  have HS2 := Lib.hid hs2
  have HS3 := Lib.hid hs3
  have HN := Lib.hid hn
  have HB := Lib.hid hb
  cases hc : (takeP E [45] s1).1 with
  | true =>
   have HR := Lib.hid (show addedP E s = (-n, s3) by unfold addedP; rw [take_no hb]; subst hs1; rw [take_yes hc]; subst hs2; subst hs3; subst hn; rfl)
   rw [HR.out]
   have HC := Lib.hid hc
   clear h h1 hb hc hs1 hs2 hs3 hn
   go_enter Tryz.func245, Tryz.ntmps245
   go_wp2_with fail
   refine (ptake_any H.out [43]).mono ?_; rintro e w1 ⟨rfl, P1, O1⟩
   rw [HS1.out] at P1
   rw [HB.out]
   have P1' := Lib.hid P1
   have O1' := Lib.hid (HO.out.trans O1)
   have hz1 : w.heap.size ≤ w1.heap.size := O1.size
   clear P1 O1
   go_wp2_with fail
   refine (ptake_any P1'.out [45]).mono ?_; rintro e w2 ⟨rfl, P2, O2⟩
   rw [HS2.out] at P2
   rw [HC.out]
   have P2' := Lib.hid P2
   have O2' := Lib.hid (O1'.out.trans O2)
   have hz2 : w1.heap.size ≤ w2.heap.size := O2.size
   clear P2 O2
   go_wp2_with fail
   refine (pnumber_any P2'.out).mono ?_; rintro e w3 ⟨rfl, P3, O3⟩
   rw [HS3.out] at P3
   rw [HN.out]
   have P3' := Lib.hid P3
   have O3' := Lib.hid (O2'.out.trans O3)
   have hz3 : w2.heap.size ≤ w3.heap.size := O3.size
   clear P3 O3
   have hw := neg_small hn0 hn1
   go_wp2_with fail
   go_ret
   exact ⟨by rfl, P3'.out, O3'.out⟩
  | false =>
   have HR := Lib.hid (show addedP E s = (0, s2) by unfold addedP; rw [take_no hb]; subst hs1; rw [take_no hc]; subst hs2; subst hs3; subst hn; rfl)
   rw [HR.out]
   have HC := Lib.hid hc
   clear h h1 hb hc hs1 hs2 hs3 hn hn0 hn1
   go_enter Tryz.func245, Tryz.ntmps245
   go_wp2_with fail
   refine (ptake_any H.out [43]).mono ?_; rintro e w1 ⟨rfl, P1, O1⟩
   rw [HS1.out] at P1
   rw [HB.out]
   have P1' := Lib.hid P1
   have O1' := Lib.hid (HO.out.trans O1)
   have hz1 : w.heap.size ≤ w1.heap.size := O1.size
   clear P1 O1
   go_wp2_with fail
   refine (ptake_any P1'.out [45]).mono ?_; rintro e w2 ⟨rfl, P2, O2⟩
   rw [HS2.out] at P2
   rw [HC.out]
   have P2' := Lib.hid P2
   have O2' := Lib.hid (O1'.out.trans O2)
   have hz2 : w1.heap.size ≤ w2.heap.size := O2.size
   clear P2 O2
   go_wp2_with fail
   go_ret
   exact ⟨by rfl, P2'.out, O2'.out⟩
end
/- Layer 10: the contract of variable. -/
open Go.RowKit

section
variable {w w' : World} {g E : Nat} {s : St} {S : Nat → Prop} {v : Value} {l : List Bs}
theorem dL_row (h : Lies w S v (dL l)) (hl : l ≠ []) : ∃ b o c, v = .slice (some ⟨b, o, none⟩) l.length c ∧ l.length ≤ c ∧ PlZ w b 1 ∧ S b ∧ ∀ (i : Nat) x, l[i]? = some x → w.cell? ⟨b, o + i, none⟩ = some (.string (ofL x)) := by
 unfold dL at h
 rw [fm1] at h
 generalize hd : D.s 1 (l.map dS) = d at h
 cases h with
 | c v hv => cases hd
 | nil z =>
  cases l with
  | nil => exact absurd rfl hl
  | cons a r => simp at hd
 | e0 ad cap z =>
  cases l with
  | nil => exact absurd rfl hl
  | cons a r => simp at hd
 | sl b o n cap z us l' h1 h2 h3 h4 h5 h6 h7 =>
  simp only [D.s.injEq] at hd
  obtain ⟨rfl, rfl⟩ := hd
  have hn' : n = l.length := by simpa using h4
  subst hn'
  refine ⟨b, o, cap, rfl, h5, h2, h1, fun j x hj => ?_⟩
  have hlt := (List.getElem?_eq_some_iff.1 hj).1
  have hlt2 : j < us.length := by rw [h3, List.length_map]; exact hlt
  have hu := List.getElem?_eq_getElem hlt2
  have hd := h7 j _ (dS x) hu (by rw [List.getElem?_map, hj]; rfl)
  rw [h6 j _ hu, hd.cell_eq]
  rfl
theorem dL_of {b o c n : Nat} (hn : l.length = n) (hc : n ≤ c) (hb : PlZ w b 1) (hS : S b) (hcell : ∀ (i : Nat) x, l[i]? = some x → w.cell? ⟨b, o + i, none⟩ = some (.string (ofL x))) : Lies w S (.slice (some ⟨b, o, none⟩) n c) (dL l) := by
 unfold dL
 rw [fm1]
 refine .sl b o n c 1 (l.map vS) _ hS hb (by simp) (by simp [hn]) hc (fun i u hu => ?_) (fun i u d hu hd => ?_)
 ·rw [List.getElem?_map] at hu
  cases hli : l[i]? with
  | none => rw [hli] at hu; cases hu
  | some x => rw [hli] at hu; simp only [Option.map_some, Option.some.injEq] at hu; subst hu; exact hcell i x hli
 ·rw [List.getElem?_map] at hu hd
  cases hli : l[i]? with
  | none => rw [hli] at hu; cases hu
  | some x =>
   rw [hli] at hu hd
   simp only [Option.map_some, Option.some.injEq] at hu hd
   subst hu; subst hd
   exact .c _ rfl
theorem joinB_small {l : List Bs} (h : ∀ x ∈ l, x.length ≤ 40) (hl : l.length ≤ 8001) : (joinB [46] l).length ≤ 100000000 := by
 have := joinB_len [46] 40 l h
 have h2 : l.length * (40 + 1) ≤ 8001 * 41 := Nat.mul_le_mul hl (by omega)
 exact Nat.le_trans this (by show l.length * (40 + 1) ≤ _; omega)
set_option maxRecDepth 20000 in
set_option maxHeartbeats 1000000 in
theorem pvariable_any (h : Prs w g E s) : Calls Tryz.prog 244 #[.pointer (some ⟨g, 0, none⟩)] w (Got w g E (varP E s).2 (.tuple #[.string (ofL (varP E s).1.1), .string (ofL (varP E s).1.2)])) := by
 have hmf := makeFunc_run
 have hlt := h.lt
 have HC := Lib.hid (sepString_any (wordP E) wordP_dec (word_rd (g := g) s.r.length) [46] h (Nat.le_refl _) h.small.len)
 have hsm := words_sm (E := E) h.small [46]
 have HR := Lib.hid (show varP E s = ((joinB [46] (sepP E [46] (wordP E) s).1.dropLast, (sepP E [46] (wordP E) s).1.getLastD []), (sepP E [46] (wordP E) s).2) from rfl)
 rw [HR.out]
 have hne : (sepP E [46] (wordP E) s).1 ≠ [] := by unfold sepP; simp
 obtain ⟨R, hR⟩ : ∃ R, sepP E [46] (wordP E) s = R := ⟨_, rfl⟩
 rw [hR] at HC hsm hne ⊢
 obtain ⟨m, hm⟩ : ∃ m, R.1.length = m + 1 := ⟨R.1.length - 1, by have := List.length_pos_iff.2 hne; omega⟩
 have hm8 : m ≤ 8000 := by omega
 have Hj := Lib.hid (show (joinB [46] R.1.dropLast).length ≤ 100000000 from joinB_small (fun x hx => hsm.1 x ((List.dropLast_sublist _).subset hx)) (by simp; omega))
 have Hl := Lib.hid (show R.1.dropLast.length ≤ 10000 by simp; omega)
 have Hm := Lib.hid hm
 have Hne := Lib.hid hne
 have Hg := Lib.hid (show R.1[m]? = some (R.1.getLastD []) by
  rw [List.getLastD_eq_getLast?, List.getLast?_eq_getElem?, hm, Nat.add_sub_cancel, List.getElem?_eq_getElem (by omega)]; rfl)
 obtain ⟨x, hx⟩ : ∃ x, R.1.getLastD [] = x := ⟨_, rfl⟩
 obtain ⟨y, hy⟩ : ∃ y, joinB [46] R.1.dropLast = y := ⟨_, rfl⟩
 rw [hy] at Hj ⊢
 rw [hx] at Hg ⊢
 have HY := Lib.hid hy
 clear h hR hsm hm hne HR hx hy
 go_enter Tryz.func244, Tryz.ntmps244
 go_wp2_with fail
 refine HC.out.mono ?_; rintro e w1 ⟨v, rfl, LV, P1, O1⟩
 obtain ⟨b, o, c, rfl, hc, hb, -, hcell⟩ := dL_row LV Hne.out
 rw [Hm.out] at hc ⊢
 have Hcell := Lib.hid hcell
 have P1' := Lib.hid P1
 have O1' := Lib.hid O1
 have c1 : w1.drew.cell? ⟨b, o + m, none⟩ = some (.string (ofL x)) := hcell m _ Hg.out
 have LD := Lib.hid (show Lies w1.drew (fun _ => True) (.slice (some ⟨b, o, none⟩) m c) (dL R.1.dropLast) from dL_of (by simp [Hm.out]) (by omega) hb trivial (fun i x hx => by
  have hlt := (List.getElem?_eq_some_iff.1 hx).1
  rw [List.getElem?_dropLast, if_pos (by simpa using hlt)] at hx
  exact hcell i x hx))
 clear LV P1 O1 hcell
 go_wp2_with fail
 go_region_with (go_at_call 207; refine (join_any R.1.dropLast [46] (LD.out.belowT (Below.refl _ _)) Hl.out (by rw [HY.out]; exact Hj.out)).mono ?_; rintro e w5 ⟨rfl, hb5⟩; rw [HY.out]; have c5 := (hb5.cell (p := ⟨b, o + m, none⟩) hb.lt).trans c1; have HB5 := Lib.hid hb5; clear hb5)
 all_goals
  have HQ := Lib.hid (O1'.out.below (((Below.refl _ w1).drew).trans HB5.out))
  have HP := Lib.hid (P1'.out.below (((Below.refl _ w1).drew).trans HB5.out) P1'.out.lt)
  go_wp2
  go_ret2
  exact ⟨rfl, HP.out, HQ.out⟩
end
/- Layer 10: the contract of the printer's message. -/
open Go.RowKit

/-- Element j of a slice of structs of z cells. -/
theorem flat_get {α : Type} {f : α → List D} {z : Nat} (hf : ∀ x, (f x).length = z) : ∀ (l : List α) (j i : Nat) (x : α), l[j]? = some x → i < z → (l.flatMap f)[j * z + i]? = (f x)[i]?
 | [], j, i, x, h, _ => by simp at h
 | a :: r, 0, i, x, h, hi => by
  simp at h; subst h
  rw [List.flatMap_cons, List.getElem?_append_left (by rw [hf]; omega)]
  congr 1; omega
 | a :: r, j + 1, i, x, h, hi => by
  rw [List.flatMap_cons, List.getElem?_append_right (by rw [hf, Nat.add_mul]; omega), hf, show (j + 1) * z + i - z = j * z + i by rw [Nat.add_mul]; omega]
  exact flat_get hf r j i x (by simpa using h) hi
theorem flat_len {α : Type} {f : α → List D} {z : Nat} (hf : ∀ x, (f x).length = z) : ∀ (l : List α), (l.flatMap f).length = l.length * z
 | [] => by simp
 | a :: r => by rw [List.flatMap_cons, List.length_append, hf, flat_len hf r, List.length_cons, Nat.add_mul]; omega
/-- The cells of a slice of data. -/
theorem sl_cell {w : World} {S : Nat → Prop} {v : Value} {z : Nat} {l : List D} (h : Lies w S v (.s z l)) (h0 : l ≠ []) : ∃ b o n c, v = .slice (some ⟨b, o, none⟩) n c ∧ n * z = l.length ∧ S b ∧ b < w.heap.size ∧ ∀ (i : Nat) d, l[i]? = some d → ∃ u, w.cell? ⟨b, o + i, none⟩ = some u ∧ Lies w S u d := by
 generalize hd : D.s z l = d at h
 cases h with
 | c v hv => cases hd
 | nil z' => simp only [D.s.injEq] at hd; exact absurd hd.2 h0
 | e0 ad cap z' => simp only [D.s.injEq] at hd; exact absurd hd.2 h0
 | sl b o n cap z' us l' h1 h2 h3 h4 h5 h6 h7 =>
  simp only [D.s.injEq] at hd
  obtain ⟨rfl, rfl⟩ := hd
  refine ⟨b, o, n, cap, rfl, h4, h1, h2.lt, fun i d hi => ?_⟩
  have hlt : i < us.length := by rw [h3]; exact (List.getElem?_eq_some_iff.1 hi).1
  exact ⟨us[i], h6 i _ (List.getElem?_eq_getElem hlt), h7 i _ d (List.getElem?_eq_getElem hlt) hi⟩
/-- Items lie in a plain block. -/
theorem Lies.plain {w : World} {S : Nat → Prop} {ad : Addr} {n c : Nat} {l : List D} (h : Lies w S (.slice (some ad) n c) (.s 7 l)) (h0 : l ≠ []) : Pl w ad.block := by
 cases h with
 | e0 => exact absurd rfl h0
 | sl b o n cap z us l h1 h2 => exact h2.2 rfl
theorem Lies.pk {g B : Nat} {w w' : World} {S : Nat → Prop} {v : Value} {d : D} (h : Lies w S v d) (hk : Pk g B w w') (hS : ∀ k, S k → k < B ∧ k ≠ g) : Lies w' S v d :=
 h.keep hk.size fun k hk' hs => hk.block k hk' (hS k hs).2 (.inl (hS k hs).1)
/- Layer 10: data of the reference that lies in memory: nothing is said of plain blocks. -/
open Go.RowKit

inductive Lir (w : World) (S : Nat → Prop) : Value → D → Prop where
 | c (v : Value) : v.oneCell' = true → Lir w S v (.c v)
 | nil (z : Nat) : Lir w S (.slice none 0 0) (.s z [])
 | e0 (ad : Addr) (cap z : Nat) : Lir w S (.slice (some ad) 0 cap) (.s z [])
 | sl (b o n cap z : Nat) (us : List Value) (l : List D) : S b → b < w.heap.size → us.length = l.length → n * z = l.length → n ≤ cap →
   (∀ (i : Nat) (u : Value), us[i]? = some u → w.cell? ⟨b, o + i, none⟩ = some u) → (∀ (i : Nat) (u : Value) (d : D), us[i]? = some u → l[i]? = some d → Lir w S u d) → Lir w S (.slice (some ⟨b, o, none⟩) n cap) (.s z l)
section
variable {w w' : World} {S T : Nat → Prop} {v : Value} {d : D}
theorem Lir.mono (hST : ∀ k, k < w.heap.size → S k → T k) (h : Lir w S v d) : Lir w T v d := by
 induction h with
 | c v h => exact .c v h
 | nil z => exact .nil z
 | e0 ad cap z => exact .e0 ad cap z
 | sl b o n cap z us l h1 h2 h3 h4 h5 h6 _ ih => exact .sl b o n cap z us l (hST _ h2 h1) h2 h3 h4 h5 h6 ih
theorem Lir.keep (hs : w.heap.size ≤ w'.heap.size) (hb : ∀ k, k < w.heap.size → S k → w'.heap[k]? = w.heap[k]?) (h : Lir w S v d) : Lir w' S v d := by
 induction h with
 | c v h => exact .c v h
 | nil z => exact .nil z
 | e0 ad cap z => exact .e0 ad cap z
 | sl b o n cap z us l h1 h2 h3 h4 h5 h6 _ ih =>
  refine .sl b o n cap z us l h1 (Nat.lt_of_lt_of_le h2 hs) h3 h4 h5 (fun i u hu => ?_) ih
  rw [World.cell?_of_block (w := w) (hb _ h2 h1)]
  exact h6 i u hu
theorem Lir.belowT (h : Lir w S v d) (hb : Below w.heap.size w w') : Lir w' S v d := h.keep hb.size fun k hk _ => hb.block k hk
theorem Lies.lir (h : Lies w S v d) : Lir w S v d := by
 induction h with
 | c v h => exact .c v h
 | nil z => exact .nil z
 | e0 ad cap z => exact .e0 ad cap z
 | sl b o n cap z us l h1 h2 h3 h4 h5 h6 _ ih => exact .sl b o n cap z us l h1 h2.lt h3 h4 h5 h6 ih
theorem Lir.slc {z : Nat} {l : List D} (h : Lir w S v (.s z l)) : ∃ A n c, v = .slice A n c ∧ n * z = l.length := by
 cases h with
 | nil => exact ⟨_, _, _, rfl, by simp⟩
 | e0 => exact ⟨_, _, _, rfl, by simp⟩
 | sl b o n cap _ us l _ _ _ h4 => exact ⟨_, _, _, rfl, h4⟩
theorem Lir.cell_eq {u : Value} (h : Lir w S v (.c u)) : v = u := by cases h; rfl
theorem Lir.one (h : Lir w S v d) : v.oneCell' = true := by
 cases h with
 | c _ h => exact h
 | nil => rfl
 | e0 => rfl
 | sl => rfl
/-- The cells of a slice. -/
theorem Lir.cell {z : Nat} {l : List D} (h : Lir w S v (.s z l)) (h0 : l ≠ []) : ∃ b o n c, v = .slice (some ⟨b, o, none⟩) n c ∧ n * z = l.length ∧ n ≤ c ∧ S b ∧ b < w.heap.size ∧ ∀ (i : Nat) d, l[i]? = some d → ∃ u, w.cell? ⟨b, o + i, none⟩ = some u ∧ Lir w S u d := by
 generalize hd : D.s z l = d at h
 cases h with
 | c v hv => cases hd
 | nil z' => simp only [D.s.injEq] at hd; exact absurd hd.2 h0
 | e0 ad cap z' => simp only [D.s.injEq] at hd; exact absurd hd.2 h0
 | sl b o n cap z' us l' h1 h2 h3 h4 h5 h6 h7 =>
  simp only [D.s.injEq] at hd
  obtain ⟨rfl, rfl⟩ := hd
  refine ⟨b, o, n, cap, rfl, h4, h5, h1, h2, fun i d hi => ?_⟩
  have hlt : i < us.length := by rw [h3]; exact (List.getElem?_eq_some_iff.1 hi).1
  exact ⟨us[i], h6 i _ (List.getElem?_eq_getElem hlt), h7 i _ d (List.getElem?_eq_getElem hlt) hi⟩
/-- Rows of plain cells, but not of items, are as in the program. -/
theorem Lir.lies {z : Nat} {l : List D} (h : Lir w S v (.s z l)) (hz : z ≠ 7) (hc : ∀ d ∈ l, ∃ u, d = .c u) : Lies w S v (.s z l) := by
 generalize hd : D.s z l = d at h
 cases h with
 | c v hv => cases hd
 | nil z' => simp only [D.s.injEq] at hd; obtain ⟨rfl, rfl⟩ := hd; exact .nil _
 | e0 ad cap z' => simp only [D.s.injEq] at hd; obtain ⟨rfl, rfl⟩ := hd; exact .e0 _ _ _
 | sl b o n cap z' us l' h1 h2 h3 h4 h5 h6 h7 =>
  simp only [D.s.injEq] at hd
  obtain ⟨rfl, rfl⟩ := hd
  refine .sl b o n cap z us l h1 ⟨h2, fun e => absurd e hz⟩ h3 h4 h5 h6 fun i u d hu hd => ?_
  obtain ⟨u', rfl⟩ := hc d (List.mem_of_getElem? hd)
  have h8 := h7 i u _ hu hd
  have h9 := h8.one
  have := h8.cell_eq
  subst this
  exact .c _ h9
theorem Lir.strs {l : List Bs} (h : Lir w S v (dL l)) : Lies w S v (dL l) := Lir.lies h (by decide) fun d hd => by
 obtain ⟨x, -, hx⟩ := List.mem_flatMap.1 hd
 simp only [List.mem_cons, List.not_mem_nil, or_false] at hx
 exact ⟨_, hx⟩
theorem Lir.flds {l : List Fd} (h : Lir w S v (.s 4 (l.flatMap dF))) : Lies w S v (.s 4 (l.flatMap dF)) := Lir.lies h (by decide) fun d hd => by
 obtain ⟨x, -, hx⟩ := List.mem_flatMap.1 hd
 simp only [dF, List.mem_cons, List.not_mem_nil, or_false] at hx
 rcases hx with rfl | rfl | rfl | rfl <;> exact ⟨_, rfl⟩
theorem Lir.atms {l : List Am} (h : Lir w S v (.s 9 (l.flatMap dA))) : Lies w S v (.s 9 (l.flatMap dA)) := Lir.lies h (by decide) fun d hd => by
 obtain ⟨x, -, hx⟩ := List.mem_flatMap.1 hd
 simp only [dA, dT, List.cons_append, List.nil_append, List.mem_cons, List.not_mem_nil, or_false] at hx
 rcases hx with rfl | rfl | rfl | rfl | rfl | rfl | rfl | rfl | rfl <;> exact ⟨_, rfl⟩
end
/-- The values of a row of the reference at place j of rows of z cells. -/
theorem lir_row {w : World} {S : Nat → Prop} {α : Type} {f : α → List D} {z : Nat} (hf : ∀ x, (f x).length = z) {b o : Nat} {l : List α} (hc : ∀ (i : Nat) d, (l.flatMap f)[i]? = some d → ∃ u, w.cell? ⟨b, o + i, none⟩ = some u ∧ Lir w S u d) {j : Nat} {x : α} (hj : l[j]? = some x) (i : Nat) (d : D) (hi : (f x)[i]? = some d) : ∃ u, w.cell? ⟨b, o + j * z + i, none⟩ = some u ∧ Lir w S u d := by
 have hlt : i < z := by rw [← hf x]; exact (List.getElem?_eq_some_iff.1 hi).1
 have := hc (j * z + i) d (by rw [flat_get hf l j i x hj hlt]; exact hi)
 rwa [← Nat.add_assoc] at this
end Go.Proofs.YtekpefcggikcbaaGreatDoor
