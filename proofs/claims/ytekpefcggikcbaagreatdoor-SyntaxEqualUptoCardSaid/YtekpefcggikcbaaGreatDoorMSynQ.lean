/- Layer 10: the contracts of the parser's methods that read one token. -/
import Derived.Test.YtekpefcggikcbaaGreatDoorMLexTks
namespace Go.Proofs.YtekpefcggikcbaaGreatDoor
/- Layer 10: the contracts of the parser's methods that read one token. -/
open Go.RowKit

section
variable {w w' : World} {g E : Nat} {s : St}
def Tells (w : World) (v : Value) (e : Ending) (w' : World) : Prop := e = .returned v ∧ Below w.heap.size w w'
theorem sees_ne {x : Bs} (h : seesB E x s = true) : s.r ≠ [] := by
 intro hr
 unfold seesB nextT at h
 rw [hr] at h
 simp at h
theorem nextT_ne (h : (nextT E s).k ≠ 0) : s.r ≠ [] := by
 intro hr
 unfold nextT at h
 rw [hr] at h
 simp at h
set_option maxRecDepth 20000 in
set_option maxHeartbeats 400000 in
theorem psees_any (h : Prs w g E s) (x : Bs) : Calls Tryz.prog 134 #[.pointer (some ⟨g, 0, none⟩), .string (ofL x)] w (Tells w (.bool (seesB E x s))) := by
 obtain ⟨t, ht⟩ : ∃ t, nextT E s = t := ⟨_, rfl⟩
 have HT := Lib.hid ht
 have H := Lib.hid h
 have HS := Lib.hid (show seesB E x s = ((decide (t.k = 4) || decide (t.k = 1)) && ((ofL t.t).toList == (ofL x).toList)) by unfold seesB; rw [ht]; simp only [ofL_toList]; congr 1; rw [Bool.eq_iff_iff]; simp)
 obtain ⟨y, hy⟩ : ∃ y, ofL x = y := ⟨_, rfl⟩
 rw [hy] at HS ⊢
 clear h ht hy
 by_cases h4 : t.k = 4
 ·have e4 : ((t.k : Int) == 4) = true := by simp; omega
  have HD := Lib.hid (show (decide (t.k = 4) || decide (t.k = 1)) = true by simp [h4])
  clear h4
  go_enter Tryz.func134, Tryz.ntmps134
  go_wp2_with fail
  refine (pnext_any H.out).mono ?_; rintro e w1 ⟨rfl, hb1⟩
  rw [HT.out]
  unfold tokA
  have B2 := Lib.hid (hb1.alloc hb1.size (.cells #[.int .i64 (t.k : Int), .string (ofL t.t), .int .i64 (t.v : Int), .int .i64 (t.p : Int)] 48))
  obtain ⟨u0, u1, u2, u3, -, -, -, -⟩ := (TBox.made w1 t.k t.v t.p t.t).facts
  clear hb1
  go_wp2_with fail
  go_ret
  refine ⟨?_, B2.out⟩
  rw [HS.out, HD.out]
  simp
 by_cases h1 : t.k = 1
 ·have e4 : ((t.k : Int) == 4) = false := by simp; omega
  have e1 : ((t.k : Int) == 1) = true := by simp; omega
  have HD := Lib.hid (show (decide (t.k = 4) || decide (t.k = 1)) = true by simp [h1])
  clear h4 h1
  go_enter Tryz.func134, Tryz.ntmps134
  go_wp2_with fail
  refine (pnext_any H.out).mono ?_; rintro e w1 ⟨rfl, hb1⟩
  rw [HT.out]
  unfold tokA
  have B2 := Lib.hid (hb1.alloc hb1.size (.cells #[.int .i64 (t.k : Int), .string (ofL t.t), .int .i64 (t.v : Int), .int .i64 (t.p : Int)] 48))
  obtain ⟨u0, u1, u2, u3, -, -, -, -⟩ := (TBox.made w1 t.k t.v t.p t.t).facts
  clear hb1
  go_wp2_with fail
  go_ret
  refine ⟨?_, B2.out⟩
  rw [HS.out, HD.out]
  simp
 ·have e4 : ((t.k : Int) == 4) = false := by simp; omega
  have e1 : ((t.k : Int) == 1) = false := by simp; omega
  have HD := Lib.hid (show (decide (t.k = 4) || decide (t.k = 1)) = false by simp [h1, h4])
  clear h4 h1
  go_enter Tryz.func134, Tryz.ntmps134
  go_wp2_with fail
  refine (pnext_any H.out).mono ?_; rintro e w1 ⟨rfl, hb1⟩
  rw [HT.out]
  unfold tokA
  have B2 := Lib.hid (hb1.alloc hb1.size (.cells #[.int .i64 (t.k : Int), .string (ofL t.t), .int .i64 (t.v : Int), .int .i64 (t.p : Int)] 48))
  obtain ⟨u0, u1, u2, u3, -, -, -, -⟩ := (TBox.made w1 t.k t.v t.p t.t).facts
  clear hb1
  go_wp2_with fail
  go_ret
  refine ⟨?_, B2.out⟩
  rw [HS.out, HD.out]
  simp
set_option maxHeartbeats 400000 in
theorem pexpect_any (h : Prs w g E s) (x : Bs) : Calls Tryz.prog 131 #[.pointer (some ⟨g, 0, none⟩), .string (ofL x)] w (Got w g E (expectP E x s).2 (.tuple #[])) := by
 have H := Lib.hid h
 have hlt := h.lt
 have HX := Lib.hid (show (expectP E x s).2 = (readS E (seesB E x s) s).2 from rfl)
 have HB := Lib.hid (show seesB E x s = true → s.r ≠ [] from fun h => sees_ne h)
 have HC := Lib.hid (fun w (h : Prs w g E s) => psees_any h x)
 obtain ⟨b, hb⟩ : ∃ b, seesB E x s = b := ⟨_, rfl⟩
 rw [hb] at HX HB HC
 rw [HX.out]
 obtain ⟨y, hy⟩ : ∃ y, ofL x = y := ⟨_, rfl⟩
 rw [hy] at HC ⊢
 clear h hb hy
 go_enter Tryz.func131, Tryz.ntmps131
 go_wp2_with fail
 refine (HC.out _ H.out).mono ?_; rintro e w1 ⟨rfl, hb1⟩
 have B1 := Lib.hid hb1
 have H1 := Lib.hid (H.out.below hb1 hlt)
 clear hb1
 go_wp2_with fail
 refine (pread_any H1.out b HB.out).mono ?_; rintro e w2 ⟨rfl, P2, O2⟩
 have P2' := Lib.hid P2
 have O2' := Lib.hid O2
 clear P2 O2
 go_wp2_with fail
 refine bodyPost_end (v := .tuple #[]) (by simp [results, Tryz.results131, go_sem]) rfl ⟨rfl, P2'.out, ((Only.refl g w).below B1.out).trans O2'.out⟩
set_option maxHeartbeats 400000 in
theorem ptake_any (h : Prs w g E s) (x : Bs) : Calls Tryz.prog 195 #[.pointer (some ⟨g, 0, none⟩), .string (ofL x)] w (Got w g E (takeP E x s).2 (.bool (takeP E x s).1)) := by
 have H := Lib.hid h
 have hlt := h.lt
 have HC := Lib.hid (fun w (h : Prs w g E s) => psees_any h x)
 have HP := Lib.hid (fun w (h : Prs w g E s) => pexpect_any h x)
 cases hb : seesB E x s with
 | true =>
  rw [hb] at HC
  have HX := Lib.hid (show takeP E x s = (true, (expectP E x s).2) by unfold takeP; rw [if_pos hb])
  rw [HX.out]
  obtain ⟨y, hy⟩ : ∃ y, ofL x = y := ⟨_, rfl⟩
  rw [hy] at HC HP ⊢
  clear h hb hy
  go_enter Tryz.func195, Tryz.ntmps195
  go_wp2_with fail
  refine (HC.out _ H.out).mono ?_; rintro e w1 ⟨rfl, hb1⟩
  have B1 := Lib.hid hb1
  have H1 := Lib.hid (H.out.below hb1 hlt)
  clear hb1
  go_wp2_with fail
  refine (HP.out _ H1.out).mono ?_; rintro e w2 ⟨rfl, P2, O2⟩
  have P2' := Lib.hid P2
  have O2' := Lib.hid O2
  clear P2 O2
  go_wp2_with fail
  go_ret
  exact ⟨rfl, P2'.out, ((Only.refl g w).below B1.out).trans O2'.out⟩
 | false =>
  rw [hb] at HC
  have HX := Lib.hid (show takeP E x s = (false, s) by unfold takeP; rw [if_neg (by simp [hb])])
  rw [HX.out]
  obtain ⟨y, hy⟩ : ∃ y, ofL x = y := ⟨_, rfl⟩
  rw [hy] at HC HP ⊢
  clear h hb hy
  go_enter Tryz.func195, Tryz.ntmps195
  go_wp2_with fail
  refine (HC.out _ H.out).mono ?_; rintro e w1 ⟨rfl, hb1⟩
  have B1 := Lib.hid hb1
  have H1 := Lib.hid (H.out.below hb1 hlt)
  clear hb1
  go_wp2_with fail
  go_ret
  exact ⟨rfl, H1.out, (Only.refl g w).below B1.out⟩
set_option maxRecDepth 20000 in
set_option maxHeartbeats 1000000 in
theorem isOp_s (s : ByteArray) (w : World) : Calls Tryz.prog 204 #[.string s] w (BoolIs (opB s.toList) w) := by
 go_enter Tryz.func204, Tryz.ntmps204
 go_wp2
 all_goals
  go_ret
  refine BoolIs.mk ?_
  simp_all [opB]
theorem isOp_any (l : Bs) (w : World) : Calls Tryz.prog 204 #[.string (ofL l)] w (BoolIs (opB l) w) := by
 have := isOp_s (ofL l) w
 rwa [ofL_toList] at this
set_option maxRecDepth 20000 in
set_option maxHeartbeats 400000 in
theorem pword_any (h : Prs w g E s) : Calls Tryz.prog 132 #[.pointer (some ⟨g, 0, none⟩)] w (Got w g E (wordP E s).2 (.string (ofL (wordP E s).1))) := by
 obtain ⟨t, ht⟩ : ∃ t, nextT E s = t := ⟨_, rfl⟩
 have HT := Lib.hid ht
 have H := Lib.hid h
 have hlt := h.lt
 have HN := Lib.hid (show t.k = 1 → s.r ≠ [] from fun e => nextT_ne (E := E) (by rw [ht, e]; simp))
 obtain ⟨b, hb⟩ : ∃ b, wdB t.t = b := ⟨_, rfl⟩
 have HB := Lib.hid hb
 by_cases h4 : t.k = 1
 ·have HS := Lib.hid (show wordP E s = ((readS E b s).1.t, (readS E b s).2) by unfold wordP; simp only [ht, h4, hb]; simp)
  rw [HS.out]
  have HNE := Lib.hid (HN.out h4)
  have e4 : ((t.k : Int) == 1) = true := by simp; omega
  clear h ht h4 hb
  go_enter Tryz.func132, Tryz.ntmps132
  go_wp2_with fail
  refine (pnext_any H.out).mono ?_; rintro e w1 ⟨rfl, hb1⟩
  rw [HT.out]
  unfold tokA
  have B2 := Lib.hid (hb1.alloc hb1.size (.cells #[.int .i64 (t.k : Int), .string (ofL t.t), .int .i64 (t.v : Int), .int .i64 (t.p : Int)] 48))
  obtain ⟨u0, u1, u2, u3, -, -, -, -⟩ := (TBox.made w1 t.k t.v t.p t.t).facts
  clear hb1
  have H2 := Lib.hid (H.out.below B2.out hlt)
  have hfl := fld_tok1
  go_wp2_with fail
  refine (isWord_any _ _).mono ?_; rintro e w2 ⟨rfl, rfl⟩; rw [HB.out]
  go_wp2_with fail
  refine (pread_any H2.out _ (fun _ => HNE.out)).mono ?_; rintro e w3 ⟨rfl, P3, O3⟩
  unfold tokA
  have P3' := Lib.hid P3
  have O3' := Lib.hid (((Only.refl g w).below B2.out).trans O3)
  clear P3 O3
  go_wp2_with fail
  go_ret
  exact ⟨rfl, P3'.out, O3'.out⟩
 ·have HS := Lib.hid (show wordP E s = ((readS E false s).1.t, (readS E false s).2) by unfold wordP; simp only [ht, h4]; simp)
  rw [HS.out]
  have e4 : ((t.k : Int) == 1) = false := by simp; omega
  clear h ht h4 hb
  go_enter Tryz.func132, Tryz.ntmps132
  go_wp2_with fail
  refine (pnext_any H.out).mono ?_; rintro e w1 ⟨rfl, hb1⟩
  rw [HT.out]
  unfold tokA
  have B2 := Lib.hid (hb1.alloc hb1.size (.cells #[.int .i64 (t.k : Int), .string (ofL t.t), .int .i64 (t.v : Int), .int .i64 (t.p : Int)] 48))
  obtain ⟨u0, u1, u2, u3, -, -, -, -⟩ := (TBox.made w1 t.k t.v t.p t.t).facts
  clear hb1
  have H2 := Lib.hid (H.out.below B2.out hlt)
  have hfl := fld_tok1
  go_wp2_with fail
  refine (pread_any H2.out _ (by intro e; cases e)).mono ?_; rintro e w3 ⟨rfl, P3, O3⟩
  unfold tokA
  have P3' := Lib.hid P3
  have O3' := Lib.hid (((Only.refl g w).below B2.out).trans O3)
  clear P3 O3
  go_wp2_with fail
  go_ret
  exact ⟨rfl, P3'.out, O3'.out⟩
set_option maxRecDepth 20000 in
set_option maxHeartbeats 400000 in
theorem pop_any (h : Prs w g E s) : Calls Tryz.prog 225 #[.pointer (some ⟨g, 0, none⟩)] w (Got w g E (opP E s).2 (.string (ofL (opP E s).1))) := by
 obtain ⟨t, ht⟩ : ∃ t, nextT E s = t := ⟨_, rfl⟩
 have HT := Lib.hid ht
 have H := Lib.hid h
 have hlt := h.lt
 have HN := Lib.hid (show t.k = 4 → s.r ≠ [] from fun e => nextT_ne (E := E) (by rw [ht, e]; simp))
 obtain ⟨b, hb⟩ : ∃ b, opB t.t = b := ⟨_, rfl⟩
 have HB := Lib.hid hb
 by_cases h4 : t.k = 4
 ·have HS := Lib.hid (show opP E s = ((readS E b s).1.t, (readS E b s).2) by unfold opP; simp only [ht, h4, hb]; simp)
  rw [HS.out]
  have HNE := Lib.hid (HN.out h4)
  have e4 : ((t.k : Int) == 4) = true := by simp; omega
  clear h ht h4 hb
  go_enter Tryz.func225, Tryz.ntmps225
  go_wp2_with fail
  refine (pnext_any H.out).mono ?_; rintro e w1 ⟨rfl, hb1⟩
  rw [HT.out]
  unfold tokA
  have B2 := Lib.hid (hb1.alloc hb1.size (.cells #[.int .i64 (t.k : Int), .string (ofL t.t), .int .i64 (t.v : Int), .int .i64 (t.p : Int)] 48))
  obtain ⟨u0, u1, u2, u3, -, -, -, -⟩ := (TBox.made w1 t.k t.v t.p t.t).facts
  clear hb1
  have H2 := Lib.hid (H.out.below B2.out hlt)
  have hfl := fld_tok1
  go_wp2_with fail
  refine (isOp_any _ _).mono ?_; rintro e w2 ⟨rfl, rfl⟩; rw [HB.out]
  go_wp2_with fail
  refine (pread_any H2.out _ (fun _ => HNE.out)).mono ?_; rintro e w3 ⟨rfl, P3, O3⟩
  unfold tokA
  have P3' := Lib.hid P3
  have O3' := Lib.hid (((Only.refl g w).below B2.out).trans O3)
  clear P3 O3
  go_wp2_with fail
  go_ret
  exact ⟨rfl, P3'.out, O3'.out⟩
 ·have HS := Lib.hid (show opP E s = ((readS E false s).1.t, (readS E false s).2) by unfold opP; simp only [ht, h4]; simp)
  rw [HS.out]
  have e4 : ((t.k : Int) == 4) = false := by simp; omega
  clear h ht h4 hb
  go_enter Tryz.func225, Tryz.ntmps225
  go_wp2_with fail
  refine (pnext_any H.out).mono ?_; rintro e w1 ⟨rfl, hb1⟩
  rw [HT.out]
  unfold tokA
  have B2 := Lib.hid (hb1.alloc hb1.size (.cells #[.int .i64 (t.k : Int), .string (ofL t.t), .int .i64 (t.v : Int), .int .i64 (t.p : Int)] 48))
  obtain ⟨u0, u1, u2, u3, -, -, -, -⟩ := (TBox.made w1 t.k t.v t.p t.t).facts
  clear hb1
  have H2 := Lib.hid (H.out.below B2.out hlt)
  have hfl := fld_tok1
  go_wp2_with fail
  refine (pread_any H2.out _ (by intro e; cases e)).mono ?_; rintro e w3 ⟨rfl, P3, O3⟩
  unfold tokA
  have P3' := Lib.hid P3
  have O3' := Lib.hid (((Only.refl g w).below B2.out).trans O3)
  clear P3 O3
  go_wp2_with fail
  go_ret
  exact ⟨rfl, P3'.out, O3'.out⟩
set_option maxRecDepth 20000 in
set_option maxHeartbeats 400000 in
theorem pnumber_any (h : Prs w g E s) : Calls Tryz.prog 222 #[.pointer (some ⟨g, 0, none⟩)] w (Got w g E (numP E s).2 (.int .i64 (numP E s).1)) := by
 obtain ⟨t, ht⟩ : ∃ t, nextT E s = t := ⟨_, rfl⟩
 have HT := Lib.hid ht
 have H := Lib.hid h
 have hlt := h.lt
 obtain ⟨b, hb⟩ : ∃ b, decide (t.k = 2) = b := ⟨_, rfl⟩
 have HN := Lib.hid (show b = true → s.r ≠ [] from fun e => nextT_ne (E := E) (by rw [ht]; rw [← hb] at e; simp at e; omega))
 have HS := Lib.hid (show numP E s = (((readS E b s).1.v : Int), (readS E b s).2) by unfold numP; simp only [ht, hb])
 rw [HS.out]
 have e4 : ((t.k : Int) == 2) = b := by rw [← hb, Bool.eq_iff_iff]; simp; omega
 clear h ht hb
 go_enter Tryz.func222, Tryz.ntmps222
 go_wp2_with fail
 refine (pnext_any H.out).mono ?_; rintro e w1 ⟨rfl, hb1⟩
 rw [HT.out]
 unfold tokA
 have B1 := Lib.hid hb1
 have H2 := Lib.hid (H.out.below hb1 hlt)
 have hfl := fld_tok0
 have hfl2 := fld_tok2
 clear hb1
 go_wp2_with fail
 refine (pread_any H2.out b HN.out).mono ?_; rintro e w3 ⟨rfl, P3, O3⟩
 unfold tokA
 have P3' := Lib.hid P3
 have O3' := Lib.hid (((Only.refl g w).below B1.out).trans O3)
 clear P3 O3
 go_wp2_with fail
 go_ret
 exact ⟨rfl, P3'.out, O3'.out⟩
end
/- Layer 10: what separated answers, plainly; it only takes tokens away. -/
open Go.RowKit

section
variable {E : Nat} {s : St}
def Dec {α : Type} (f : P α) : Prop := ∀ s, (f s).2.r.length ≤ s.r.length
theorem Dec.bind {α β : Type} {f : P α} {k : α → P β} (hf : Dec f) (hk : ∀ a, Dec (k a)) : Dec (f >>= k) := fun s => Nat.le_trans (hk _ _) (hf s)
theorem Dec.pure {α : Type} (a : α) : Dec (Pure.pure a : P α) := fun _ => Nat.le_refl _
theorem Dec.ite {α : Type} {c : Prop} [Decidable c] {f k : P α} (hf : Dec f) (hk : Dec k) : Dec (if c then f else k) := by split <;> assumption
theorem failS_dec (x : Nat) : (failS E x s).r.length ≤ s.r.length := by unfold failS; split <;> simp
theorem readS_dec (b : Bool) : (readS E b s).2.r.length ≤ s.r.length := by
 unfold readS; split
 ·simp
 ·exact failS_dec 3
theorem expectP_dec (x : Bs) : Dec (expectP E x) := fun _ => readS_dec _
theorem takeP_dec (x : Bs) : Dec (takeP E x) := fun s => by
 unfold takeP; split
 ·exact expectP_dec x s
 ·exact Nat.le_refl _
theorem takeP_yes {x : Bs} (h : (takeP E x s).1 = true) : (takeP E x s).2.r.length + 1 = s.r.length := by
 unfold takeP at h ⊢
 split at h
 ·rename_i hs
  rw [if_pos hs]
  have hne := sees_ne hs
  show (readS E (seesB E x s) s).2.r.length + 1 = _
  rw [hs, readS_yes]
  have := List.length_pos_iff.2 hne
  simp; omega
 ·cases h
theorem takeP_no {x : Bs} (h : (takeP E x s).1 = false) : (takeP E x s).2 = s := by
 unfold takeP at h ⊢
 split at h
 ·cases h
 ·rename_i hs; rw [if_neg hs]
theorem wordP_dec : Dec (wordP E) := fun _ => readS_dec _
theorem numP_dec : Dec (numP E) := fun _ => readS_dec _
theorem opP_dec : Dec (opP E) := fun _ => readS_dec _
theorem sepL_no {α : Type} {mark : Bs} {rd : P α} (n : Nat) (h : (takeP E mark s).1 = false) : sepL E mark rd n s = ([], s) := by
 cases n with
 | zero => rfl
 | succ n =>
  show (if (takeP E mark s).1 = true then _ else pure [] : P (List α)) (takeP E mark s).2 = _
  rw [if_neg (by simp [h]), takeP_no h]
  rfl
theorem sepL_yes {α : Type} {mark : Bs} {rd : P α} (n : Nat) (h : (takeP E mark s).1 = true) : sepL E mark rd (n + 1) s =
  ((rd (takeP E mark s).2).1 :: (sepL E mark rd n (rd (takeP E mark s).2).2).1, (sepL E mark rd n (rd (takeP E mark s).2).2).2) := by
 show (if (takeP E mark s).1 = true then _ else pure [] : P (List α)) (takeP E mark s).2 = _
 rw [if_pos h]
 rfl
theorem sepL_dec {α : Type} {mark : Bs} {rd : P α} (hrd : Dec rd) (n : Nat) : Dec (sepL E mark rd n) := by
 induction n with
 | zero => exact Dec.pure _
 | succ n ih => exact (takeP_dec mark).bind fun b => Dec.ite (hrd.bind fun x => ih.bind fun xs => Dec.pure _) (Dec.pure _)
theorem sepP_dec {α : Type} {mark : Bs} {rd : P α} (hrd : Dec rd) : Dec (sepP E mark rd) := fun s => Nat.le_trans (sepL_dec hrd _ _) (hrd s)
end
/-- Behind a method whose answer lies in new memory. -/
def GotD (w : World) (g E : Nat) (s' : St) (d : D) (e : Ending) (w' : World) : Prop := ∃ v, e = .returned v ∧ Lies w' (fun k => w.heap.size ≤ k) v d ∧ Prs w' g E s' ∧ Only g w w'
/-- K is a method that reads, where at most L tokens are left: f says what its answer looks like. -/
def IsRd {α : Type} (K g E L : Nat) (p : P α) (f : α → Value) : Prop :=
 (∀ args w, (callFunc K args).run Tryz.prog w = .ok (.enter K args) w) ∧ ∀ w s, s.r.length ≤ L → Prs w g E s → Calls Tryz.prog K #[.pointer (some ⟨g, 0, none⟩)] w (Got w g E (p s).2 (f (p s).1))
def IsRdD {α : Type} (K g E L : Nat) (p : P α) (f : α → D) : Prop :=
 (∀ args w, (callFunc K args).run Tryz.prog w = .ok (.enter K args) w) ∧ ∀ w s, s.r.length ≤ L → Prs w g E s → Calls Tryz.prog K #[.pointer (some ⟨g, 0, none⟩)] w (GotD w g E (p s).2 (f (p s).1))
theorem Only.to {g : Nat} {a b c : World} (h : Only g a b) (k : Below a.heap.size b c) : Only g a c :=
 ⟨k.os.trans h.os, k.tape.trans h.tape, k.output.trans h.output, Nat.le_trans h.size k.size, fun i hi hn => (k.block i hi).trans (h.block i hi hn)⟩
def dI (n : Int) : D := .c (.int .i64 n)
def vS (l : Bs) : Value := .string (ofL l)
def dS (l : Bs) : D := .c (vS l)
def vF (f : Fd) : Value := .agg #[.string (ofL f.nm), .int .i64 f.k, .int .i64 f.lo, .int .i64 f.hi]
def dF (f : Fd) : List D := [dS f.nm, dI f.k, dI f.lo, dI f.hi]
def vT (t : Tm) : Value := .agg #[.int .i64 t.k, .string (ofL t.m), .string (ofL t.f), .int .i64 t.n]
def dT (t : Tm) : List D := [dI t.k, dS t.m, dS t.f, dI t.n]
def vA (a : Am) : Value := .agg #[.int .i64 a.l.k, .string (ofL a.l.m), .string (ofL a.l.f), .int .i64 a.l.n, .string (ofL a.op), .int .i64 a.r.k, .string (ofL a.r.m), .string (ofL a.r.f), .int .i64 a.r.n]
def dA (a : Am) : List D := dT a.l ++ dS a.op :: dT a.r
def dL (l : List Bs) : D := .s 1 (l.flatMap fun x => [dS x])
theorem fm1 {α β : Type} (f : α → β) : ∀ l : List α, (l.flatMap fun x => [f x]) = l.map f
 | [] => rfl
 | a :: r => by rw [List.flatMap_cons, fm1 f r]; rfl
mutual
def dIt : It → List D
 | .mk k fr to nm al tk bl => [dI k, dS fr, dL to, dS nm, dS al, dI tk, .s 1 (dBl bl)]
def dIs : List It → List D
 | [] => []
 | i :: r => dIt i ++ dIs r
def dBl : List (List It) → List D
 | [] => []
 | b :: r => .s 7 (dIs b) :: dBl r
end
def dB (l : List It) : D := .s 7 (dIs l)
theorem dIs_map : ∀ l : List It, dIs l = l.flatMap dIt
 | [] => rfl
 | i :: r => by rw [dIs, dIs_map r]; rfl
theorem dBl_map : ∀ l : List (List It), dBl l = l.flatMap fun b => [dB b]
 | [] => rfl
 | b :: r => by rw [dBl, dBl_map r]; rfl
def dM (m : Ms) : List D := [dS m.nm, .s 4 (m.fs.flatMap dF), .s 9 (m.wh.flatMap dA)]
def dP (p : Pr) : List D := [dS p.nm, dL p.rs, .s 3 (p.ms.flatMap dM), dB p.bd]
/-- Behind a method whose answer is a row of its own. -/
def GotB (w : World) (g E : Nat) (s' : St) (e z n : Nat) (l : List D) (en : Ending) (w' : World) : Prop := ∃ v, en = .returned v ∧ Bld w' w.heap.size e z v n l ∧ Prs w' g E s' ∧ Only g w w'
theorem GotB.toD {w : World} {g E : Nat} {s' : St} {e z n : Nat} {l : List D} {en : Ending} {w' : World} (h : GotB w g E s' e z n l en w') : GotD w g E s' (.s z l) en w' := by
 obtain ⟨v, h1, h2, h3, h4⟩ := h
 exact ⟨v, h1, h2.lies, h3, h4⟩
def SepRel {α : Type} (w : World) (g E L B e z : Nat) (mark : Bs) (rd : P α) (dz : α → List D) (R : List α × St) (gk : Nat) (v : Value) (wr : World) : Prop :=
 ∃ (acc : List α) (s1 : St), s1.r.length ≤ gk ∧ gk ≤ L ∧ acc.length + gk ≤ 8001 ∧ Hid (Bld wr B e z v acc.length (acc.flatMap dz)) ∧ Hid (Prs wr g E s1) ∧ Hid (Only g w wr) ∧
  Hid (R.1 = acc ++ (sepL E mark rd gk s1).1) ∧ Hid (R.2 = (sepL E mark rd gk s1).2)
/- Layer 10: the contracts of separated. -/
open Go.RowKit

section
variable {w w' : World} {g E L K : Nat} {s : St}
theorem info_String : (Tryz.prog.info? 9).map (fun i => (i.zero, i.size, i.bytes)) = some (some (.string ⟨#[]⟩), 1, 16) := by kernel_rfl
set_option maxHeartbeats 2000000 in
theorem sepString_any (p : P Bs) (hp : Dec p) (hK : IsRd K g E L p vS) (mark : Bs) (h : Prs w g E s) (hL : s.r.length ≤ L) (hL8 : L ≤ 8000) :
  Calls Tryz.prog 191 #[.pointer (some ⟨g, 0, none⟩), .string (ofL mark), .func (.func K) #[.pointer (some ⟨g, 0, none⟩)] #[]] w (GotD w g E (sepP E mark p s).2 (.s 1 ((sepP E mark p s).1.flatMap (fun x => [dS x])))) := by
 obtain ⟨R, hR⟩ : ∃ R, sepP E mark p s = R := ⟨_, rfl⟩
 have hlt := h.lt
 have HR := Lib.hid hR
 have H := Lib.hid h
 have hE := hK.1
 have hK2 := Lib.hid hK.2
 have HP := Lib.hid hp
 have HT := Lib.hid (fun w s (h : Prs w g E s) => ptake_any h mark)
 rw [hR]
 obtain ⟨y, hy⟩ : ∃ y, ofL mark = y := ⟨_, rfl⟩
 rw [hy] at HT ⊢
 clear h hR hK hp hy
 have hL' := Lib.hid hL
 go_enter Tryz.func191, Tryz.ntmps191
 go_wp2_with fail
 refine (hK2.out _ _ hL'.out H.out).mono ?_; rintro e w1 ⟨rfl, P1, O1⟩
 have P1' := Lib.hid P1
 have O1' := Lib.hid O1
 obtain ⟨x, hx⟩ : ∃ x, (p s).1 = x := ⟨_, rfl⟩
 obtain ⟨s1, hs1⟩ : ∃ s1, (p s).2 = s1 := ⟨_, rfl⟩
 rw [hx]
 rw [hs1] at P1'
 have HB1 := Lib.hid (Bld.lit w1 9 #[.string (ofL x)] ((fun x => [dS x]) x) 1 rfl (LiesL.cons (.c _ rfl) (LiesL.nil _ _)) O1.size)
 have HS1 := Lib.hid (show R.1 = [x] ++ (sepL E mark p s1.r.length s1).1 by rw [← HR.out, ← hx, ← hs1]; rfl)
 have HS2 := Lib.hid (show R.2 = (sepL E mark p s1.r.length s1).2 by rw [← HR.out, ← hs1]; rfl)
 have hl1 := Lib.hid (show s1.r.length ≤ L by rw [← hs1]; exact Nat.le_trans (HP.out s) hL'.out)
 clear P1 O1 hx hs1
 unfold vS
 go_wp2_with fail
 go_loopg [7, 11, 12, 13, 14, 15, 16, 17, 18] (s1.r.length) (fun gk v _ _ _ _ _ _ _ _ wr => SepRel w g E L w.heap.size 9 1 mark p (fun x => [dS x]) R gk v wr)
 case atStart =>
  refine ⟨[x], s1, Nat.le_refl _, hl1.out, ?_, ?_, P1'.out.below ((Below.refl w1.heap.size w1).alloc (Nat.le_refl _) _) P1'.out.lt, O1'.out.alloc _, HS1, HS2⟩
  ·have := hl1.out; simp; omega
  ·exact HB1
 case round =>
  clear P1' O1' HB1 HS1 HS2 hl1 H
  obtain ⟨acc, s2, hr2, hgk, hacc, HB, HS, HO, HE1, HE2⟩ := hrel
  cases ht : (takeP E mark s2).1 with
  | false =>
   have HX := Lib.hid (show R = (acc, s2) by
    have h1 := HE1.out
    have h2 := HE2.out
    rw [sepL_no _ ht] at h1 h2
    rw [List.append_nil] at h1
    exact Prod.ext h1 h2)
   have hts := Lib.hid (show (takeP E mark s2).2 = s2 from takeP_no ht)
   have HT2 := Lib.hid ht
   clear ht
   go_wp2_with fail
   refine (HT.out _ _ HS.out).mono ?_; rintro e w2 ⟨rfl, P2, O2⟩
   rw [HT2.out]
   rw [hts.out] at P2
   have P2' := Lib.hid P2
   have O2' := Lib.hid (HO.out.trans O2)
   have B2' := Lib.hid (HB.out.only O2 hlt)
   clear P2 O2
   go_wp2_with fail
   go_ret
   refine ⟨_, rfl, ?_, by rw [HX.out]; exact P2'.out, O2'.out⟩
   rw [HX.out]
   exact B2'.out.lies
  | true =>
   obtain ⟨n, rfl⟩ : ∃ n, gk = n + 1 := ⟨gk - 1, by have := takeP_yes ht; omega⟩
   obtain ⟨s3, hs3⟩ : ∃ s3, (takeP E mark s2).2 = s3 := ⟨_, rfl⟩
   have hl3 := Lib.hid (show s3.r.length ≤ n by have := takeP_yes ht; rw [hs3] at this; omega)
   have HE3 := Lib.hid (show R.1 = acc ++ (p s3).1 :: (sepL E mark p n (p s3).2).1 by have h1 := HE1.out; rw [sepL_yes _ ht, hs3] at h1; exact h1)
   have HE4 := Lib.hid (show R.2 = (sepL E mark p n (p s3).2).2 by have h1 := HE2.out; rw [sepL_yes _ ht, hs3] at h1; exact h1)
   have HT2 := Lib.hid ht
   have HS3 := Lib.hid hs3
   clear ht hs3 HE1 HE2
   go_wp2_with fail
   refine (HT.out _ _ HS.out).mono ?_; rintro e w2 ⟨rfl, P2, O2⟩
   rw [HT2.out]
   rw [HS3.out] at P2
   have P2' := Lib.hid P2
   have O2' := Lib.hid (HO.out.trans O2)
   have B2' := Lib.hid (HB.out.only O2 hlt)
   clear P2 O2
   go_wp2_with fail
   refine (hK2.out _ _ (by have := hl3.out; omega) P2'.out).mono ?_; rintro e w1 ⟨rfl, P1, O1⟩
   obtain ⟨x3, hx3⟩ : ∃ x3, (p s3).1 = x3 := ⟨_, rfl⟩
   obtain ⟨s4, hs4⟩ : ∃ s4, (p s3).2 = s4 := ⟨_, rfl⟩
   rw [hx3] at HE3
   rw [hs4] at HE3 HE4 P1
   rw [hx3]
   have hl4 := Lib.hid (show s4.r.length ≤ n by rw [← hs4]; exact Nat.le_trans (HP.out s3) hl3.out)
   have P3' := Lib.hid P1
   have O3' := Lib.hid (O2'.out.trans O1)
   have B3' := Lib.hid (B2'.out.only O1 hlt)
   clear P1 O1 hx3 hs4
   unfold vS
   have hsz3 : w.heap.size ≤ w1.heap.size := O3'.out.size
   have hby : (acc.length + 1) * 16 ≤ 140737488355328 := by omega
   go_wp2_with (at_builtin; refine appD rfl _ _ 45 rfl 9 _ 1 16 info_String rfl (by decide) Tryz.underlying45 w.heap.size u7 _ _ rfl B3'.out _ ((fun x => [dS x]) x3) rfl rfl (LiesL.cons (.c _ rfl) (LiesL.nil _ _)) hby hsz3 ?_ (by decide); intro v' w8 hown8 hg8; have hV8 := Lib.hid hown8; have hF8 := Lib.hid (grown_below B3'.out hg8 hsz3); clear hown8 hg8)
   go_roundg n
   case rel =>
    refine ⟨acc ++ [x3], s4, hl4.out, by omega, by simp; omega, ?_, P3'.out.below hF8.out hlt, ?_, ?_, HE4⟩
    ·have := hV8.out
     unfold Hid
     rw [List.length_append, List.flatMap_append]
     simpa using this
    ·exact O3'.out.to hF8.out
    ·unfold Hid; rw [HE3.out, List.append_assoc]; rfl
   case measure => omega
theorem info_Field : (Tryz.prog.info? 158).map (fun i => (i.zero, i.size, i.bytes)) = some (some (.agg #[.string ⟨#[]⟩, .int .i64 0, .int .i64 0, .int .i64 0]), 4, 40) := by kernel_rfl
set_option maxHeartbeats 2000000 in
theorem sepField_any (p : P Fd) (hp : Dec p) (hK : IsRd K g E L p vF) (mark : Bs) (h : Prs w g E s) (hL : s.r.length ≤ L) (hL8 : L ≤ 8000) :
  Calls Tryz.prog 193 #[.pointer (some ⟨g, 0, none⟩), .string (ofL mark), .func (.func K) #[.pointer (some ⟨g, 0, none⟩)] #[]] w (GotD w g E (sepP E mark p s).2 (.s 4 ((sepP E mark p s).1.flatMap dF))) := by
 obtain ⟨R, hR⟩ : ∃ R, sepP E mark p s = R := ⟨_, rfl⟩
 have hlt := h.lt
 have HR := Lib.hid hR
 have H := Lib.hid h
 have hE := hK.1
 have hK2 := Lib.hid hK.2
 have HP := Lib.hid hp
 have HT := Lib.hid (fun w s (h : Prs w g E s) => ptake_any h mark)
 rw [hR]
 obtain ⟨y, hy⟩ : ∃ y, ofL mark = y := ⟨_, rfl⟩
 rw [hy] at HT ⊢
 clear h hR hK hp hy
 have hL' := Lib.hid hL
 go_enter Tryz.func193, Tryz.ntmps193
 go_wp2_with fail
 refine (hK2.out _ _ hL'.out H.out).mono ?_; rintro e w1 ⟨rfl, P1, O1⟩
 have P1' := Lib.hid P1
 have O1' := Lib.hid O1
 obtain ⟨x, hx⟩ : ∃ x, (p s).1 = x := ⟨_, rfl⟩
 obtain ⟨s1, hs1⟩ : ∃ s1, (p s).2 = s1 := ⟨_, rfl⟩
 rw [hx]
 rw [hs1] at P1'
 have HB1 := Lib.hid (Bld.lit w1 158 #[.string (ofL x.nm), .int .i64 x.k, .int .i64 x.lo, .int .i64 x.hi] (dF x) 4 rfl (LiesL.cons (.c _ rfl) (LiesL.cons (.c _ rfl) (LiesL.cons (.c _ rfl) (LiesL.cons (.c _ rfl) (LiesL.nil _ _))))) O1.size)
 have HS1 := Lib.hid (show R.1 = [x] ++ (sepL E mark p s1.r.length s1).1 by rw [← HR.out, ← hx, ← hs1]; rfl)
 have HS2 := Lib.hid (show R.2 = (sepL E mark p s1.r.length s1).2 by rw [← HR.out, ← hs1]; rfl)
 have hl1 := Lib.hid (show s1.r.length ≤ L by rw [← hs1]; exact Nat.le_trans (HP.out s) hL'.out)
 clear P1 O1 hx hs1
 unfold vF
 go_wp2_with fail
 go_loopg [7, 11, 12, 13, 14, 15, 16, 17, 18] (s1.r.length) (fun gk v _ _ _ _ _ _ _ _ wr => SepRel w g E L w.heap.size 158 4 mark p dF R gk v wr)
 case atStart =>
  refine ⟨[x], s1, Nat.le_refl _, hl1.out, ?_, ?_, P1'.out.below ((Below.refl w1.heap.size w1).alloc (Nat.le_refl _) _) P1'.out.lt, O1'.out.alloc _, HS1, HS2⟩
  ·have := hl1.out; simp; omega
  ·exact HB1
 case round =>
  clear P1' O1' HB1 HS1 HS2 hl1 H
  obtain ⟨acc, s2, hr2, hgk, hacc, HB, HS, HO, HE1, HE2⟩ := hrel
  cases ht : (takeP E mark s2).1 with
  | false =>
   have HX := Lib.hid (show R = (acc, s2) by
    have h1 := HE1.out
    have h2 := HE2.out
    rw [sepL_no _ ht] at h1 h2
    rw [List.append_nil] at h1
    exact Prod.ext h1 h2)
   have hts := Lib.hid (show (takeP E mark s2).2 = s2 from takeP_no ht)
   have HT2 := Lib.hid ht
   clear ht
   go_wp2_with fail
   refine (HT.out _ _ HS.out).mono ?_; rintro e w2 ⟨rfl, P2, O2⟩
   rw [HT2.out]
   rw [hts.out] at P2
   have P2' := Lib.hid P2
   have O2' := Lib.hid (HO.out.trans O2)
   have B2' := Lib.hid (HB.out.only O2 hlt)
   clear P2 O2
   go_wp2_with fail
   go_ret
   refine ⟨_, rfl, ?_, by rw [HX.out]; exact P2'.out, O2'.out⟩
   rw [HX.out]
   exact B2'.out.lies
  | true =>
   obtain ⟨n, rfl⟩ : ∃ n, gk = n + 1 := ⟨gk - 1, by have := takeP_yes ht; omega⟩
   obtain ⟨s3, hs3⟩ : ∃ s3, (takeP E mark s2).2 = s3 := ⟨_, rfl⟩
   have hl3 := Lib.hid (show s3.r.length ≤ n by have := takeP_yes ht; rw [hs3] at this; omega)
   have HE3 := Lib.hid (show R.1 = acc ++ (p s3).1 :: (sepL E mark p n (p s3).2).1 by have h1 := HE1.out; rw [sepL_yes _ ht, hs3] at h1; exact h1)
   have HE4 := Lib.hid (show R.2 = (sepL E mark p n (p s3).2).2 by have h1 := HE2.out; rw [sepL_yes _ ht, hs3] at h1; exact h1)
   have HT2 := Lib.hid ht
   have HS3 := Lib.hid hs3
   clear ht hs3 HE1 HE2
   go_wp2_with fail
   refine (HT.out _ _ HS.out).mono ?_; rintro e w2 ⟨rfl, P2, O2⟩
   rw [HT2.out]
   rw [HS3.out] at P2
   have P2' := Lib.hid P2
   have O2' := Lib.hid (HO.out.trans O2)
   have B2' := Lib.hid (HB.out.only O2 hlt)
   clear P2 O2
   go_wp2_with fail
   refine (hK2.out _ _ (by have := hl3.out; omega) P2'.out).mono ?_; rintro e w1 ⟨rfl, P1, O1⟩
   obtain ⟨x3, hx3⟩ : ∃ x3, (p s3).1 = x3 := ⟨_, rfl⟩
   obtain ⟨s4, hs4⟩ : ∃ s4, (p s3).2 = s4 := ⟨_, rfl⟩
   rw [hx3] at HE3
   rw [hs4] at HE3 HE4 P1
   rw [hx3]
   have hl4 := Lib.hid (show s4.r.length ≤ n by rw [← hs4]; exact Nat.le_trans (HP.out s3) hl3.out)
   have P3' := Lib.hid P1
   have O3' := Lib.hid (O2'.out.trans O1)
   have B3' := Lib.hid (B2'.out.only O1 hlt)
   clear P1 O1 hx3 hs4
   unfold vF
   have hsz3 : w.heap.size ≤ w1.heap.size := O3'.out.size
   have hby : (acc.length + 1) * 40 ≤ 140737488355328 := by omega
   go_wp2_with (at_builtin; refine appD rfl _ _ 71 rfl 158 _ 4 40 info_Field rfl (by decide) Tryz.underlying71 w.heap.size u7 _ _ rfl B3'.out _ (dF x3) rfl rfl (LiesL.cons (.c _ rfl) (LiesL.cons (.c _ rfl) (LiesL.cons (.c _ rfl) (LiesL.cons (.c _ rfl) (LiesL.nil _ _))))) hby hsz3 ?_ (by decide); intro v' w8 hown8 hg8; have hV8 := Lib.hid hown8; have hF8 := Lib.hid (grown_below B3'.out hg8 hsz3); clear hown8 hg8)
   go_roundg n
   case rel =>
    refine ⟨acc ++ [x3], s4, hl4.out, by omega, by simp; omega, ?_, P3'.out.below hF8.out hlt, ?_, ?_, HE4⟩
    ·have := hV8.out
     unfold Hid
     rw [List.length_append, List.flatMap_append]
     simpa using this
    ·exact O3'.out.to hF8.out
    ·unfold Hid; rw [HE3.out, List.append_assoc]; rfl
   case measure => omega
theorem info_Atom : (Tryz.prog.info? 100).map (fun i => (i.zero, i.size, i.bytes)) = some (some (.agg #[.int .i64 0, .string ⟨#[]⟩, .string ⟨#[]⟩, .int .i64 0, .string ⟨#[]⟩, .int .i64 0, .string ⟨#[]⟩, .string ⟨#[]⟩, .int .i64 0]), 9, 112) := by kernel_rfl
set_option maxHeartbeats 2000000 in
theorem sepAtom_any (p : P Am) (hp : Dec p) (hK : IsRd K g E L p vA) (mark : Bs) (h : Prs w g E s) (hL : s.r.length ≤ L) (hL8 : L ≤ 8000) :
  Calls Tryz.prog 196 #[.pointer (some ⟨g, 0, none⟩), .string (ofL mark), .func (.func K) #[.pointer (some ⟨g, 0, none⟩)] #[]] w (GotD w g E (sepP E mark p s).2 (.s 9 ((sepP E mark p s).1.flatMap dA))) := by
 obtain ⟨R, hR⟩ : ∃ R, sepP E mark p s = R := ⟨_, rfl⟩
 have hlt := h.lt
 have HR := Lib.hid hR
 have H := Lib.hid h
 have hE := hK.1
 have hK2 := Lib.hid hK.2
 have HP := Lib.hid hp
 have HT := Lib.hid (fun w s (h : Prs w g E s) => ptake_any h mark)
 rw [hR]
 obtain ⟨y, hy⟩ : ∃ y, ofL mark = y := ⟨_, rfl⟩
 rw [hy] at HT ⊢
 clear h hR hK hp hy
 have hL' := Lib.hid hL
 go_enter Tryz.func196, Tryz.ntmps196
 go_wp2_with fail
 refine (hK2.out _ _ hL'.out H.out).mono ?_; rintro e w1 ⟨rfl, P1, O1⟩
 have P1' := Lib.hid P1
 have O1' := Lib.hid O1
 obtain ⟨x, hx⟩ : ∃ x, (p s).1 = x := ⟨_, rfl⟩
 obtain ⟨s1, hs1⟩ : ∃ s1, (p s).2 = s1 := ⟨_, rfl⟩
 rw [hx]
 rw [hs1] at P1'
 have HB1 := Lib.hid (Bld.lit w1 100 #[.int .i64 x.l.k, .string (ofL x.l.m), .string (ofL x.l.f), .int .i64 x.l.n, .string (ofL x.op), .int .i64 x.r.k, .string (ofL x.r.m), .string (ofL x.r.f), .int .i64 x.r.n] (dA x) 9 rfl (LiesL.cons (.c _ rfl) (LiesL.cons (.c _ rfl) (LiesL.cons (.c _ rfl) (LiesL.cons (.c _ rfl) (LiesL.cons (.c _ rfl) (LiesL.cons (.c _ rfl) (LiesL.cons (.c _ rfl) (LiesL.cons (.c _ rfl) (LiesL.cons (.c _ rfl) (LiesL.nil _ _)))))))))) O1.size)
 have HS1 := Lib.hid (show R.1 = [x] ++ (sepL E mark p s1.r.length s1).1 by rw [← HR.out, ← hx, ← hs1]; rfl)
 have HS2 := Lib.hid (show R.2 = (sepL E mark p s1.r.length s1).2 by rw [← HR.out, ← hs1]; rfl)
 have hl1 := Lib.hid (show s1.r.length ≤ L by rw [← hs1]; exact Nat.le_trans (HP.out s) hL'.out)
 clear P1 O1 hx hs1
 unfold vA
 go_wp2_with fail
 go_loopg [7, 11, 12, 13, 14, 15, 16, 17, 18] (s1.r.length) (fun gk v _ _ _ _ _ _ _ _ wr => SepRel w g E L w.heap.size 100 9 mark p dA R gk v wr)
 case atStart =>
  refine ⟨[x], s1, Nat.le_refl _, hl1.out, ?_, ?_, P1'.out.below ((Below.refl w1.heap.size w1).alloc (Nat.le_refl _) _) P1'.out.lt, O1'.out.alloc _, HS1, HS2⟩
  ·have := hl1.out; simp; omega
  ·exact HB1
 case round =>
  clear P1' O1' HB1 HS1 HS2 hl1 H
  obtain ⟨acc, s2, hr2, hgk, hacc, HB, HS, HO, HE1, HE2⟩ := hrel
  cases ht : (takeP E mark s2).1 with
  | false =>
   have HX := Lib.hid (show R = (acc, s2) by
    have h1 := HE1.out
    have h2 := HE2.out
    rw [sepL_no _ ht] at h1 h2
    rw [List.append_nil] at h1
    exact Prod.ext h1 h2)
   have hts := Lib.hid (show (takeP E mark s2).2 = s2 from takeP_no ht)
   have HT2 := Lib.hid ht
   clear ht
   go_wp2_with fail
   refine (HT.out _ _ HS.out).mono ?_; rintro e w2 ⟨rfl, P2, O2⟩
   rw [HT2.out]
   rw [hts.out] at P2
   have P2' := Lib.hid P2
   have O2' := Lib.hid (HO.out.trans O2)
   have B2' := Lib.hid (HB.out.only O2 hlt)
   clear P2 O2
   go_wp2_with fail
   go_ret
   refine ⟨_, rfl, ?_, by rw [HX.out]; exact P2'.out, O2'.out⟩
   rw [HX.out]
   exact B2'.out.lies
  | true =>
   obtain ⟨n, rfl⟩ : ∃ n, gk = n + 1 := ⟨gk - 1, by have := takeP_yes ht; omega⟩
   obtain ⟨s3, hs3⟩ : ∃ s3, (takeP E mark s2).2 = s3 := ⟨_, rfl⟩
   have hl3 := Lib.hid (show s3.r.length ≤ n by have := takeP_yes ht; rw [hs3] at this; omega)
   have HE3 := Lib.hid (show R.1 = acc ++ (p s3).1 :: (sepL E mark p n (p s3).2).1 by have h1 := HE1.out; rw [sepL_yes _ ht, hs3] at h1; exact h1)
   have HE4 := Lib.hid (show R.2 = (sepL E mark p n (p s3).2).2 by have h1 := HE2.out; rw [sepL_yes _ ht, hs3] at h1; exact h1)
   have HT2 := Lib.hid ht
   have HS3 := Lib.hid hs3
   clear ht hs3 HE1 HE2
   go_wp2_with fail
   refine (HT.out _ _ HS.out).mono ?_; rintro e w2 ⟨rfl, P2, O2⟩
   rw [HT2.out]
   rw [HS3.out] at P2
   have P2' := Lib.hid P2
   have O2' := Lib.hid (HO.out.trans O2)
   have B2' := Lib.hid (HB.out.only O2 hlt)
   clear P2 O2
   go_wp2_with fail
   refine (hK2.out _ _ (by have := hl3.out; omega) P2'.out).mono ?_; rintro e w1 ⟨rfl, P1, O1⟩
   obtain ⟨x3, hx3⟩ : ∃ x3, (p s3).1 = x3 := ⟨_, rfl⟩
   obtain ⟨s4, hs4⟩ : ∃ s4, (p s3).2 = s4 := ⟨_, rfl⟩
   rw [hx3] at HE3
   rw [hs4] at HE3 HE4 P1
   rw [hx3]
   have hl4 := Lib.hid (show s4.r.length ≤ n by rw [← hs4]; exact Nat.le_trans (HP.out s3) hl3.out)
   have P3' := Lib.hid P1
   have O3' := Lib.hid (O2'.out.trans O1)
   have B3' := Lib.hid (B2'.out.only O1 hlt)
   clear P1 O1 hx3 hs4
   unfold vA
   have hsz3 : w.heap.size ≤ w1.heap.size := O3'.out.size
   have hby : (acc.length + 1) * 112 ≤ 140737488355328 := by omega
   go_wp2_with (at_builtin; refine appD rfl _ _ 72 rfl 100 _ 9 112 info_Atom rfl (by decide) Tryz.underlying72 w.heap.size u7 _ _ rfl B3'.out _ (dA x3) rfl rfl (LiesL.cons (.c _ rfl) (LiesL.cons (.c _ rfl) (LiesL.cons (.c _ rfl) (LiesL.cons (.c _ rfl) (LiesL.cons (.c _ rfl) (LiesL.cons (.c _ rfl) (LiesL.cons (.c _ rfl) (LiesL.cons (.c _ rfl) (LiesL.cons (.c _ rfl) (LiesL.nil _ _)))))))))) hby hsz3 ?_ (by decide); intro v' w8 hown8 hg8; have hV8 := Lib.hid hown8; have hF8 := Lib.hid (grown_below B3'.out hg8 hsz3); clear hown8 hg8)
   go_roundg n
   case rel =>
    refine ⟨acc ++ [x3], s4, hl4.out, by omega, by simp; omega, ?_, P3'.out.below hF8.out hlt, ?_, ?_, HE4⟩
    ·have := hV8.out
     unfold Hid
     rw [List.length_append, List.flatMap_append]
     simpa using this
    ·exact O3'.out.to hF8.out
    ·unfold Hid; rw [HE3.out, List.append_assoc]; rfl
   case measure => omega
theorem info_Block : (Tryz.prog.info? 57).map (fun i => (i.zero, i.size, i.bytes)) = some (some (.slice none 0 0), 1, 24) := by kernel_rfl
set_option maxHeartbeats 2000000 in
theorem sepBlock_any (p : P (List It)) (hp : Dec p) (hK : IsRdD K g E L p dB) (mark : Bs) (h : Prs w g E s) (hL : s.r.length ≤ L) (hL8 : L ≤ 8000) :
  Calls Tryz.prog 247 #[.pointer (some ⟨g, 0, none⟩), .string (ofL mark), .func (.func K) #[.pointer (some ⟨g, 0, none⟩)] #[]] w (GotB w g E (sepP E mark p s).2 57 1 (sepP E mark p s).1.length ((sepP E mark p s).1.flatMap (fun x => [dB x]))) := by
 obtain ⟨R, hR⟩ : ∃ R, sepP E mark p s = R := ⟨_, rfl⟩
 have hlt := h.lt
 have HR := Lib.hid hR
 have H := Lib.hid h
 have hE := hK.1
 have hK2 := Lib.hid hK.2
 have HP := Lib.hid hp
 have HT := Lib.hid (fun w s (h : Prs w g E s) => ptake_any h mark)
 rw [hR]
 obtain ⟨y, hy⟩ : ∃ y, ofL mark = y := ⟨_, rfl⟩
 rw [hy] at HT ⊢
 clear h hR hK hp hy
 have hL' := Lib.hid hL
 go_enter Tryz.func247, Tryz.ntmps247
 go_wp2_with fail
 refine (hK2.out _ _ hL'.out H.out).mono ?_; rintro e w1 ⟨v, rfl, LV, P1, O1⟩; obtain ⟨A, n0, c0, rfl, -⟩ := LV.slc
 have P1' := Lib.hid P1
 have O1' := Lib.hid O1
 obtain ⟨x, hx⟩ : ∃ x, (p s).1 = x := ⟨_, rfl⟩
 obtain ⟨s1, hs1⟩ : ∃ s1, (p s).2 = s1 := ⟨_, rfl⟩
 rw [hx] at LV
 rw [hs1] at P1'
 have HB1 := Lib.hid (Bld.lit w1 57 #[.slice A n0 c0] ((fun x => [dB x]) x) 1 rfl (LiesL.cons (LV.mono fun k _ hk => by omega) (LiesL.nil _ _)) O1.size)
 have HS1 := Lib.hid (show R.1 = [x] ++ (sepL E mark p s1.r.length s1).1 by rw [← HR.out, ← hx, ← hs1]; rfl)
 have HS2 := Lib.hid (show R.2 = (sepL E mark p s1.r.length s1).2 by rw [← HR.out, ← hs1]; rfl)
 have hl1 := Lib.hid (show s1.r.length ≤ L by rw [← hs1]; exact Nat.le_trans (HP.out s) hL'.out)
 clear P1 O1 hx hs1 LV
 go_wp2_with fail
 go_loopg [7, 11, 12, 13, 14, 15, 16, 17, 18] (s1.r.length) (fun gk v _ _ _ _ _ _ _ _ wr => SepRel w g E L w.heap.size 57 1 mark p (fun x => [dB x]) R gk v wr)
 case atStart =>
  refine ⟨[x], s1, Nat.le_refl _, hl1.out, ?_, ?_, P1'.out.below ((Below.refl w1.heap.size w1).alloc (Nat.le_refl _) _) P1'.out.lt, O1'.out.alloc _, HS1, HS2⟩
  ·have := hl1.out; simp; omega
  ·exact HB1
 case round =>
  clear P1' O1' HB1 HS1 HS2 hl1 H
  obtain ⟨acc, s2, hr2, hgk, hacc, HB, HS, HO, HE1, HE2⟩ := hrel
  cases ht : (takeP E mark s2).1 with
  | false =>
   have HX := Lib.hid (show R = (acc, s2) by
    have h1 := HE1.out
    have h2 := HE2.out
    rw [sepL_no _ ht] at h1 h2
    rw [List.append_nil] at h1
    exact Prod.ext h1 h2)
   have hts := Lib.hid (show (takeP E mark s2).2 = s2 from takeP_no ht)
   have HT2 := Lib.hid ht
   clear ht
   go_wp2_with fail
   refine (HT.out _ _ HS.out).mono ?_; rintro e w2 ⟨rfl, P2, O2⟩
   rw [HT2.out]
   rw [hts.out] at P2
   have P2' := Lib.hid P2
   have O2' := Lib.hid (HO.out.trans O2)
   have B2' := Lib.hid (HB.out.only O2 hlt)
   clear P2 O2
   go_wp2_with fail
   go_ret
   refine ⟨_, rfl, ?_, by rw [HX.out]; exact P2'.out, O2'.out⟩
   rw [HX.out]
   exact B2'.out
  | true =>
   obtain ⟨n, rfl⟩ : ∃ n, gk = n + 1 := ⟨gk - 1, by have := takeP_yes ht; omega⟩
   obtain ⟨s3, hs3⟩ : ∃ s3, (takeP E mark s2).2 = s3 := ⟨_, rfl⟩
   have hl3 := Lib.hid (show s3.r.length ≤ n by have := takeP_yes ht; rw [hs3] at this; omega)
   have HE3 := Lib.hid (show R.1 = acc ++ (p s3).1 :: (sepL E mark p n (p s3).2).1 by have h1 := HE1.out; rw [sepL_yes _ ht, hs3] at h1; exact h1)
   have HE4 := Lib.hid (show R.2 = (sepL E mark p n (p s3).2).2 by have h1 := HE2.out; rw [sepL_yes _ ht, hs3] at h1; exact h1)
   have HT2 := Lib.hid ht
   have HS3 := Lib.hid hs3
   clear ht hs3 HE1 HE2
   go_wp2_with fail
   refine (HT.out _ _ HS.out).mono ?_; rintro e w2 ⟨rfl, P2, O2⟩
   rw [HT2.out]
   rw [HS3.out] at P2
   have P2' := Lib.hid P2
   have O2' := Lib.hid (HO.out.trans O2)
   have B2' := Lib.hid (HB.out.only O2 hlt)
   clear P2 O2
   go_wp2_with fail
   refine (hK2.out _ _ (by have := hl3.out; omega) P2'.out).mono ?_; rintro e w1 ⟨v, rfl, LV, P1, O1⟩; obtain ⟨A, n0, c0, rfl, -⟩ := LV.slc
   obtain ⟨x3, hx3⟩ : ∃ x3, (p s3).1 = x3 := ⟨_, rfl⟩
   obtain ⟨s4, hs4⟩ : ∃ s4, (p s3).2 = s4 := ⟨_, rfl⟩
   rw [hx3] at HE3 LV
   rw [hs4] at HE3 HE4 P1
   have hl4 := Lib.hid (show s4.r.length ≤ n by rw [← hs4]; exact Nat.le_trans (HP.out s3) hl3.out)
   have P3' := Lib.hid P1
   have O3' := Lib.hid (O2'.out.trans O1)
   have B3' := Lib.hid (B2'.out.only O1 hlt)
   have LV' := Lib.hid (show LiesL w1 (fun k => w.heap.size ≤ k ∧ u7.ownBlock ≠ some k) [.slice A n0 c0] ((fun x => [dB x]) x3) from LiesL.cons (LV.mono fun k _ hk => ⟨Nat.le_trans O2'.out.size hk, fun e => by have := B2'.out.lt e; omega⟩) (LiesL.nil _ _))
   clear P1 O1 hx3 hs4 LV
   have hsz3 : w.heap.size ≤ w1.heap.size := O3'.out.size
   have hby : (acc.length + 1) * 24 ≤ 140737488355328 := by omega
   go_wp2_with (at_builtin; refine appD rfl _ _ 68 rfl 57 _ 1 24 info_Block rfl (by decide) Tryz.underlying68 w.heap.size u7 _ _ rfl B3'.out _ ((fun x => [dB x]) x3) rfl rfl LV'.out hby hsz3 ?_ (by decide); intro v' w8 hown8 hg8; have hV8 := Lib.hid hown8; have hF8 := Lib.hid (grown_below B3'.out hg8 hsz3); clear hown8 hg8)
   go_roundg n
   case rel =>
    refine ⟨acc ++ [x3], s4, hl4.out, by omega, by simp; omega, ?_, P3'.out.below hF8.out hlt, ?_, ?_, HE4⟩
    ·have := hV8.out
     unfold Hid
     rw [List.length_append, List.flatMap_append]
     simpa using this
    ·exact O3'.out.to hF8.out
    ·unfold Hid; rw [HE3.out, List.append_assoc]; rfl
   case measure => omega
end
end Go.Proofs.YtekpefcggikcbaaGreatDoor
