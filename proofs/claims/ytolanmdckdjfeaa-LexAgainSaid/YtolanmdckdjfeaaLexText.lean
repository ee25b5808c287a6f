/- Layer 9: the contracts of the scanner's methods for elements and texts. -/
import Derived.Test.YtolanmdckdjfeaaLexName
namespace Go.Proofs.Ytolanmdckdjfeaa
open Go.RowKit

/-- An element: the byte that it stands for, and its length. -/
def elm (r : List UInt8) : Option (Nat × Nat) :=
  if nxt r = 92 then (if cE (nxt r.tail) = true then some (nxt r.tail, 2) else none)
  else if 32 ≤ nxt r ∧ nxt r ≤ 126 ∧ nxt r ≠ 34 then some (nxt r, 1) else none
theorem txt_cons (c : UInt8) (r : List UInt8) : txt (c :: r) = if c.toNat = 34 then some ([], 1)
    else if c.toNat = 92 then
      match r with
      | [] => none
      | d :: r' => if cE d.toNat = true then (txt r').map fun x => (d :: x.1, x.2 + 2) else none
    else if 32 ≤ c.toNat ∧ c.toNat ≤ 126 then (txt r).map fun x => (c :: x.1, x.2 + 1) else none := by
  rw [txt.eq_def]
  rfl
theorem txt_stop {r : List UInt8} (h : nxt r = 34) : txt r = some ([], 1) := by
  obtain ⟨c, t, rfl⟩ := nxt_pos (l := r) (by omega)
  unfold txt
  exact if_pos h
theorem txt_none {r : List UInt8} (h : nxt r ≠ 34) (he : elm r = none) : txt r = none := by
  cases r with
  | nil => rfl
  | cons c t =>
    rw [txt_cons, if_neg (show ¬ c.toNat = 34 from h)]
    unfold elm at he
    by_cases h2 : nxt (c :: t) = 92
    · rw [if_pos h2] at he
      rw [if_pos (show c.toNat = 92 from h2)]
      cases t with
      | nil => rfl
      | cons d t' =>
        have : ¬ cE d.toNat = true := fun h3 => by rw [if_pos (show cE (nxt (c :: d :: t').tail) = true from h3)] at he; cases he
        simp only [if_neg this]
    · rw [if_neg h2] at he
      rw [if_neg (show ¬ c.toNat = 92 from h2), if_neg]
      intro h3
      rw [if_pos ⟨h3.1, h3.2, h⟩] at he
      cases he
theorem txt_more {r : List UInt8} {c n : Nat} (h : nxt r ≠ 34) (he : elm r = some (c, n)) : (1 ≤ n ∧ n ≤ r.length ∧ c < 256) ∧ txt r = (txt (r.drop n)).map fun x => (UInt8.ofNat c :: x.1, x.2 + n) := by
  cases r with
  | nil => simp [elm, nxt] at he
  | cons a t =>
    unfold elm at he
    rw [txt_cons, if_neg (show ¬ a.toNat = 34 from h)]
    by_cases h2 : nxt (a :: t) = 92
    · rw [if_pos h2] at he
      rw [if_pos (show a.toNat = 92 from h2)]
      cases t with
      | nil => simp [nxt, cE] at he
      | cons d t' =>
        by_cases h3 : cE (nxt (a :: d :: t').tail) = true
        · rw [if_pos h3] at he
          have h4 : cE d.toNat = true := h3
          simp only [Option.some.injEq, Prod.mk.injEq] at he
          obtain ⟨rfl, rfl⟩ := he
          have hd : nxt (a :: d :: t').tail = d.toNat := rfl
          refine ⟨⟨by omega, by simp, by rw [hd]; exact UInt8.toNat_lt d⟩, ?_⟩
          simp only [if_pos h4]
          rw [hd, UInt8.ofNat_toNat]
          rfl
        · rw [if_neg h3] at he; cases he
    · rw [if_neg h2] at he
      rw [if_neg (show ¬ a.toNat = 92 from h2)]
      by_cases h3 : 32 ≤ nxt (a :: t) ∧ nxt (a :: t) ≤ 126 ∧ nxt (a :: t) ≠ 34
      · rw [if_pos h3] at he
        simp only [Option.some.injEq, Prod.mk.injEq] at he
        obtain ⟨rfl, rfl⟩ := he
        have hd : nxt (a :: t) = a.toNat := rfl
        rw [if_pos ⟨h3.1, h3.2.1⟩]
        refine ⟨⟨by omega, by simp, by omega⟩, ?_⟩
        rw [hd, UInt8.ofNat_toNat]
        rfl
      · rw [if_neg h3] at he; cases he

section
variable {w : World} {g k : Nat} {l : List UInt8}
def ElmPost (w : World) (g : Nat) (l : List UInt8) (k : Nat) : Option (Nat × Nat) → Ending → World → Prop
  | none, e, w' => e = .returned (.tuple #[.int .u8 0, .bool false]) ∧ Only g w w'
  | some (c, n), e, w' => e = .returned (.tuple #[.int .u8 (c : Int), .bool true]) ∧ Scn w' g l (k + n) ∧ Only g w w'
theorem ElmPost.bad {w w' : World} {r : Option (Nat × Nat)} {e : Ending} (hr : r = none) (he : e = .returned (.tuple #[.int .u8 0, .bool false])) (ho : Only g w w') : ElmPost w g l k r e w' := by
  subst hr; exact ⟨he, ho⟩
theorem ElmPost.good {w w' : World} {r : Option (Nat × Nat)} {c n : Nat} {e : Ending} (hr : r = some (c, n)) (he : e = .returned (.tuple #[.int .u8 (c : Int), .bool true])) (hs : Scn w' g l (k + n)) (ho : Only g w w') : ElmPost w g l k r e w' := by
  subst hr; exact ⟨he, hs, ho⟩
set_option maxRecDepth 20000 in
set_option maxHeartbeats 1000000 in
theorem element_any (h : Scn w g l k) : Calls Try.prog 57 #[.pointer (some ⟨g, 0, none⟩)] w (ElmPost w g l k (elm (l.drop k))) := by
  obtain ⟨x, hx⟩ : ∃ x, nxt (l.drop k) = x := ⟨_, rfl⟩
  have hroom := h.room
  have hoff := h.off
  have HX := Lib.hid hx
  by_cases h92 : x = 92
  · obtain ⟨y, hy⟩ : ∃ y, nxt (l.drop (k + 1)) = y := ⟨_, rfl⟩
    have HY := Lib.hid hy
    have hk1 : k + 1 ≤ l.length := by
      by_cases e : k < l.length
      · omega
      · rw [nxt_end (by omega)] at hx; omega
    have hel : elm (l.drop k) = if cE y = true then some (y, 2) else none := by
      unfold elm
      rw [hx, if_pos h92, List.tail_drop, hy]
    have t92 : ((x : Int) == 92) = true := by rw [h92]; rfl
    have HE := Lib.hid hel
    clear hx hy hel h92
    have H := Lib.hid h; clear h
    have ecast : Hid ((k : Int) + 1 = ((k + 1 : Nat) : Int)) := by unfold Hid; omega
    have ecast2 : Hid (((k + 1 : Nat) : Int) + 1 = ((k + 2 : Nat) : Int)) := by unfold Hid; omega
    cases hc : cE y with
    | true =>
      have hc2 : y = 34 ∨ y = 92 := by simpa [cE] using hc
      have hT := Lib.hid (show elm (l.drop k) = some (y, 2) by rw [HE.out, hc]; rfl)
      have HC := Lib.hid hc; clear hc
      have hk2 : k + 2 ≤ l.length := by
        by_cases e : k + 1 < l.length
        · omega
        · have := HY.out; rw [nxt_end (by omega)] at this; omega
      have hy1 : 32 ≤ y := by omega
      have hy2 : y ≤ 126 := by omega
      clear hc2
      go_enter Try.func57, Try.ntmps57
      go_wp2_with fail
      refine (next_any H.out).mono ?_; rintro e w1 ⟨rfl, m, rfl⟩; rw [HX.out]
      have c1 : (w.drewN m).cell? ⟨g, 1, none⟩ = some (.int .i64 (k : Int)) := H.out.cell 1
      have f1 : (w.drewN m).frozen? ⟨g, 1, none⟩ = false := H.out.free 1
      have S1 := Lib.hid ((H.out.drewN m).go (k + 1) hk1)
      have O1 := Lib.hid (((Only.refl g w).drewN m).set 1 (.int .i64 ((k + 1 : Nat) : Int)))
      generalize hw1 : w.drewN m = w1 at *
      clear hw1
      go_wp2_with fail
      rw [ecast.out]
      refine (next_any S1.out).mono ?_; rintro e w2 ⟨rfl, m2, rfl⟩; rw [HY.out]
      have c2 : ((w1.setCell ⟨g, 1, none⟩ (.int .i64 ((k + 1 : Nat) : Int))).drewN m2).cell? ⟨g, 1, none⟩ = some (.int .i64 ((k + 1 : Nat) : Int)) := S1.out.cell 1
      have f2 : ((w1.setCell ⟨g, 1, none⟩ (.int .i64 ((k + 1 : Nat) : Int))).drewN m2).frozen? ⟨g, 1, none⟩ = false := S1.out.free 1
      have S2 := Lib.hid ((S1.out.drewN m2).go (k + 2) hk2)
      have O2 := Lib.hid ((O1.out.drewN m2).set 1 (.int .i64 ((k + 2 : Nat) : Int)))
      generalize hw2 : (w1.setCell ⟨g, 1, none⟩ (.int .i64 ((k + 1 : Nat) : Int))).drewN m2 = w2 at *
      clear hw2 c1 f1
      go_wp2_with fail
      refine (isEscaped_any _ _).mono ?_; rintro e w3 ⟨rfl, rfl⟩; rw [HC.out]
      have hk3 : k ≤ 8000 := by omega
      have ek : Hid (((k + 1 : Nat) : Int) + 1 = ((k + 2 : Nat) : Int)) := ecast2
      obtain ⟨q, hq⟩ : ∃ q, q = k + 1 := ⟨_, rfl⟩
      rw [← hq] at c2 ek
      have hq2 : q ≤ 8001 := by omega
      clear hq
      go_wp2
      rw [ek.out]
      go_ret2
      exact ElmPost.good hT.out rfl S2.out O2.out
    | false =>
      have hT := Lib.hid (show elm (l.drop k) = none by rw [HE.out, hc]; rfl)
      have HC := Lib.hid hc; clear hc
      go_enter Try.func57, Try.ntmps57
      go_wp2_with fail
      refine (next_any H.out).mono ?_; rintro e w1 ⟨rfl, m, rfl⟩; rw [HX.out]
      have c1 : (w.drewN m).cell? ⟨g, 1, none⟩ = some (.int .i64 (k : Int)) := H.out.cell 1
      have f1 : (w.drewN m).frozen? ⟨g, 1, none⟩ = false := H.out.free 1
      have S1 := Lib.hid ((H.out.drewN m).go (k + 1) hk1)
      have O1 := Lib.hid (((Only.refl g w).drewN m).set 1 (.int .i64 ((k + 1 : Nat) : Int)))
      generalize hw1 : w.drewN m = w1 at *
      clear hw1
      go_wp2_with fail
      rw [ecast.out]
      refine (next_any S1.out).mono ?_; rintro e w2 ⟨rfl, m2, rfl⟩; rw [HY.out]
      by_cases hb : y < 32 ∨ 126 < y
      · rcases hb with hb | hb
        all_goals
          go_wp2
          go_ret2
          exact ElmPost.bad hT.out rfl (O1.out.drewN m2)
      · have hy1 : 32 ≤ y := by omega
        have hy2 : y ≤ 126 := by omega
        clear hb
        go_wp2_with fail
        refine (isEscaped_any _ _).mono ?_; rintro e w3 ⟨rfl, rfl⟩; rw [HC.out]
        go_wp2
        go_ret2
        exact ElmPost.bad hT.out rfl (O1.out.drewN m2)
  · have t92 : ((x : Int) == 92) = false := by simp; omega
    have hel : elm (l.drop k) = if 32 ≤ x ∧ x ≤ 126 ∧ x ≠ 34 then some (x, 1) else none := by
      unfold elm
      rw [hx, if_neg h92]
    have HE := Lib.hid hel
    have hce : cE x = decide (x = 34) := by simp [cE, h92]
    clear hel
    have H := Lib.hid h; clear h
    have ecast : Hid ((k : Int) + 1 = ((k + 1 : Nat) : Int)) := by unfold Hid; omega
    by_cases hok : 32 ≤ x ∧ x ≤ 126 ∧ x ≠ 34
    · have hT := Lib.hid (show elm (l.drop k) = some (x, 1) by rw [HE.out, if_pos hok])
      have hk1 : k + 1 ≤ l.length := by
        by_cases e : k < l.length
        · omega
        · rw [nxt_end (by omega)] at hx; omega
      obtain ⟨hx1, hx2, hx3⟩ := hok
      have HC : Hid (cE x = false) := by unfold Hid; rw [hce]; simpa using hx3
      clear hx hce h92 hx3
      go_enter Try.func57, Try.ntmps57
      go_wp2_with fail
      refine (next_any H.out).mono ?_; rintro e w1 ⟨rfl, m, rfl⟩; rw [HX.out]
      have S0 := Lib.hid (H.out.drewN m)
      have O0 := Lib.hid ((Only.refl g w).drewN m)
      generalize hw1 : w.drewN m = w1 at *
      clear hw1
      go_wp2_with fail
      refine (next_any S0.out).mono ?_; rintro e w2 ⟨rfl, m2, rfl⟩; rw [HX.out]
      have c2 : (w1.drewN m2).cell? ⟨g, 1, none⟩ = some (.int .i64 (k : Int)) := S0.out.cell 1
      have f2 : (w1.drewN m2).frozen? ⟨g, 1, none⟩ = false := S0.out.free 1
      have S2 := Lib.hid ((S0.out.drewN m2).go (k + 1) hk1)
      have O2 := Lib.hid ((O0.out.drewN m2).set 1 (.int .i64 ((k + 1 : Nat) : Int)))
      generalize hw2 : w1.drewN m2 = w2 at *
      clear hw2
      go_wp2_with fail
      refine (isEscaped_any _ _).mono ?_; rintro e w3 ⟨rfl, rfl⟩; rw [HC.out]
      go_wp2
      rw [ecast.out]
      go_ret2
      exact ElmPost.good hT.out rfl S2.out O2.out
    · have hT := Lib.hid (show elm (l.drop k) = none by rw [HE.out, if_neg hok])
      have hbad : x < 32 ∨ 126 < x ∨ (32 ≤ x ∧ x ≤ 126 ∧ Hid (cE x = true)) := by
        by_cases e1 : x < 32
        · exact .inl e1
        · by_cases e2 : 126 < x
          · exact .inr (.inl e2)
          · refine .inr (.inr ⟨by omega, by omega, ?_⟩)
            unfold Hid; rw [hce, decide_eq_true_iff]; omega
      clear hok hx hce h92
      rcases hbad with hb | hb | ⟨hb1, hb2, HC⟩
      · go_enter Try.func57, Try.ntmps57
        go_wp2_with fail
        refine (next_any H.out).mono ?_; rintro e w1 ⟨rfl, m, rfl⟩; rw [HX.out]
        have S0 := Lib.hid (H.out.drewN m)
        have O0 := Lib.hid ((Only.refl g w).drewN m)
        go_wp2_with fail
        refine (next_any S0.out).mono ?_; rintro e w2 ⟨rfl, m2, rfl⟩; rw [HX.out]
        go_wp2
        go_ret2
        exact ElmPost.bad hT.out rfl ((Only.refl g w).drewN _)
      · go_enter Try.func57, Try.ntmps57
        go_wp2_with fail
        refine (next_any H.out).mono ?_; rintro e w1 ⟨rfl, m, rfl⟩; rw [HX.out]
        have S0 := Lib.hid (H.out.drewN m)
        have O0 := Lib.hid ((Only.refl g w).drewN m)
        go_wp2_with fail
        refine (next_any S0.out).mono ?_; rintro e w2 ⟨rfl, m2, rfl⟩; rw [HX.out]
        go_wp2
        go_ret2
        exact ElmPost.bad hT.out rfl ((Only.refl g w).drewN _)
      · go_enter Try.func57, Try.ntmps57
        go_wp2_with fail
        refine (next_any H.out).mono ?_; rintro e w1 ⟨rfl, m, rfl⟩; rw [HX.out]
        have S0 := Lib.hid (H.out.drewN m)
        have O0 := Lib.hid ((Only.refl g w).drewN m)
        go_wp2_with fail
        refine (next_any S0.out).mono ?_; rintro e w2 ⟨rfl, m2, rfl⟩; rw [HX.out]
        go_wp2_with fail
        refine (isEscaped_any _ _).mono ?_; rintro e w3 ⟨rfl, rfl⟩; rw [HC.out]
        go_wp2
        go_ret2
        exact ElmPost.bad hT.out rfl ((Only.refl g w).drewN _)

theorem own_only {g B e : Nat} {w w' : World} {v : Value} {n : Nat} {xs : List Value} (h : w.ownsRow B e 1 v n xs) (ho : Only g w w') (hg : g < B) : w'.ownsRow B e 1 v n xs := by
  refine ⟨h.1, ?_⟩
  rcases h.2 with h2 | ⟨a, cap, cur, hv, hb, hh, hr⟩
  · exact .inl h2
  · exact .inr ⟨a, cap, cur, hv, hb, (ho.block a (lt_of_some hh) (by omega)).trans hh, hr⟩
theorem Only.frm {e B g : Nat} {a b c : World} (h : Only g a b) (hf : Frm e B b c) (hB : a.heap.size ≤ B) : Only g a c :=
  ⟨hf.os.trans h.os, hf.tape.trans h.tape, hf.output.trans h.output, Nat.le_trans h.size hf.size, fun k hk hn => (hf.block k (Nat.lt_of_lt_of_le hk h.size) (.inl (by omega))).trans (h.block k hk hn)⟩
end
end Go.Proofs.Ytolanmdckdjfeaa
