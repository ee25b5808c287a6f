/- Layer 9: the contracts of the scanner's methods for elements and texts. -/
import Derived.Test.YtpnlojcimeiihaaGreatDoorMSynD
import Derived.Deep.LoopGhost
namespace Go.Proofs.YtpnlojcimeiihaaGreatDoor
/- Layer 9: the contracts of the scanner's methods for elements and texts. -/
open Go.RowKit

/-- An element: the byte that it stands for, and its length. -/
def elm (r : List UInt8) : Option (Nat × Nat) :=
  if nxt r = 92 then (if cE (nxt r.tail) = true then some (nxt r.tail, 2) else none)
  else if 32 ≤ nxt r ∧ nxt r ≤ 126 ∧ nxt r ≠ 34 then some (nxt r, 1) else none
theorem txt_cons (c : UInt8) (r : List UInt8) : txt (c :: r) = if c.toNat = 34 then some ([], 1)
    else if c.toNat = 92 then
      match r with
      | [] => none
      | d :: r' => if cE d.toNat = true then (txt r').map fun x => (d :: x.1, x.2 + 2) else none
    else if 32 ≤ c.toNat ∧ c.toNat ≤ 126 then (txt r).map fun x => (c :: x.1, x.2 + 1) else none := by
  rw [txt.eq_def]
  rfl
theorem txt_stop {r : List UInt8} (h : nxt r = 34) : txt r = some ([], 1) := by
  obtain ⟨c, t, rfl⟩ := nxt_pos (l := r) (by omega)
  unfold txt
  exact if_pos h
theorem txt_none {r : List UInt8} (h : nxt r ≠ 34) (he : elm r = none) : txt r = none := by
  cases r with
  | nil => rfl
  | cons c t =>
    rw [txt_cons, if_neg (show ¬ c.toNat = 34 from h)]
    unfold elm at he
    by_cases h2 : nxt (c :: t) = 92
    · rw [if_pos h2] at he
      rw [if_pos (show c.toNat = 92 from h2)]
      cases t with
      | nil => rfl
      | cons d t' =>
        have : ¬ cE d.toNat = true := fun h3 => by rw [if_pos (show cE (nxt (c :: d :: t').tail) = true from h3)] at he; cases he
        simp only [if_neg this]
    · rw [if_neg h2] at he
      rw [if_neg (show ¬ c.toNat = 92 from h2), if_neg]
      intro h3
      rw [if_pos ⟨h3.1, h3.2, h⟩] at he
      cases he
theorem txt_more {r : List UInt8} {c n : Nat} (h : nxt r ≠ 34) (he : elm r = some (c, n)) : (1 ≤ n ∧ n ≤ r.length ∧ c < 256) ∧ txt r = (txt (r.drop n)).map fun x => (UInt8.ofNat c :: x.1, x.2 + n) := by
  cases r with
  | nil => simp [elm, nxt] at he
  | cons a t =>
    unfold elm at he
    rw [txt_cons, if_neg (show ¬ a.toNat = 34 from h)]
    by_cases h2 : nxt (a :: t) = 92
    · rw [if_pos h2] at he
      rw [if_pos (show a.toNat = 92 from h2)]
      cases t with
      | nil => simp [nxt, cE] at he
      | cons d t' =>
        by_cases h3 : cE (nxt (a :: d :: t').tail) = true
        · rw [if_pos h3] at he
          have h4 : cE d.toNat = true := h3
          simp only [Option.some.injEq, Prod.mk.injEq] at he
          obtain ⟨rfl, rfl⟩ := he
          have hd : nxt (a :: d :: t').tail = d.toNat := rfl
          refine ⟨⟨by omega, by simp, by rw [hd]; exact UInt8.toNat_lt d⟩, ?_⟩
          simp only [if_pos h4]
          rw [hd, UInt8.ofNat_toNat]
          rfl
        · rw [if_neg h3] at he; cases he
    · rw [if_neg h2] at he
      rw [if_neg (show ¬ a.toNat = 92 from h2)]
      by_cases h3 : 32 ≤ nxt (a :: t) ∧ nxt (a :: t) ≤ 126 ∧ nxt (a :: t) ≠ 34
      · rw [if_pos h3] at he
        simp only [Option.some.injEq, Prod.mk.injEq] at he
        obtain ⟨rfl, rfl⟩ := he
        have hd : nxt (a :: t) = a.toNat := rfl
        rw [if_pos ⟨h3.1, h3.2.1⟩]
        refine ⟨⟨by omega, by simp, by omega⟩, ?_⟩
        rw [hd, UInt8.ofNat_toNat]
        rfl
      · rw [if_neg h3] at he; cases he

section
variable {w : World} {g k : Nat} {l : List UInt8}
def ElmPost (w : World) (g : Nat) (l : List UInt8) (k : Nat) : Option (Nat × Nat) → Ending → World → Prop
  | none, e, w' => e = .returned (.tuple #[.int .u8 0, .bool false]) ∧ Only g w w'
  | some (c, n), e, w' => e = .returned (.tuple #[.int .u8 (c : Int), .bool true]) ∧ Scn w' g l (k + n) ∧ Only g w w'
theorem ElmPost.bad {w w' : World} {r : Option (Nat × Nat)} {e : Ending} (hr : r = none) (he : e = .returned (.tuple #[.int .u8 0, .bool false])) (ho : Only g w w') : ElmPost w g l k r e w' := by
  subst hr; exact ⟨he, ho⟩
theorem ElmPost.good {w w' : World} {r : Option (Nat × Nat)} {c n : Nat} {e : Ending} (hr : r = some (c, n)) (he : e = .returned (.tuple #[.int .u8 (c : Int), .bool true])) (hs : Scn w' g l (k + n)) (ho : Only g w w') : ElmPost w g l k r e w' := by
  subst hr; exact ⟨he, hs, ho⟩
set_option maxRecDepth 20000 in
set_option maxHeartbeats 1000000 in
theorem element_any (h : Scn w g l k) : Calls Tryz.prog 174 #[.pointer (some ⟨g, 0, none⟩)] w (ElmPost w g l k (elm (l.drop k))) := by
  obtain ⟨x, hx⟩ : ∃ x, nxt (l.drop k) = x := ⟨_, rfl⟩
  have hroom := h.room
  have hoff := h.off
  have HX := Lib.hid hx
  by_cases h92 : x = 92
  · obtain ⟨y, hy⟩ : ∃ y, nxt (l.drop (k + 1)) = y := ⟨_, rfl⟩
    have HY := Lib.hid hy
    have hk1 : k + 1 ≤ l.length := by
      by_cases e : k < l.length
      · omega
      · rw [nxt_end (by omega)] at hx; omega
    have hel : elm (l.drop k) = if cE y = true then some (y, 2) else none := by
      unfold elm
      rw [hx, if_pos h92, List.tail_drop, hy]
    have t92 : ((x : Int) == 92) = true := by rw [h92]; rfl
    have HE := Lib.hid hel
    clear hx hy hel h92
    have H := Lib.hid h; clear h
    have ecast : Hid ((k : Int) + 1 = ((k + 1 : Nat) : Int)) := by unfold Hid; omega
    have ecast2 : Hid (((k + 1 : Nat) : Int) + 1 = ((k + 2 : Nat) : Int)) := by unfold Hid; omega
    cases hc : cE y with
    | true =>
      have hc2 : y = 34 ∨ y = 92 := by simpa [cE] using hc
      have hT := Lib.hid (show elm (l.drop k) = some (y, 2) by rw [HE.out, hc]; rfl)
      have HC := Lib.hid hc; clear hc
      have hk2 : k + 2 ≤ l.length := by
        by_cases e : k + 1 < l.length
        · omega
        · have := HY.out; rw [nxt_end (by omega)] at this; omega
      have hy1 : 32 ≤ y := by omega
      have hy2 : y ≤ 126 := by omega
      clear hc2
      go_enter Tryz.func174, Tryz.ntmps174
      go_wp2_with fail
      refine (next_any H.out).mono ?_; rintro e w1 ⟨rfl, m, rfl⟩; rw [HX.out]
      have c1 : (w.drewN m).cell? ⟨g, 1, none⟩ = some (.int .i64 (k : Int)) := H.out.cell 1
      have f1 : (w.drewN m).frozen? ⟨g, 1, none⟩ = false := H.out.free 1
      have S1 := Lib.hid ((H.out.drewN m).go (k + 1) hk1)
      have O1 := Lib.hid (((Only.refl g w).drewN m).set 1 (.int .i64 ((k + 1 : Nat) : Int)))
      generalize hw1 : w.drewN m = w1 at *
      clear hw1
      go_wp2_with fail
      rw [ecast.out]
      refine (next_any S1.out).mono ?_; rintro e w2 ⟨rfl, m2, rfl⟩; rw [HY.out]
      have c2 : ((w1.setCell ⟨g, 1, none⟩ (.int .i64 ((k + 1 : Nat) : Int))).drewN m2).cell? ⟨g, 1, none⟩ = some (.int .i64 ((k + 1 : Nat) : Int)) := S1.out.cell 1
      have f2 : ((w1.setCell ⟨g, 1, none⟩ (.int .i64 ((k + 1 : Nat) : Int))).drewN m2).frozen? ⟨g, 1, none⟩ = false := S1.out.free 1
      have S2 := Lib.hid ((S1.out.drewN m2).go (k + 2) hk2)
      have O2 := Lib.hid ((O1.out.drewN m2).set 1 (.int .i64 ((k + 2 : Nat) : Int)))
      generalize hw2 : (w1.setCell ⟨g, 1, none⟩ (.int .i64 ((k + 1 : Nat) : Int))).drewN m2 = w2 at *
      clear hw2 c1 f1
      go_wp2_with fail
      refine (isEscaped_any _ _).mono ?_; rintro e w3 ⟨rfl, rfl⟩; rw [HC.out]
      have hk3 : k ≤ 8000 := by omega
      have ek : Hid (((k + 1 : Nat) : Int) + 1 = ((k + 2 : Nat) : Int)) := ecast2
      obtain ⟨q, hq⟩ : ∃ q, q = k + 1 := ⟨_, rfl⟩
      rw [← hq] at c2 ek
      have hq2 : q ≤ 8001 := by omega
      clear hq
      go_wp2
      rw [ek.out]
      go_ret2
      exact ElmPost.good hT.out rfl S2.out O2.out
    | false =>
      have hT := Lib.hid (show elm (l.drop k) = none by rw [HE.out, hc]; rfl)
      have HC := Lib.hid hc; clear hc
      go_enter Tryz.func174, Tryz.ntmps174
      go_wp2_with fail
      refine (next_any H.out).mono ?_; rintro e w1 ⟨rfl, m, rfl⟩; rw [HX.out]
      have c1 : (w.drewN m).cell? ⟨g, 1, none⟩ = some (.int .i64 (k : Int)) := H.out.cell 1
      have f1 : (w.drewN m).frozen? ⟨g, 1, none⟩ = false := H.out.free 1
      have S1 := Lib.hid ((H.out.drewN m).go (k + 1) hk1)
      have O1 := Lib.hid (((Only.refl g w).drewN m).set 1 (.int .i64 ((k + 1 : Nat) : Int)))
      generalize hw1 : w.drewN m = w1 at *
      clear hw1
      go_wp2_with fail
      rw [ecast.out]
      refine (next_any S1.out).mono ?_; rintro e w2 ⟨rfl, m2, rfl⟩; rw [HY.out]
      by_cases hb : y < 32 ∨ 126 < y
      · rcases hb with hb | hb
        all_goals
          go_wp2
          go_ret2
          exact ElmPost.bad hT.out rfl (O1.out.drewN m2)
      · have hy1 : 32 ≤ y := by omega
        have hy2 : y ≤ 126 := by omega
        clear hb
        go_wp2_with fail
        refine (isEscaped_any _ _).mono ?_; rintro e w3 ⟨rfl, rfl⟩; rw [HC.out]
        go_wp2
        go_ret2
        exact ElmPost.bad hT.out rfl (O1.out.drewN m2)
  · have t92 : ((x : Int) == 92) = false := by simp; omega
    have hel : elm (l.drop k) = if 32 ≤ x ∧ x ≤ 126 ∧ x ≠ 34 then some (x, 1) else none := by
      unfold elm
      rw [hx, if_neg h92]
    have HE := Lib.hid hel
    have hce : cE x = decide (x = 34) := by simp [cE, h92]
    clear hel
    have H := Lib.hid h; clear h
    have ecast : Hid ((k : Int) + 1 = ((k + 1 : Nat) : Int)) := by unfold Hid; omega
    by_cases hok : 32 ≤ x ∧ x ≤ 126 ∧ x ≠ 34
    · have hT := Lib.hid (show elm (l.drop k) = some (x, 1) by rw [HE.out, if_pos hok])
      have hk1 : k + 1 ≤ l.length := by
        by_cases e : k < l.length
        · omega
        · rw [nxt_end (by omega)] at hx; omega
      obtain ⟨hx1, hx2, hx3⟩ := hok
      have HC : Hid (cE x = false) := by unfold Hid; rw [hce]; simpa using hx3
      clear hx hce h92 hx3
      go_enter Tryz.func174, Tryz.ntmps174
      go_wp2_with fail
      refine (next_any H.out).mono ?_; rintro e w1 ⟨rfl, m, rfl⟩; rw [HX.out]
      have S0 := Lib.hid (H.out.drewN m)
      have O0 := Lib.hid ((Only.refl g w).drewN m)
      generalize hw1 : w.drewN m = w1 at *
      clear hw1
      go_wp2_with fail
      refine (next_any S0.out).mono ?_; rintro e w2 ⟨rfl, m2, rfl⟩; rw [HX.out]
      have c2 : (w1.drewN m2).cell? ⟨g, 1, none⟩ = some (.int .i64 (k : Int)) := S0.out.cell 1
      have f2 : (w1.drewN m2).frozen? ⟨g, 1, none⟩ = false := S0.out.free 1
      have S2 := Lib.hid ((S0.out.drewN m2).go (k + 1) hk1)
      have O2 := Lib.hid ((O0.out.drewN m2).set 1 (.int .i64 ((k + 1 : Nat) : Int)))
      generalize hw2 : w1.drewN m2 = w2 at *
      clear hw2
      go_wp2_with fail
      refine (isEscaped_any _ _).mono ?_; rintro e w3 ⟨rfl, rfl⟩; rw [HC.out]
      go_wp2
      rw [ecast.out]
      go_ret2
      exact ElmPost.good hT.out rfl S2.out O2.out
    · have hT := Lib.hid (show elm (l.drop k) = none by rw [HE.out, if_neg hok])
      have hbad : x < 32 ∨ 126 < x ∨ (32 ≤ x ∧ x ≤ 126 ∧ Hid (cE x = true)) := by
        by_cases e1 : x < 32
        · exact .inl e1
        · by_cases e2 : 126 < x
          · exact .inr (.inl e2)
          · refine .inr (.inr ⟨by omega, by omega, ?_⟩)
            unfold Hid; rw [hce, decide_eq_true_iff]; omega
      clear hok hx hce h92
      rcases hbad with hb | hb | ⟨hb1, hb2, HC⟩
      · go_enter Tryz.func174, Tryz.ntmps174
        go_wp2_with fail
        refine (next_any H.out).mono ?_; rintro e w1 ⟨rfl, m, rfl⟩; rw [HX.out]
        have S0 := Lib.hid (H.out.drewN m)
        have O0 := Lib.hid ((Only.refl g w).drewN m)
        go_wp2_with fail
        refine (next_any S0.out).mono ?_; rintro e w2 ⟨rfl, m2, rfl⟩; rw [HX.out]
        go_wp2
        go_ret2
        exact ElmPost.bad hT.out rfl ((Only.refl g w).drewN _)
      · go_enter Tryz.func174, Tryz.ntmps174
        go_wp2_with fail
        refine (next_any H.out).mono ?_; rintro e w1 ⟨rfl, m, rfl⟩; rw [HX.out]
        have S0 := Lib.hid (H.out.drewN m)
        have O0 := Lib.hid ((Only.refl g w).drewN m)
        go_wp2_with fail
        refine (next_any S0.out).mono ?_; rintro e w2 ⟨rfl, m2, rfl⟩; rw [HX.out]
        go_wp2
        go_ret2
        exact ElmPost.bad hT.out rfl ((Only.refl g w).drewN _)
      · go_enter Tryz.func174, Tryz.ntmps174
        go_wp2_with fail
        refine (next_any H.out).mono ?_; rintro e w1 ⟨rfl, m, rfl⟩; rw [HX.out]
        have S0 := Lib.hid (H.out.drewN m)
        have O0 := Lib.hid ((Only.refl g w).drewN m)
        go_wp2_with fail
        refine (next_any S0.out).mono ?_; rintro e w2 ⟨rfl, m2, rfl⟩; rw [HX.out]
        go_wp2_with fail
        refine (isEscaped_any _ _).mono ?_; rintro e w3 ⟨rfl, rfl⟩; rw [HC.out]
        go_wp2
        go_ret2
        exact ElmPost.bad hT.out rfl ((Only.refl g w).drewN _)

theorem own_only {g B e : Nat} {w w' : World} {v : Value} {n : Nat} {xs : List Value} (h : w.ownsRow B e 1 v n xs) (ho : Only g w w') (hg : g < B) : w'.ownsRow B e 1 v n xs := by
  refine ⟨h.1, ?_⟩
  rcases h.2 with h2 | ⟨a, cap, cur, hv, hb, hh, hr⟩
  · exact .inl h2
  · exact .inr ⟨a, cap, cur, hv, hb, (ho.block a (lt_of_some hh) (by omega)).trans hh, hr⟩
theorem Only.frm {e B g : Nat} {a b c : World} (h : Only g a b) (hf : Frm e B b c) (hB : a.heap.size ≤ B) : Only g a c :=
  ⟨hf.os.trans h.os, hf.tape.trans h.tape, hf.output.trans h.output, Nat.le_trans h.size hf.size, fun k hk hn => (hf.block k (Nat.lt_of_lt_of_le hk h.size) (.inl (by omega))).trans (h.block k hk hn)⟩
end
/- Layer 9: the contract of the scanner's method for texts. -/
open Go.RowKit

def TxRel (w : World) (g : Nat) (l : List UInt8) (k : Nat) (gk : Nat) (b : Value) (wr : World) : Prop :=
  ∃ (j : Nat) (xs : List UInt8), k + 1 ≤ j ∧ l.length ≤ gk + j ∧ xs.length ≤ j ∧ Hid (Scn wr g l j) ∧ Hid (Only g w wr) ∧ Hid (TBox wr w.heap.size 0 [] 0 0) ∧
    Hid (wr.ownsRow w.heap.size 5 1 b xs.length ((xs.map UInt8.toNat).map bv)) ∧ Hid (txt (l.drop (k + 1)) = (txt (l.drop j)).map fun x => (xs ++ x.1, x.2 + (j - (k + 1))))
theorem strOf_ofL (xs : List UInt8) : strOf (xs.map UInt8.toNat) = ofL xs := by
  unfold strOf ofL
  rw [List.map_map]
  congr 2
  conv => rhs; rw [← List.map_id xs]
  exact List.map_congr_left fun c _ => UInt8.ofNat_toNat
section
variable {w : World} {g k : Nat} {l : List UInt8}
set_option maxRecDepth 20000 in
set_option maxHeartbeats 1000000 in
theorem text_any (h : Scn w g l k) (hq : nxt (l.drop k) = 34) : Calls Tryz.prog 118 #[.pointer (some ⟨g, 0, none⟩)] w (TokPost w g l k (tkText (l.drop (k + 1)))) := by
  have hroom := h.room
  have hlt := h.lt
  have hk1 : k + 1 ≤ l.length := by
    by_cases e : k < l.length
    · omega
    · rw [nxt_end (by omega)] at hq; omega
  clear hq
  have c1 := h.cell 1
  have f1 := h.free 1
  have HA := Lib.hid h
  clear h
  have ecast : Hid ((k : Int) + 1 = ((k + 1 : Nat) : Int)) := by unfold Hid; omega
  have S1 := Lib.hid ((HA.out.go (k + 1) hk1).alloc (.cells #[.int .i64 0, .string ⟨#[]⟩, .int .i64 0, .int .i64 0] 48))
  have T1 : Hid (TBox ((w.setCell ⟨g, 1, none⟩ (.int .i64 ((k + 1 : Nat) : Int))).alloc (.cells #[.int .i64 0, .string ⟨#[]⟩, .int .i64 0, .int .i64 0] 48)) w.heap.size 0 [] 0 0) := by
    have := TBox.new (w.setCell ⟨g, 1, none⟩ (.int .i64 ((k + 1 : Nat) : Int)))
    rwa [show (w.setCell ⟨g, 1, none⟩ (.int .i64 ((k + 1 : Nat) : Int))).heap.size = w.heap.size by simp [World.setCell]] at this
  have O1 : Hid (Only g w ((w.setCell ⟨g, 1, none⟩ (.int .i64 ((k + 1 : Nat) : Int))).alloc (.cells #[.int .i64 0, .string ⟨#[]⟩, .int .i64 0, .int .i64 0] 48))) := ((Only.refl g w).set 1 _).alloc _
  go_enter Tryz.func118, Tryz.ntmps118
  go_wp2
  rw [ecast.out]
  generalize hw1 : (w.setCell ⟨g, 1, none⟩ (.int .i64 ((k + 1 : Nat) : Int))).alloc (.cells #[.int .i64 0, .string ⟨#[]⟩, .int .i64 0, .int .i64 0] 48) = w1 at *
  clear hw1 HA c1 f1 ecast
  go_loopg [4, 5, 6] (l.length) (fun gk b _ _ wr => TxRel w g l k gk b wr)
  case atStart =>
    refine ⟨k + 1, [], by omega, by omega, by simp, S1, O1, T1, World.ownsRow_nil _ _ _ _, ?_⟩
    unfold Hid
    simp
  case round =>
    clear S1 O1 T1
    obtain ⟨j, xs, hkj, hgk, hxl, HS, HO, HT, HB, HX⟩ := hrel
    obtain ⟨x, hx⟩ : ∃ x, nxt (l.drop j) = x := ⟨_, rfl⟩
    have HN := Lib.hid hx
    by_cases h34 : x = 34
    · have t34 : ((x : Int) != 34) = false := by simp; omega
      have hj1 : j + 1 ≤ l.length := by
        by_cases e : j < l.length
        · omega
        · rw [nxt_end (by omega)] at hx; omega
      have HTT := Lib.hid (show txt (l.drop (k + 1)) = some (xs, j - k) by rw [HX.out, txt_stop (by rw [hx]; exact h34)]; simp; omega)
      have ecast : Hid ((j : Int) + 1 = ((j + 1 : Nat) : Int)) := by unfold Hid; omega
      have hj8 : j ≤ 8000 := by omega
      clear hx h34
      have hsl := Bsl.of_own HB.out
      obtain ⟨A, cp, hA⟩ : ∃ A cp, u4 = .slice A xs.length cp := by
        rcases hsl with ⟨rfl, h0⟩ | ⟨ad, c, rfl, _⟩
        · exact ⟨none, 0, by simp at h0; rw [h0]; rfl⟩
        · exact ⟨some ad, c, by simp⟩
      subst hA
      clear hsl
      by_cases h40 : 40 < xs.length
      · have hT := Lib.hid (show tkText (l.drop (k + 1)) = .err 6 by unfold tkText; rw [HTT.out]; simp only [if_pos h40])
        go_wp2_with fail
        refine (next_any HS.out).mono ?_; rintro e w2 ⟨rfl, m, rfl⟩; rw [HN.out]
        have HS2 := Lib.hid (HS.out.drewN m)
        have HO2 := Lib.hid (HO.out.drewN m)
        have HT2 : Hid (TBox (wr.drewN m) w.heap.size 0 [] 0 0) := HT.out
        have HB2 : Hid ((wr.drewN m).ownsRow w.heap.size 5 1 (.slice A xs.length cp) xs.length ((xs.map UInt8.toNat).map bv)) := HB.out
        generalize hw2 : wr.drewN m = w2 at *
        clear hw2
        have c1 := HS2.out.cell 1
        have f1 := HS2.out.free 1
        have HS3 := Lib.hid (HS2.out.go (j + 1) hj1)
        have HO3 := Lib.hid (HO2.out.set 1 (.int .i64 ((j + 1 : Nat) : Int)))
        have HT3 := Lib.hid (HT2.out.keep ((Only.refl g w2).set 1 (.int .i64 ((j + 1 : Nat) : Int))) (by omega))
        have hrs0 := run_str (P := Tryz.prog) (w2.setCell ⟨g, 1, none⟩ (.int .i64 ((j + 1 : Nat) : Int))) 41 5 9 Tryz.underlying41 Tryz.underlying5 Tryz.underlying9 _ (xs.map UInt8.toNat) (Bsl.of_own (own_only HB2.out ((Only.refl g w2).set 1 (.int .i64 ((j + 1 : Nat) : Int))) hlt))
        rw [strOf_ofL, ← ecast.out] at hrs0
        obtain ⟨d0, d1, d2, d3, f10, f11, f12, f13⟩ := HT2.out.facts
        go_wp2
        rw [ecast.out]
        refine bodyPost_ret (v := .tuple #[tokV 0 [] 0 0, .int .i64 6]) (TBox.result ((HT3.out).store 0 0 0 []) Tryz.results118 _ rfl _ rfl) rfl (TokPost.bad hT.out rfl ?_)
        exact ((((HO3.out.own (Nat.le_refl _) _ _).own (Nat.le_refl _) _ _).own (Nat.le_refl _) _ _).own (Nat.le_refl _) _ _)
      · have hT := Lib.hid (show tkText (l.drop (k + 1)) = .ok 3 xs 0 (j - k + 1) by unfold tkText; rw [HTT.out]; simp only [if_neg h40])
        go_wp2_with fail
        refine (next_any HS.out).mono ?_; rintro e w2 ⟨rfl, m, rfl⟩; rw [HN.out]
        have HS2 := Lib.hid (HS.out.drewN m)
        have HO2 := Lib.hid (HO.out.drewN m)
        have HT2 : Hid (TBox (wr.drewN m) w.heap.size 0 [] 0 0) := HT.out
        have HB2 : Hid ((wr.drewN m).ownsRow w.heap.size 5 1 (.slice A xs.length cp) xs.length ((xs.map UInt8.toNat).map bv)) := HB.out
        generalize hw2 : wr.drewN m = w2 at *
        clear hw2
        have c1 := HS2.out.cell 1
        have f1 := HS2.out.free 1
        have HS3 := Lib.hid (HS2.out.go (j + 1) hj1)
        have HO3 := Lib.hid (HO2.out.set 1 (.int .i64 ((j + 1 : Nat) : Int)))
        have HT3 := Lib.hid (HT2.out.keep ((Only.refl g w2).set 1 (.int .i64 ((j + 1 : Nat) : Int))) (by omega))
        have hrs0 := run_str (P := Tryz.prog) (w2.setCell ⟨g, 1, none⟩ (.int .i64 ((j + 1 : Nat) : Int))) 41 5 9 Tryz.underlying41 Tryz.underlying5 Tryz.underlying9 _ (xs.map UInt8.toNat) (Bsl.of_own (own_only HB2.out ((Only.refl g w2).set 1 (.int .i64 ((j + 1 : Nat) : Int))) hlt))
        rw [strOf_ofL, ← ecast.out] at hrs0
        obtain ⟨d0, d1, d2, d3, f10, f11, f12, f13⟩ := HT2.out.facts
        go_wp2
        rw [ecast.out]
        refine bodyPost_ret (v := .tuple #[tokV 3 xs 0 0, .int .i64 0]) (TBox.result ((HT3.out).store 3 0 0 xs) Tryz.results118 _ rfl _ rfl) rfl (TokPost.good hT.out rfl ?_ ?_)
        · rw [show k + (j - k + 1) = j + 1 by omega]
          exact (((HS3.out.other (by omega)).other (by omega)).other (by omega)).other (by omega)
        · exact ((((HO3.out.own (Nat.le_refl _) _ _).own (Nat.le_refl _) _ _).own (Nat.le_refl _) _ _).own (Nat.le_refl _) _ _)
    · have t34 : ((x : Int) != 34) = true := by simp; omega
      cases he : elm (l.drop j) with
      | none =>
        have HE := Lib.hid he
        have hT := Lib.hid (show tkText (l.drop (k + 1)) = .err 3 by unfold tkText; rw [HX.out, txt_none (by rw [hx]; exact h34) he]; rfl)
        clear he hx h34
        go_wp2_with fail
        refine (next_any HS.out).mono ?_; rintro e w2 ⟨rfl, m, rfl⟩; rw [HN.out]
        have HS2 := Lib.hid (HS.out.drewN m)
        have HO2 := Lib.hid (HO.out.drewN m)
        have HT2 : Hid (TBox (wr.drewN m) w.heap.size 0 [] 0 0) := HT.out
        generalize hw2 : wr.drewN m = w2 at *
        clear hw2
        go_wp2_with fail
        refine (element_any HS2.out).mono ?_
        rw [HE.out]
        rintro e w3 ⟨rfl, O3⟩
        have HT3 := Lib.hid (HT2.out.keep O3 (by omega))
        have HO3 := Lib.hid (HO2.out.trans O3)
        clear O3
        obtain ⟨d0, d1, d2, d3, f0, f1, f2, f3⟩ := HT3.out.facts
        go_wp2
        refine bodyPost_ret (v := .tuple #[tokV 0 [] 0 0, .int .i64 3]) (TBox.result ((HT3.out).store 0 0 0 []) Tryz.results118 _ rfl _ rfl) rfl (TokPost.bad hT.out rfl ?_)
        exact ((((HO3.out.own (Nat.le_refl _) _ _).own (Nat.le_refl _) _ _).own (Nat.le_refl _) _ _).own (Nat.le_refl _) _ _)
      | some y =>
        obtain ⟨c, n⟩ := y
        have HE := Lib.hid he
        obtain ⟨⟨hn1, hn2, hc⟩, htx⟩ := txt_more (by rw [hx]; exact h34) he
        have HTX := Lib.hid htx
        clear he hx h34 htx
        rw [List.length_drop] at hn2
        go_wp2_with fail
        refine (next_any HS.out).mono ?_; rintro e w2 ⟨rfl, m, rfl⟩; rw [HN.out]
        have HS2 := Lib.hid (HS.out.drewN m)
        have HO2 := Lib.hid (HO.out.drewN m)
        have HT2 : Hid (TBox (wr.drewN m) w.heap.size 0 [] 0 0) := HT.out
        have HB2 : Hid ((wr.drewN m).ownsRow w.heap.size 5 1 u4 xs.length ((xs.map UInt8.toNat).map bv)) := HB.out
        generalize hw2 : wr.drewN m = w2 at *
        clear hw2
        go_wp2_with fail
        refine (element_any HS2.out).mono ?_
        rw [HE.out]
        rintro e w3 ⟨rfl, S3, O3⟩
        have HT3 := Lib.hid (HT2.out.keep O3 (by omega))
        have HB3 := Lib.hid (own_only HB2.out O3 hlt)
        have HO3 := Lib.hid (HO2.out.trans O3)
        have HS3 := Lib.hid S3
        have hB3 := HO3.out.size
        clear O3 S3
        go_wp2_with (at_builtin; refine app1 rfl _ _ 41 rfl 5 (.int .u8 0) info_u8 Tryz.underlying41 rfl w.heap.size _ _ _ rfl HB3.out _ rfl rfl (by unfold Room2; omega) hB3 ?_; intro v' w4 hown4 hf4; have HB4 := Lib.hid hown4; have HF4 := Lib.hid hf4; clear hown4 hf4)
        go_roundg (gk - n)
        case rel =>
          refine ⟨j + n, xs ++ [UInt8.ofNat c], by omega, by omega, by simp; omega, ?_, HO3.out.frm HF4.out (Nat.le_refl _), ?_, ?_, ?_⟩
          · exact ⟨HF4.out.keeps HS3.out.blk (by decide), HS3.out.off, HS3.out.room⟩
          · exact HF4.out.keeps HT3.out (by decide)
          · have h4 := HB4.out
            rw [List.length_append, List.map_append, List.map_append]
            have e : [UInt8.ofNat c].map UInt8.toNat = [c] := by simp [Nat.mod_eq_of_lt hc]
            rw [e]
            exact h4
          · unfold Hid
            rw [HX.out, HTX.out, List.drop_drop]
            cases txt (l.drop (j + n)) with
            | none => rfl
            | some z => simp; omega
        case measure => omega
end
end Go.Proofs.YtpnlojcimeiihaaGreatDoor
