/- Layer 10: two structs that are copied into two boxes, in any order. -/
import Derived.Test.YtekpefcggikcbaaGreatDoorMRegE
import Derived.Test.YtekpefcggikcbaaGreatDoorSynR
import Derived.Deep.LoopGhost
namespace Go.Proofs.YtekpefcggikcbaaGreatDoor
/- Layer 10: two structs that are copied into two boxes, in any order. -/
open Go.RowKit

structure TwI (wi : World) (T : Nat) (va vb iv px py : Value) (cx cy zs : Array Value) (L : Nat → Bool) (vs : Nat → Value) (w : World) : Prop where
 p0 : L 0 = true → vs 0 = va
 p1 : L 1 = true → vs 1 = iv
 p2 : L 2 = true → vs 2 = px
 p3 : L 3 = true → vs 3 = .agg cx
 p4 : L 4 = true → vs 4 = vb
 p5 : L 5 = true → vs 5 = iv
 p6 : L 6 = true → vs 6 = py
 p7 : L 7 = true → vs 7 = .agg cy
 bA : L 8 = true → ∃ b, vs 8 = .pointer (some ⟨b, 0, none⟩) ∧ wi.heap.size ≤ b ∧ Bx w b T (if L 10 = true then cx else zs)
 bB : L 9 = true → ∃ b, vs 9 = .pointer (some ⟨b, 0, none⟩) ∧ wi.heap.size ≤ b ∧ Bx w b T (if L 11 = true then cy else zs)
 ne : L 8 = true → L 9 = true → vs 8 ≠ vs 9
 bel : Below wi.heap.size wi w
section
variable {wi w w' : World} {T : Nat} {va vb iv px py : Value} {cx cy zs : Array Value} {L : Nat → Bool} {vs : Nat → Value}
theorem TwI.start : TwI wi T va vb iv px py cx cy zs (fun _ => false) vs wi.drew :=
 ⟨nopeB rfl, nopeB rfl, nopeB rfl, nopeB rfl, nopeB rfl, nopeB rfl, nopeB rfl, nopeB rfl, nopeB rfl, nopeB rfl, nopeB rfl, (Below.refl _ _).drew⟩
theorem TwI.t0 (h : TwI wi T va vb iv px py cx cy zs L vs w) : TwI wi T va vb iv px py cx cy zs (updB L 0) (updV vs 0 va) w := ⟨fun _ => rfl, h.p1, h.p2, h.p3, h.p4, h.p5, h.p6, h.p7, h.bA, h.bB, h.ne, h.bel⟩
theorem TwI.t1 (h : TwI wi T va vb iv px py cx cy zs L vs w) : TwI wi T va vb iv px py cx cy zs (updB L 1) (updV vs 1 iv) w := ⟨h.p0, fun _ => rfl, h.p2, h.p3, h.p4, h.p5, h.p6, h.p7, h.bA, h.bB, h.ne, h.bel⟩
theorem TwI.t2 (h : TwI wi T va vb iv px py cx cy zs L vs w) : TwI wi T va vb iv px py cx cy zs (updB L 2) (updV vs 2 px) w := ⟨h.p0, h.p1, fun _ => rfl, h.p3, h.p4, h.p5, h.p6, h.p7, h.bA, h.bB, h.ne, h.bel⟩
theorem TwI.t3 (h : TwI wi T va vb iv px py cx cy zs L vs w) : TwI wi T va vb iv px py cx cy zs (updB L 3) (updV vs 3 (.agg cx)) w := ⟨h.p0, h.p1, h.p2, fun _ => rfl, h.p4, h.p5, h.p6, h.p7, h.bA, h.bB, h.ne, h.bel⟩
theorem TwI.t4 (h : TwI wi T va vb iv px py cx cy zs L vs w) : TwI wi T va vb iv px py cx cy zs (updB L 4) (updV vs 4 vb) w := ⟨h.p0, h.p1, h.p2, h.p3, fun _ => rfl, h.p5, h.p6, h.p7, h.bA, h.bB, h.ne, h.bel⟩
theorem TwI.t5 (h : TwI wi T va vb iv px py cx cy zs L vs w) : TwI wi T va vb iv px py cx cy zs (updB L 5) (updV vs 5 iv) w := ⟨h.p0, h.p1, h.p2, h.p3, h.p4, fun _ => rfl, h.p6, h.p7, h.bA, h.bB, h.ne, h.bel⟩
theorem TwI.t6 (h : TwI wi T va vb iv px py cx cy zs L vs w) : TwI wi T va vb iv px py cx cy zs (updB L 6) (updV vs 6 py) w := ⟨h.p0, h.p1, h.p2, h.p3, h.p4, h.p5, fun _ => rfl, h.p7, h.bA, h.bB, h.ne, h.bel⟩
theorem TwI.t7 (h : TwI wi T va vb iv px py cx cy zs L vs w) : TwI wi T va vb iv px py cx cy zs (updB L 7) (updV vs 7 (.agg cy)) w := ⟨h.p0, h.p1, h.p2, h.p3, h.p4, h.p5, h.p6, fun _ => rfl, h.bA, h.bB, h.ne, h.bel⟩
theorem ptr_ne {a b : Nat} (h : a ≠ b) : (Value.pointer (some ⟨a, 0, none⟩)) ≠ .pointer (some ⟨b, 0, none⟩) := fun e => by simp only [Value.pointer.injEq, Option.some.injEq, Addr.mk.injEq] at e; exact h e.1
theorem TwI.t8 (h : TwI wi T va vb iv px py cx cy zs L vs w) (h10 : L 10 = false) : TwI wi T va vb iv px py cx cy zs (updB L 8) (updV vs 8 (.pointer (some ⟨w.heap.size, 0, none⟩))) (w.alloc (.cells zs T)) :=
 have hb : Below w.heap.size w (w.alloc (.cells zs T)) := (Below.refl _ _).alloc (Nat.le_refl _) _
 ⟨h.p0, h.p1, h.p2, h.p3, h.p4, h.p5, h.p6, h.p7, fun _ => ⟨w.heap.size, rfl, h.bel.size, by
  show Bx _ _ _ (if L 10 = true then _ else _)
  rw [h10]; exact Bx.new w _ _⟩, fun h9 => by
  obtain ⟨b, h1, h2, h3⟩ := h.bB h9
  exact ⟨b, h1, h2, h3.below hb⟩, fun _ h9 => by
  obtain ⟨b, h1, h2, h3⟩ := h.bB h9
  have h1' : (updV vs 8 (.pointer (some ⟨w.heap.size, 0, none⟩))) 9 = .pointer (some ⟨b, 0, none⟩) := h1
  rw [h1']
  exact ptr_ne (by have := h3.lt; omega), h.bel.trans (hb.mono h.bel.size)⟩
theorem TwI.t9 (h : TwI wi T va vb iv px py cx cy zs L vs w) (h11 : L 11 = false) : TwI wi T va vb iv px py cx cy zs (updB L 9) (updV vs 9 (.pointer (some ⟨w.heap.size, 0, none⟩))) (w.alloc (.cells zs T)) :=
 have hb : Below w.heap.size w (w.alloc (.cells zs T)) := (Below.refl _ _).alloc (Nat.le_refl _) _
 ⟨h.p0, h.p1, h.p2, h.p3, h.p4, h.p5, h.p6, h.p7, fun h8 => by
  obtain ⟨b, h1, h2, h3⟩ := h.bA h8
  exact ⟨b, h1, h2, h3.below hb⟩, fun _ => ⟨w.heap.size, rfl, h.bel.size, by
  show Bx _ _ _ (if L 11 = true then _ else _)
  rw [h11]; exact Bx.new w _ _⟩, fun h8 _ => by
  obtain ⟨b, h1, h2, h3⟩ := h.bA h8
  have h1' : (updV vs 9 (.pointer (some ⟨w.heap.size, 0, none⟩))) 8 = .pointer (some ⟨b, 0, none⟩) := h1
  rw [h1']
  exact ptr_ne (by have := h3.lt; omega), h.bel.trans (hb.mono h.bel.size)⟩
theorem Bx.rowO {w : World} {b k T : Nat} {old cs : Array Value} (h : Bx w b T old) (hk : b ≠ k) : Bx (w.setRow k cs) b T old := (setRow_other w k b cs hk).trans h
theorem TwI.t10 (h : TwI wi T va vb iv px py cx cy zs L vs w) {b : Nat} (hv : vs 8 = .pointer (some ⟨b, 0, none⟩)) (h8 : L 8 = true) (hwb : wi.heap.size ≤ b) {old : Array Value} (hx : Bx w b T old) : TwI wi T va vb iv px py cx cy zs (updB L 10) (updV vs 10 undef) (w.setRow b cx) :=
 ⟨h.p0, h.p1, h.p2, h.p3, h.p4, h.p5, h.p6, h.p7, fun _ => ⟨b, hv, hwb, hx.row⟩, fun h9 => by
  obtain ⟨b2, h1, h2, h3⟩ := h.bB h9
  exact ⟨b2, h1, h2, h3.rowO fun e => h.ne h8 h9 (by rw [hv, h1, e])⟩, h.ne, h.bel.trans ⟨rfl, rfl, rfl, by simp [World.setRow], fun k hk => setRow_other w b k _ (by omega)⟩⟩
theorem TwI.t11 (h : TwI wi T va vb iv px py cx cy zs L vs w) {b : Nat} (hv : vs 9 = .pointer (some ⟨b, 0, none⟩)) (h9 : L 9 = true) (hwb : wi.heap.size ≤ b) {old : Array Value} (hx : Bx w b T old) : TwI wi T va vb iv px py cx cy zs (updB L 11) (updV vs 11 undef) (w.setRow b cy) :=
 ⟨h.p0, h.p1, h.p2, h.p3, h.p4, h.p5, h.p6, h.p7, fun h8 => by
  obtain ⟨b2, h1, h2, h3⟩ := h.bA h8
  exact ⟨b2, h1, h2, h3.rowO fun e => h.ne h8 h9 (by rw [hv, h1, e])⟩, fun _ => ⟨b, hv, hwb, hx.row⟩, h.ne, h.bel.trans ⟨rfl, rfl, rfl, by simp [World.setRow], fun k hk => setRow_other w b k _ (by omega)⟩⟩
theorem TwI.fin (h : TwI wi T va vb iv px py cx cy zs L vs w) (ha : ∀ i, i < 12 → L i = true) : Below wi.heap.size wi w ∧ ∃ b1 b2, vs 8 = .pointer (some ⟨b1, 0, none⟩) ∧ vs 9 = .pointer (some ⟨b2, 0, none⟩) ∧ wi.heap.size ≤ b1 ∧ wi.heap.size ≤ b2 ∧ Bx w b1 T cx ∧ Bx w b2 T cy := by
 obtain ⟨b1, h1, h2, h3⟩ := h.bA (ha 8 (by decide))
 obtain ⟨b2, h4, h5, h6⟩ := h.bB (ha 9 (by decide))
 rw [if_pos (ha 10 (by decide))] at h3
 rw [if_pos (ha 11 (by decide))] at h6
 exact ⟨h.bel, b1, b2, h1, h4, h2, h5, h3, h6⟩
end
/- Layer 9: the contracts of the reference's sorts of bytes, in, IsName, IsWord. -/
open Go.RowKit

theorem rletter_any (n : Nat) (w : World) : Calls Tryz.prog 137 #[.int .u8 (n : Int)] w (BoolIs (cL n) w) := by
 go_enter Tryz.func137, Tryz.ntmps137
 go_wp2
 all_goals
  go_ret
  refine BoolIs.mk ?_
  rw [Bool.eq_iff_iff]
  simp [cL]
  omega
theorem rdigit_any (n : Nat) (w : World) : Calls Tryz.prog 139 #[.int .u8 (n : Int)] w (BoolIs (cD n) w) := by
 go_enter Tryz.func139, Tryz.ntmps139
 go_wp2
 all_goals
  go_ret
  refine BoolIs.mk ?_
  rw [Bool.eq_iff_iff]
  simp [cD]
  omega
theorem rinner_any (n : Nat) (w : World) : Calls Tryz.prog 138 #[.int .u8 (n : Int)] w (BoolIs (cN n) w) := by
 cases h1 : cL n with
 | true =>
  have H : Hid (cN n = true) := by simp [Hid, cN, h1]
  go_enter Tryz.func138, Tryz.ntmps138
  go_wp2_with (refine (rletter_any _ _).mono ?_; rintro e w' ⟨rfl, rfl⟩)
  all_goals
   go_ret
   exact BoolIs.mk H.out.symm
 | false =>
  cases h2 : cD n with
  | true =>
   have H : Hid (cN n = true) := by simp [Hid, cN, h1, h2]
   go_enter Tryz.func138, Tryz.ntmps138
   go_wp2_with (first | (go_at_call 137; refine (rletter_any _ _).mono ?_; rintro e w' ⟨rfl, rfl⟩) | (go_at_call 139; refine (rdigit_any _ _).mono ?_; rintro e w' ⟨rfl, rfl⟩))
   all_goals
    go_ret
    exact BoolIs.mk H.out.symm
  | false =>
   have H : Hid (cN n = decide (n = 95)) := by simp [Hid, cN, h1, h2]
   go_enter Tryz.func138, Tryz.ntmps138
   go_wp2_with (first | (go_at_call 137; refine (rletter_any _ _).mono ?_; rintro e w' ⟨rfl, rfl⟩) | (go_at_call 139; refine (rdigit_any _ _).mono ?_; rintro e w' ⟨rfl, rfl⟩))
   all_goals
    go_ret
    refine BoolIs.mk ?_
    rw [H.out, Bool.eq_iff_iff]
    simp
    omega
def InRel (L : List (List UInt8)) (x : List UInt8) (v : Value) : Prop := ∃ k : Nat, k ≤ L.length ∧ v = .int .i64 (k : Int) ∧ x ∉ L.take k
theorem in_any (g : Nat) (L : List (List UInt8)) (x : List UInt8) (w : World) (hc : ∀ (j : Nat) (u : List UInt8), L[j]? = some u → w.cell? ⟨g, j, none⟩ = some (.string (ofL u))) (hl : L.length ≤ 1000) :
  Calls Tryz.prog 142 #[.slice (some ⟨g, 0, none⟩) L.length L.length, .string (ofL x)] w (BoolIs (decide (x ∈ L)) w) := by
 have HC := Lib.hid hc
 clear hc
 obtain ⟨s, hs⟩ : ∃ s, s = ofL x := ⟨_, rfl⟩
 have HS := Lib.hid hs
 rw [← hs]
 clear hs
 go_enter Tryz.func142, Tryz.ntmps142
 go_wp2
 go_loop [5] (InRel L x) (fun i => L.length - (intOf i).toNat)
 case atStart => exact ⟨0, by omega, rfl, by simp⟩
 case round =>
  obtain ⟨k, hk, rfl, hn⟩ := hrel
  have HN := Lib.hid hn
  clear hn
  by_cases hlt : k < L.length
  ·obtain ⟨u, hu⟩ : ∃ u, L[k]? = some u := ⟨L[k], List.getElem?_eq_getElem hlt⟩
   have hcell := HC.out k u hu
   obtain ⟨t, ht⟩ : ∃ t, t = ofL u := ⟨_, rfl⟩
   rw [← ht] at hcell
   have htl : t.toList = u := by rw [ht, ofL_toList]
   have hsl : s.toList = x := by rw [HS.out, ofL_toList]
   have HU := Lib.hid hu
   clear hu ht
   by_cases he : u = x
   ·have heq : t.toList = s.toList := by rw [htl, hsl, he]
    have hb : Hid (decide (x ∈ L) = true) := by
     unfold Hid
     rw [decide_eq_true_iff, ← he]
     exact List.mem_of_getElem? HU.out
    clear htl hsl he
    have heq2 : (t.toList == s.toList) = true := by simpa using heq
    clear heq
    go_wp2
    go_ret
    exact BoolIs.mk hb.out.symm
   ·have hne : (t.toList == s.toList) = false := by rw [htl, hsl]; simpa using he
    have HNE := Lib.hid he
    clear htl hsl he
    go_wp2
    go_round
    case rel =>
     refine ⟨k + 1, by omega, by go_num, ?_⟩
     rw [List.take_add_one, HU.out]
     intro h
     rcases List.mem_append.1 h with h | h
     ·exact HN.out h
     ·simp at h; exact HNE.out h.symm
    case measure => simp [intOf]; omega
  ·have hb : Hid (decide (x ∈ L) = false) := by
    have := HN.out
    rw [List.take_of_length_le (by omega)] at this
    unfold Hid
    simpa using this
   go_wp2
   go_ret
   exact BoolIs.mk hb.out.symm
def RnRel (l : List UInt8) (v : Value) : Prop := ∃ k : Nat, k ≤ l.length ∧ v = .int .i64 (k : Int) ∧ ∀ (j : Nat) (c : UInt8), j < k → l[j]? = some c → cN c.toNat = true
set_option maxHeartbeats 1000000 in
theorem risName_any (l : List UInt8) (w : World) (hl : l.length ≤ 1000) : Calls Tryz.prog 163 #[.string (ofL l)] w (BoolIs (nmB l) w) := by
 obtain ⟨s, hs⟩ : ∃ s, s = ofL l := ⟨_, rfl⟩
 have hsz : s.size = l.length := by rw [hs, ofL_size]
 have hsl : s.toList = l := by rw [hs, ofL_toList]
 rw [← hs]
 have HS := Lib.hid hs
 have HZ := Lib.hid hsz
 by_cases h0 : 1 ≤ l.length
 ·have hne : s.toList ≠ [] := by rw [hsl]; intro e; rw [e] at h0; simp at h0
  have hne2 : (s.toList == []) = false := by simpa using hne
  have h1 : 0 < s.size := by omega
  have hg : s[0].toNat = nxt l := by
   subst hs
   rw [ofL_get l 0 h1, ← nxt_at (k := 0) (by omega), List.drop_zero]
  have HG := Lib.hid hg
  cases hc : cL (nxt l) with
  | true =>
   have HC := Lib.hid hc
   by_cases h16 : l.length ≤ 16
   ·have h2 : s.size ≤ 16 := by omega
    have HB : Hid (nmB l = decide (spn cN l = l.length)) := by unfold Hid nmB; rw [hc]; simp [h0, h16]
    clear hs hsz hsl h0 hg hc
    go_enter Tryz.func163, Tryz.ntmps163
    go_wp2_with fail
    refine (rletter_any _ _).mono ?_; rintro e w1 ⟨rfl, rfl⟩; rw [HG.out, HC.out]
    go_wp2
    go_loop [3] (RnRel l) (fun i => l.length - (intOf i).toNat)
    case atStart => exact ⟨0, by omega, rfl, by omega⟩
    case round =>
     obtain ⟨k, hk, rfl, hn⟩ := hrel
     have HN := Lib.hid hn
     clear hn
     by_cases hlt : k < s.size
     ·obtain ⟨c, hcc⟩ : ∃ c, l[k]? = some c := ⟨l[k]'(by have := HZ.out; omega), List.getElem?_eq_getElem _⟩
      have hg : (s[k]'hlt).toNat = c.toNat := by
       have e : s[k]'hlt = c := by
        have := HS.out
        subst this
        rw [ofL_get]
        exact (List.getElem?_eq_some_iff.1 hcc).2
       rw [e]
      have HG2 := Lib.hid hg
      have HCC := Lib.hid hcc
      clear hg hcc
      cases hcn : cN c.toNat with
      | true =>
       have HCN := Lib.hid hcn
       clear hcn
       go_wp2_with fail
       refine (rinner_any _ _).mono ?_; rintro e w1 ⟨rfl, rfl⟩; rw [HG2.out, HCN.out]
       go_wp2
       go_round
       case rel =>
        refine ⟨k + 1, by have := HZ.out; omega, by go_num, fun j d hj hd => ?_⟩
        by_cases e : j = k
        ·subst e; rw [HCC.out] at hd; cases hd; exact HCN.out
        ·exact HN.out j d (by omega) hd
       case measure => have := HZ.out; simp [intOf]; omega
      | false =>
       have HCN := Lib.hid hcn
       clear hcn
       go_wp2_with fail
       refine (rinner_any _ _).mono ?_; rintro e w1 ⟨rfl, rfl⟩; rw [HG2.out, HCN.out]
       go_wp2
       go_ret
       refine BoolIs.mk ?_
       rw [HB.out]
       have := spn_eq (p := cN) (l := l) (k := k) hk HN.out (fun d hd => by rw [HCC.out] at hd; cases hd; exact HCN.out)
       rw [this]
       have := HZ.out
       symm; simp; omega
     ·go_wp2
      go_ret
      refine BoolIs.mk ?_
      rw [HB.out]
      have := HZ.out
      have := spn_eq (p := cN) (l := l) (k := k) hk HN.out (fun d hd => by rw [List.getElem?_eq_none (by omega)] at hd; cases hd)
      rw [this]
      symm; simp; omega
   ·have h2 : ¬ s.size ≤ 16 := by omega
    have HB : Hid (nmB l = false) := by unfold Hid nmB; simp [h16]
    clear hs hsz hsl h0 hg hc h16
    go_enter Tryz.func163, Tryz.ntmps163
    go_wp2_with fail
    refine (rletter_any _ _).mono ?_; rintro e w1 ⟨rfl, rfl⟩; rw [HG.out, HC.out]
    go_wp2
    go_ret
    exact BoolIs.mk HB.out.symm
  | false =>
   have HC := Lib.hid hc
   have HB : Hid (nmB l = false) := by unfold Hid nmB; rw [hc]; simp
   clear hs hsz hsl h0 hg hc
   go_enter Tryz.func163, Tryz.ntmps163
   go_wp2_with fail
   refine (rletter_any _ _).mono ?_; rintro e w1 ⟨rfl, rfl⟩; rw [HG.out, HC.out]
   go_wp2
   go_ret
   exact BoolIs.mk HB.out.symm
 ·have hne : s.toList = [] := by rw [hsl]; exact List.eq_nil_of_length_eq_zero (by omega)
  have hne2 : (s.toList == []) = true := by rw [hne]; rfl
  have HB : Hid (nmB l = false) := by unfold Hid nmB; simp [h0]
  clear hs hsz hsl h0
  go_enter Tryz.func163, Tryz.ntmps163
  go_wp2
  go_ret
  exact BoolIs.mk HB.out.symm
def BelowB (b : Bool) (w : World) (e : Ending) (w' : World) : Prop := e = .returned (.bool b) ∧ Below w.heap.size w w'
theorem risWord_any (l : List UInt8) (w : World) (hl : l.length ≤ 1000) : Calls Tryz.prog 97 #[.string (ofL l)] w (BelowB (wdB l) w) := by
 cases hn : nmB l with
 | true =>
  have HN := Lib.hid hn
  have hb := Lib.hid (show wdB l = !decide (l ∈ kws) by unfold wdB kwB; rw [hn]; rfl)
  have hin := Lib.hid (in_any w.heap.size kws l (w.alloc (.cells kwCells 9)) (fun j u hu => by
   rw [cell_of_row _ w.heap.size j _ _ _ (heap_alloc_new w _)]
   unfold kwCells
   rw [List.getElem?_toArray, List.getElem?_map, hu]
   rfl) (by decide))
  clear hn
  go_enter Tryz.func97, Tryz.ntmps97
  go_wp2_with fail
  refine (risName_any _ _ hl).mono ?_; rintro e w1 ⟨rfl, rfl⟩; rw [HN.out]
  go_wp2_with fail
  refine (keywords_any _).mono ?_; rintro e w1 ⟨rfl, rfl⟩
  go_wp2_with fail
  refine hin.out.mono ?_; rintro e w1 ⟨rfl, rfl⟩
  go_wp2
  go_ret
  refine ⟨?_, (Below.refl _ _).alloc (Nat.le_refl _) _⟩
  rw [hb.out]; rfl
 | false =>
  have HN := Lib.hid hn
  have hb := Lib.hid (show wdB l = false by unfold wdB; rw [hn]; rfl)
  clear hn
  go_enter Tryz.func97, Tryz.ntmps97
  go_wp2_with fail
  refine (risName_any _ _ hl).mono ?_; rintro e w1 ⟨rfl, rfl⟩; rw [HN.out]
  go_wp2
  go_ret
  exact ⟨by rw [hb.out]; rfl, Below.refl _ _⟩
/- Layer 10: the contract of items, as deep as there are tokens. -/
open Go.RowKit

section
variable {E : Nat} {s : St} {p : P (List It)}
theorem sendP_dec : Dec (sendP E) := wordP_dec.bind fun _ => (expectP_dec _).bind fun _ => wordsP_dec.bind fun _ => (expectP_dec _).bind fun _ => pathP_dec.bind fun _ => (expectP_dec _).bind fun _ => Dec.pure _
theorem againP_dec : Dec (againP E) := pathP_dec.bind fun _ => (expectP_dec _).bind fun _ => Dec.pure _
theorem callP_dec : Dec (callP E) := wordP_dec.bind fun _ => (expectP_dec _).bind fun _ => wordsP_dec.bind fun _ => (expectP_dec _).bind fun _ => (expectP_dec _).bind fun _ => wordP_dec.bind fun _ => (expectP_dec _).bind fun _ => Dec.pure _
theorem choiceP_dec (hp : Dec p) : Dec (choiceP E p) := (expectP_dec _).bind fun _ => wordP_dec.bind fun _ => withinP_dec.bind fun _ => (sepP_dec (blockP_dec hp)).bind fun _ => (elseP_dec hp _ _).bind fun _ => Dec.pure _
theorem loopP_dec (hp : Dec p) : Dec (loopP E p) := pathP_dec.bind fun _ => (blockP_dec hp).bind fun _ => Dec.pure _
theorem parP_dec (hp : Dec p) : Dec (parP E p) := (blockP_dec hp).bind fun _ => (expectP_dec _).bind fun _ => (sepP_dec (blockP_dec hp)).bind fun _ => Dec.pure _
theorem itemP_dec (hp : Dec p) : Dec (itemP E p) := (takeP_dec _).bind fun _ => Dec.ite (choiceP_dec hp) ((takeP_dec _).bind fun _ => Dec.ite (loopP_dec hp) ((takeP_dec _).bind fun _ => Dec.ite againP_dec ((takeP_dec _).bind fun _ => Dec.ite (parP_dec hp) ((takeP_dec _).bind fun _ => Dec.ite callP_dec sendP_dec))))
theorem readS_eats (b : Bool) (h : s.r ≠ []) (he : s.e ≠ 0 → s.r = []) : (readS E b s).2.r.length < s.r.length := by
 have hl := List.length_pos_iff.2 h
 cases b with
 | true => rw [readS_yes]; simp; omega
 | false =>
  rw [readS_no]
  have h0 : s.e = 0 := Decidable.byContradiction fun h1 => h (he h1)
  show (failS E 3 s).r.length < _
  rw [failS_ok 3 h0]
  simpa using hl
theorem expectP_eats (x : Bs) (h : s.r ≠ []) (he : s.e ≠ 0 → s.r = []) : (expectP E x s).2.r.length < s.r.length := readS_eats _ h he
theorem itemP_eats (hp : Dec p) (h : s.r ≠ []) (he : s.e ≠ 0 → s.r = []) : (itemP E p s).2.r.length < s.r.length := by
 cases hb0 : (takeP E [99, 104, 111, 105, 99, 101] s).1 with
 | true =>
  have hR : itemP E p s = (choiceP E p) (takeP E [99, 104, 111, 105, 99, 101] s).2 := by unfold itemP; refine (take_yes hb0).trans ?_; rfl
  rw [hR]; have h1 := takeP_yes hb0; have h2 := (choiceP_dec (E := E) hp) (takeP E [99, 104, 111, 105, 99, 101] s).2; omega
 | false =>
  cases hb1 : (takeP E [108, 111, 111, 112] s).1 with
  | true =>
   have hR : itemP E p s = (loopP E p) (takeP E [108, 111, 111, 112] s).2 := by unfold itemP; refine (take_no hb0).trans ?_; rw [takeP_no hb0]; refine (take_yes hb1).trans ?_; rfl
   rw [hR]; have h1 := takeP_yes hb1; have h2 := (loopP_dec (E := E) hp) (takeP E [108, 111, 111, 112] s).2; omega
  | false =>
   cases hb2 : (takeP E [97, 103, 97, 105, 110] s).1 with
   | true =>
    have hR : itemP E p s = (againP E) (takeP E [97, 103, 97, 105, 110] s).2 := by unfold itemP; refine (take_no hb0).trans ?_; rw [takeP_no hb0]; refine (take_no hb1).trans ?_; rw [takeP_no hb1]; refine (take_yes hb2).trans ?_; rfl
    rw [hR]; have h1 := takeP_yes hb2; have h2 := (againP_dec (E := E)) (takeP E [97, 103, 97, 105, 110] s).2; omega
   | false =>
    cases hb3 : (takeP E [112, 97, 114] s).1 with
    | true =>
     have hR : itemP E p s = (parP E p) (takeP E [112, 97, 114] s).2 := by unfold itemP; refine (take_no hb0).trans ?_; rw [takeP_no hb0]; refine (take_no hb1).trans ?_; rw [takeP_no hb1]; refine (take_no hb2).trans ?_; rw [takeP_no hb2]; refine (take_yes hb3).trans ?_; rfl
     rw [hR]; have h1 := takeP_yes hb3; have h2 := (parP_dec (E := E) hp) (takeP E [112, 97, 114] s).2; omega
    | false =>
     cases hb4 : (takeP E [99, 97, 108, 108] s).1 with
     | true =>
      have hR : itemP E p s = (callP E) (takeP E [99, 97, 108, 108] s).2 := by unfold itemP; refine (take_no hb0).trans ?_; rw [takeP_no hb0]; refine (take_no hb1).trans ?_; rw [takeP_no hb1]; refine (take_no hb2).trans ?_; rw [takeP_no hb2]; refine (take_no hb3).trans ?_; rw [takeP_no hb3]; refine (take_yes hb4).trans ?_; rfl
      rw [hR]; have h1 := takeP_yes hb4; have h2 := (callP_dec (E := E)) (takeP E [99, 97, 108, 108] s).2; omega
     | false =>
      have hR : itemP E p s = sendP E s := by unfold itemP; refine (take_no hb0).trans ?_; rw [takeP_no hb0]; refine (take_no hb1).trans ?_; rw [takeP_no hb1]; refine (take_no hb2).trans ?_; rw [takeP_no hb2]; refine (take_no hb3).trans ?_; rw [takeP_no hb3]; refine (take_no hb4).trans ?_; rw [takeP_no hb4]
      rw [hR]
      exact Nat.lt_of_le_of_lt (((expectP_dec _).bind fun _ => wordsP_dec.bind fun _ => (expectP_dec _).bind fun _ => pathP_dec.bind fun _ => (expectP_dec _).bind fun _ => Dec.pure (It.mk 1 (wordP E s).1 _ _ [] 0 [])) (wordP E s).2) (readS_eats _ h he)
theorem itemsL_no {q : P It} (n : Nat) (h : ¬ (s.r ≠ [] ∧ seesB E [125] s = false)) : itemsL E q n s = ([], s) := by
 cases n with
 | zero => rfl
 | succ n => show (if s.r ≠ [] ∧ seesB E [125] s = false then _ else _) = _; rw [if_neg h]
theorem itemsL_yes {q : P It} (n : Nat) (h : s.r ≠ [] ∧ seesB E [125] s = false) : itemsL E q (n + 1) s = ((q s).1 :: (itemsL E q n (q s).2).1, (itemsL E q n (q s).2).2) := by
 show (if s.r ≠ [] ∧ seesB E [125] s = false then _ else _) = _
 rw [if_pos h]
 rfl
theorem itemsL_dec {q : P It} (hq : Dec q) : ∀ n, Dec (itemsL E q n)
 | 0 => Dec.pure _
 | n + 1 => Dec.fork (hq.bind fun _ => (itemsL_dec hq n).bind fun _ => Dec.pure _) (Dec.pure _)
theorem itemsP_dec {q : P It} (hq : Dec q) : Dec (itemsP E q) := fun s => Nat.le_trans (expectP_dec _ _) (itemsL_dec hq _ s)
theorem itemsN_dec : ∀ n, Dec (itemsN E n)
 | 0 => Dec.pure _
 | n + 1 => itemsP_dec (itemP_dec (itemsN_dec n))
theorem bodyP_dec : Dec (bodyP E) := fun s => itemsN_dec _ s
end
def ItRel (w : World) (g E B : Nat) (q : P It) (l0 : Nat) (R : List It × St) (gk : Nat) (v : Value) (wr : World) : Prop :=
 ∃ (acc : List It) (s1 : St), s1.r.length ≤ gk ∧ s1.r.length ≤ l0 ∧ acc.length + gk ≤ 8000 ∧ Hid (Bld wr B 70 7 v acc.length (acc.flatMap dIt)) ∧ Hid (Prs wr g E s1) ∧ Hid (Only g w wr) ∧
  Hid (R.1 = acc ++ (itemsL E q gk s1).1) ∧ Hid (R.2 = (itemsL E q gk s1).2)
theorem info_item : (Tryz.prog.info? 70).map (fun i => (i.zero, i.size, i.bytes)) = some (some (.agg #[.int .i64 0, .string ⟨#[]⟩, .slice none 0 0, .string ⟨#[]⟩, .string ⟨#[]⟩, .int .i64 0, .slice none 0 0]), 7, 112) := by kernel_rfl
section
variable {w w' : World} {g E n : Nat} {s : St} {p : P (List It)}
set_option maxRecDepth 20000 in
set_option maxHeartbeats 2000000 in
theorem pitems_any (hp : Dec p) (HI : ItemsOK g E n p) (h : Prs w g E s) (hn : s.r.length < n + 1) : Calls Tryz.prog 136 #[.pointer (some ⟨g, 0, none⟩)] w (GotD w g E (itemsP E (itemP E p) s).2 (dB (itemsP E (itemP E p) s).1)) := by
 obtain ⟨R, hR⟩ : ∃ R, itemsL E (itemP E p) s.r.length s = R := ⟨_, rfl⟩
 have HRR := Lib.hid (show itemsP E (itemP E p) s = (R.1, (expectP E [125] R.2).2) by subst hR; rfl)
 rw [HRR.out]
 have hlt := h.lt
 have HR := Lib.hid hR
 have H := Lib.hid h
 have HPD := Lib.hid hp
 have HI2 := Lib.hid HI
 have hl8 := h.small.len
 obtain ⟨l0, hl0⟩ : ∃ l0, s.r.length = l0 := ⟨_, rfl⟩
 rw [hl0] at hn hl8
 have HL0 := Lib.hid hl0
 have HSE := Lib.hid (fun w s (h : Prs w g E s) => psees_any h [125])
 clear h hR hp HI hl0
 go_enter Tryz.func136, Tryz.ntmps136
 go_wp2_with fail
 go_loopg [3, 4, 5, 6, 7, 8, 9, 10, 11, 12, 13, 14, 15] l0 (fun gk v _ _ _ _ _ _ _ _ _ _ _ _ wr => ItRel w g E w.heap.size (itemP E p) l0 R gk v wr)
 case atStart =>
  refine ⟨[], s, by have := HL0.out; omega, by have := HL0.out; omega, by simpa using hl8, Bld.nil _ _ _ _, H.out, Only.refl _ _, ?_, ?_⟩
  ·unfold Hid; rw [← HR.out, HL0.out]; rfl
  ·unfold Hid; rw [← HR.out, HL0.out]
 case round =>
  clear H
  obtain ⟨acc, s2, hr2, hrl, hacc, HB, HS, HO, HE1, HE2⟩ := hrel
  have stop : ¬ (s2.r ≠ [] ∧ seesB E [125] s2 = false) → R = (acc, s2) := fun hno => by
   have h1 := HE1.out
   have h2 := HE2.out
   rw [itemsL_no _ hno] at h1 h2
   rw [List.append_nil] at h1
   exact Prod.ext h1 h2
  have HST := Lib.hid stop
  clear stop
  by_cases hne : s2.r = []
  ·have hm := Lib.hid (show decide (s2.r ≠ []) = false by simpa using hne)
   have HX := Lib.hid (HST.out (fun h => h.1 hne))
   clear hne
   go_wp2_with fail
   refine (pmore_any HS.out).mono ?_; rintro e w2 ⟨rfl, m, rfl⟩; rw [hm.out]
   have P2 := Lib.hid (HS.out.drewN m)
   have O2 := Lib.hid (show Only g w (wr.drewN m) from HO.out.drewN m)
   have B2 := Lib.hid (HB.out.drewN m)
   go_wp2_with fail
   refine (pexpect_any P2.out [125]).mono ?_; rintro e w3 ⟨rfl, P3, O3⟩
   have P3' := Lib.hid P3
   have O3' := Lib.hid (O2.out.trans O3)
   have B3' := Lib.hid (B2.out.only O3 hlt)
   clear P3 O3
   go_wp2_with fail
   go_ret
   refine ⟨_, rfl, ?_, by rw [HX.out]; exact P3'.out, O3'.out⟩
   rw [HX.out]
   show Lies _ _ _ (.s 7 (dIs acc))
   rw [dIs_map]
   exact B3'.out.lies
  ·have hm := Lib.hid (show decide (s2.r ≠ []) = true by simpa using hne)
   cases hse : seesB E [125] s2 with
   | true =>
    have HX := Lib.hid (HST.out (fun h => by rw [hse] at h; exact absurd h.2 (by decide)))
    have HSE2 := Lib.hid hse
    clear hne hse
    go_wp2_with fail
    refine (pmore_any HS.out).mono ?_; rintro e w2 ⟨rfl, m, rfl⟩; rw [hm.out]
    have P2 := Lib.hid (HS.out.drewN m)
    have O2 := Lib.hid (show Only g w (wr.drewN m) from HO.out.drewN m)
    have B2 := Lib.hid (HB.out.drewN m)
    go_wp2_with fail
    refine (HSE.out _ _ P2.out).mono ?_; rintro e w3 ⟨rfl, hb3⟩; rw [HSE2.out]
    have P3 := Lib.hid (P2.out.below hb3 P2.out.lt)
    have O3 := Lib.hid (O2.out.below hb3)
    have B3 := Lib.hid (B2.out.only ((Only.refl g _).below hb3) hlt)
    clear hb3
    go_wp2_with fail
    refine (pexpect_any P3.out [125]).mono ?_; rintro e w4 ⟨rfl, P4, O4⟩
    have P4' := Lib.hid P4
    have O4' := Lib.hid (O3.out.trans O4)
    have B4' := Lib.hid (B3.out.only O4 hlt)
    clear P4 O4
    go_wp2_with fail
    go_ret
    refine ⟨_, rfl, ?_, by rw [HX.out]; exact P4'.out, O4'.out⟩
    rw [HX.out]
    show Lies _ _ _ (.s 7 (dIs acc))
    rw [dIs_map]
    exact B4'.out.lies
   | false =>
    have heat := itemP_eats (E := E) HPD.out hne HS.out.err
    obtain ⟨gn, rfl⟩ : ∃ gn, gk = gn + 1 := ⟨gk - 1, by have := List.length_pos_iff.2 hne; omega⟩
    obtain ⟨s4, hs4⟩ : ∃ s4, (itemP E p s2).2 = s4 := ⟨_, rfl⟩
    obtain ⟨it, hit⟩ : ∃ it, (itemP E p s2).1 = it := ⟨_, rfl⟩
    rw [hs4] at heat
    have HE3 := Lib.hid (show R.1 = acc ++ it :: (itemsL E (itemP E p) gn s4).1 by have h1 := HE1.out; rw [itemsL_yes _ ⟨hne, hse⟩, hs4, hit] at h1; exact h1)
    have HE4 := Lib.hid (show R.2 = (itemsL E (itemP E p) gn s4).2 by have h1 := HE2.out; rw [itemsL_yes _ ⟨hne, hse⟩, hs4] at h1; exact h1)
    have HSE2 := Lib.hid hse
    have HS4 := Lib.hid hs4
    have HIT := Lib.hid hit
    have hl4 : s4.r.length ≤ gn := by omega
    have hl5 : s4.r.length ≤ l0 := by omega
    have HLT := Lib.hid (show s2.r.length < n + 1 by omega)
    clear hne hse hs4 hit HE1 HE2 heat
    go_wp2_with fail
    refine (pmore_any HS.out).mono ?_; rintro e w2 ⟨rfl, m, rfl⟩; rw [hm.out]
    have P2 := Lib.hid (HS.out.drewN m)
    have O2 := Lib.hid (show Only g w (wr.drewN m) from HO.out.drewN m)
    have B2 := Lib.hid (HB.out.drewN m)
    go_wp2_with fail
    refine (HSE.out _ _ P2.out).mono ?_; rintro e w3 ⟨rfl, hb3⟩; rw [HSE2.out]
    have P3 := Lib.hid (P2.out.below hb3 P2.out.lt)
    have O3 := Lib.hid (O2.out.below hb3)
    have B3 := Lib.hid (B2.out.only ((Only.refl g _).below hb3) hlt)
    clear hb3
    go_wp2_with fail
    refine (pitem_any HPD.out HI2.out P3.out HLT.out).mono ?_; rintro e w4 ⟨cs, rfl, LV, P4, O4⟩
    rw [HS4.out] at P4
    rw [HIT.out] at LV
    obtain ⟨kk, fr, to, nm, al, tk, bl⟩ := it
    obtain ⟨A, m1, c1, A2, m2, c2, hcs⟩ := it_shape LV
    obtain rfl : cs = #[.int .i64 kk, .string (ofL fr), .slice A m1 c1, .string (ofL nm), .string (ofL al), .int .i64 tk, .slice A2 m2 c2] := by rw [← Array.toArray_toList (xs := cs), hcs]
    have P4' := Lib.hid P4
    have O4' := Lib.hid (O3.out.trans O4)
    have B4' := Lib.hid (B3.out.only O4 hlt)
    have LV' := Lib.hid (show LiesL w4 (fun k => w.heap.size ≤ k ∧ u3.ownBlock ≠ some k) [.int .i64 kk, .string (ofL fr), .slice A m1 c1, .string (ofL nm), .string (ofL al), .int .i64 tk, .slice A2 m2 c2] (dIt (.mk kk fr to nm al tk bl)) from LV.mono fun k _ hk => ⟨Nat.le_trans O3.out.size hk, fun e => by have := B3.out.lt e; omega⟩)
    clear P4 O4 LV hcs
    have hsz4 : w.heap.size ≤ w4.heap.size := O4'.out.size
    have hby : (acc.length + 1) * 112 ≤ 140737488355328 := by omega
    go_wp2_with (at_builtin; refine appD rfl _ _ 57 rfl 70 _ 7 112 info_item rfl (by decide) Tryz.underlying57 w.heap.size u3 _ _ rfl B4'.out _ (dIt (.mk kk fr to nm al tk bl)) rfl rfl LV'.out hby hsz4 ?_ (by decide); intro v' w8 hown8 hg8; have hV8 := Lib.hid hown8; have hF8 := Lib.hid (grown_below B4'.out hg8 hsz4); clear hown8 hg8)
    go_roundg gn
    case rel =>
     refine ⟨acc ++ [.mk kk fr to nm al tk bl], s4, hl4, hl5, by simp; omega, ?_, P4'.out.below hF8.out hlt, O4'.out.to hF8.out, ?_, HE4⟩
     ·have := hV8.out
      unfold Hid
      rw [List.length_append, List.flatMap_append]
      simpa using this
     ·unfold Hid; rw [HE3.out, List.append_assoc]; rfl
    case measure => omega
theorem items_ok : ∀ n, ItemsOK g E n (itemsN E n)
 | 0 => fun _ _ hn _ => absurd hn (Nat.not_lt_zero _)
 | n + 1 => fun _ _ hn h => pitems_any (itemsN_dec n) (items_ok n) h hn
theorem pbody_any (h : Prs w g E s) : Calls Tryz.prog 136 #[.pointer (some ⟨g, 0, none⟩)] w (GotD w g E (bodyP E s).2 (dB (bodyP E s).1)) := items_ok _ _ _ (Nat.lt_succ_self _) h
end
end Go.Proofs.YtekpefcggikcbaaGreatDoor
