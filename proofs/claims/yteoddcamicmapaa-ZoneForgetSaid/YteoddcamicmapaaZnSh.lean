/- Layer 13: the contract of shorten (tools/gen_zs.py). -/
import Derived.Test.YteoddcamicmapaaZnPm
namespace Go.Proofs.Yteoddcamicmapaa
open Go.RowKit

theorem addr_lit0 (b k : Nat) : (⟨b, 0, none⟩ : Addr).add k = ⟨b, k, none⟩ := by unfold Addr.add; split <;> simp_all
theorem own_at {w : World} {B g n cap : Nat} {l : List Int} (h : w.ownsRow B 3 1 (.slice (some ⟨g, 0, none⟩) n cap) n (l.map iv)) (r : Nat) (hr : r < l.length) : w.cell? ⟨g, r, none⟩ = some (.int .i64 l[r]) := by
  have hl : l.length = n := by simpa using h.1
  rw [h.cellAt r (by omega), List.getElem?_map, List.getElem?_eq_getElem hr]; rfl
theorem own_put {w : World} {B g n cap : Nat} {l : List Int} (h : w.ownsRow B 3 1 (.slice (some ⟨g, 0, none⟩) n cap) n (l.map iv)) (r : Nat) (x : Int) : (w.setCell ⟨g, r, none⟩ (.int .i64 x)).ownsRow B 3 1 (.slice (some ⟨g, 0, none⟩) n cap) n ((l.set r x).map iv) := by
  have := (h.stored r (iv x)).1
  rwa [← List.map_set] at this
/-- A row of the call's own. -/
def Own (w : World) (B : Nat) (v : Value) (n : Nat) (l : List Int) : Prop := w.ownsRow B 3 1 v n (l.map iv)
theorem Own.keep {w w' : World} {B n : Nat} {v : Value} {l : List Int} (h : Own w B v n l) (hb : Below w.heap.size w w') : w'.ownsRow B 3 1 v n (l.map iv) :=
  World.ownsRow.kept (row := none) h ⟨hb.os, hb.tape, hb.output, hb.size, fun k hk _ => hb.block k hk⟩ (by cases v.ownBlock <;> simp)
theorem Own.sl {w : World} {B n : Nat} {v : Value} {l : List Int} (h : Own w B v n l) : Sl iv w v l := Sl.of_own h
/-- Reads and calls that grow memory in any order, and a last store. -/
def RdG (val : Nat → Value) (last : Nat) (wd : World) (ad : Addr) (y : Value) (L : Nat → Bool) (vs : Nat → Value) (w : World) : Prop :=
  (∀ i, i < last → L i = true → vs i = val i) ∧ ∃ w6, Hid (Below wd.heap.size wd w6) ∧ (L last = false → w = w6) ∧ (L last = true → w = w6.setCell ad y)
section
variable {val : Nat → Value} {last : Nat} {wd w w' : World} {ad : Addr} {y : Value} {L : Nat → Bool} {vs : Nat → Value}
theorem RdG.start : RdG val last wd ad y (fun _ => false) vs wd.drew := ⟨fun _ _ h => nopeB rfl h, _, Lib.hid (Below.refl _ _).drew, fun _ => rfl, fun h => nopeB rfl h⟩
theorem RdG.ext (h : RdG val last wd ad y L vs w) (hl : L last = false) : Below wd.heap.size wd w := by
  obtain ⟨_, w6, h1, h2, _⟩ := h
  rw [h2 hl]; exact h1.out
theorem RdG.vals (h : RdG val last wd ad y L vs w) (i : Nat) {v : Value} (hv : v = val i) : ∀ j, j < last → (updB L i) j = true → (updV vs i v) j = val j := by
  intro j hj hl
  by_cases e : j = i
  · subst e; rw [updV_self]; exact hv
  · rw [updV_ne _ _ e]; rw [updB_ne _ e] at hl; exact h.1 j hj hl
theorem RdG.step (h : RdG val last wd ad y L vs w) (i : Nat) (hi : i < last) {v : Value} (hv : v = val i) : RdG val last wd ad y (updB L i) (updV vs i v) w := by
  refine ⟨h.vals i hv, ?_⟩
  rw [updB_ne L (show last ≠ i by omega)]
  exact h.2
theorem RdG.grow (h : RdG val last wd ad y L vs w) (hl : L last = false) (i : Nat) (hi : i < last) (hb : Below w.heap.size w w') {v : Value} (hv : v = val i) : RdG val last wd ad y (updB L i) (updV vs i v) w' := by
  refine ⟨h.vals i hv, w', Lib.hid ?_, fun _ => rfl, fun h2 => ?_⟩
  · have := h.ext hl
    exact this.trans (hb.mono this.size)
  · rw [updB_ne L (show last ≠ i by omega), hl] at h2; cases h2
theorem RdG.put (h : RdG val last wd ad y L vs w) (hl : L last = false) : RdG val last wd ad y (updB L last) (updV vs last undef) (w.setCell ad y) := by
  refine ⟨fun j hj h2 => ?_, w, Lib.hid (h.ext hl), fun h2 => ?_, fun _ => rfl⟩
  · rw [updV_ne _ _ (by omega)]; rw [updB_ne _ (by omega)] at h2; exact h.1 j hj h2
  · rw [updB_self] at h2; cases h2
theorem RdG.fin (h : RdG val last wd ad y L vs w) (hl : L last = true) : ∃ w6, Hid (Below wd.heap.size wd w6) ∧ w = w6.setCell ad y := by
  obtain ⟨_, w6, h1, _, h2⟩ := h
  exact ⟨w6, h1, h2 hl⟩
end

/-- w' is w, but for new blocks and for block g. -/
structure Only (g : Nat) (w w' : World) : Prop where
  os : w'.os = w.os
  tape : w'.tape = w.tape
  output : w'.output = w.output
  size : w.heap.size ≤ w'.heap.size
  block : ∀ k, k < w.heap.size → k ≠ g → w'.heap[k]? = w.heap[k]?
theorem Only.of {g : Nat} {w w' : World} (h : Below w.heap.size w w') : Only g w w' := ⟨h.os, h.tape, h.output, h.size, fun k hk _ => h.block k hk⟩
theorem Only.trans {g : Nat} {a w w' : World} (h : Only g a w) (hb : Below w.heap.size w w') : Only g a w' :=
  ⟨hb.os.trans h.os, hb.tape.trans h.tape, hb.output.trans h.output, Nat.le_trans h.size hb.size, fun k hk hn => (hb.block k (Nat.lt_of_lt_of_le hk h.size)).trans (h.block k hk hn)⟩
theorem Only.set {g i : Nat} {a w : World} {y : Value} (h : Only g a w) : Only g a (w.setCell ⟨g, i, none⟩ y) :=
  ⟨h.os, h.tape, h.output, by rw [size_set]; exact h.size, fun k hk hn => (Below.heap_setCell _ _ _ _ hn).trans (h.block k hk hn)⟩
theorem Only.low {g B : Nat} {a w : World} (h : Only g a w) (hB : B ≤ a.heap.size) (hg : B ≤ g) : Below B a w := ⟨h.os, h.tape, h.output, h.size, fun k hk => h.block k (by omega) (by omega)⟩
/-- What shorten does to a row of the call's own with the bounds D. -/
def ShP (B n : Nat) (D : Nat → Nat → Int) (v : Value) (w : World) (e : Ending) (w' : World) : Prop :=
  (∀ g, v.ownBlock = some g → Only g w w') ∧ ((e = .returned (.bool true) ∧ ∃ M, IsCl n D M ∧ Own w' B v (n * n) (flat n M)) ∨ (e = .returned (.bool false) ∧ ∀ u, ¬ Sat n D u))
set_option maxRecDepth 20000 in
set_option maxHeartbeats 1000000 in
theorem shorten_any (m : Nat) (v : Value) (D : Nat → Nat → Int) (B : Nat) (w : World) (hD : Dok (m + 1) D) (h : Own w B v ((m + 1) * (m + 1)) (flat (m + 1) D)) :
    Calls Try.prog 51 #[.agg #[.int .i64 (m : Int), v]] w (ShP B (m + 1) D v w) := by
  have hm : m ≤ 24 := by have := hD.few; omega
  obtain ⟨g, c, rfl, hBg, hgw, hcap⟩ := own_shape h (Nat.mul_le_mul (by omega : 1 ≤ m + 1) (by omega : 1 ≤ m + 1))
  have HD := Lib.hid hD
  have HO0 := Lib.hid (h.keep (al1 w (.cells #[.int .i64 (m : Int), .slice (some ⟨g, 0, none⟩) ((m + 1) * (m + 1)) c] 29)))
  have HX0 := Lib.hid (Bx.new w 29 #[.int .i64 (m : Int), .slice (some ⟨g, 0, none⟩) ((m + 1) * (m + 1)) c])
  clear hD h
  go_enter Try.func51, Try.ntmps51
  go_wp2_with fail
  go_loopw [9] (fun i wr => ∃ (k : Nat) (M : Nat → Nat → Int), k ≤ m + 1 ∧ i = .int .i64 (k : Int) ∧ Hid (OI (m + 1) D k M) ∧ Hid (Own wr B (.slice (some ⟨g, 0, none⟩) ((m + 1) * (m + 1)) c) ((m + 1) * (m + 1)) (flat (m + 1) M)) ∧ Hid (Only g w wr) ∧ Bx wr w.heap.size 29 #[.int .i64 (m : Int), .slice (some ⟨g, 0, none⟩) ((m + 1) * (m + 1)) c]) (fun i _ => m + 1 - (intOf i).toNat)
  case atStart => exact ⟨0, D, Nat.zero_le _, rfl, Lib.hid (OI.start HD.out), HO0, Lib.hid (Only.of (al1 w _)), HX0.out⟩
  case round =>
    clear HO0 HX0
    obtain ⟨k, M, hk, rfl, HOI, HOW, HBEL, hx⟩ := hrel
    by_cases hlt : k < m + 1
    · have dk : decide ((k : Int) < (m : Int) + 1) = true := decide_eq_true (by omega)
      obtain ⟨G, hG1, hG2, hG3⟩ := OI.step HD.out HOI.out hlt
      have HG1 := Lib.hid hG1
      have HG2 := Lib.hid hG2
      have HG3 := Lib.hid hG3
      have HX := Lib.hid hx
      obtain ⟨x0, x1⟩ := hx.k2
      have HM := Lib.hid (show Own wr B (.slice (some ⟨g, 0, none⟩) ((m + 1) * (m + 1)) c) ((m + 1) * (m + 1)) (mixL (m + 1) G M (0 * (m + 1))) from by rw [Nat.zero_mul, mix_zero]; exact HOW.out)
      clear hG1 hG2 hG3 hx HOI HOW
      go_wp2_with fail
      clear x0 x1
      go_loopw [15] (fun i wr => ∃ i2 : Nat, i2 ≤ m + 1 ∧ i = .int .i64 (i2 : Int) ∧ Hid (∀ q, q < i2 → 0 ≤ G q q) ∧ Hid (Own wr B (.slice (some ⟨g, 0, none⟩) ((m + 1) * (m + 1)) c) ((m + 1) * (m + 1)) (mixL (m + 1) G M (i2 * (m + 1)))) ∧ Hid (Only g w wr) ∧ Bx wr w.heap.size 29 #[.int .i64 (m : Int), .slice (some ⟨g, 0, none⟩) ((m + 1) * (m + 1)) c]) (fun i _ => m + 1 - (intOf i).toNat)
      case atStart => exact ⟨0, Nat.zero_le _, rfl, Lib.hid (by intro q hq; omega), HM, HBEL, HX.out⟩
      case round =>
        clear HM HBEL HX
        obtain ⟨i, hi, rfl, HP, HOW, HBEL, hx⟩ := hrel
        by_cases hil : i < m + 1
        · have di : decide ((i : Int) < (m : Int) + 1) = true := decide_eq_true (by omega)
          have HRO := Lib.hid (HG1.out i hil HP.out)
          have HX := Lib.hid hx
          obtain ⟨x0, x1⟩ := hx.k2
          clear hx
          go_wp2_with fail
          clear x0 x1
          go_loopw [21] (fun i' wr => ∃ j : Nat, j ≤ m + 1 ∧ i' = .int .i64 (j : Int) ∧ Hid (Own wr B (.slice (some ⟨g, 0, none⟩) ((m + 1) * (m + 1)) c) ((m + 1) * (m + 1)) (mixL (m + 1) G M (i * (m + 1) + j))) ∧ Hid (Only g w wr) ∧ Bx wr w.heap.size 29 #[.int .i64 (m : Int), .slice (some ⟨g, 0, none⟩) ((m + 1) * (m + 1)) c]) (fun i _ => m + 1 - (intOf i).toNat)
          case atStart => exact ⟨0, Nat.zero_le _, rfl, HOW, HBEL, HX.out⟩
          case round =>
            clear HOW HBEL HX
            obtain ⟨j, hj, rfl, HOW, HBEL, hx⟩ := hrel
            by_cases hjl : j < m + 1
            · have HX := Lib.hid hx
              clear hx
              obtain ⟨⟨ho1, ho2⟩, ho3⟩ := HRO.out j hjl
              have hsq := sq_lt hil hjl
              have HSET := Lib.hid (mix_set G M hil hjl)
              have HAT := Lib.hid (fun w6 => at_any m i j (.slice (some ⟨g, 0, none⟩) ((m + 1) * (m + 1)) c) w6 hm (by omega) (by omega))
              have HBD := Lib.hid (show ∀ a b w6, a ≤ m → b ≤ m → Below wr.heap.size wr w6 → Calls Try.prog 49 #[.agg #[.int .i64 (m : Int), .slice (some ⟨g, 0, none⟩) ((m + 1) * (m + 1)) c], .int .i64 (a : Int), .int .i64 (b : Int)] w6 (Tells w6 (.int .i64 (gt (m + 1) (mixL (m + 1) G M (i * (m + 1) + j)) a b))) from
                fun a b w6 ha hb hx => bound_any m a b _ _ w6 (HOW.out.sl.below hx) hm (mix_len _ _ _ _) ha hb)
              have e1 : gt (m + 1) (mixL (m + 1) G M (i * (m + 1) + j)) i j = M i j := mix_new G M hil hjl
              rw [← e1] at ho3
              generalize hxx : G i j = x at *
              have HBD1 := Lib.hid (HBD.out i j)
              have HBD2 := Lib.hid (HBD.out i k)
              have HBD3 := Lib.hid (HBD.out k j)
              generalize gt (m + 1) (mixL (m + 1) G M (i * (m + 1) + j)) i j = a1 at *
              generalize gt (m + 1) (mixL (m + 1) G M (i * (m + 1) + j)) i k = a2 at *
              generalize gt (m + 1) (mixL (m + 1) G M (i * (m + 1) + j)) k j = a3 at *
              clear HBD e1
              have HSQ := Lib.hid (show i * (m + 1) + j < (m + 1) * (m + 1) from hsq)
              have hp1 : ((i * (m + 1) + j : Nat) : Int) < (((m + 1) * (m + 1) : Nat) : Int) := by omega
              generalize hpp : i * (m + 1) + j = p at *
              have hp2 : ¬ (((m : Int) + 1) * ((m : Int) + 1) ≤ (p : Int)) := by push_cast at hp1; omega
              have HW := Lib.hid (show IntKind.i64.wrap (a2 + a3) = a2 + a3 from by rw [IntKind.wrap_i64]; omega)
              go_wp2_with fail
              refine region_inv (n := 53) (RdG (fun zz => match zz with | 0 => .pointer (some ⟨w.heap.size, 1, none⟩) | 1 => .slice (some ⟨g, 0, none⟩) ((m + 1) * (m + 1)) c | 2 => .agg #[.int .i64 (m : Int), .slice (some ⟨g, 0, none⟩) ((m + 1) * (m + 1)) c] | 3 => .int .i64 (i : Int) | 4 => .int .i64 (j : Int) | 5 => .int .i64 (p : Int) | 6 => .agg #[.int .i64 (m : Int), .slice (some ⟨g, 0, none⟩) ((m + 1) * (m + 1)) c] | 7 => .int .i64 (i : Int) | 8 => .int .i64 (j : Int) | 9 => .int .i64 a1 | 10 => .agg #[.int .i64 (m : Int), .slice (some ⟨g, 0, none⟩) ((m + 1) * (m + 1)) c] | 11 => .int .i64 (i : Int) | 12 => .int .i64 (k : Int) | 13 => .int .i64 a2 | 14 => .agg #[.int .i64 (m : Int), .slice (some ⟨g, 0, none⟩) ((m + 1) * (m + 1)) c] | 15 => .int .i64 (k : Int) | 16 => .int .i64 (j : Int) | 17 => .int .i64 a3 | 18 => .int .i64 (a2 + a3) | 19 => .int .i64 x | 20 => .pointer (some ⟨g, p, none⟩) | _ => undef) 21 (wr) (⟨g, p, none⟩) (.int .i64 x)) (by kernel_rfl) (by kernel_rfl) rfl ?_ (allOps_spec ?_) ?_
              · intro vs
                exact RdG.start
              · refine ⟨?_, ?_, ?_, ?_, ?_, ?_, ?_, ?_, ?_, ?_, ?_, ?_, ?_, ?_, ?_, ?_, ?_, ?_, ?_, ?_, ?_, ?_, trivial⟩
                · intro L vs a w6 hB hL hd hI
                  have b1 : a.tmps[1]?.getD undef = .pointer (some ⟨w.heap.size, 0, none⟩) := hB.at 1 (by kernel_rfl)
                  have hx : Below (wr).heap.size (wr) w6 := hI.ext (hB.wait 0 21 hL (by kernel_rfl))
                  exact stepI_run (v := .pointer (some ⟨w.heap.size, 1, none⟩)) rfl (by simp [execOp, go_sem, Act.eval, b1]) (hI.step 0 (by decide) rfl)
                · intro L vs a w6 hB hL hd hI
                  have b24 : a.tmps[24]?.getD undef = .pointer (some ⟨w.heap.size, 1, none⟩) := (hB.val 0 (hd ⟨0, .data⟩ (by simp) rfl) 24 rfl).trans (hI.1 0 (by decide) (hd ⟨0, .data⟩ (by simp) rfl))
                  have hx : Below (wr).heap.size (wr) w6 := hI.ext (hB.wait 1 21 hL (by kernel_rfl))
                  have q1 := (HX.out.below hx).cell 1
                  exact stepI_run (v := .slice (some ⟨g, 0, none⟩) ((m + 1) * (m + 1)) c) rfl (by simp [execOp, go_sem, Act.eval, b24, q1]) (hI.step 1 (by decide) rfl)
                · intro L vs a w6 hB hL hd hI
                  have b1 : a.tmps[1]?.getD undef = .pointer (some ⟨w.heap.size, 0, none⟩) := hB.at 1 (by kernel_rfl)
                  have hx : Below (wr).heap.size (wr) w6 := hI.ext (hB.wait 2 21 hL (by kernel_rfl))
                  have q0 := (HX.out.below hx).cell 0
                  have q1 := (HX.out.below hx).cell 1
                  exact stepI_run (v := .agg #[.int .i64 (m : Int), .slice (some ⟨g, 0, none⟩) ((m + 1) * (m + 1)) c]) rfl (by simp [execOp, go_sem, Act.eval, b1, q0, q1]) (hI.step 2 (by decide) rfl)
                · intro L vs a w6 hB hL hd hI
                  have b4 : a.tmps[4]?.getD undef = .int .i64 (i : Int) := hB.at 4 (by kernel_rfl)
                  have hx : Below (wr).heap.size (wr) w6 := hI.ext (hB.wait 3 21 hL (by kernel_rfl))
                  exact stepI_run (v := .int .i64 (i : Int)) rfl (by simp [execOp, go_sem, Act.eval, b4]) (hI.step 3 (by decide) rfl)
                · intro L vs a w6 hB hL hd hI
                  have b5 : a.tmps[5]?.getD undef = .int .i64 (j : Int) := hB.at 5 (by kernel_rfl)
                  have hx : Below (wr).heap.size (wr) w6 := hI.ext (hB.wait 4 21 hL (by kernel_rfl))
                  exact stepI_run (v := .int .i64 (j : Int)) rfl (by simp [execOp, go_sem, Act.eval, b5]) (hI.step 4 (by decide) rfl)
                · intro L vs a w6 hB hL hd hI
                  have b26 : a.tmps[26]?.getD undef = .agg #[.int .i64 (m : Int), .slice (some ⟨g, 0, none⟩) ((m + 1) * (m + 1)) c] := (hB.val 2 (hd ⟨2, .data⟩ (by simp) rfl) 26 rfl).trans (hI.1 2 (by decide) (hd ⟨2, .data⟩ (by simp) rfl))
                  have b27 : a.tmps[27]?.getD undef = .int .i64 (i : Int) := (hB.val 3 (hd ⟨3, .data⟩ (by simp) rfl) 27 rfl).trans (hI.1 3 (by decide) (hd ⟨3, .data⟩ (by simp) rfl))
                  have b28 : a.tmps[28]?.getD undef = .int .i64 (j : Int) := (hB.val 4 (hd ⟨4, .data⟩ (by simp) rfl) 28 rfl).trans (hI.1 4 (by decide) (hd ⟨4, .data⟩ (by simp) rfl))
                  have hx : Below (wr).heap.size (wr) w6 := hI.ext (hB.wait 5 21 hL (by kernel_rfl))
                  refine stepI_call (f := 43) (args := #[.agg #[.int .i64 (m : Int), .slice (some ⟨g, 0, none⟩) ((m + 1) * (m + 1)) c], .int .i64 (i : Int), .int .i64 (j : Int)]) rfl (by simp [go_sem, b26, b27, b28]) ?_
                  refine (HAT.out w6).mono ?_
                  rintro e w9 ⟨rfl, h9⟩
                  exact ⟨_, rfl, hI.grow (hB.wait 5 21 hL (by kernel_rfl)) 5 (by decide) h9 rfl⟩
                · intro L vs a w6 hB hL hd hI
                  have b1 : a.tmps[1]?.getD undef = .pointer (some ⟨w.heap.size, 0, none⟩) := hB.at 1 (by kernel_rfl)
                  have hx : Below (wr).heap.size (wr) w6 := hI.ext (hB.wait 6 21 hL (by kernel_rfl))
                  have q0 := (HX.out.below hx).cell 0
                  have q1 := (HX.out.below hx).cell 1
                  exact stepI_run (v := .agg #[.int .i64 (m : Int), .slice (some ⟨g, 0, none⟩) ((m + 1) * (m + 1)) c]) rfl (by simp [execOp, go_sem, Act.eval, b1, q0, q1]) (hI.step 6 (by decide) rfl)
                · intro L vs a w6 hB hL hd hI
                  have b4 : a.tmps[4]?.getD undef = .int .i64 (i : Int) := hB.at 4 (by kernel_rfl)
                  have hx : Below (wr).heap.size (wr) w6 := hI.ext (hB.wait 7 21 hL (by kernel_rfl))
                  exact stepI_run (v := .int .i64 (i : Int)) rfl (by simp [execOp, go_sem, Act.eval, b4]) (hI.step 7 (by decide) rfl)
                · intro L vs a w6 hB hL hd hI
                  have b5 : a.tmps[5]?.getD undef = .int .i64 (j : Int) := hB.at 5 (by kernel_rfl)
                  have hx : Below (wr).heap.size (wr) w6 := hI.ext (hB.wait 8 21 hL (by kernel_rfl))
                  exact stepI_run (v := .int .i64 (j : Int)) rfl (by simp [execOp, go_sem, Act.eval, b5]) (hI.step 8 (by decide) rfl)
                · intro L vs a w6 hB hL hd hI
                  have b30 : a.tmps[30]?.getD undef = .agg #[.int .i64 (m : Int), .slice (some ⟨g, 0, none⟩) ((m + 1) * (m + 1)) c] := (hB.val 6 (hd ⟨6, .data⟩ (by simp) rfl) 30 rfl).trans (hI.1 6 (by decide) (hd ⟨6, .data⟩ (by simp) rfl))
                  have b31 : a.tmps[31]?.getD undef = .int .i64 (i : Int) := (hB.val 7 (hd ⟨7, .data⟩ (by simp) rfl) 31 rfl).trans (hI.1 7 (by decide) (hd ⟨7, .data⟩ (by simp) rfl))
                  have b32 : a.tmps[32]?.getD undef = .int .i64 (j : Int) := (hB.val 8 (hd ⟨8, .data⟩ (by simp) rfl) 32 rfl).trans (hI.1 8 (by decide) (hd ⟨8, .data⟩ (by simp) rfl))
                  have hx : Below (wr).heap.size (wr) w6 := hI.ext (hB.wait 9 21 hL (by kernel_rfl))
                  refine stepI_call (f := 49) (args := #[.agg #[.int .i64 (m : Int), .slice (some ⟨g, 0, none⟩) ((m + 1) * (m + 1)) c], .int .i64 (i : Int), .int .i64 (j : Int)]) rfl (by simp [go_sem, b30, b31, b32]) ?_
                  refine (HBD1.out w6 (by omega) (by omega) hx).mono ?_
                  rintro e w9 ⟨rfl, h9⟩
                  exact ⟨_, rfl, hI.grow (hB.wait 9 21 hL (by kernel_rfl)) 9 (by decide) h9 rfl⟩
                · intro L vs a w6 hB hL hd hI
                  have b1 : a.tmps[1]?.getD undef = .pointer (some ⟨w.heap.size, 0, none⟩) := hB.at 1 (by kernel_rfl)
                  have hx : Below (wr).heap.size (wr) w6 := hI.ext (hB.wait 10 21 hL (by kernel_rfl))
                  have q0 := (HX.out.below hx).cell 0
                  have q1 := (HX.out.below hx).cell 1
                  exact stepI_run (v := .agg #[.int .i64 (m : Int), .slice (some ⟨g, 0, none⟩) ((m + 1) * (m + 1)) c]) rfl (by simp [execOp, go_sem, Act.eval, b1, q0, q1]) (hI.step 10 (by decide) rfl)
                · intro L vs a w6 hB hL hd hI
                  have b4 : a.tmps[4]?.getD undef = .int .i64 (i : Int) := hB.at 4 (by kernel_rfl)
                  have hx : Below (wr).heap.size (wr) w6 := hI.ext (hB.wait 11 21 hL (by kernel_rfl))
                  exact stepI_run (v := .int .i64 (i : Int)) rfl (by simp [execOp, go_sem, Act.eval, b4]) (hI.step 11 (by decide) rfl)
                · intro L vs a w6 hB hL hd hI
                  have b3 : a.tmps[3]?.getD undef = .int .i64 (k : Int) := hB.at 3 (by kernel_rfl)
                  have hx : Below (wr).heap.size (wr) w6 := hI.ext (hB.wait 12 21 hL (by kernel_rfl))
                  exact stepI_run (v := .int .i64 (k : Int)) rfl (by simp [execOp, go_sem, Act.eval, b3]) (hI.step 12 (by decide) rfl)
                · intro L vs a w6 hB hL hd hI
                  have b34 : a.tmps[34]?.getD undef = .agg #[.int .i64 (m : Int), .slice (some ⟨g, 0, none⟩) ((m + 1) * (m + 1)) c] := (hB.val 10 (hd ⟨10, .data⟩ (by simp) rfl) 34 rfl).trans (hI.1 10 (by decide) (hd ⟨10, .data⟩ (by simp) rfl))
                  have b35 : a.tmps[35]?.getD undef = .int .i64 (i : Int) := (hB.val 11 (hd ⟨11, .data⟩ (by simp) rfl) 35 rfl).trans (hI.1 11 (by decide) (hd ⟨11, .data⟩ (by simp) rfl))
                  have b36 : a.tmps[36]?.getD undef = .int .i64 (k : Int) := (hB.val 12 (hd ⟨12, .data⟩ (by simp) rfl) 36 rfl).trans (hI.1 12 (by decide) (hd ⟨12, .data⟩ (by simp) rfl))
                  have hx : Below (wr).heap.size (wr) w6 := hI.ext (hB.wait 13 21 hL (by kernel_rfl))
                  refine stepI_call (f := 49) (args := #[.agg #[.int .i64 (m : Int), .slice (some ⟨g, 0, none⟩) ((m + 1) * (m + 1)) c], .int .i64 (i : Int), .int .i64 (k : Int)]) rfl (by simp [go_sem, b34, b35, b36]) ?_
                  refine (HBD2.out w6 (by omega) (by omega) hx).mono ?_
                  rintro e w9 ⟨rfl, h9⟩
                  exact ⟨_, rfl, hI.grow (hB.wait 13 21 hL (by kernel_rfl)) 13 (by decide) h9 rfl⟩
                · intro L vs a w6 hB hL hd hI
                  have b1 : a.tmps[1]?.getD undef = .pointer (some ⟨w.heap.size, 0, none⟩) := hB.at 1 (by kernel_rfl)
                  have hx : Below (wr).heap.size (wr) w6 := hI.ext (hB.wait 14 21 hL (by kernel_rfl))
                  have q0 := (HX.out.below hx).cell 0
                  have q1 := (HX.out.below hx).cell 1
                  exact stepI_run (v := .agg #[.int .i64 (m : Int), .slice (some ⟨g, 0, none⟩) ((m + 1) * (m + 1)) c]) rfl (by simp [execOp, go_sem, Act.eval, b1, q0, q1]) (hI.step 14 (by decide) rfl)
                · intro L vs a w6 hB hL hd hI
                  have b3 : a.tmps[3]?.getD undef = .int .i64 (k : Int) := hB.at 3 (by kernel_rfl)
                  have hx : Below (wr).heap.size (wr) w6 := hI.ext (hB.wait 15 21 hL (by kernel_rfl))
                  exact stepI_run (v := .int .i64 (k : Int)) rfl (by simp [execOp, go_sem, Act.eval, b3]) (hI.step 15 (by decide) rfl)
                · intro L vs a w6 hB hL hd hI
                  have b5 : a.tmps[5]?.getD undef = .int .i64 (j : Int) := hB.at 5 (by kernel_rfl)
                  have hx : Below (wr).heap.size (wr) w6 := hI.ext (hB.wait 16 21 hL (by kernel_rfl))
                  exact stepI_run (v := .int .i64 (j : Int)) rfl (by simp [execOp, go_sem, Act.eval, b5]) (hI.step 16 (by decide) rfl)
                · intro L vs a w6 hB hL hd hI
                  have b38 : a.tmps[38]?.getD undef = .agg #[.int .i64 (m : Int), .slice (some ⟨g, 0, none⟩) ((m + 1) * (m + 1)) c] := (hB.val 14 (hd ⟨14, .data⟩ (by simp) rfl) 38 rfl).trans (hI.1 14 (by decide) (hd ⟨14, .data⟩ (by simp) rfl))
                  have b39 : a.tmps[39]?.getD undef = .int .i64 (k : Int) := (hB.val 15 (hd ⟨15, .data⟩ (by simp) rfl) 39 rfl).trans (hI.1 15 (by decide) (hd ⟨15, .data⟩ (by simp) rfl))
                  have b40 : a.tmps[40]?.getD undef = .int .i64 (j : Int) := (hB.val 16 (hd ⟨16, .data⟩ (by simp) rfl) 40 rfl).trans (hI.1 16 (by decide) (hd ⟨16, .data⟩ (by simp) rfl))
                  have hx : Below (wr).heap.size (wr) w6 := hI.ext (hB.wait 17 21 hL (by kernel_rfl))
                  refine stepI_call (f := 49) (args := #[.agg #[.int .i64 (m : Int), .slice (some ⟨g, 0, none⟩) ((m + 1) * (m + 1)) c], .int .i64 (k : Int), .int .i64 (j : Int)]) rfl (by simp [go_sem, b38, b39, b40]) ?_
                  refine (HBD3.out w6 (by omega) (by omega) hx).mono ?_
                  rintro e w9 ⟨rfl, h9⟩
                  exact ⟨_, rfl, hI.grow (hB.wait 17 21 hL (by kernel_rfl)) 17 (by decide) h9 rfl⟩
                · intro L vs a w6 hB hL hd hI
                  have b37 : a.tmps[37]?.getD undef = .int .i64 a2 := (hB.val 13 (hd ⟨13, .data⟩ (by simp) rfl) 37 rfl).trans (hI.1 13 (by decide) (hd ⟨13, .data⟩ (by simp) rfl))
                  have b41 : a.tmps[41]?.getD undef = .int .i64 a3 := (hB.val 17 (hd ⟨17, .data⟩ (by simp) rfl) 41 rfl).trans (hI.1 17 (by decide) (hd ⟨17, .data⟩ (by simp) rfl))
                  have hx : Below (wr).heap.size (wr) w6 := hI.ext (hB.wait 18 21 hL (by kernel_rfl))
                  exact stepI_run (v := .int .i64 (a2 + a3)) rfl (by simp [execOp, go_sem, Act.eval, b37, b41, HW.out]) (hI.step 18 (by decide) rfl)
                · intro L vs a w6 hB hL hd hI
                  have b33 : a.tmps[33]?.getD undef = .int .i64 a1 := (hB.val 9 (hd ⟨9, .data⟩ (by simp) rfl) 33 rfl).trans (hI.1 9 (by decide) (hd ⟨9, .data⟩ (by simp) rfl))
                  have b42 : a.tmps[42]?.getD undef = .int .i64 (a2 + a3) := (hB.val 18 (hd ⟨18, .data⟩ (by simp) rfl) 42 rfl).trans (hI.1 18 (by decide) (hd ⟨18, .data⟩ (by simp) rfl))
                  have hx : Below (wr).heap.size (wr) w6 := hI.ext (hB.wait 19 21 hL (by kernel_rfl))
                  exact stepI_run (v := .int .i64 x) rfl (by simp [go_sem, Act.eval, b33, b42]; split <;> omega) (hI.step 19 (by decide) rfl)
                · intro L vs a w6 hB hL hd hI
                  have b25 : a.tmps[25]?.getD undef = .slice (some ⟨g, 0, none⟩) ((m + 1) * (m + 1)) c := (hB.val 1 (hd ⟨1, .data⟩ (by simp) rfl) 25 rfl).trans (hI.1 1 (by decide) (hd ⟨1, .data⟩ (by simp) rfl))
                  have b29 : a.tmps[29]?.getD undef = .int .i64 (p : Int) := (hB.val 5 (hd ⟨5, .data⟩ (by simp) rfl) 29 rfl).trans (hI.1 5 (by decide) (hd ⟨5, .data⟩ (by simp) rfl))
                  have hx : Below (wr).heap.size (wr) w6 := hI.ext (hB.wait 20 21 hL (by kernel_rfl))
                  exact stepI_run (v := .pointer (some ⟨g, p, none⟩)) rfl (by simp [execOp, go_sem, Act.eval, b25, b29, hp2, addr_lit0]) (hI.step 20 (by decide) rfl)
                · intro L vs a w6 hB hL hd hI
                  have b44 : a.tmps[44]?.getD undef = .pointer (some ⟨g, p, none⟩) := (hB.val 20 (hd ⟨20, .data⟩ (by simp) rfl) 44 rfl).trans (hI.1 20 (by decide) (hd ⟨20, .data⟩ (by simp) rfl))
                  have b43 : a.tmps[43]?.getD undef = .int .i64 x := (hB.val 19 (hd ⟨19, .data⟩ (by simp) rfl) 43 rfl).trans (hI.1 19 (by decide) (hd ⟨19, .data⟩ (by simp) rfl))
                  have hx : Below (wr).heap.size (wr) w6 := hI.ext hL
                  have f1 := (HOW.out.keep hx).frozenAt p
                  have q1 := own_at (HOW.out.keep hx) p (by rw [mix_len]; omega)
                  exact stepI_skip (w' := w6.setCell (⟨g, p, none⟩) (.int .i64 x)) rfl (by simp [execOp, go_sem, Act.eval, b44, b43, f1, q1]) (hI.put hL)
              · intro L vs w7 hall hI
                obtain ⟨w6, HEXT, hw7⟩ := hI.fin (hall 21 (by decide))
                subst hw7
                clear hI hall
                simp only [putAll, Act.put, List.setIfInBounds_toArray, List.set_cons_zero, List.set_cons_succ, Nat.zero_add, Nat.reduceAdd]
                have HOW2 := Lib.hid (show Own (w6.setCell ⟨g, p, none⟩ (.int .i64 x)) B (.slice (some ⟨g, 0, none⟩) ((m + 1) * (m + 1)) c) ((m + 1) * (m + 1)) (mixL (m + 1) G M (i * (m + 1) + (j + 1))) from by
                  have h1 := own_put (HOW.out.keep HEXT.out) p x
                  rw [HSET.out] at h1
                  rw [show i * (m + 1) + (j + 1) = p + 1 by omega]
                  exact h1)
                have HBEL2 := Lib.hid ((HBEL.out.trans HEXT.out).set (i := p) (y := .int .i64 x))
                have HX2 := Lib.hid ((HX.out.below HEXT.out).other (c := g) (i := p) (u := .int .i64 x) (by omega))
                clear HEXT HOW HBEL HX HSET HAT HBD1 HBD2 HBD3 ho1 ho2 ho3 hp1 hp2 hsq
                go_wp2_with fail
                go_roundw
                case rel => exact ⟨j + 1, by omega, by go_num, HOW2, HBEL2, HX2.out⟩
                case measure => simp [intOf]; omega
            · obtain rfl : j = m + 1 := by omega
              have e1 : gt (m + 1) (mixL (m + 1) G M (i * (m + 1) + (m + 1))) i i = G i i := mix_old G M hil hil (by omega)
              have HE1 := Lib.hid e1
              have HX := Lib.hid hx
              obtain ⟨x0, x1⟩ := hx.k2
              clear hx e1
              go_wp2_with fail
              refine (bound_any m i i _ _ _ HOW.out.sl hm (mix_len _ _ _ _) (by omega) (by omega)).mono ?_; rintro e w6 ⟨rfl, hb6⟩; rw [HE1.out]
              have HOW2 := Lib.hid (show Own w6 B (.slice (some ⟨g, 0, none⟩) ((m + 1) * (m + 1)) c) ((m + 1) * (m + 1)) (mixL (m + 1) G M ((i + 1) * (m + 1))) from by rw [show (i + 1) * (m + 1) = i * (m + 1) + (m + 1) from Nat.succ_mul _ _]; exact HOW.out.keep hb6)
              have HBEL2 := Lib.hid (HBEL.out.trans hb6)
              have HX2 := Lib.hid (HX.out.below hb6)
              clear HOW HBEL HX x0 x1 hb6 HE1
              by_cases hneg : G i i < 0
              · have HEM := Lib.hid (HG3.out i hil hneg)
                generalize G i i = y at *
                go_wp2_with fail
                go_ret
                exact ⟨(fun g' e => by cases e; exact HBEL2.out), .inr ⟨rfl, HEM.out⟩⟩
              · have HP2 := Lib.hid (show ∀ q, q < i + 1 → 0 ≤ G q q from fun q hq => by
                  by_cases e : q = i
                  · subst e; omega
                  · exact HP.out q (by omega))
                generalize G i i = y at *
                go_wp2_with fail
                go_roundw
                case rel => exact ⟨i + 1, by omega, by go_num, HP2, HOW2, HBEL2, HX2.out⟩
                case measure => simp [intOf]; omega
        · obtain rfl : i = m + 1 := by omega
          have HOI2 := Lib.hid (HG2.out fun q hq => HP.out q hq)
          have HOW2 := Lib.hid (show Own wr B (.slice (some ⟨g, 0, none⟩) ((m + 1) * (m + 1)) c) ((m + 1) * (m + 1)) (flat (m + 1) G) from by rw [← mix_all]; exact HOW.out)
          have HX := Lib.hid hx
          clear hx HOW
          go_wp2_with fail
          go_roundw
          case rel => exact ⟨k + 1, G, by omega, by go_num, HOI2, HOW2, HBEL, HX.out⟩
          case measure => simp [intOf]; omega
    · obtain rfl : k = m + 1 := by omega
      have HC := Lib.hid (OI.fin HD.out HOI.out)
      clear hx
      go_wp2_with fail
      go_ret
      exact ⟨(fun g' e => by cases e; exact HBEL.out), .inl ⟨rfl, M, HC.out, HOW.out⟩⟩
end Go.Proofs.Yteoddcamicmapaa
