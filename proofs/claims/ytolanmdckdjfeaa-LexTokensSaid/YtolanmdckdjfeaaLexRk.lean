/- Layer 9: the contract of the reference's number. -/
import Derived.Test.YtolanmdckdjfeaaLexRt
import Derived.Test.YtolanmdckdjfeaaLexRn
import Derived.Test.YtolanmdckdjfeaaLexNum
namespace Go.Proofs.Ytolanmdckdjfeaa
open Go.RowKit

theorem results_cell_row3 {P : Program} {fn : Func} {p u q : Tmp} {ty : TypeId} (h : fn.results = #[.cell p ty, .tmp u, .tmp q]) (tmps : Array Value) (w : World) (g : Nat) (t : TypeId) (cs : Array Value) (fr : Nat × Nat) (d : TypeDesc)
    (hp : tmps.getD p undef = .pointer (some ⟨g, 0, none⟩)) (hg : w.heap[g]? = some (.cells cs t fr))
    (hu : P.underlying ty = some d) (hd : (match d with | .struct _ | .array _ _ => true | _ => false) = true) (hi : (P.info? ty).map (·.size) = some cs.size) :
    (results fn tmps).run P w = .ok (.tuple #[.agg cs, tmps.getD u undef, tmps.getD q undef]) w := by
  simp only [results, h]
  simp [Sem.run_bind]
  simp only [Array.getD_eq_getD_getElem?] at hp
  simp [hp, asAddr, Result.andThen, run_loadVar_row w g t ty cs fr d hg hu hd hi]
/-- The reference's box of a token. -/
def RBox (w : World) (b : Nat) (kd : Nat) (t : List UInt8) (v p : Nat) : Prop := w.heap[b]? = some (.cells #[.int .i64 (kd : Int), .string (ofL t), .int .i64 (v : Int), .int .i64 (p : Int)] 38 (0, 0))
theorem RBox.cell {w : World} {b kd v p : Nat} {t : List UInt8} (h : RBox w b kd t v p) (i : Nat) : w.cell? ⟨b, i, none⟩ = (#[Value.int .i64 (kd : Int), .string (ofL t), .int .i64 (v : Int), .int .i64 (p : Int)])[i]? := cell_of_row w b i _ _ _ h
theorem RBox.free {w : World} {b kd v p : Nat} {t : List UInt8} (h : RBox w b kd t v p) (i : Nat) : w.frozen? ⟨b, i, none⟩ = false := by unfold RBox at h; simp [World.frozen?, h]
theorem RBox.facts {w : World} {b kd v p : Nat} {t : List UInt8} (h : RBox w b kd t v p) : w.cell? ⟨b, 0, none⟩ = some (.int .i64 (kd : Int)) ∧ w.cell? ⟨b, 1, none⟩ = some (.string (ofL t)) ∧ w.cell? ⟨b, 2, none⟩ = some (.int .i64 (v : Int)) ∧ w.cell? ⟨b, 3, none⟩ = some (.int .i64 (p : Int)) ∧
    w.frozen? ⟨b, 0, none⟩ = false ∧ w.frozen? ⟨b, 1, none⟩ = false ∧ w.frozen? ⟨b, 2, none⟩ = false ∧ w.frozen? ⟨b, 3, none⟩ = false := ⟨h.cell 0, h.cell 1, h.cell 2, h.cell 3, h.free 0, h.free 1, h.free 2, h.free 3⟩
theorem RBox.new (w : World) : RBox (w.alloc (.cells #[.int .i64 0, .string { data := #[] }, .int .i64 0, .int .i64 0] 38)) w.heap.size 0 [] 0 0 := heap_alloc_new w _
theorem RBox.below {w w' : World} {b kd v p : Nat} {t : List UInt8} (h : RBox w b kd t v p) (hb : Below w.heap.size w w') : RBox w' b kd t v p := (hb.block b (lt_of_some h)).trans h
theorem RBox.store {w : World} {b kd v p : Nat} {t : List UInt8} (h : RBox w b kd t v p) (kd' v' p' : Nat) (t' : List UInt8) :
    RBox ((((w.setCell ⟨b, 0, none⟩ (.int .i64 (kd' : Int))).setCell ⟨b, 1, none⟩ (.string (ofL t'))).setCell ⟨b, 2, none⟩ (.int .i64 (v' : Int))).setCell ⟨b, 3, none⟩ (.int .i64 (p' : Int))) b kd' t' v' p' := by
  unfold RBox at h ⊢
  rw [heap_set (heap_set (heap_set (heap_set h)))]
  rfl
theorem RBox.result {W : World} {b kd v p : Nat} {t : List UInt8} (h : RBox W b kd t v p) {fn : Func} {q u z : Tmp} (hf : fn.results = #[.cell q 38, .tmp u, .tmp z]) (tmps : Array Value) (hq : tmps.getD q undef = .pointer (some ⟨b, 0, none⟩)) (x y : Value) (hx : tmps.getD u undef = x) (hy : tmps.getD z undef = y) :
    (results fn tmps).run Try.prog W = .ok (.tuple #[tokV kd t v p, x, y]) W := by
  subst hx; subst hy
  exact results_cell_row3 hf tmps W b 38 _ (0, 0) _ hq h Try.underlying38 rfl (by kernel_rfl)
def RkPost (w : World) : Tk → Ending → World → Prop
  | .err x, e, w' => e = .returned (.tuple #[tokV 0 [] 0 0, .int .i64 0, .int .i64 (x : Int)]) ∧ Below w.heap.size w w'
  | .ok kd t v n, e, w' => e = .returned (.tuple #[tokV kd t v 0, .int .i64 (n : Int), .int .i64 0]) ∧ Below w.heap.size w w'
theorem RkPost.bad {w w' : World} {x : Nat} {r : Tk} {e : Ending} (hr : r = .err x) (he : e = .returned (.tuple #[tokV 0 [] 0 0, .int .i64 0, .int .i64 (x : Int)])) (ho : Below w.heap.size w w') : RkPost w r e w' := by
  subst hr; exact ⟨he, ho⟩
theorem RkPost.good {w w' : World} {kd v n : Nat} {t : List UInt8} {r : Tk} {e : Ending} (hr : r = .ok kd t v n) (he : e = .returned (.tuple #[tokV kd t v 0, .int .i64 (n : Int), .int .i64 0])) (ho : Below w.heap.size w w') : RkPost w r e w' := by
  subst hr; exact ⟨he, ho⟩
def NkRel (l : List UInt8) (n v : Value) : Prop :=
  ∃ j x : Nat, j ≤ l.length ∧ n = .int .i64 (j : Int) ∧ v = .int .i64 (x : Int) ∧ x ≤ 1099511627776 ∧ (∀ (i : Nat) (c : UInt8), i < j → l[i]? = some c → cD c.toNat = true) ∧ (j ≤ 12 → x = numF 0 (l.take j))
set_option maxRecDepth 100000 in
set_option maxHeartbeats 2000000 in
theorem rnumber_any (s : ByteArray) (l : List UInt8) (hs : s = ofL l) (hl : l.length ≤ 8000) (w : World) :
    Calls Try.prog 53 #[.string s] w (RkPost w (tkNum l)) := by
  have hsz : s.size = l.length := by rw [hs, ofL_size]
  have HS := Lib.hid hs
  have HZ := Lib.hid hsz
  have hs8 : s.size ≤ 8000 := by omega
  clear hs hsz hl
  have HT : Hid (RBox (w.alloc (.cells #[.int .i64 0, .string { data := #[] }, .int .i64 0, .int .i64 0] 38)) w.heap.size 0 [] 0 0) := RBox.new w
  have HB : Hid (Below w.heap.size w (w.alloc (.cells #[.int .i64 0, .string { data := #[] }, .int .i64 0, .int .i64 0] 38))) := (Below.refl _ _).alloc (Nat.le_refl _) _
  go_enter Try.func53, Try.ntmps53
  go_wp2
  generalize hw1 : w.alloc (.cells #[.int .i64 0, .string { data := #[] }, .int .i64 0, .int .i64 0] 38) = w1 at *
  clear hw1
  go_loop [5, 6] (fun n v => NkRel l n v) (fun n _ => s.size - (intOf n).toNat)
  case atStart => exact ⟨0, 0, by omega, rfl, rfl, by omega, by omega, fun _ => rfl⟩
  case round =>
    obtain ⟨j, x, hj, rfl, rfl, hx1, hx2, hx3⟩ := hrel
    have HX2 := Lib.hid hx2
    have HX3 := Lib.hid hx3
    clear hx2 hx3
    by_cases hdig : j < s.size ∧ cD (nxt (l.drop j)) = true
    · obtain ⟨hlt, hcd⟩ := hdig
      obtain ⟨c, hd, hn, hcj⟩ := drop_cons (l := l) (k := j) (by have := HZ.out; omega)
      have hz := at_ofL HS.out hlt
      have HCD := Lib.hid hcd
      rw [hn] at hz hcd
      have hb1 : 48 ≤ c.toNat ∧ c.toNat ≤ 57 := by simpa [cD] using hcd
      have HCJ := Lib.hid hcj
      have HN := Lib.hid hn
      have HCC := Lib.hid hcd
      obtain ⟨y, hy⟩ : ∃ y, y = c.toNat := ⟨_, rfl⟩
      rw [← hy] at hz hb1
      have HY := Lib.hid hy
      obtain ⟨hb2, hb3⟩ := hb1
      have hstep : Hid (j + 1 ≤ 12 → 10 * x + (y - 48) ≤ 1099511627776 ∧ 10 * x + (y - 48) = numF 0 (l.take (j + 1))) := by
        intro h12
        have e := HX3.out (by omega)
        have hb := numF_le (l.take j) 0 fun d hd2 => by
          obtain ⟨i, hi, e2⟩ := List.mem_iff_getElem.1 hd2
          rw [List.getElem_take] at e2
          rw [List.length_take] at hi
          exact HX2.out i d (by omega) (by rw [List.getElem?_eq_getElem (by omega), e2])
        have hp : 10 ^ (l.take j).length ≤ 10 ^ 11 := Nat.pow_le_pow_right (by omega) (by rw [List.length_take]; omega)
        have h11 : x + 1 ≤ 10 ^ 11 := by rw [e]; omega
        refine ⟨by omega, ?_⟩
        rw [List.take_add_one, HCJ.out, show (l.take j ++ (some c).toList) = l.take j ++ [c] from rfl, numF_snoc, ← e, ← HY.out]
      have hdn : Hid (∀ (i : Nat) (d : UInt8), i < j + 1 → l[i]? = some d → cD d.toNat = true) := by
        intro i d hi hdi
        by_cases e : i = j
        · subst e; rw [HCJ.out] at hdi; cases hdi; exact HCC.out
        · exact HX2.out i d (by omega) hdi
      have hyd : Hid (cD y = true) := by unfold Hid; rw [HY.out]; exact HCC.out
      clear hd hn hcj hcd hy
      go_wp2_with (refine (rdigit_any _ _).mono ?_; rintro e w2 ⟨rfl, rfl⟩; rw [hyd.out])
      go_round
      case rel =>
        refine ⟨j + 1, (if 1099511627776 < 10 * x + (y - 48) then 1099511627776 else 10 * x + (y - 48)), by have := HZ.out; omega, by go_num, ?_, ?_, hdn.out, ?_⟩
        · congr 1
          by_cases h : 1099511627776 < 10 * x + (y - 48)
          · rw [if_pos (by omega), if_pos h]; rfl
          · rw [if_neg (by omega), if_neg h]; omega
        · split <;> omega
        · intro h12
          have := hstep.out h12
          rw [if_neg (by omega)]
          exact this.2
      case measure => simp [intOf]; omega
    · have hspn : spn cD l = j := spn_eq hj HX2.out fun c hc => by
        have hjl := (List.getElem?_eq_some_iff.1 hc).1
        obtain ⟨c', hd, hn, hcj⟩ := drop_cons (l := l) (k := j) hjl
        rw [hc] at hcj; cases hcj
        cases h : cD c.toNat with
        | false => rfl
        | true => exact absurd ⟨by have := HZ.out; omega, by rw [hn]; exact h⟩ hdig
      have hT0 : tkNum l = if cN (nxt (l.drop j)) = true then .err 3 else if 6 < j ∨ (1 < j ∧ nxt l = 48) then .err 2 else .ok 2 [] (numF 0 (l.take j)) j := by
        unfold tkNum; rw [hspn]
      have HT0 := Lib.hid hT0
      have hn0 : ∀ h : 0 < s.size, (s[0]'h).toNat = nxt l := fun h => by have := at_ofL HS.out h; rwa [List.drop_zero] at this
      have HN0 := Lib.hid hn0
      obtain ⟨d0, d1, d2, d3, f0, f1, f2, f3⟩ := HT.out.facts
      by_cases hI : cN (nxt (l.drop j)) = true
      · have hlt : j < s.size := by
          by_cases h : j < s.size
          · exact h
          · rw [nxt_end (by have := HZ.out; omega)] at hI; cases hI
        have hz := at_ofL HS.out hlt
        obtain ⟨y, hy⟩ : ∃ y, nxt (l.drop j) = y := ⟨_, rfl⟩
        rw [hy] at hz hI hdig
        have HF : Hid (cD y = false) := by
          unfold Hid
          cases h : cD y with
          | false => rfl
          | true => exact absurd ⟨hlt, h⟩ hdig
        have HI := Lib.hid hI
        have hT := Lib.hid (show tkNum l = .err 3 by rw [hT0, hy, if_pos hI])
        clear hdig hspn hT0 hn0 hI hy
        go_wp2_with (first | (go_at_call 52; refine (rdigit_any _ _).mono ?_; rintro e w2 ⟨rfl, rfl⟩; rw [HF.out]) | (go_at_call 33; refine (rinner_any _ _).mono ?_; rintro e w2 ⟨rfl, rfl⟩; rw [HI.out]))
        refine bodyPost_ret (v := .tuple #[tokV 0 [] 0 0, .int .i64 0, .int .i64 3]) (RBox.result ((HT.out).store 0 0 0 []) Try.results53 _ rfl _ _ rfl rfl) rfl (RkPost.bad hT.out rfl ?_)
        exact ((((HB.out.setCell (Nat.le_refl _) _).setCell (Nat.le_refl _) _).setCell (Nat.le_refl _) _).setCell (Nat.le_refl _) _)
      · have hIf : cN (nxt (l.drop j)) = false := by simpa using hI
        have hway : (¬ j < s.size) ∨ (∃ h : j < s.size, ∃ y : Nat, (s[j]'h).toNat = y ∧ Hid (cD y = false) ∧ Hid (cN y = false)) := by
          by_cases hlt : j < s.size
          · refine .inr ⟨hlt, nxt (l.drop j), at_ofL HS.out hlt, ?_, hIf⟩
            unfold Hid
            cases h : cD (nxt (l.drop j)) with
            | false => rfl
            | true => exact absurd ⟨hlt, h⟩ hdig
          · exact .inl hlt
        by_cases hbad : 6 < j ∨ (1 < j ∧ nxt l = 48)
        · have hT := Lib.hid (show tkNum l = .err 2 by rw [hT0, if_neg hI, if_pos hbad])
          have hcase : 6 < j ∨ (j ≤ 6 ∧ 1 < j ∧ ∃ h : 0 < s.size, ((s[0].toNat : Int) == 48) = true) := by
            by_cases h6 : 6 < j
            · exact .inl h6
            · have h1 := hbad.resolve_left h6
              have h0 : 0 < s.size := by have := HZ.out; omega
              exact .inr ⟨by omega, h1.1, h0, by rw [HN0.out h0, h1.2]; rfl⟩
          clear hdig hspn hT0 hn0 hI hIf hbad
          rcases hway with hlt | ⟨hlt, y, hz, HF, HI⟩ <;> rcases hcase with h6 | ⟨h6, h1, h0, t48⟩
          all_goals
            go_wp2_with (first | (go_at_call 52; refine (rdigit_any _ _).mono ?_; rintro e w2 ⟨rfl, rfl⟩; rw [HF.out]) | (go_at_call 33; refine (rinner_any _ _).mono ?_; rintro e w2 ⟨rfl, rfl⟩; rw [HI.out]))
            refine bodyPost_ret (v := .tuple #[tokV 0 [] 0 0, .int .i64 0, .int .i64 2]) (RBox.result ((HT.out).store 0 0 0 []) Try.results53 _ rfl _ _ rfl rfl) rfl (RkPost.bad hT.out rfl ?_)
            exact ((((HB.out.setCell (Nat.le_refl _) _).setCell (Nat.le_refl _) _).setCell (Nat.le_refl _) _).setCell (Nat.le_refl _) _)
        · have hj6 : j ≤ 6 := by omega
          have hx : x = numF 0 (l.take j) := HX3.out (by omega)
          have hT := Lib.hid (show tkNum l = .ok 2 [] x j by rw [hT0, if_neg hI, if_neg hbad, hx])
          have hcase : ¬ 1 < j ∨ (1 < j ∧ ∃ h : 0 < s.size, ((s[0].toNat : Int) == 48) = false) := by
            by_cases h1 : 1 < j
            · have h0 : 0 < s.size := by have := HZ.out; omega
              exact .inr ⟨h1, h0, by rw [HN0.out h0]; simp; omega⟩
            · exact .inl h1
          clear hdig hspn hT0 hn0 hI hIf hbad hx
          rcases hway with hlt | ⟨hlt, y, hz, HF, HI⟩ <;> rcases hcase with h1 | ⟨h1, h0, t48⟩
          all_goals
            go_wp2_with (first | (go_at_call 52; refine (rdigit_any _ _).mono ?_; rintro e w2 ⟨rfl, rfl⟩; rw [HF.out]) | (go_at_call 33; refine (rinner_any _ _).mono ?_; rintro e w2 ⟨rfl, rfl⟩; rw [HI.out]))
            refine bodyPost_ret (v := .tuple #[tokV 2 [] x 0, .int .i64 (j : Int), .int .i64 0]) (RBox.result ((HT.out).store 2 x 0 []) Try.results53 _ rfl _ _ rfl rfl) rfl (RkPost.good hT.out rfl ?_)
            exact ((((HB.out.setCell (Nat.le_refl _) _).setCell (Nat.le_refl _) _).setCell (Nat.le_refl _) _).setCell (Nat.le_refl _) _)
end Go.Proofs.Ytolanmdckdjfeaa
