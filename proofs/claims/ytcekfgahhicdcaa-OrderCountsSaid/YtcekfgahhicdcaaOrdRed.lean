/- Reduce of order. -/
import Derived.Test.YtcekfgahhicdcaaOrdLi
import Derived.Test.YtcekfgahhicdcaaOrdCon
namespace Go.Proofs.Ytcekfgahhicdcaa
open Go.RowKit

def btw (n : Nat) (es : List (Int × Int)) (a b : Nat) : Bool := (List.range n).any fun j => Bf n es j b && Bf n es a j
def rd (n : Nat) (es : List (Int × Int)) (a b : Nat) : Bool := Bf n es a b && !btw n es a b
def rowL (n : Nat) (es : List (Int × Int)) (a b : Nat) : List (Int × Int) := ((List.range b).filter (rd n es a)).map fun b' : Nat => ((a : Int), (b' : Int))
def redL (n : Nat) (es : List (Int × Int)) (a : Nat) : List (Int × Int) := (List.range a).flatMap fun a' => rowL n es a' n
theorem rowL_succ (n : Nat) (es : List (Int × Int)) (a b : Nat) : rowL n es a (b + 1) = rowL n es a b ++ (if rd n es a b = true then [((a : Int), (b : Int))] else []) := by
  unfold rowL
  rw [List.range_succ, List.filter_append, List.map_append]
  cases h : rd n es a b <;> simp [h]
theorem redL_succ (n : Nat) (es : List (Int × Int)) (a : Nat) : redL n es (a + 1) = redL n es a ++ rowL n es a n := by
  unfold redL
  rw [List.range_succ, List.flatMap_append]
  simp
theorem rowL_zero (n : Nat) (es : List (Int × Int)) (a : Nat) : rowL n es a 0 = [] := rfl
theorem rowL_len (n : Nat) (es : List (Int × Int)) (a b : Nat) : (rowL n es a b).length ≤ b := by
  unfold rowL; rw [List.length_map]; exact Nat.le_trans (List.length_filter_le _ _) (by simp)
theorem redL_len (n : Nat) (es : List (Int × Int)) : ∀ a, (redL n es a).length ≤ a * n
  | 0 => by simp [redL]
  | a + 1 => by
    rw [redL_succ, List.length_append, Nat.succ_mul]
    have := redL_len n es a
    have := rowL_len n es a n
    omega
theorem info_pair : (Try.prog.info? 50).map (fun i => (i.zero, i.size, i.bytes)) = some (some (.agg #[.int .i64 0, .int .i64 0]), 2, 16) := by kernel_rfl
def pcells (x : Int × Int) : List Value := [.int .i64 x.1, .int .i64 x.2]
theorem pcells_at : ∀ (l : List (Int × Int)) (j : Nat) (p : Int × Int), l[j]? = some p → (l.flatMap pcells)[j * 2]? = some (.int .i64 p.1) ∧ (l.flatMap pcells)[j * 2 + 1]? = some (.int .i64 p.2)
  | [], j, p, h => by simp at h
  | x :: t, 0, p, h => by simp at h; subst h; simp [pcells]
  | x :: t, j + 1, p, h => by
    have := pcells_at t j p (by simpa using h)
    rw [show (j + 1) * 2 = j * 2 + 1 + 1 by omega, List.flatMap_cons]
    simpa [pcells] using this
theorem Prs.of_own {w : World} {B : Nat} {v : Value} {l : List (Int × Int)} (h : w.ownsRow B 50 2 v l.length (l.flatMap pcells)) : Prs w v l := by
  rcases h.2 with ⟨rfl, h0⟩ | ⟨g, cap, cur, rfl, _, hg, hn, _, hsz, ht⟩
  · exact .inl ⟨rfl, List.eq_nil_of_length_eq_zero h0⟩
  · refine .inr ⟨⟨g, 0, none⟩, cap, rfl, hn, fun j p hj => ?_⟩
    have hlt : j < l.length := (List.getElem?_eq_some_iff.1 hj).1
    obtain ⟨h1, h2⟩ := pcells_at l j p hj
    rw [← ht, List.getElem?_take, if_pos (by omega), Array.getElem?_toList] at h1 h2
    have e : ∀ k, (⟨g, 0, none⟩ : Addr).add k = ⟨g, k, none⟩ := fun k => by unfold Addr.add; split <;> simp_all
    rw [e]
    exact ⟨(cell_of_row _ _ _ _ _ _ hg).trans h1, (cell_of_row _ _ _ _ _ _ hg).trans h2⟩
theorem own_keepG {w w' : World} {B e sz n : Nat} {v : Value} {xs : List Value} (h : w.ownsRow B e sz v n xs) (hk : ∀ (g : Nat), B ≤ g → g < w.heap.size → w'.heap[g]? = w.heap[g]?) : w'.ownsRow B e sz v n xs := by
  refine ⟨h.1, ?_⟩
  rcases h.2 with hn | ⟨g, cap, cur, hv, hb, hg, rest⟩
  · exact .inl hn
  · exact .inr ⟨g, cap, cur, hv, hb, (hk g hb (lt_of_some hg)).trans hg, rest⟩
theorem Frm.grownG {w w' : World} {B e sz n : Nat} {v : Value} {xs : List Value} (hown : w.ownsRow B e sz v n xs) (hg : w.grownBy w' v.ownBlock) : Frm e B w w' :=
  ⟨hg.os, hg.tape, hg.output, hg.size, fun k hk hn => hg.block k hk (by
    intro he
    rcases hown.2 with ⟨rfl, _⟩ | ⟨g, cap, cur, rfl, hb, hh, _⟩
    · simp [Value.ownBlock] at he
    · simp [Value.ownBlock] at he
      subst he
      rcases hn with hn | hn
      · omega
      · exact hn _ _ hh)⟩
/-- append(s, p) of one pair: it lies in a new block first. -/
theorem app1P {P : Program} {w : World} {ops : Array Oper} {rest : List Oper} {o : Oper} {a : Act} {Q : Exit → Act → World → Prop} (hgd : o.guard = none) (s x : Operand) (t : TypeId)
    (ho : o.op = .call { callee := .builtin .append, args := #[s, x], argTypes := #[t, t] })
    (e : TypeId) (z : Value) (by_ : Nat) (hinfo : (P.info? e).map (fun i => (i.zero, i.size, i.bytes)) = some (some z, 2, by_)) (hzs : z.cells.size = 2) (ht : P.underlying t = some (.slice e))
    (B : Nat) (v : Value) (n : Nat) (xs : List Value) (hs : a.eval s = v) (hown : w.ownsRow B e 2 v n xs) (c0 c1 : Value) (hx : a.eval x = .slice (some ⟨w.heap.size, 0, none⟩) 1 1) (h1 : ∀ c ∈ [c0, c1], c.oneCell' = true)
    (hr : (n + 1) * by_ ≤ 140737488355328) (hm : n + 1 ≤ 140737488355328) (hB : B ≤ w.heap.size)
    (h : ∀ v' w', w'.ownsRow B e 2 v' (n + 1) (xs ++ [c0, c1]) → Frm e B w w' → wpList P ops Q rest (a.put o.dst v') w') : wpList P ops Q (o :: rest) a (w.alloc (.cells #[c0, c1] e)) := by
  obtain ⟨i0, hi, hz0, hz1, hz2⟩ := info_parts hinfo
  have hal : (w.alloc (.cells #[c0, c1] e)).ownsRow B e 2 v n xs := own_keepG hown fun g _ hg => Below.heap_alloc w _ g hg
  refine wpList_append_own _ hgd s x t ho B e i0 z 2 by_ ht hi hz0 hz1 hz2 hzs (by decide) v n xs hs hal ⟨w.heap.size, 0, none⟩ 1 1 [c0, c1] hx rfl ?_ h1 ?_ hr ?_ ?_
  · intro j u hj
    have hj3 : j < 2 := by have := (List.getElem?_eq_some_iff.1 hj).1; simpa using this
    rw [show (⟨w.heap.size, 0, none⟩ : Addr).add j = ⟨w.heap.size, j, none⟩ by unfold Addr.add; split <;> simp_all]
    rw [cell_of_row _ _ j _ _ _ (heap_alloc_new w _)]
    match j, hj3, hj with
    | 0, _, hj => exact hj
    | 1, _, hj => exact hj
  · unfold maxLen; omega
  · simp; omega
  · intro v' w' hown' hg _
    exact h v' w' hown' ((Frm.alloc_ w _).trans (Frm.grownG hal hg))
set_option maxHeartbeats 1000000 in
theorem between_any (n : Nat) (v : Value) (es : List (Int × Int)) (a b : Nat) (w : World) (h : Sl uv w v (psts (n : Int) es)) (hn : n ≤ 60) (ha : a < n) (hb : b < n) : Calls Try.prog 45 #[v, .int .i64 (a : Int), .int .u64 ((pst (n : Int) es b : Nat) : Int)] w fun e w' => e = .returned (.bool (btw n es a b)) ∧ w = w' := by
  obtain ⟨A, c, rfl⟩ := h.shape
  have H := Lib.hid h
  clear h
  rw [psts_len'] at *
  obtain ⟨R, hR⟩ : ∃ R, R = btw n es a b := ⟨_, rfl⟩
  rw [← hR]
  have HR := Lib.hid hR; clear hR
  have Hpl := Lib.hid (show pst (n : Int) es b < 2 ^ 64 from setOf_u64 (by omega) _)
  have Hpb := Lib.hid (show ∀ j, j < n → (pst (n : Int) es b).testBit j = Bf n es j b from fun j hj => bf_bit hj)
  generalize pst (n : Int) es b = p at *
  go_enter Try.func45, Try.ntmps45
  go_wp2
  go_loopw [11] (fun i wr => ∃ k : Nat, k ≤ n ∧ i = .int .i64 k ∧ wr = w ∧ Hid (∀ j, j < k → (Bf n es j b && Bf n es a j) = false)) (fun i _ => n - (intOf i).toNat)
  case atStart => exact ⟨0, Nat.zero_le _, rfl, rfl, Lib.hid (fun j h => absurd h (Nat.not_lt_zero j))⟩
  case round =>
    obtain ⟨k, hk, rfl, rfl, Hno⟩ := hrel
    by_cases hlk : k < n
    · obtain ⟨ad, c', hs, hcap, hcell, hxl⟩ := words_cell H.out hn hlk
      simp only [Value.slice.injEq, true_and] at hs
      obtain ⟨rfl, rfl⟩ := hs
      have Hxb := Lib.hid (show (pst (n : Int) es k).testBit a = Bf n es a k from bf_bit ha)
      have Hxl := Lib.hid hxl
      generalize pst (n : Int) es k = x at *
      have Hgo := Lib.hid (show (Bf n es k b && Bf n es a k) = false → ∀ j, j < k + 1 → (Bf n es j b && Bf n es a j) = false from fun h j hj => by
        by_cases e : j = k
        · rw [e]; exact h
        · exact Hno.out j (by omega))
      clear hxl
      cases h1 : Bf n es k b with
      | false =>
        have H1 := Lib.hid ((Hpb.out k hlk).trans h1)
        have Hn := Lib.hid (Hgo.out (by rw [h1]; rfl))
        clear h1 Hgo
        go_wp2_with fail
        refine (has_any p k _ Hpl.out (by omega)).mono ?_
        rintro r w1 ⟨rfl, rfl⟩
        rw [H1.out]
        go_wp2
        go_roundw
        case rel => exact ⟨k + 1, by omega, by go_num, (by first | rfl | trivial), Hn⟩
        case measure => simp [intOf]; omega
      | true =>
        have H1 := Lib.hid ((Hpb.out k hlk).trans h1)
        cases h2 : Bf n es a k with
        | false =>
          have H2 := Lib.hid (Hxb.out.trans h2)
          have Hn := Lib.hid (Hgo.out (by rw [h1, h2]; rfl))
          clear h1 h2 Hgo
          go_wp2_with fail
          refine (has_any p k _ Hpl.out (by omega)).mono ?_
          rintro r w1 ⟨rfl, rfl⟩
          rw [H1.out]
          go_wp2_with fail
          refine (has_any x a _ Hxl.out (by omega)).mono ?_
          rintro r w1 ⟨rfl, rfl⟩
          rw [H2.out]
          go_wp2
          go_roundw
          case rel => exact ⟨k + 1, by omega, by go_num, (by first | rfl | trivial), Hn⟩
          case measure => simp [intOf]; omega
        | true =>
          have hr : R = true := by
            rw [HR.out]
            unfold btw
            rw [List.any_eq_true]
            exact ⟨k, List.mem_range.2 hlk, by rw [h1, h2]; rfl⟩
          subst hr
          have H2 := Lib.hid (Hxb.out.trans h2)
          clear h1 h2 Hgo
          go_wp2_with fail
          refine (has_any p k _ Hpl.out (by omega)).mono ?_
          rintro r w1 ⟨rfl, rfl⟩
          rw [H1.out]
          go_wp2_with fail
          refine (has_any x a _ Hxl.out (by omega)).mono ?_
          rintro r w1 ⟨rfl, rfl⟩
          rw [H2.out]
          go_wp2
          go_ret
          exact ⟨rfl, rfl⟩
    · obtain rfl : k = n := by omega
      have hr : R = false := by
        rw [HR.out, Bool.eq_false_iff]
        intro h
        unfold btw at h
        rw [List.any_eq_true] at h
        obtain ⟨j, hj, hj2⟩ := h
        rw [Hno.out j (List.mem_range.1 hj)] at hj2
        cases hj2
      subst hr
      go_wp2
      go_ret
      exact ⟨rfl, rfl⟩
end Go.Proofs.Ytcekfgahhicdcaa
