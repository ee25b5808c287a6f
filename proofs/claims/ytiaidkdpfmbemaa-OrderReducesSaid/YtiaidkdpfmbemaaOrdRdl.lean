/- OrderReduces: for every input the law returns true. -/
import Derived.Test.YtiaidkdpfmbemaaOrdAw
import Derived.Test.YtiaidkdpfmbemaaOrdRdc
import Derived.Test.YtiaidkdpfmbemaaOrdRf
import Derived.Deep.RegionHeld3
import Derived.Deep.AppendLies
namespace Go.Proofs.Ytiaidkdpfmbemaa
open Go.RowKit

theorem redR_ok {n : Nat} {es : List (Int × Int)} (hv : valO n es = true) : redR n es = ((n : Int), redL n es n, 0) := by unfold redR; rw [hv, if_pos rfl, Int.toNat_natCast]
theorem befO_nat {n : Nat} {es : List (Int × Int)} (hv : valO n es = true) {a b : Nat} (ha : a < n) (hb : b < n) : befO n es a b = Bf n es a b := by
  unfold befO
  rw [hv, inB_iff.2 ⟨by omega, by omega⟩, inB_iff.2 ⟨by omega, by omega⟩]
  simp
theorem step_append_own {P : Program} {w : World} {ops : Array Oper} {o : Oper} {a : Act} {K : Act → World → Prop} {Q : Exit → Act → World → Prop} {E : Prop} (hgd : o.guard = none) (s x : Operand) (t : TypeId)
    (ho : o.op = .call { callee := .builtin .append, args := #[s, x], argTypes := #[t, t] })
    (base : Nat) (e : TypeId) (i : TypeInfo) (z : Value) (size bytes : Nat) (ht : P.underlying t = some (.slice e)) (hi : P.info? e = some i) (hz : i.zero = some z)
    (hsize : i.size = size) (hby : i.bytes = bytes) (hzs : z.cells.size = size) (hsz : 0 < size)
    (v : Value) (n : Nat) (xs : List Value) (hs : a.eval s = v) (hown : w.ownsRow base e size v n xs)
    (ad : Addr) (m c : Nat) (news : List Value) (hx : a.eval x = .slice (some ad) m c) (hl : news.length = m * size) (hnews : ∀ j u, news[j]? = some u → w.cell? (ad.add j) = some u) (h1 : ∀ u ∈ news, u.oneCell' = true)
    (h63 : n + m ≤ maxLen) (hbytes : (n + m) * bytes ≤ 140737488355328) (hbase : base ≤ w.heap.size)
    (h : ∀ v' w', w'.ownsRow base e size v' (n + m) (xs ++ news) → w.grownBy w' v.ownBlock → K (a.put o.dst v') w') :
    if Region.wanted o (yielded ops a.tmps) = true then Oper.wp P o a w K Q else E := by
  have hw : Region.wanted o (yielded ops a.tmps) = true := by simp [Region.wanted, hgd]
  rw [if_pos hw]
  exact wp_append_own w s x t ho base e i z size bytes ht hi hz hsize hby hzs hsz v n xs hs hown ad m c news hx hl hnews h1 h63 hbytes hbase fun v' w' h2 h3 _ => h v' w' h2 h3
theorem st_build (w : World) {B : Nat} (hB : B ≤ w.heap.size) : (w.alloc (.cells #[] 50)).ownsRow B 50 2 (.slice (some ⟨w.heap.size, 0, none⟩) 0 0) 0 [] :=
  ⟨rfl, .inr ⟨w.heap.size, 0, #[], rfl, hB, heap_alloc_new w _, Nat.le_refl _, by unfold maxLen; omega, rfl, rfl⟩⟩
theorem own_alloc2 {w : World} {B e n : Nat} {v : Value} {xs : List Value} (h : w.ownsRow B e 2 v n xs) (o : Obj) : (w.alloc o).ownsRow B e 2 v n xs := own_keepG h fun g _ hg => Below.heap_alloc w o g hg
theorem own_setOther {w : World} {B e n g t : Nat} {v u : Value} {xs : List Value} {i : Nat} {cs : Array Value} (h : w.ownsRow B e 2 v n xs) (hg : w.heap[g]? = some (.cells cs t (0, 0))) (ht : t ≠ e) : (w.setCell ⟨g, i, none⟩ u).ownsRow B e 2 v n xs := by
  refine ⟨h.1, ?_⟩
  rcases h.2 with hn | ⟨g', cap, cur, hv, hb, hg', rest⟩
  · exact .inl hn
  · refine .inr ⟨g', cap, cur, hv, hb, (Below.heap_setCell w ⟨g, i, none⟩ u g' ?_).trans hg', rest⟩
    intro he
    have he : g = g' := by first | exact he | exact he.symm
    subst he
    rw [hg] at hg'
    simp only [Option.some.injEq, Obj.cells.injEq] at hg'
    exact ht hg'.2.1
theorem pcells_idx : ∀ (l : List (Int × Int)) (j : Nat) (u : Value), (l.flatMap pcells)[j]? = some u → ∃ k p, l[k]? = some p ∧ ((j = k * 2 ∧ u = .int .i64 p.1) ∨ (j = k * 2 + 1 ∧ u = .int .i64 p.2))
  | [], j, u, h => by simp at h
  | x :: t, 0, u, h => ⟨0, x, rfl, .inl ⟨rfl, by simpa [pcells] using h.symm⟩⟩
  | x :: t, 1, u, h => ⟨0, x, rfl, .inr ⟨rfl, by simpa [pcells] using h.symm⟩⟩
  | x :: t, j + 2, u, h => by
    obtain ⟨k, p, h1, h2⟩ := pcells_idx t j u (by simpa [pcells] using h)
    refine ⟨k + 1, p, by simpa using h1, ?_⟩
    rcases h2 with ⟨h3, h4⟩ | ⟨h3, h4⟩
    · exact .inl ⟨by omega, h4⟩
    · exact .inr ⟨by omega, h4⟩
theorem add_add (ad : Addr) (a b : Nat) : (ad.add a).add b = ad.add (a + b) := by
  unfold Addr.add
  by_cases ha : a = 0
  · subst ha; simp
  · by_cases hb : b = 0
    · subst hb; simp [ha]
    · rw [if_neg ha, if_neg hb, if_neg (by omega)]; simp [Nat.add_assoc]
theorem add_one (ad : Addr) (a : Nat) : ad.add (a + 1) = ⟨(ad.add a).block, (ad.add a).off + 1, none⟩ := by
  unfold Addr.add
  by_cases ha : a = 0
  · subst ha; simp
  · rw [if_neg ha, if_neg (by omega)]; simp [Nat.add_assoc]
theorem news_at {w : World} {ad : Addr} {c : Nat} {L : List (Int × Int)} (h : Prs w (.slice (some ad) L.length c) L) {k : Nat} {p : Int × Int} (hk : L[k]? = some p) : w.cell? (ad.add (k * 2)) = some (.int .i64 p.1) ∧ w.cell? (ad.add (k * 2 + 1)) = some (.int .i64 p.2) := by
  rcases h with ⟨h, _⟩ | ⟨ad', c', h, _, h3⟩
  · cases h
  · simp only [Value.slice.injEq, Option.some.injEq] at h
    obtain ⟨rfl, _, rfl⟩ := h
    rw [add_one]
    exact h3 k p hk
theorem news_take {w : World} {ad : Addr} {c i : Nat} {L : List (Int × Int)} (h : Prs w (.slice (some ad) L.length c) L) : ∀ j u, ((L.take i).flatMap pcells)[j]? = some u → w.cell? (ad.add j) = some u := by
  intro j u hj
  obtain ⟨k, p, h1, h2⟩ := pcells_idx _ _ _ hj
  rw [List.getElem?_take] at h1
  split at h1
  · obtain ⟨h3, h4⟩ := news_at h h1
    rcases h2 with ⟨rfl, rfl⟩ | ⟨rfl, rfl⟩
    · exact h3
    · exact h4
  · cases h1
theorem news_drop {w : World} {ad : Addr} {c i : Nat} {L : List (Int × Int)} (h : Prs w (.slice (some ad) L.length c) L) : ∀ j u, ((L.drop i).flatMap pcells)[j]? = some u → w.cell? ((ad.add (i * 2)).add j) = some u := by
  intro j u hj
  obtain ⟨k, p, h1, h2⟩ := pcells_idx _ _ _ hj
  rw [List.getElem?_drop] at h1
  obtain ⟨h3, h4⟩ := news_at h h1
  rw [add_add]
  rcases h2 with ⟨rfl, rfl⟩ | ⟨rfl, rfl⟩
  · rw [show i * 2 + k * 2 = (i + k) * 2 by omega]; exact h3
  · rw [show i * 2 + (k * 2 + 1) = (i + k) * 2 + 1 by omega]; exact h4
theorem pcells_len (L : List (Int × Int)) : (L.flatMap pcells).length = L.length * 2 := by
  induction L with
  | nil => rfl
  | cons x t ih => rw [List.flatMap_cons, List.length_append, ih]; simp [pcells]; omega
theorem pcells_one (L : List (Int × Int)) : ∀ u ∈ L.flatMap pcells, u.oneCell' = true := by
  intro u hu
  obtain ⟨x, _, hx⟩ := List.mem_flatMap.1 hu
  simp only [pcells, List.mem_cons, List.not_mem_nil, or_false] at hx
  rcases hx with rfl | rfl <;> rfl
set_option maxRecDepth 20000 in
set_option maxHeartbeats 4000000 in
theorem orderreduces_walk (N : Int) (A : Option Addr) (c : Nat) (es : List (Int × Int)) (w : World) (h : Prs w (.slice A es.length c) es) (hmx : es.length ≤ 9223372036854775807) : Calls Try.prog 8 #[.agg #[.int .i64 N, .slice A es.length c]] w (Ok w) := by
  have hb2 : Below w.heap.size w ((w.alloc (.cells #[.int .i64 N, .slice A es.length c] 24)).alloc (.cells #[.int .i64 N, .slice A es.length c] 27)) := (below_alloc w _).trans ((below_alloc _ _).mono (by simp))
  have hx : ((w.alloc (.cells #[.int .i64 N, .slice A es.length c] 24)).alloc (.cells #[.int .i64 N, .slice A es.length c] 27)).heap[w.heap.size]? = some (.cells #[.int .i64 N, .slice A es.length c] 24 (0, 0)) := ((below_alloc (w.alloc (.cells #[.int .i64 N, .slice A es.length c] 24)) _).block _ (by simp)).trans (heap_alloc_new w _)
  have hm : ((w.alloc (.cells #[.int .i64 N, .slice A es.length c] 24)).alloc (.cells #[.int .i64 N, .slice A es.length c] 27)).heap[w.heap.size + 1]? = some (.cells #[.int .i64 N, .slice A es.length c] 27 (0, 0)) := by
    have := heap_alloc_new (w.alloc (.cells #[.int .i64 N, .slice A es.length c] 24)) (.cells #[.int .i64 N, .slice A es.length c] 27)
    simpa using this
  have hsz : ((w.alloc (.cells #[.int .i64 N, .slice A es.length c] 24)).alloc (.cells #[.int .i64 N, .slice A es.length c] 27)).heap.size = w.heap.size + 2 := by simp
  obtain ⟨W, hW⟩ : ∃ W, W = (w.alloc (.cells #[.int .i64 N, .slice A es.length c] 24)).alloc (.cells #[.int .i64 N, .slice A es.length c] 27) := ⟨_, rfl⟩
  rw [← hW] at hb2 hx hm hsz
  have HW := Lib.hid hW
  have Hb0 := Lib.hid hb2
  have KX := Lib.hid (show ∀ w', Below W.heap.size W w' → w'.heap[w.heap.size]? = some (.cells #[.int .i64 N, .slice A es.length c] 24 (0, 0)) ∧ w'.heap[w.heap.size + 1]? = some (.cells #[.int .i64 N, .slice A es.length c] 27 (0, 0)) from fun w' h => ⟨(h.block _ (by omega)).trans hx, (h.block _ (by omega)).trans hm⟩)
  have KP := Lib.hid (show ∀ w', Below W.heap.size W w' → Prs w' (.slice A es.length c) es from fun w' hw => h.below (bl2 hb2 hw))
  have KE := Lib.hid (show ∀ w', Below W.heap.size W w' → Below w.heap.size w w' from fun w' hw => bl2 hb2 hw)
  clear hW hb2 hx hm h
  cases hf : fewB N es.length with
  | false =>
    have Hf := Lib.hid hf; clear hf
    go_enter Try.func8, Try.ntmps8
    go_wp2_with fail
    rw [← HW.out]
    refine (awake_any W).mono ?_
    rintro e w1 ⟨rfl, hb1⟩
    have B1 := Lib.hid hb1
    clear hb1
    have hxx := KX.out _ B1.out
    have x0 := cell_of_row _ _ 0 _ _ _ hxx.2
    have x1 := cell_of_row _ _ 1 _ _ _ hxx.2
    have o0 := cell_of_row _ _ 0 _ _ _ hxx.1
    have o1 := cell_of_row _ _ 1 _ _ _ hxx.1
    go_wp2_with fail
    refine (few_any _ _ _ _ _).mono ?_
    rintro e w2 ⟨rfl, hb2⟩
    rw [Hf.out]
    have B2 := Lib.hid (bl2 B1.out hb2)
    clear hb2
    clear hxx x0 x1 o0 o1
    have hxx := KX.out _ B2.out
    have x0 := cell_of_row _ _ 0 _ _ _ hxx.2
    have x1 := cell_of_row _ _ 1 _ _ _ hxx.2
    have o0 := cell_of_row _ _ 0 _ _ _ hxx.1
    have o1 := cell_of_row _ _ 1 _ _ _ hxx.1
    go_wp2_with fail
    refine (awake_any _).mono ?_
    rintro e w9 ⟨rfl, hb9⟩
    have B9 := Lib.hid (KE.out _ (bl2 B2.out hb9))
    clear hb9
    go_wp2
    go_ret
    exact ⟨rfl, B9.out⟩
  | true =>
    have hl : es.length ≤ 80 ∧ N ≤ 12 := by
      unfold fewB at hf
      rw [Bool.and_eq_true, decide_eq_true_iff, decide_eq_true_iff] at hf
      exact ⟨hf.2, hf.1⟩
    obtain ⟨hl, hN⟩ := hl
    have hl' : es.length ≤ 100000 := by omega
    have Hf := Lib.hid hf; clear hf hmx
    cases hv : valO N es with
    | false =>
      have Hv := Lib.hid hv; clear hv
      go_enter Try.func8, Try.ntmps8
      go_wp2_with fail
      rw [← HW.out]
      refine (awake_any W).mono ?_
      rintro e w1 ⟨rfl, hb1⟩
      have B1 := Lib.hid hb1
      clear hb1
      have hxx := KX.out _ B1.out
      have x0 := cell_of_row _ _ 0 _ _ _ hxx.2
      have x1 := cell_of_row _ _ 1 _ _ _ hxx.2
      have o0 := cell_of_row _ _ 0 _ _ _ hxx.1
      have o1 := cell_of_row _ _ 1 _ _ _ hxx.1
      go_wp2_with fail
      refine (few_any _ _ _ _ _).mono ?_
      rintro e w2 ⟨rfl, hb2⟩
      rw [Hf.out]
      have B2 := Lib.hid (bl2 B1.out hb2)
      clear hb2
      clear hxx x0 x1 o0 o1
      have hxx := KX.out _ B2.out
      have x0 := cell_of_row _ _ 0 _ _ _ hxx.2
      have x1 := cell_of_row _ _ 1 _ _ _ hxx.2
      have o0 := cell_of_row _ _ 0 _ _ _ hxx.1
      have o1 := cell_of_row _ _ 1 _ _ _ hxx.1
      go_wp2_with fail
      refine (valid_any N _ es _ (KP.out _ B2.out) hl').mono ?_
      rintro e w3 ⟨rfl, hb3⟩
      rw [Hv.out]
      have B3 := Lib.hid (bl2 B2.out hb3)
      clear hb3 hxx x0 x1 o0 o1
      go_wp2_with fail
      refine (awake_any _).mono ?_
      rintro e w9 ⟨rfl, hb9⟩
      have B9 := Lib.hid (KE.out _ (bl2 B3.out hb9))
      clear hb9
      go_wp2
      go_ret
      exact ⟨rfl, B9.out⟩
    | true =>
      have Hv := Lib.hid hv
      obtain ⟨⟨n0, n1, n2⟩, hed, hac⟩ := valO_parts hv
      obtain ⟨n, rfl⟩ : ∃ n : Nat, N = n := ⟨N.toNat, by omega⟩
      have hn : n ≤ 12 := by omega
      have Hed := Lib.hid hed
      have Hac := Lib.hid hac
      clear hv n0 n1 n2 hed hac hN
      go_enter Try.func8, Try.ntmps8
      go_wp2_with fail
      rw [← HW.out]
      refine (awake_any W).mono ?_
      rintro e w1 ⟨rfl, hb1⟩
      have B1 := Lib.hid hb1
      clear hb1
      have hxx := KX.out _ B1.out
      have x0 := cell_of_row _ _ 0 _ _ _ hxx.2
      have x1 := cell_of_row _ _ 1 _ _ _ hxx.2
      have o0 := cell_of_row _ _ 0 _ _ _ hxx.1
      have o1 := cell_of_row _ _ 1 _ _ _ hxx.1
      go_wp2_with fail
      refine (few_any _ _ _ _ _).mono ?_
      rintro e w2 ⟨rfl, hb2⟩
      rw [Hf.out]
      have B2 := Lib.hid (bl2 B1.out hb2)
      clear hb2
      clear hxx x0 x1 o0 o1
      have hxx := KX.out _ B2.out
      have x0 := cell_of_row _ _ 0 _ _ _ hxx.2
      have x1 := cell_of_row _ _ 1 _ _ _ hxx.2
      have o0 := cell_of_row _ _ 0 _ _ _ hxx.1
      have o1 := cell_of_row _ _ 1 _ _ _ hxx.1
      go_wp2_with fail
      refine (valid_any n _ es _ (KP.out _ B2.out) hl').mono ?_
      rintro e w3 ⟨rfl, hb3⟩
      rw [Hv.out]
      have B3 := Lib.hid (bl2 B2.out hb3)
      clear hb3 hxx x0 x1 o0 o1 B2 B1
      have hxx := KX.out _ B3.out
      have x0 := cell_of_row _ _ 0 _ _ _ hxx.2
      have x1 := cell_of_row _ _ 1 _ _ _ hxx.2
      have o0 := cell_of_row _ _ 0 _ _ _ hxx.1
      have o1 := cell_of_row _ _ 1 _ _ _ hxx.1
      go_wp2_with fail
      refine (reduce_any n _ es _ (KP.out _ B3.out) hl').mono ?_
      rintro e w4 ⟨AR, cR, h1, hPr, hb4⟩
      rw [redR_ok Hv.out] at h1 hPr
      subst h1
      dsimp only at hPr
      have hrv := red_val Hv.out
      have hrl := redL_len n es n
      have hnn : n * n ≤ 12 * 12 := Nat.mul_le_mul hn hn
      have HPr := Lib.hid hPr
      have B4 := Lib.hid (bl2 B3.out hb4)
      have Hbf := Lib.hid (fun p q (hp : p < n) (hq : q < n) => (befO_nat hrv hp hq).trans (red_bf Hac.out (show n ≤ 60 by omega) hp hq))
      have Hnd := Lib.hid (fun i (hi : i < (redL n es n).length) => red_need (n := n) (es := es) hi)
      have Hrv := Lib.hid hrv
      generalize redL n es n = L at *
      have hlL : L.length ≤ 100000 := by omega
      have hlm : L.length ≤ 144 := by omega
      have hnew := heap_alloc_new w4 (.cells #[.int .i64 (n : Int), .slice AR L.length cR] 27)
      have z0 := cell_of_row _ _ 0 _ _ _ hnew
      have z1 := cell_of_row _ _ 1 _ _ _ hnew
      have HbR := Lib.hid (below_alloc w4 (.cells #[.int .i64 (n : Int), .slice AR L.length cR] 27))
      have hszR : (w4.alloc (.cells #[.int .i64 (n : Int), .slice AR L.length cR] 27)).heap.size = w4.heap.size + 1 := by simp
      obtain ⟨W5, hW5⟩ : ∃ W5, W5 = w4.alloc (.cells #[.int .i64 (n : Int), .slice AR L.length cR] 27) := ⟨_, rfl⟩
      have hn5 := hnew
      rw [← hW5] at hn5 HbR hszR
      have HW5 := Lib.hid hW5
      have KR := Lib.hid (show ∀ w', Below W5.heap.size W5 w' → w'.heap[w4.heap.size]? = some (.cells #[.int .i64 (n : Int), .slice AR L.length cR] 27 (0, 0)) from fun w' h => (h.block _ (by omega)).trans hn5)
      have KL := Lib.hid (show ∀ w', Below W5.heap.size W5 w' → Prs w' (.slice AR L.length cR) L from fun w' h => HPr.out.below (bl2 HbR.out h))
      have KB := Lib.hid (show ∀ w', Below W5.heap.size W5 w' → Below W.heap.size W w' from fun w' h => bl2 B4.out (bl2 HbR.out h))
      clear hb4 hPr hrv hrl hnn hW5 hn5 hxx x0 x1 o0 o1
      go_wp2_with fail
      rw [← HW5.out]
      refine (valid_any n _ L _ (KL.out _ (Below.refl _ _)) hlL).mono ?_
      rintro e w5 ⟨rfl, hb5⟩
      rw [Hrv.out]
      have B5 := Lib.hid hb5
      clear hb5 hnew z0 z1
      have hxx := KX.out _ (KB.out _ B5.out)
      have x0 := cell_of_row _ _ 0 _ _ _ hxx.2
      have x1 := cell_of_row _ _ 1 _ _ _ hxx.2
      have o0 := cell_of_row _ _ 0 _ _ _ hxx.1
      have o1 := cell_of_row _ _ 1 _ _ _ hxx.1
      go_wp2
      go_loopw [38] (fun i wr => ∃ p : Nat, p ≤ n ∧ i = .int .i64 p ∧ Hid (Below W5.heap.size W5 wr)) (fun i _ => n - (intOf i).toNat)
      case atStart => exact ⟨0, Nat.zero_le _, rfl, B5⟩
      case round =>
        clear hxx x0 x1 o0 o1 B5
        obtain ⟨p, hp, rfl, B5⟩ := hrel
        have hxx := KX.out _ (KB.out _ B5.out)
        have x0 := cell_of_row _ _ 0 _ _ _ hxx.2
        have x1 := cell_of_row _ _ 1 _ _ _ hxx.2
        have o0 := cell_of_row _ _ 0 _ _ _ hxx.1
        have o1 := cell_of_row _ _ 1 _ _ _ hxx.1
        by_cases hlp : p < n
        · go_wp2
          go_loopw [43] (fun i wr => ∃ q : Nat, q ≤ n ∧ i = .int .i64 q ∧ Hid (Below W5.heap.size W5 wr)) (fun i _ => n - (intOf i).toNat)
          case atStart => exact ⟨0, Nat.zero_le _, rfl, B5⟩
          case round =>
            clear hxx x0 x1 o0 o1 B5
            obtain ⟨q, hq, rfl, B6⟩ := hrel
            by_cases hlq : q < n
            · have HC := Lib.hid (show ∀ w', Below wr.heap.size wr w' → Below W5.heap.size W5 w' from fun w' h => bl2 B6.out h)
              have HB := Lib.hid (show ∀ w', Below wr.heap.size wr w' → Below W.heap.size W w' from fun w' h => KB.out _ (HC.out _ h))
              have Hb1 := Lib.hid (befO_nat Hv.out hlp hlq)
              have Hb2 := Lib.hid (Hbf.out p q hlp hlq)
              go_wp2_with fail
              refine region_phi (n := 93) (fun i v w' => match i with
                    | 0 => v = .agg #[.int .i64 (n : Int), .slice A es.length c]
                    | 1 => v = .int .i64 (p : Int)
                    | 2 => v = .int .i64 (q : Int)
                    | 3 => v = .bool (Bf n es p q)
                    | 4 => v = .agg #[.int .i64 (n : Int), .slice AR L.length cR]
                    | 5 => v = .int .i64 (p : Int)
                    | 6 => v = .int .i64 (q : Int)
                    | 7 => v = .bool (Bf n es p q)
                    | 8 => v = .bool false
                    | _ => True) (by kernel_rfl) (by kernel_rfl) rfl ?_ (allOps_spec ?_) ?_
              · intro i v w' w'' h hb
                match i, h with
                | 0, h => exact h
                | 1, h => exact h
                | 2, h => exact h
                | 3, h => exact h
                | 4, h => exact h
                | 5, h => exact h
                | 6, h => exact h
                | 7, h => exact h
                | 8, h => exact h
                | _ + 9, _ => trivial
              · refine ⟨?_, ?_, ?_, ?_, ?_, ?_, ?_, ?_, ?_, trivial⟩
                · intro a w' hb hp
                  have b3 : a.tmps[3]?.getD undef = .pointer (some ⟨w.heap.size + 1, 0, none⟩) := hb.at 3 (by kernel_rfl)
                  exact step_run (v := .agg #[.int .i64 (n : Int), .slice A es.length c]) rfl (by simp [execOp, go_sem, b3, cell_of_row _ _ 0 _ _ _ (KX.out _ (HB.out _ hb.ext)).2, cell_of_row _ _ 1 _ _ _ (KX.out _ (HB.out _ hb.ext)).2]) rfl
                · intro a w' hb hp
                  have b6 : a.tmps[6]?.getD undef = .int .i64 (p : Int) := hb.at 6 (by kernel_rfl)
                  exact step_run (v := .int .i64 (p : Int)) rfl (by simp [execOp, Act.eval, b6]) rfl
                · intro a w' hb hp
                  have b7 : a.tmps[7]?.getD undef = .int .i64 (q : Int) := hb.at 7 (by kernel_rfl)
                  exact step_run (v := .int .i64 (q : Int)) rfl (by simp [execOp, Act.eval, b7]) rfl
                · intro a w' hb hp
                  have h46 : a.tmps[46]?.getD undef = .agg #[.int .i64 (n : Int), .slice A es.length c] := slot_eq.symm.trans (hp ⟨0, .data⟩ (by simp) rfl _ rfl)
                  have h47 : a.tmps[47]?.getD undef = .int .i64 (p : Int) := slot_eq.symm.trans (hp ⟨1, .data⟩ (by simp) rfl _ rfl)
                  have h48 : a.tmps[48]?.getD undef = .int .i64 (q : Int) := slot_eq.symm.trans (hp ⟨2, .data⟩ (by simp) rfl _ rfl)
                  refine step_call (f := 15) (args := #[.agg #[.int .i64 (n : Int), .slice A es.length c], .int .i64 (p : Int), .int .i64 (q : Int)]) rfl (by simp [go_sem, h46, h47, h48]) ?_
                  refine (before_any n _ _ _ es _ (KP.out _ (HB.out _ hb.ext)) hl').mono ?_
                  rintro e w8 ⟨h9, hb8⟩
                  rw [Hb1.out] at h9
                  exact ⟨_, h9, hb8, rfl⟩
                · intro a w' hb hp
                  have b4 : a.tmps[4]?.getD undef = .pointer (some ⟨w4.heap.size, 0, none⟩) := hb.at 4 (by kernel_rfl)
                  exact step_run (v := .agg #[.int .i64 (n : Int), .slice AR L.length cR]) rfl (by simp [execOp, go_sem, b4, cell_of_row _ _ 0 _ _ _ (KR.out _ (HC.out _ hb.ext)), cell_of_row _ _ 1 _ _ _ (KR.out _ (HC.out _ hb.ext))]) rfl
                · intro a w' hb hp
                  have b6 : a.tmps[6]?.getD undef = .int .i64 (p : Int) := hb.at 6 (by kernel_rfl)
                  exact step_run (v := .int .i64 (p : Int)) rfl (by simp [execOp, Act.eval, b6]) rfl
                · intro a w' hb hp
                  have b7 : a.tmps[7]?.getD undef = .int .i64 (q : Int) := hb.at 7 (by kernel_rfl)
                  exact step_run (v := .int .i64 (q : Int)) rfl (by simp [execOp, Act.eval, b7]) rfl
                · intro a w' hb hp
                  have h50 : a.tmps[50]?.getD undef = .agg #[.int .i64 (n : Int), .slice AR L.length cR] := slot_eq.symm.trans (hp ⟨4, .data⟩ (by simp) rfl _ rfl)
                  have h51 : a.tmps[51]?.getD undef = .int .i64 (p : Int) := slot_eq.symm.trans (hp ⟨5, .data⟩ (by simp) rfl _ rfl)
                  have h52 : a.tmps[52]?.getD undef = .int .i64 (q : Int) := slot_eq.symm.trans (hp ⟨6, .data⟩ (by simp) rfl _ rfl)
                  refine step_call (f := 15) (args := #[.agg #[.int .i64 (n : Int), .slice AR L.length cR], .int .i64 (p : Int), .int .i64 (q : Int)]) rfl (by simp [go_sem, h50, h51, h52]) ?_
                  refine (before_any n _ _ _ L _ (KL.out _ (HC.out _ hb.ext)) hlL).mono ?_
                  rintro e w8 ⟨h9, hb8⟩
                  rw [Hb2.out] at h9
                  exact ⟨_, h9, hb8, rfl⟩
                · intro a w' hb hp
                  have h49 : a.tmps[49]?.getD undef = .bool (Bf n es p q) := slot_eq.symm.trans (hp ⟨3, .data⟩ (by simp) rfl _ rfl)
                  have h53 : a.tmps[53]?.getD undef = .bool (Bf n es p q) := slot_eq.symm.trans (hp ⟨7, .data⟩ (by simp) rfl _ rfl)
                  exact step_run (v := .bool false) rfl (by simp [execOp, go_sem, h49, h53]) rfl
              · intro vs w8 hb8 hv
                have h8 : vs 8 = .bool false := hv 8 (by decide)
                simp only [putAll, Act.put, List.setIfInBounds_toArray, List.set_cons_zero, List.set_cons_succ, Nat.zero_add, Nat.reduceAdd, h8]
                clear hv
                have B7 := Lib.hid (bl2 B6.out hb8)
                clear hb8
                go_wp2
                go_roundw
                case rel => exact ⟨q + 1, by omega, by go_num, B7⟩
                case measure => simp [intOf]; omega
            · go_wp2
              go_roundw
              case rel => exact ⟨p + 1, by omega, by go_num, B6⟩
              case measure => simp [intOf]; omega
        · have hr5 := KR.out _ B5.out
          have z1 := cell_of_row _ _ 1 _ _ _ hr5
          go_wp2
          go_loopw [60] (fun i wr => ∃ m : Nat, m ≤ L.length ∧ i = .int .i64 m ∧ Hid (Below W5.heap.size W5 wr)) (fun i _ => L.length - (intOf i).toNat)
          case atStart => exact ⟨0, Nat.zero_le _, rfl, B5⟩
          case round =>
            clear hxx x0 x1 o0 o1 B5 hr5 z1
            obtain ⟨m, hm, rfl, B6⟩ := hrel
            by_cases hlt : m < L.length
            · have hr := KR.out _ B6.out
              obtain ⟨ad, c', hs, hcap, hc1, hc2⟩ := prs_cell (KL.out _ B6.out) m hlt
              simp only [Value.slice.injEq, true_and] at hs
              obtain ⟨rfl, rfl⟩ := hs
              have c0 : wr.cell? ⟨w4.heap.size, 0, none⟩ = some (.int .i64 (n : Int)) := cell_of_row _ _ 0 _ _ _ hr
              have c1 : wr.cell? ⟨w4.heap.size, 1, none⟩ = some (.slice (some ad) L.length cR) := cell_of_row _ _ 1 _ _ _ hr
              have HX0 := Lib.hid (show ∀ w', Below wr.heap.size wr w' → w'.cell? (ad.add (m * 2)) = some (.int .i64 L[m].1) from fun w' h => (h.cell (World.block_lt_of_cell? _ _ hc1)).trans hc1)
              have HY0 := Lib.hid (show ∀ w', Below wr.heap.size wr w' → w'.cell? ⟨(ad.add (m * 2)).block, (ad.add (m * 2)).off + 1, none⟩ = some (.int .i64 L[m].2) from fun w' h => (h.cell (World.block_lt_of_cell? _ _ hc2)).trans hc2)
              have Hne := Lib.hid (Hnd.out m hlt)
              have hLS : (L.take m ++ L.drop (m + 1)).length = m + (L.length - (m + 1)) := by rw [List.length_append, List.length_take, List.length_drop, Nat.min_eq_left hm]
              have hlLS : (L.take m ++ L.drop (m + 1)).length ≤ 100000 := by omega
              generalize L[m].1 = x at *
              generalize L[m].2 = y at *
              have KS := Lib.hid (show ∀ w', Below wr.heap.size wr w' → w'.cell? ⟨w4.heap.size, 0, none⟩ = some (.int .i64 (n : Int)) ∧ w'.cell? ⟨w4.heap.size, 1, none⟩ = some (.slice (some ad) L.length cR) from fun w' h => ⟨cell_of_row _ _ 0 _ _ _ (KR.out _ (bl2 B6.out h)), cell_of_row _ _ 1 _ _ _ (KR.out _ (bl2 B6.out h))⟩)
              have KN := Lib.hid (show ∀ w', Below wr.heap.size wr w' → Prs w' (.slice (some ad) L.length cR) L from fun w' h => KL.out _ (bl2 B6.out h))
              have g1 : m ≤ cR := by omega
              have g2 : m + 1 ≤ L.length := by omega
              have g3 : ((m : Int) + 1) ≤ (L.length : Int) := by omega
              have g4 : (0 : Int) ≤ ((m : Int) + 1) := by omega
              have g5 : ((m : Int) + 1).toNat = m + 1 := by omega
              have g6 : IntKind.i64.wrap ((m : Int) + 1) = (m : Int) + 1 := by rw [IntKind.wrap_i64]; omega
              obtain ⟨ad3, hAd⟩ : ∃ ad3, (if cR = m + 1 then some ad else some (ad.add ((m + 1) * 2))) = some ad3 := by
                split
                · exact ⟨_, rfl⟩
                · exact ⟨_, rfl⟩
              obtain ⟨i0, hi0, hz0, hz1, hz2⟩ := info_parts info_pair
              have hl1 : ((L.take m).flatMap pcells).length = m * 2 := by rw [pcells_len, List.length_take, Nat.min_eq_left hm]
              have hl3 : ((L.drop (m + 1)).flatMap pcells).length = (L.length - (m + 1)) * 2 := by rw [pcells_len, List.length_drop]
              have HN1 := Lib.hid (show ∀ w', Below wr.heap.size wr w' → ∀ j u, ((L.take m).flatMap pcells)[j]? = some u → w'.cell? (ad.add j) = some u from fun w' h => news_take (KN.out _ h))
              have HN3 := Lib.hid (show ∀ w', Below wr.heap.size wr w' → ∀ j u, ((L.drop (m + 1)).flatMap pcells)[j]? = some u → w'.cell? (ad3.add j) = some u from fun w' h => by
                by_cases hcr : cR = m + 1
                · have e : L.drop (m + 1) = [] := List.drop_of_length_le (by omega)
                  rw [e]
                  intro j u hj
                  simp at hj
                · rw [if_neg hcr, Option.some.injEq] at hAd
                  rw [← hAd]
                  exact news_drop (KN.out _ h))
              clear hr hc1 hc2
              go_wp2_with fail
              refine wp_region_noPanic ?_
              refine wp_region_held_drew (S := fun w' => w'.cell? ⟨w4.heap.size, 0, none⟩ = some (.int .i64 (n : Int)) ∧ w'.cell? ⟨w4.heap.size, 1, none⟩ = some (.slice (some ad) L.length cR)) (by kernel_rfl) ⟨c0, c1⟩ (fun hHeld => ?_)
              have HD : Below wr.heap.size wr wr.drew := bl_drew (Below.refl _ _)
              have hsd : wr.drew.heap.size = wr.heap.size := rfl
              generalize wr.drew = wd at *
              refine wpAnyH_take (i := 0) (v := ?_) rfl (by kernel_rfl) (by kernel_rfl) (by kernel_rfl) (fun _ _ _ h => h) (Or.inl ⟨by rfl, ?_⟩) hHeld ?_
              rotate_left
              focus ((intro w hSw; (try dsimp only at hSw); go_simp); try with_reducible rfl)
              try simp only [Act.put]
              refine wpAnyH_take (i := 1) (v := ?_) rfl (by kernel_rfl) (by kernel_rfl) (by kernel_rfl) (fun _ _ _ h => h) (Or.inl ⟨by rfl, ?_⟩) hHeld ?_
              rotate_left
              focus ((intro w hSw; (try dsimp only at hSw); go_simp); try with_reducible rfl)
              try simp only [Act.put]
              refine wpAnyH_take (i := 3) (v := ?_) rfl (by kernel_rfl) (by kernel_rfl) (by kernel_rfl) (fun _ _ _ h => h) (Or.inl ⟨by rfl, ?_⟩) hHeld ?_
              rotate_left
              focus ((intro w hSw; (try dsimp only at hSw); go_simp); try with_reducible rfl)
              try simp only [Act.put]
              refine wpAnyH_take (i := 4) (v := ?_) rfl (by kernel_rfl) (by kernel_rfl) (by kernel_rfl) (fun _ _ _ h => h) (Or.inl ⟨by rfl, ?_⟩) hHeld ?_
              rotate_left
              focus ((intro w hSw; (try dsimp only at hSw); go_simp); try with_reducible rfl)
              try simp only [Act.put]
              refine wpAnyH_take (i := 5) (v := ?_) rfl (by kernel_rfl) (by kernel_rfl) (by kernel_rfl) (fun _ _ _ h => h) (Or.inl ⟨by rfl, ?_⟩) hHeld ?_
              rotate_left
              focus ((intro w hSw; (try dsimp only at hSw); go_simp); try with_reducible rfl)
              try simp only [Act.put]
              refine wpAnyH_take (i := 6) (v := ?_) rfl (by kernel_rfl) (by kernel_rfl) (by kernel_rfl) (fun _ _ _ h => h) (Or.inl ⟨by rfl, ?_⟩) hHeld ?_
              rotate_left
              focus ((intro w hSw; (try dsimp only at hSw); go_simp); try with_reducible rfl)
              try simp only [Act.put]
              refine wpAnyH_take (i := 8) (v := ?_) rfl (by kernel_rfl) (by kernel_rfl) (by kernel_rfl) (fun _ _ _ h => h) (Or.inl ⟨by rfl, ?_⟩) hHeld ?_
              rotate_left
              focus ((intro w hSw; (try dsimp only at hSw); go_simp); try with_reducible rfl)
              try simp only [Act.put]
              refine wpAnyH_take (i := 9) (v := ?_) rfl (by kernel_rfl) (by kernel_rfl) (by kernel_rfl) (fun _ _ _ h => h) (Or.inl ⟨by rfl, ?_⟩) hHeld ?_
              rotate_left
              focus ((intro w hSw; (try dsimp only at hSw); go_simp); try with_reducible rfl)
              try simp only [Act.put]
              refine wpAnyH_take (i := 10) (v := ?_) rfl (by kernel_rfl) (by kernel_rfl) (by kernel_rfl) (fun _ _ _ h => h) (Or.inl ⟨by rfl, ?_⟩) hHeld ?_
              rotate_left
              focus ((intro w hSw; (try dsimp only at hSw); go_simp); try with_reducible rfl)
              try simp only [Act.put]
              refine wpAnyH_take (i := 11) (v := ?_) rfl (by kernel_rfl) (by kernel_rfl) (by kernel_rfl) (fun _ _ _ h => h) (Or.inl ⟨by rfl, ?_⟩) hHeld ?_
              rotate_left
              focus ((intro w hSw; (try dsimp only at hSw); go_simp); try with_reducible rfl)
              try simp only [Act.put]
              refine wpAnyH_take (i := 12) (v := ?_) rfl (by kernel_rfl) (by kernel_rfl) (by kernel_rfl) (fun _ _ _ h => h) (Or.inl ⟨by rfl, ?_⟩) hHeld ?_
              rotate_left
              focus ((intro w hSw; (try dsimp only at hSw); go_simp); try with_reducible rfl)
              try simp only [Act.put]
              refine wpAnyH_ready (rs := [2, 15]) (by kernel_rfl) (by simp) ?_
              refine AllReadyH.cons rfl (fun K hK => ?_) ?_
              focus (go_simp; refine hK.out _ _ (KS.out (wd.alloc (.cells #[] 50)) (HD.alloc HD.size _)) (fun hHeld => ?_); clear hK K; try simp only [Act.put])
              · have own2 : (wd.alloc (.cells #[] 50)).ownsRow wr.heap.size 50 2 (.slice (some ⟨wr.heap.size, 0, none⟩) 0 0) 0 [] := by
                  have h := st_build wd HD.size
                  first | exact h | (rw [hsd] at h; exact h) | simpa [hsd] using h
                refine wpAnyH_ready (rs := [7, 15]) (by kernel_rfl) (by simp) ?_
                refine AllReadyH.cons rfl (fun K hK => ?_) ?_
                focus ((refine step_append_own (by rfl) _ _ _ (by rfl) wr.heap.size 50 i0 _ 2 16 (by kernel_rfl) hi0 hz0 hz1 hz2 rfl (by omega) _ 0 [] (by rfl) own2 ad m cR ((L.take m).flatMap pcells) (by rfl) hl1 (HN1.out _ (HD.alloc HD.size _)) (pcells_one _) (by unfold maxLen; omega) (by omega) (HD.alloc HD.size _).size ?_; intro v7 w7 hown7 hg7; have hfr7 := Frm.grownG own2 hg7; have hbl7 := (HD.alloc HD.size _).trans (hfr7.below (HD.alloc HD.size _).size); rw [Nat.zero_add, List.nil_append] at hown7; obtain ⟨A7, c7, rfl⟩ := own_shapeG hown7); refine hK.out _ _ (KS.out _ hbl7) (fun hHeld => ?_); clear hK K; try simp only [Act.put])
                · refine wpAnyH_ready (rs := [13, 15]) (by kernel_rfl) (by simp) ?_
                  refine AllReadyH.cons rfl (fun K hK => ?_) ?_
                  focus ((refine step_append_own (by rfl) _ _ _ (by rfl) wr.heap.size 50 i0 _ 2 16 (by kernel_rfl) hi0 hz0 hz1 hz2 rfl (by omega) _ m ((L.take m).flatMap pcells) (by rfl) hown7 ad3 (L.length - (m + 1)) (cR - (m + 1)) ((L.drop (m + 1)).flatMap pcells) (by rfl) hl3 (HN3.out _ hbl7) (pcells_one _) (by unfold maxLen; omega) (by omega) hbl7.size ?_; intro v13 w13 hown13 hg13; have hfr13 := Frm.grownG hown7 hg13; have hbl13 := hbl7.trans (hfr13.below hbl7.size); obtain ⟨A13, c13, rfl⟩ := own_shapeG hown13); refine hK.out _ _ (KS.out _ hbl13) (fun hHeld => ?_); clear hK K; try simp only [Act.put])
                  · refine wpAnyH_take (i := 14) (v := ?_) rfl (by kernel_rfl) (by kernel_rfl) (by kernel_rfl) (fun _ _ _ h => h) (Or.inl ⟨by rfl, ?_⟩) hHeld ?_
                    rotate_left
                    focus ((intro w hSw; (try dsimp only at hSw); go_simp); try with_reducible rfl)
                    try simp only [Act.put]
                    refine wpAnyH_ready (rs := [15]) (by kernel_rfl) (by simp) ?_
                    refine AllReadyH.cons rfl (fun K hK => ?_) ?_
                    focus (go_simp; refine hK.out _ _ (KS.out (w13.alloc (.cells #[.int .i64 0, .slice none 0 0] 27)) (hbl13.alloc hbl13.size _)) (fun hHeld => ?_); clear hK K; try simp only [Act.put])
                    · have XB15 : (w13.alloc (.cells #[.int .i64 0, .slice none 0 0] 27)).heap[w13.heap.size]? = some (.cells #[.int .i64 0, .slice none 0 0] 27 (0, 0)) := by
                        have h := heap_alloc_new w13 (.cells #[.int .i64 0, .slice none 0 0] 27)
                        first | exact h | (rw [hsd] at h; exact h) | simpa [hsd] using h
                      have own15 := own_alloc2 hown13 (.cells #[.int .i64 0, .slice none 0 0] 27)
                      have XBf : (w13.alloc (.cells #[.int .i64 0, .slice none 0 0] 27)).heap[w13.heap.size]? = some (.cells #[.int .i64 0, .slice none 0 0] 27 (0, 0)) := XB15
                      have ownF := own15
                      have BLF : Below wr.heap.size wr (w13.alloc (.cells #[.int .i64 0, .slice none 0 0] 27)) := (hbl13.alloc hbl13.size _)
                      generalize hcur : (w13.alloc (.cells #[.int .i64 0, .slice none 0 0] 27)) = cur at *
                      clear hcur
                      have e0 := cell_of_row _ _ 0 _ _ _ XBf
                      have e1 := cell_of_row _ _ 1 _ _ _ XBf
                      have ef0 := frozen_ofR XBf 0
                      have ef1 := frozen_ofR XBf 1
                      have hge : wr.heap.size ≤ w13.heap.size := by have := hbl7.size; have := hbl13.size; omega
                      have hBs := BLF.size
                      refine wpAnyH_ready (rs := [16]) (by kernel_rfl) (by simp) ?_
                      refine AllReadyH.cons rfl (fun K hK => ?_) ?_
                      focus (go_simp; refine hK.out _ _ (KS.out _ ((BLF.setCell (p := ⟨w13.heap.size, 0, none⟩) hge _).setCell (p := ⟨w13.heap.size, 1, none⟩) hge _)) (fun hHeld => ?_); clear hK K; try simp only [Act.put])
                      rotate_left
                      exact AllReadyH.nil
                      refine wpAnyH_done (by kernel_rfl) ?_ _
                      refine NoPanic.normal ?_
                      have XF : ((cur.setCell ⟨w13.heap.size, 0, none⟩ (.int .i64 (n : Int))).setCell ⟨w13.heap.size, 1, none⟩ (.slice A13 (m + (L.length - (m + 1))) c13)).heap[w13.heap.size]? = some (.cells #[.int .i64 (n : Int), .slice A13 (L.take m ++ L.drop (m + 1)).length c13] 27 (0, 0)) := by rw [hLS]; exact heap_set_2 XBf _ _
                      have ownG : cur.ownsRow wr.heap.size 50 2 (.slice A13 (L.take m ++ L.drop (m + 1)).length c13) (L.take m ++ L.drop (m + 1)).length ((L.take m ++ L.drop (m + 1)).flatMap pcells) := by
                        rw [hLS, List.flatMap_append]
                        simpa using ownF
                      have PF : Prs ((cur.setCell ⟨w13.heap.size, 0, none⟩ (.int .i64 (n : Int))).setCell ⟨w13.heap.size, 1, none⟩ (.slice A13 (m + (L.length - (m + 1))) c13)) (.slice A13 (L.take m ++ L.drop (m + 1)).length c13) (L.take m ++ L.drop (m + 1)) := Prs.of_own (own_setOther (own_setOther ownG XBf (by decide)) (heap_setCell_same _ _ 0 _ _ _ XBf) (by decide))
                      have BF : Below wr.heap.size wr ((cur.setCell ⟨w13.heap.size, 0, none⟩ (.int .i64 (n : Int))).setCell ⟨w13.heap.size, 1, none⟩ (.slice A13 (m + (L.length - (m + 1))) c13)) := (BLF.setCell (p := ⟨w13.heap.size, 0, none⟩) hge _).setCell (p := ⟨w13.heap.size, 1, none⟩) hge _
                      clear ownF ownG XBf e0 e1 ef0 ef1 hBs
                      generalize ((cur.setCell ⟨w13.heap.size, 0, none⟩ (.int .i64 (n : Int))).setCell ⟨w13.heap.size, 1, none⟩ (.slice A13 (m + (L.length - (m + 1))) c13)) = wF at *
                      have KF := Lib.hid (show ∀ w', Below wF.heap.size wF w' → w'.heap[w13.heap.size]? = some (.cells #[.int .i64 (n : Int), .slice A13 (L.take m ++ L.drop (m + 1)).length c13] 27 (0, 0)) from fun w' h => (h.block _ (lt_of_some XF)).trans XF)
                      have KPF := Lib.hid (show ∀ w', Below wF.heap.size wF w' → Prs w' (.slice A13 (L.take m ++ L.drop (m + 1)).length c13) (L.take m ++ L.drop (m + 1)) from fun w' h => PF.below h)
                      have HC := Lib.hid (show ∀ w', Below wF.heap.size wF w' → Below W5.heap.size W5 w' from fun w' h => bl2 (bl2 B6.out BF) h)
                      have HX := Lib.hid (show ∀ w', Below wF.heap.size wF w' → w'.cell? (ad.add (m * 2)) = some (.int .i64 x) from fun w' h => HX0.out _ (bl2 BF h))
                      have HYc := Lib.hid (show ∀ w', Below wF.heap.size wF w' → w'.cell? ⟨(ad.add (m * 2)).block, (ad.add (m * 2)).off + 1, none⟩ = some (.int .i64 y) from fun w' h => HY0.out _ (bl2 BF h))
                      clear XF PF BF hHeld
                      go_wp2_with fail
                      refine region_phi (n := 93) (fun i v w' => match i with
                            | 0 => v = .agg #[.int .i64 (n : Int), .slice A13 (L.take m ++ L.drop (m + 1)).length c13]
                            | 1 => v = .pointer (some ⟨w4.heap.size, 1, none⟩)
                            | 2 => v = .slice (some ad) L.length cR
                            | 3 => v = .int .i64 (m : Int)
                            | 4 => v = .pointer (some (ad.add (m * 2)))
                            | 5 => v = .pointer (some (ad.add (m * 2)))
                            | 6 => v = .int .i64 x
                            | 7 => v = .pointer (some ⟨w4.heap.size, 1, none⟩)
                            | 8 => v = .slice (some ad) L.length cR
                            | 9 => v = .int .i64 (m : Int)
                            | 10 => v = .pointer (some (ad.add (m * 2)))
                            | 11 => v = .pointer (some ⟨(ad.add (m * 2)).block, (ad.add (m * 2)).off + 1, none⟩)
                            | 12 => v = .int .i64 y
                            | 13 => v = .bool false
                            | _ => True) (by kernel_rfl) (by kernel_rfl) rfl ?_ (allOps_spec ?_) ?_
                      · intro i v w' w'' h hb
                        match i, h with
                        | 0, h => exact h
                        | 1, h => exact h
                        | 2, h => exact h
                        | 3, h => exact h
                        | 4, h => exact h
                        | 5, h => exact h
                        | 6, h => exact h
                        | 7, h => exact h
                        | 8, h => exact h
                        | 9, h => exact h
                        | 10, h => exact h
                        | 11, h => exact h
                        | 12, h => exact h
                        | 13, h => exact h
                        | _ + 14, _ => trivial
                      · refine ⟨?_, ?_, ?_, ?_, ?_, ?_, ?_, ?_, ?_, ?_, ?_, ?_, ?_, ?_, trivial⟩
                        · intro a w' hb hp
                          have b9 : a.tmps[9]?.getD undef = .pointer (some ⟨w13.heap.size, 0, none⟩) := hb.at 9 (by kernel_rfl)
                          exact step_run (v := .agg #[.int .i64 (n : Int), .slice A13 (L.take m ++ L.drop (m + 1)).length c13]) rfl (by simp [execOp, go_sem, b9, cell_of_row _ _ 0 _ _ _ (KF.out _ hb.ext), cell_of_row _ _ 1 _ _ _ (KF.out _ hb.ext)]) rfl
                        · intro a w' hb hp
                          have b4 : a.tmps[4]?.getD undef = .pointer (some ⟨w4.heap.size, 0, none⟩) := hb.at 4 (by kernel_rfl)
                          exact step_run (v := .pointer (some ⟨w4.heap.size, 1, none⟩)) rfl (by simp [execOp, go_sem, b4]) rfl
                        · intro a w' hb hp
                          have h79 : a.tmps[79]?.getD undef = .pointer (some ⟨w4.heap.size, 1, none⟩) := slot_eq.symm.trans (hp ⟨1, .data⟩ (by simp) rfl _ rfl)
                          exact step_run (v := .slice (some ad) L.length cR) rfl (by simp [execOp, go_sem, h79, cell_of_row _ _ 1 _ _ _ (KR.out _ (HC.out _ hb.ext))]) rfl
                        · intro a w' hb hp
                          have b8 : a.tmps[8]?.getD undef = .int .i64 (m : Int) := hb.at 8 (by kernel_rfl)
                          exact step_run (v := .int .i64 (m : Int)) rfl (by simp [execOp, Act.eval, b8]) rfl
                        · intro a w' hb hp
                          have h80 : a.tmps[80]?.getD undef = .slice (some ad) L.length cR := slot_eq.symm.trans (hp ⟨2, .data⟩ (by simp) rfl _ rfl)
                          have h81 : a.tmps[81]?.getD undef = .int .i64 (m : Int) := slot_eq.symm.trans (hp ⟨3, .data⟩ (by simp) rfl _ rfl)
                          exact step_run (v := .pointer (some (ad.add (m * 2)))) rfl (by simp [execOp, go_sem, h80, h81, show (0 : Int) ≤ (m : Int) by omega, show (m : Int) < (L.length : Int) by omega]) rfl
                        · intro a w' hb hp
                          have h82 : a.tmps[82]?.getD undef = .pointer (some (ad.add (m * 2))) := slot_eq.symm.trans (hp ⟨4, .data⟩ (by simp) rfl _ rfl)
                          exact step_run (v := .pointer (some (ad.add (m * 2)))) rfl (by simp [execOp, go_sem, h82]) rfl
                        · intro a w' hb hp
                          have h83 : a.tmps[83]?.getD undef = .pointer (some (ad.add (m * 2))) := slot_eq.symm.trans (hp ⟨5, .data⟩ (by simp) rfl _ rfl)
                          exact step_run (v := .int .i64 x) rfl (by simp [execOp, go_sem, h83, (HX.out _ hb.ext)]) rfl
                        · intro a w' hb hp
                          have b4 : a.tmps[4]?.getD undef = .pointer (some ⟨w4.heap.size, 0, none⟩) := hb.at 4 (by kernel_rfl)
                          exact step_run (v := .pointer (some ⟨w4.heap.size, 1, none⟩)) rfl (by simp [execOp, go_sem, b4]) rfl
                        · intro a w' hb hp
                          have h85 : a.tmps[85]?.getD undef = .pointer (some ⟨w4.heap.size, 1, none⟩) := slot_eq.symm.trans (hp ⟨7, .data⟩ (by simp) rfl _ rfl)
                          exact step_run (v := .slice (some ad) L.length cR) rfl (by simp [execOp, go_sem, h85, cell_of_row _ _ 1 _ _ _ (KR.out _ (HC.out _ hb.ext))]) rfl
                        · intro a w' hb hp
                          have b8 : a.tmps[8]?.getD undef = .int .i64 (m : Int) := hb.at 8 (by kernel_rfl)
                          exact step_run (v := .int .i64 (m : Int)) rfl (by simp [execOp, Act.eval, b8]) rfl
                        · intro a w' hb hp
                          have h86 : a.tmps[86]?.getD undef = .slice (some ad) L.length cR := slot_eq.symm.trans (hp ⟨8, .data⟩ (by simp) rfl _ rfl)
                          have h87 : a.tmps[87]?.getD undef = .int .i64 (m : Int) := slot_eq.symm.trans (hp ⟨9, .data⟩ (by simp) rfl _ rfl)
                          exact step_run (v := .pointer (some (ad.add (m * 2)))) rfl (by simp [execOp, go_sem, h86, h87, show (0 : Int) ≤ (m : Int) by omega, show (m : Int) < (L.length : Int) by omega]) rfl
                        · intro a w' hb hp
                          have h88 : a.tmps[88]?.getD undef = .pointer (some (ad.add (m * 2))) := slot_eq.symm.trans (hp ⟨10, .data⟩ (by simp) rfl _ rfl)
                          exact step_run (v := .pointer (some ⟨(ad.add (m * 2)).block, (ad.add (m * 2)).off + 1, none⟩)) rfl (by simp [execOp, go_sem, h88]) rfl
                        · intro a w' hb hp
                          have h89 : a.tmps[89]?.getD undef = .pointer (some ⟨(ad.add (m * 2)).block, (ad.add (m * 2)).off + 1, none⟩) := slot_eq.symm.trans (hp ⟨11, .data⟩ (by simp) rfl _ rfl)
                          exact step_run (v := .int .i64 y) rfl (by simp [execOp, go_sem, h89, (HYc.out _ hb.ext)]) rfl
                        · intro a w' hb hp
                          have h78 : a.tmps[78]?.getD undef = .agg #[.int .i64 (n : Int), .slice A13 (L.take m ++ L.drop (m + 1)).length c13] := slot_eq.symm.trans (hp ⟨0, .data⟩ (by simp) rfl _ rfl)
                          have h84 : a.tmps[84]?.getD undef = .int .i64 x := slot_eq.symm.trans (hp ⟨6, .data⟩ (by simp) rfl _ rfl)
                          have h90 : a.tmps[90]?.getD undef = .int .i64 y := slot_eq.symm.trans (hp ⟨12, .data⟩ (by simp) rfl _ rfl)
                          refine step_call (f := 15) (args := #[.agg #[.int .i64 (n : Int), .slice A13 (L.take m ++ L.drop (m + 1)).length c13], .int .i64 x, .int .i64 y]) rfl (by simp [go_sem, h78, h84, h90]) ?_
                          refine (before_any n x y _ (L.take m ++ L.drop (m + 1)) _ (KPF.out _ hb.ext) hlLS).mono ?_
                          rintro e w8 ⟨h9, hb8⟩
                          rw [Hne.out] at h9
                          exact ⟨_, h9, hb8, rfl⟩
                      · intro vs w8 hb8 hv
                        have h13 : vs 13 = .bool false := hv 13 (by decide)
                        simp only [putAll, Act.put, List.setIfInBounds_toArray, List.set_cons_zero, List.set_cons_succ, Nat.zero_add, Nat.reduceAdd, h13]
                        clear hv
                        have B7 := Lib.hid (HC.out _ hb8)
                        clear hb8
                        go_wp2
                        go_roundw
                        case rel => exact ⟨m + 1, by omega, by go_num, B7⟩
                        case measure => simp [intOf]; omega
                    exact AllReadyH.nil
                  refine AllReadyH.cons rfl (fun K hK => ?_) ?_
                  focus (go_simp; refine hK.out _ _ (KS.out (w7.alloc (.cells #[.int .i64 0, .slice none 0 0] 27)) (hbl7.alloc hbl7.size _)) (fun hHeld => ?_); clear hK K; try simp only [Act.put])
                  · have XB15 : (w7.alloc (.cells #[.int .i64 0, .slice none 0 0] 27)).heap[w7.heap.size]? = some (.cells #[.int .i64 0, .slice none 0 0] 27 (0, 0)) := by
                      have h := heap_alloc_new w7 (.cells #[.int .i64 0, .slice none 0 0] 27)
                      first | exact h | (rw [hsd] at h; exact h) | simpa [hsd] using h
                    have own15 := own_alloc2 hown7 (.cells #[.int .i64 0, .slice none 0 0] 27)
                    refine wpAnyH_ready (rs := [13]) (by kernel_rfl) (by simp) ?_
                    refine AllReadyH.cons rfl (fun K hK => ?_) ?_
                    focus ((refine step_append_own (by rfl) _ _ _ (by rfl) wr.heap.size 50 i0 _ 2 16 (by kernel_rfl) hi0 hz0 hz1 hz2 rfl (by omega) _ m ((L.take m).flatMap pcells) (by rfl) own15 ad3 (L.length - (m + 1)) (cR - (m + 1)) ((L.drop (m + 1)).flatMap pcells) (by rfl) hl3 (HN3.out _ (hbl7.alloc hbl7.size _)) (pcells_one _) (by unfold maxLen; omega) (by omega) (hbl7.alloc hbl7.size _).size ?_; intro v13 w13 hown13 hg13; have hfr13 := Frm.grownG own15 hg13; have hbl13 := (hbl7.alloc hbl7.size _).trans (hfr13.below (hbl7.alloc hbl7.size _).size); obtain ⟨A13, c13, rfl⟩ := own_shapeG hown13); refine hK.out _ _ (KS.out _ hbl13) (fun hHeld => ?_); clear hK K; try simp only [Act.put])
                    · refine wpAnyH_take (i := 14) (v := ?_) rfl (by kernel_rfl) (by kernel_rfl) (by kernel_rfl) (fun _ _ _ h => h) (Or.inl ⟨by rfl, ?_⟩) hHeld ?_
                      rotate_left
                      focus ((intro w hSw; (try dsimp only at hSw); go_simp); try with_reducible rfl)
                      try simp only [Act.put]
                      have XBf : w13.heap[w7.heap.size]? = some (.cells #[.int .i64 0, .slice none 0 0] 27 (0, 0)) := (hfr13.keeps XB15 (by decide))
                      have ownF := hown13
                      have BLF : Below wr.heap.size wr w13 := hbl13
                      generalize hcur : w13 = cur at *
                      clear hcur
                      have e0 := cell_of_row _ _ 0 _ _ _ XBf
                      have e1 := cell_of_row _ _ 1 _ _ _ XBf
                      have ef0 := frozen_ofR XBf 0
                      have ef1 := frozen_ofR XBf 1
                      have hge : wr.heap.size ≤ w7.heap.size := by have := hbl7.size; have := hbl13.size; omega
                      have hBs := BLF.size
                      refine wpAnyH_ready (rs := [16]) (by kernel_rfl) (by simp) ?_
                      refine AllReadyH.cons rfl (fun K hK => ?_) ?_
                      focus (go_simp; refine hK.out _ _ (KS.out _ ((BLF.setCell (p := ⟨w7.heap.size, 0, none⟩) hge _).setCell (p := ⟨w7.heap.size, 1, none⟩) hge _)) (fun hHeld => ?_); clear hK K; try simp only [Act.put])
                      rotate_left
                      exact AllReadyH.nil
                      refine wpAnyH_done (by kernel_rfl) ?_ _
                      refine NoPanic.normal ?_
                      have XF : ((cur.setCell ⟨w7.heap.size, 0, none⟩ (.int .i64 (n : Int))).setCell ⟨w7.heap.size, 1, none⟩ (.slice A13 (m + (L.length - (m + 1))) c13)).heap[w7.heap.size]? = some (.cells #[.int .i64 (n : Int), .slice A13 (L.take m ++ L.drop (m + 1)).length c13] 27 (0, 0)) := by rw [hLS]; exact heap_set_2 XBf _ _
                      have ownG : cur.ownsRow wr.heap.size 50 2 (.slice A13 (L.take m ++ L.drop (m + 1)).length c13) (L.take m ++ L.drop (m + 1)).length ((L.take m ++ L.drop (m + 1)).flatMap pcells) := by
                        rw [hLS, List.flatMap_append]
                        simpa using ownF
                      have PF : Prs ((cur.setCell ⟨w7.heap.size, 0, none⟩ (.int .i64 (n : Int))).setCell ⟨w7.heap.size, 1, none⟩ (.slice A13 (m + (L.length - (m + 1))) c13)) (.slice A13 (L.take m ++ L.drop (m + 1)).length c13) (L.take m ++ L.drop (m + 1)) := Prs.of_own (own_setOther (own_setOther ownG XBf (by decide)) (heap_setCell_same _ _ 0 _ _ _ XBf) (by decide))
                      have BF : Below wr.heap.size wr ((cur.setCell ⟨w7.heap.size, 0, none⟩ (.int .i64 (n : Int))).setCell ⟨w7.heap.size, 1, none⟩ (.slice A13 (m + (L.length - (m + 1))) c13)) := (BLF.setCell (p := ⟨w7.heap.size, 0, none⟩) hge _).setCell (p := ⟨w7.heap.size, 1, none⟩) hge _
                      clear ownF ownG XBf e0 e1 ef0 ef1 hBs
                      generalize ((cur.setCell ⟨w7.heap.size, 0, none⟩ (.int .i64 (n : Int))).setCell ⟨w7.heap.size, 1, none⟩ (.slice A13 (m + (L.length - (m + 1))) c13)) = wF at *
                      have KF := Lib.hid (show ∀ w', Below wF.heap.size wF w' → w'.heap[w7.heap.size]? = some (.cells #[.int .i64 (n : Int), .slice A13 (L.take m ++ L.drop (m + 1)).length c13] 27 (0, 0)) from fun w' h => (h.block _ (lt_of_some XF)).trans XF)
                      have KPF := Lib.hid (show ∀ w', Below wF.heap.size wF w' → Prs w' (.slice A13 (L.take m ++ L.drop (m + 1)).length c13) (L.take m ++ L.drop (m + 1)) from fun w' h => PF.below h)
                      have HC := Lib.hid (show ∀ w', Below wF.heap.size wF w' → Below W5.heap.size W5 w' from fun w' h => bl2 (bl2 B6.out BF) h)
                      have HX := Lib.hid (show ∀ w', Below wF.heap.size wF w' → w'.cell? (ad.add (m * 2)) = some (.int .i64 x) from fun w' h => HX0.out _ (bl2 BF h))
                      have HYc := Lib.hid (show ∀ w', Below wF.heap.size wF w' → w'.cell? ⟨(ad.add (m * 2)).block, (ad.add (m * 2)).off + 1, none⟩ = some (.int .i64 y) from fun w' h => HY0.out _ (bl2 BF h))
                      clear XF PF BF hHeld
                      go_wp2_with fail
                      refine region_phi (n := 93) (fun i v w' => match i with
                            | 0 => v = .agg #[.int .i64 (n : Int), .slice A13 (L.take m ++ L.drop (m + 1)).length c13]
                            | 1 => v = .pointer (some ⟨w4.heap.size, 1, none⟩)
                            | 2 => v = .slice (some ad) L.length cR
                            | 3 => v = .int .i64 (m : Int)
                            | 4 => v = .pointer (some (ad.add (m * 2)))
                            | 5 => v = .pointer (some (ad.add (m * 2)))
                            | 6 => v = .int .i64 x
                            | 7 => v = .pointer (some ⟨w4.heap.size, 1, none⟩)
                            | 8 => v = .slice (some ad) L.length cR
                            | 9 => v = .int .i64 (m : Int)
                            | 10 => v = .pointer (some (ad.add (m * 2)))
                            | 11 => v = .pointer (some ⟨(ad.add (m * 2)).block, (ad.add (m * 2)).off + 1, none⟩)
                            | 12 => v = .int .i64 y
                            | 13 => v = .bool false
                            | _ => True) (by kernel_rfl) (by kernel_rfl) rfl ?_ (allOps_spec ?_) ?_
                      · intro i v w' w'' h hb
                        match i, h with
                        | 0, h => exact h
                        | 1, h => exact h
                        | 2, h => exact h
                        | 3, h => exact h
                        | 4, h => exact h
                        | 5, h => exact h
                        | 6, h => exact h
                        | 7, h => exact h
                        | 8, h => exact h
                        | 9, h => exact h
                        | 10, h => exact h
                        | 11, h => exact h
                        | 12, h => exact h
                        | 13, h => exact h
                        | _ + 14, _ => trivial
                      · refine ⟨?_, ?_, ?_, ?_, ?_, ?_, ?_, ?_, ?_, ?_, ?_, ?_, ?_, ?_, trivial⟩
                        · intro a w' hb hp
                          have b9 : a.tmps[9]?.getD undef = .pointer (some ⟨w7.heap.size, 0, none⟩) := hb.at 9 (by kernel_rfl)
                          exact step_run (v := .agg #[.int .i64 (n : Int), .slice A13 (L.take m ++ L.drop (m + 1)).length c13]) rfl (by simp [execOp, go_sem, b9, cell_of_row _ _ 0 _ _ _ (KF.out _ hb.ext), cell_of_row _ _ 1 _ _ _ (KF.out _ hb.ext)]) rfl
                        · intro a w' hb hp
                          have b4 : a.tmps[4]?.getD undef = .pointer (some ⟨w4.heap.size, 0, none⟩) := hb.at 4 (by kernel_rfl)
                          exact step_run (v := .pointer (some ⟨w4.heap.size, 1, none⟩)) rfl (by simp [execOp, go_sem, b4]) rfl
                        · intro a w' hb hp
                          have h79 : a.tmps[79]?.getD undef = .pointer (some ⟨w4.heap.size, 1, none⟩) := slot_eq.symm.trans (hp ⟨1, .data⟩ (by simp) rfl _ rfl)
                          exact step_run (v := .slice (some ad) L.length cR) rfl (by simp [execOp, go_sem, h79, cell_of_row _ _ 1 _ _ _ (KR.out _ (HC.out _ hb.ext))]) rfl
                        · intro a w' hb hp
                          have b8 : a.tmps[8]?.getD undef = .int .i64 (m : Int) := hb.at 8 (by kernel_rfl)
                          exact step_run (v := .int .i64 (m : Int)) rfl (by simp [execOp, Act.eval, b8]) rfl
                        · intro a w' hb hp
                          have h80 : a.tmps[80]?.getD undef = .slice (some ad) L.length cR := slot_eq.symm.trans (hp ⟨2, .data⟩ (by simp) rfl _ rfl)
                          have h81 : a.tmps[81]?.getD undef = .int .i64 (m : Int) := slot_eq.symm.trans (hp ⟨3, .data⟩ (by simp) rfl _ rfl)
                          exact step_run (v := .pointer (some (ad.add (m * 2)))) rfl (by simp [execOp, go_sem, h80, h81, show (0 : Int) ≤ (m : Int) by omega, show (m : Int) < (L.length : Int) by omega]) rfl
                        · intro a w' hb hp
                          have h82 : a.tmps[82]?.getD undef = .pointer (some (ad.add (m * 2))) := slot_eq.symm.trans (hp ⟨4, .data⟩ (by simp) rfl _ rfl)
                          exact step_run (v := .pointer (some (ad.add (m * 2)))) rfl (by simp [execOp, go_sem, h82]) rfl
                        · intro a w' hb hp
                          have h83 : a.tmps[83]?.getD undef = .pointer (some (ad.add (m * 2))) := slot_eq.symm.trans (hp ⟨5, .data⟩ (by simp) rfl _ rfl)
                          exact step_run (v := .int .i64 x) rfl (by simp [execOp, go_sem, h83, (HX.out _ hb.ext)]) rfl
                        · intro a w' hb hp
                          have b4 : a.tmps[4]?.getD undef = .pointer (some ⟨w4.heap.size, 0, none⟩) := hb.at 4 (by kernel_rfl)
                          exact step_run (v := .pointer (some ⟨w4.heap.size, 1, none⟩)) rfl (by simp [execOp, go_sem, b4]) rfl
                        · intro a w' hb hp
                          have h85 : a.tmps[85]?.getD undef = .pointer (some ⟨w4.heap.size, 1, none⟩) := slot_eq.symm.trans (hp ⟨7, .data⟩ (by simp) rfl _ rfl)
                          exact step_run (v := .slice (some ad) L.length cR) rfl (by simp [execOp, go_sem, h85, cell_of_row _ _ 1 _ _ _ (KR.out _ (HC.out _ hb.ext))]) rfl
                        · intro a w' hb hp
                          have b8 : a.tmps[8]?.getD undef = .int .i64 (m : Int) := hb.at 8 (by kernel_rfl)
                          exact step_run (v := .int .i64 (m : Int)) rfl (by simp [execOp, Act.eval, b8]) rfl
                        · intro a w' hb hp
                          have h86 : a.tmps[86]?.getD undef = .slice (some ad) L.length cR := slot_eq.symm.trans (hp ⟨8, .data⟩ (by simp) rfl _ rfl)
                          have h87 : a.tmps[87]?.getD undef = .int .i64 (m : Int) := slot_eq.symm.trans (hp ⟨9, .data⟩ (by simp) rfl _ rfl)
                          exact step_run (v := .pointer (some (ad.add (m * 2)))) rfl (by simp [execOp, go_sem, h86, h87, show (0 : Int) ≤ (m : Int) by omega, show (m : Int) < (L.length : Int) by omega]) rfl
                        · intro a w' hb hp
                          have h88 : a.tmps[88]?.getD undef = .pointer (some (ad.add (m * 2))) := slot_eq.symm.trans (hp ⟨10, .data⟩ (by simp) rfl _ rfl)
                          exact step_run (v := .pointer (some ⟨(ad.add (m * 2)).block, (ad.add (m * 2)).off + 1, none⟩)) rfl (by simp [execOp, go_sem, h88]) rfl
                        · intro a w' hb hp
                          have h89 : a.tmps[89]?.getD undef = .pointer (some ⟨(ad.add (m * 2)).block, (ad.add (m * 2)).off + 1, none⟩) := slot_eq.symm.trans (hp ⟨11, .data⟩ (by simp) rfl _ rfl)
                          exact step_run (v := .int .i64 y) rfl (by simp [execOp, go_sem, h89, (HYc.out _ hb.ext)]) rfl
                        · intro a w' hb hp
                          have h78 : a.tmps[78]?.getD undef = .agg #[.int .i64 (n : Int), .slice A13 (L.take m ++ L.drop (m + 1)).length c13] := slot_eq.symm.trans (hp ⟨0, .data⟩ (by simp) rfl _ rfl)
                          have h84 : a.tmps[84]?.getD undef = .int .i64 x := slot_eq.symm.trans (hp ⟨6, .data⟩ (by simp) rfl _ rfl)
                          have h90 : a.tmps[90]?.getD undef = .int .i64 y := slot_eq.symm.trans (hp ⟨12, .data⟩ (by simp) rfl _ rfl)
                          refine step_call (f := 15) (args := #[.agg #[.int .i64 (n : Int), .slice A13 (L.take m ++ L.drop (m + 1)).length c13], .int .i64 x, .int .i64 y]) rfl (by simp [go_sem, h78, h84, h90]) ?_
                          refine (before_any n x y _ (L.take m ++ L.drop (m + 1)) _ (KPF.out _ hb.ext) hlLS).mono ?_
                          rintro e w8 ⟨h9, hb8⟩
                          rw [Hne.out] at h9
                          exact ⟨_, h9, hb8, rfl⟩
                      · intro vs w8 hb8 hv
                        have h13 : vs 13 = .bool false := hv 13 (by decide)
                        simp only [putAll, Act.put, List.setIfInBounds_toArray, List.set_cons_zero, List.set_cons_succ, Nat.zero_add, Nat.reduceAdd, h13]
                        clear hv
                        have B7 := Lib.hid (HC.out _ hb8)
                        clear hb8
                        go_wp2
                        go_roundw
                        case rel => exact ⟨m + 1, by omega, by go_num, B7⟩
                        case measure => simp [intOf]; omega
                    exact AllReadyH.nil
                  exact AllReadyH.nil
                refine AllReadyH.cons rfl (fun K hK => ?_) ?_
                focus (go_simp; refine hK.out _ _ (KS.out ((wd.alloc (.cells #[] 50)).alloc (.cells #[.int .i64 0, .slice none 0 0] 27)) ((HD.alloc HD.size _).alloc (HD.alloc HD.size _).size _)) (fun hHeld => ?_); clear hK K; try simp only [Act.put])
                · have XB15 : ((wd.alloc (.cells #[] 50)).alloc (.cells #[.int .i64 0, .slice none 0 0] 27)).heap[wr.heap.size + 1]? = some (.cells #[.int .i64 0, .slice none 0 0] 27 (0, 0)) := by
                    have h := heap_alloc_new (wd.alloc (.cells #[] 50)) (.cells #[.int .i64 0, .slice none 0 0] 27)
                    first | exact h | (rw [hsd] at h; exact h) | simpa [hsd] using h
                  have own15 := own_alloc2 own2 (.cells #[.int .i64 0, .slice none 0 0] 27)
                  refine wpAnyH_ready (rs := [7]) (by kernel_rfl) (by simp) ?_
                  refine AllReadyH.cons rfl (fun K hK => ?_) ?_
                  focus ((refine step_append_own (by rfl) _ _ _ (by rfl) wr.heap.size 50 i0 _ 2 16 (by kernel_rfl) hi0 hz0 hz1 hz2 rfl (by omega) _ 0 [] (by rfl) own15 ad m cR ((L.take m).flatMap pcells) (by rfl) hl1 (HN1.out _ ((HD.alloc HD.size _).alloc (HD.alloc HD.size _).size _)) (pcells_one _) (by unfold maxLen; omega) (by omega) ((HD.alloc HD.size _).alloc (HD.alloc HD.size _).size _).size ?_; intro v7 w7 hown7 hg7; have hfr7 := Frm.grownG own15 hg7; have hbl7 := ((HD.alloc HD.size _).alloc (HD.alloc HD.size _).size _).trans (hfr7.below ((HD.alloc HD.size _).alloc (HD.alloc HD.size _).size _).size); rw [Nat.zero_add, List.nil_append] at hown7; obtain ⟨A7, c7, rfl⟩ := own_shapeG hown7); refine hK.out _ _ (KS.out _ hbl7) (fun hHeld => ?_); clear hK K; try simp only [Act.put])
                  · refine wpAnyH_ready (rs := [13]) (by kernel_rfl) (by simp) ?_
                    refine AllReadyH.cons rfl (fun K hK => ?_) ?_
                    focus ((refine step_append_own (by rfl) _ _ _ (by rfl) wr.heap.size 50 i0 _ 2 16 (by kernel_rfl) hi0 hz0 hz1 hz2 rfl (by omega) _ m ((L.take m).flatMap pcells) (by rfl) hown7 ad3 (L.length - (m + 1)) (cR - (m + 1)) ((L.drop (m + 1)).flatMap pcells) (by rfl) hl3 (HN3.out _ hbl7) (pcells_one _) (by unfold maxLen; omega) (by omega) hbl7.size ?_; intro v13 w13 hown13 hg13; have hfr13 := Frm.grownG hown7 hg13; have hbl13 := hbl7.trans (hfr13.below hbl7.size); obtain ⟨A13, c13, rfl⟩ := own_shapeG hown13); refine hK.out _ _ (KS.out _ hbl13) (fun hHeld => ?_); clear hK K; try simp only [Act.put])
                    · refine wpAnyH_take (i := 14) (v := ?_) rfl (by kernel_rfl) (by kernel_rfl) (by kernel_rfl) (fun _ _ _ h => h) (Or.inl ⟨by rfl, ?_⟩) hHeld ?_
                      rotate_left
                      focus ((intro w hSw; (try dsimp only at hSw); go_simp); try with_reducible rfl)
                      try simp only [Act.put]
                      have XBf : w13.heap[wr.heap.size + 1]? = some (.cells #[.int .i64 0, .slice none 0 0] 27 (0, 0)) := (hfr13.keeps (hfr7.keeps XB15 (by decide)) (by decide))
                      have ownF := hown13
                      have BLF : Below wr.heap.size wr w13 := hbl13
                      generalize hcur : w13 = cur at *
                      clear hcur
                      have e0 := cell_of_row _ _ 0 _ _ _ XBf
                      have e1 := cell_of_row _ _ 1 _ _ _ XBf
                      have ef0 := frozen_ofR XBf 0
                      have ef1 := frozen_ofR XBf 1
                      have hge : wr.heap.size ≤ wr.heap.size + 1 := by have := hbl7.size; have := hbl13.size; omega
                      have hBs := BLF.size
                      refine wpAnyH_ready (rs := [16]) (by kernel_rfl) (by simp) ?_
                      refine AllReadyH.cons rfl (fun K hK => ?_) ?_
                      focus (go_simp; refine hK.out _ _ (KS.out _ ((BLF.setCell (p := ⟨wr.heap.size + 1, 0, none⟩) hge _).setCell (p := ⟨wr.heap.size + 1, 1, none⟩) hge _)) (fun hHeld => ?_); clear hK K; try simp only [Act.put])
                      rotate_left
                      exact AllReadyH.nil
                      refine wpAnyH_done (by kernel_rfl) ?_ _
                      refine NoPanic.normal ?_
                      have XF : ((cur.setCell ⟨wr.heap.size + 1, 0, none⟩ (.int .i64 (n : Int))).setCell ⟨wr.heap.size + 1, 1, none⟩ (.slice A13 (m + (L.length - (m + 1))) c13)).heap[wr.heap.size + 1]? = some (.cells #[.int .i64 (n : Int), .slice A13 (L.take m ++ L.drop (m + 1)).length c13] 27 (0, 0)) := by rw [hLS]; exact heap_set_2 XBf _ _
                      have ownG : cur.ownsRow wr.heap.size 50 2 (.slice A13 (L.take m ++ L.drop (m + 1)).length c13) (L.take m ++ L.drop (m + 1)).length ((L.take m ++ L.drop (m + 1)).flatMap pcells) := by
                        rw [hLS, List.flatMap_append]
                        simpa using ownF
                      have PF : Prs ((cur.setCell ⟨wr.heap.size + 1, 0, none⟩ (.int .i64 (n : Int))).setCell ⟨wr.heap.size + 1, 1, none⟩ (.slice A13 (m + (L.length - (m + 1))) c13)) (.slice A13 (L.take m ++ L.drop (m + 1)).length c13) (L.take m ++ L.drop (m + 1)) := Prs.of_own (own_setOther (own_setOther ownG XBf (by decide)) (heap_setCell_same _ _ 0 _ _ _ XBf) (by decide))
                      have BF : Below wr.heap.size wr ((cur.setCell ⟨wr.heap.size + 1, 0, none⟩ (.int .i64 (n : Int))).setCell ⟨wr.heap.size + 1, 1, none⟩ (.slice A13 (m + (L.length - (m + 1))) c13)) := (BLF.setCell (p := ⟨wr.heap.size + 1, 0, none⟩) hge _).setCell (p := ⟨wr.heap.size + 1, 1, none⟩) hge _
                      clear ownF ownG XBf e0 e1 ef0 ef1 hBs
                      generalize ((cur.setCell ⟨wr.heap.size + 1, 0, none⟩ (.int .i64 (n : Int))).setCell ⟨wr.heap.size + 1, 1, none⟩ (.slice A13 (m + (L.length - (m + 1))) c13)) = wF at *
                      have KF := Lib.hid (show ∀ w', Below wF.heap.size wF w' → w'.heap[wr.heap.size + 1]? = some (.cells #[.int .i64 (n : Int), .slice A13 (L.take m ++ L.drop (m + 1)).length c13] 27 (0, 0)) from fun w' h => (h.block _ (lt_of_some XF)).trans XF)
                      have KPF := Lib.hid (show ∀ w', Below wF.heap.size wF w' → Prs w' (.slice A13 (L.take m ++ L.drop (m + 1)).length c13) (L.take m ++ L.drop (m + 1)) from fun w' h => PF.below h)
                      have HC := Lib.hid (show ∀ w', Below wF.heap.size wF w' → Below W5.heap.size W5 w' from fun w' h => bl2 (bl2 B6.out BF) h)
                      have HX := Lib.hid (show ∀ w', Below wF.heap.size wF w' → w'.cell? (ad.add (m * 2)) = some (.int .i64 x) from fun w' h => HX0.out _ (bl2 BF h))
                      have HYc := Lib.hid (show ∀ w', Below wF.heap.size wF w' → w'.cell? ⟨(ad.add (m * 2)).block, (ad.add (m * 2)).off + 1, none⟩ = some (.int .i64 y) from fun w' h => HY0.out _ (bl2 BF h))
                      clear XF PF BF hHeld
                      go_wp2_with fail
                      refine region_phi (n := 93) (fun i v w' => match i with
                            | 0 => v = .agg #[.int .i64 (n : Int), .slice A13 (L.take m ++ L.drop (m + 1)).length c13]
                            | 1 => v = .pointer (some ⟨w4.heap.size, 1, none⟩)
                            | 2 => v = .slice (some ad) L.length cR
                            | 3 => v = .int .i64 (m : Int)
                            | 4 => v = .pointer (some (ad.add (m * 2)))
                            | 5 => v = .pointer (some (ad.add (m * 2)))
                            | 6 => v = .int .i64 x
                            | 7 => v = .pointer (some ⟨w4.heap.size, 1, none⟩)
                            | 8 => v = .slice (some ad) L.length cR
                            | 9 => v = .int .i64 (m : Int)
                            | 10 => v = .pointer (some (ad.add (m * 2)))
                            | 11 => v = .pointer (some ⟨(ad.add (m * 2)).block, (ad.add (m * 2)).off + 1, none⟩)
                            | 12 => v = .int .i64 y
                            | 13 => v = .bool false
                            | _ => True) (by kernel_rfl) (by kernel_rfl) rfl ?_ (allOps_spec ?_) ?_
                      · intro i v w' w'' h hb
                        match i, h with
                        | 0, h => exact h
                        | 1, h => exact h
                        | 2, h => exact h
                        | 3, h => exact h
                        | 4, h => exact h
                        | 5, h => exact h
                        | 6, h => exact h
                        | 7, h => exact h
                        | 8, h => exact h
                        | 9, h => exact h
                        | 10, h => exact h
                        | 11, h => exact h
                        | 12, h => exact h
                        | 13, h => exact h
                        | _ + 14, _ => trivial
                      · refine ⟨?_, ?_, ?_, ?_, ?_, ?_, ?_, ?_, ?_, ?_, ?_, ?_, ?_, ?_, trivial⟩
                        · intro a w' hb hp
                          have b9 : a.tmps[9]?.getD undef = .pointer (some ⟨wr.heap.size + 1, 0, none⟩) := hb.at 9 (by kernel_rfl)
                          exact step_run (v := .agg #[.int .i64 (n : Int), .slice A13 (L.take m ++ L.drop (m + 1)).length c13]) rfl (by simp [execOp, go_sem, b9, cell_of_row _ _ 0 _ _ _ (KF.out _ hb.ext), cell_of_row _ _ 1 _ _ _ (KF.out _ hb.ext)]) rfl
                        · intro a w' hb hp
                          have b4 : a.tmps[4]?.getD undef = .pointer (some ⟨w4.heap.size, 0, none⟩) := hb.at 4 (by kernel_rfl)
                          exact step_run (v := .pointer (some ⟨w4.heap.size, 1, none⟩)) rfl (by simp [execOp, go_sem, b4]) rfl
                        · intro a w' hb hp
                          have h79 : a.tmps[79]?.getD undef = .pointer (some ⟨w4.heap.size, 1, none⟩) := slot_eq.symm.trans (hp ⟨1, .data⟩ (by simp) rfl _ rfl)
                          exact step_run (v := .slice (some ad) L.length cR) rfl (by simp [execOp, go_sem, h79, cell_of_row _ _ 1 _ _ _ (KR.out _ (HC.out _ hb.ext))]) rfl
                        · intro a w' hb hp
                          have b8 : a.tmps[8]?.getD undef = .int .i64 (m : Int) := hb.at 8 (by kernel_rfl)
                          exact step_run (v := .int .i64 (m : Int)) rfl (by simp [execOp, Act.eval, b8]) rfl
                        · intro a w' hb hp
                          have h80 : a.tmps[80]?.getD undef = .slice (some ad) L.length cR := slot_eq.symm.trans (hp ⟨2, .data⟩ (by simp) rfl _ rfl)
                          have h81 : a.tmps[81]?.getD undef = .int .i64 (m : Int) := slot_eq.symm.trans (hp ⟨3, .data⟩ (by simp) rfl _ rfl)
                          exact step_run (v := .pointer (some (ad.add (m * 2)))) rfl (by simp [execOp, go_sem, h80, h81, show (0 : Int) ≤ (m : Int) by omega, show (m : Int) < (L.length : Int) by omega]) rfl
                        · intro a w' hb hp
                          have h82 : a.tmps[82]?.getD undef = .pointer (some (ad.add (m * 2))) := slot_eq.symm.trans (hp ⟨4, .data⟩ (by simp) rfl _ rfl)
                          exact step_run (v := .pointer (some (ad.add (m * 2)))) rfl (by simp [execOp, go_sem, h82]) rfl
                        · intro a w' hb hp
                          have h83 : a.tmps[83]?.getD undef = .pointer (some (ad.add (m * 2))) := slot_eq.symm.trans (hp ⟨5, .data⟩ (by simp) rfl _ rfl)
                          exact step_run (v := .int .i64 x) rfl (by simp [execOp, go_sem, h83, (HX.out _ hb.ext)]) rfl
                        · intro a w' hb hp
                          have b4 : a.tmps[4]?.getD undef = .pointer (some ⟨w4.heap.size, 0, none⟩) := hb.at 4 (by kernel_rfl)
                          exact step_run (v := .pointer (some ⟨w4.heap.size, 1, none⟩)) rfl (by simp [execOp, go_sem, b4]) rfl
                        · intro a w' hb hp
                          have h85 : a.tmps[85]?.getD undef = .pointer (some ⟨w4.heap.size, 1, none⟩) := slot_eq.symm.trans (hp ⟨7, .data⟩ (by simp) rfl _ rfl)
                          exact step_run (v := .slice (some ad) L.length cR) rfl (by simp [execOp, go_sem, h85, cell_of_row _ _ 1 _ _ _ (KR.out _ (HC.out _ hb.ext))]) rfl
                        · intro a w' hb hp
                          have b8 : a.tmps[8]?.getD undef = .int .i64 (m : Int) := hb.at 8 (by kernel_rfl)
                          exact step_run (v := .int .i64 (m : Int)) rfl (by simp [execOp, Act.eval, b8]) rfl
                        · intro a w' hb hp
                          have h86 : a.tmps[86]?.getD undef = .slice (some ad) L.length cR := slot_eq.symm.trans (hp ⟨8, .data⟩ (by simp) rfl _ rfl)
                          have h87 : a.tmps[87]?.getD undef = .int .i64 (m : Int) := slot_eq.symm.trans (hp ⟨9, .data⟩ (by simp) rfl _ rfl)
                          exact step_run (v := .pointer (some (ad.add (m * 2)))) rfl (by simp [execOp, go_sem, h86, h87, show (0 : Int) ≤ (m : Int) by omega, show (m : Int) < (L.length : Int) by omega]) rfl
                        · intro a w' hb hp
                          have h88 : a.tmps[88]?.getD undef = .pointer (some (ad.add (m * 2))) := slot_eq.symm.trans (hp ⟨10, .data⟩ (by simp) rfl _ rfl)
                          exact step_run (v := .pointer (some ⟨(ad.add (m * 2)).block, (ad.add (m * 2)).off + 1, none⟩)) rfl (by simp [execOp, go_sem, h88]) rfl
                        · intro a w' hb hp
                          have h89 : a.tmps[89]?.getD undef = .pointer (some ⟨(ad.add (m * 2)).block, (ad.add (m * 2)).off + 1, none⟩) := slot_eq.symm.trans (hp ⟨11, .data⟩ (by simp) rfl _ rfl)
                          exact step_run (v := .int .i64 y) rfl (by simp [execOp, go_sem, h89, (HYc.out _ hb.ext)]) rfl
                        · intro a w' hb hp
                          have h78 : a.tmps[78]?.getD undef = .agg #[.int .i64 (n : Int), .slice A13 (L.take m ++ L.drop (m + 1)).length c13] := slot_eq.symm.trans (hp ⟨0, .data⟩ (by simp) rfl _ rfl)
                          have h84 : a.tmps[84]?.getD undef = .int .i64 x := slot_eq.symm.trans (hp ⟨6, .data⟩ (by simp) rfl _ rfl)
                          have h90 : a.tmps[90]?.getD undef = .int .i64 y := slot_eq.symm.trans (hp ⟨12, .data⟩ (by simp) rfl _ rfl)
                          refine step_call (f := 15) (args := #[.agg #[.int .i64 (n : Int), .slice A13 (L.take m ++ L.drop (m + 1)).length c13], .int .i64 x, .int .i64 y]) rfl (by simp [go_sem, h78, h84, h90]) ?_
                          refine (before_any n x y _ (L.take m ++ L.drop (m + 1)) _ (KPF.out _ hb.ext) hlLS).mono ?_
                          rintro e w8 ⟨h9, hb8⟩
                          rw [Hne.out] at h9
                          exact ⟨_, h9, hb8, rfl⟩
                      · intro vs w8 hb8 hv
                        have h13 : vs 13 = .bool false := hv 13 (by decide)
                        simp only [putAll, Act.put, List.setIfInBounds_toArray, List.set_cons_zero, List.set_cons_succ, Nat.zero_add, Nat.reduceAdd, h13]
                        clear hv
                        have B7 := Lib.hid (HC.out _ hb8)
                        clear hb8
                        go_wp2
                        go_roundw
                        case rel => exact ⟨m + 1, by omega, by go_num, B7⟩
                        case measure => simp [intOf]; omega
                    exact AllReadyH.nil
                  exact AllReadyH.nil
                exact AllReadyH.nil
              refine AllReadyH.cons rfl (fun K hK => ?_) ?_
              focus (go_simp; refine hK.out _ _ (KS.out (wd.alloc (.cells #[.int .i64 0, .slice none 0 0] 27)) (HD.alloc HD.size _)) (fun hHeld => ?_); clear hK K; try simp only [Act.put])
              · have XB15 : (wd.alloc (.cells #[.int .i64 0, .slice none 0 0] 27)).heap[wr.heap.size]? = some (.cells #[.int .i64 0, .slice none 0 0] 27 (0, 0)) := by
                  have h := heap_alloc_new wd (.cells #[.int .i64 0, .slice none 0 0] 27)
                  first | exact h | (rw [hsd] at h; exact h) | simpa [hsd] using h
                refine wpAnyH_ready (rs := [2]) (by kernel_rfl) (by simp) ?_
                refine AllReadyH.cons rfl (fun K hK => ?_) ?_
                focus (go_simp; refine hK.out _ _ (KS.out ((wd.alloc (.cells #[.int .i64 0, .slice none 0 0] 27)).alloc (.cells #[] 50)) ((HD.alloc HD.size _).alloc (HD.alloc HD.size _).size _)) (fun hHeld => ?_); clear hK K; try simp only [Act.put])
                · have own2 : ((wd.alloc (.cells #[.int .i64 0, .slice none 0 0] 27)).alloc (.cells #[] 50)).ownsRow wr.heap.size 50 2 (.slice (some ⟨wr.heap.size + 1, 0, none⟩) 0 0) 0 [] := by
                    have h := st_build (wd.alloc (.cells #[.int .i64 0, .slice none 0 0] 27)) (HD.alloc HD.size _).size
                    first | exact h | (rw [hsd] at h; exact h) | simpa [hsd] using h
                  refine wpAnyH_ready (rs := [7]) (by kernel_rfl) (by simp) ?_
                  refine AllReadyH.cons rfl (fun K hK => ?_) ?_
                  focus ((refine step_append_own (by rfl) _ _ _ (by rfl) wr.heap.size 50 i0 _ 2 16 (by kernel_rfl) hi0 hz0 hz1 hz2 rfl (by omega) _ 0 [] (by rfl) own2 ad m cR ((L.take m).flatMap pcells) (by rfl) hl1 (HN1.out _ ((HD.alloc HD.size _).alloc (HD.alloc HD.size _).size _)) (pcells_one _) (by unfold maxLen; omega) (by omega) ((HD.alloc HD.size _).alloc (HD.alloc HD.size _).size _).size ?_; intro v7 w7 hown7 hg7; have hfr7 := Frm.grownG own2 hg7; have hbl7 := ((HD.alloc HD.size _).alloc (HD.alloc HD.size _).size _).trans (hfr7.below ((HD.alloc HD.size _).alloc (HD.alloc HD.size _).size _).size); rw [Nat.zero_add, List.nil_append] at hown7; obtain ⟨A7, c7, rfl⟩ := own_shapeG hown7); refine hK.out _ _ (KS.out _ hbl7) (fun hHeld => ?_); clear hK K; try simp only [Act.put])
                  · refine wpAnyH_ready (rs := [13]) (by kernel_rfl) (by simp) ?_
                    refine AllReadyH.cons rfl (fun K hK => ?_) ?_
                    focus ((refine step_append_own (by rfl) _ _ _ (by rfl) wr.heap.size 50 i0 _ 2 16 (by kernel_rfl) hi0 hz0 hz1 hz2 rfl (by omega) _ m ((L.take m).flatMap pcells) (by rfl) hown7 ad3 (L.length - (m + 1)) (cR - (m + 1)) ((L.drop (m + 1)).flatMap pcells) (by rfl) hl3 (HN3.out _ hbl7) (pcells_one _) (by unfold maxLen; omega) (by omega) hbl7.size ?_; intro v13 w13 hown13 hg13; have hfr13 := Frm.grownG hown7 hg13; have hbl13 := hbl7.trans (hfr13.below hbl7.size); obtain ⟨A13, c13, rfl⟩ := own_shapeG hown13); refine hK.out _ _ (KS.out _ hbl13) (fun hHeld => ?_); clear hK K; try simp only [Act.put])
                    · refine wpAnyH_take (i := 14) (v := ?_) rfl (by kernel_rfl) (by kernel_rfl) (by kernel_rfl) (fun _ _ _ h => h) (Or.inl ⟨by rfl, ?_⟩) hHeld ?_
                      rotate_left
                      focus ((intro w hSw; (try dsimp only at hSw); go_simp); try with_reducible rfl)
                      try simp only [Act.put]
                      have XBf : w13.heap[wr.heap.size]? = some (.cells #[.int .i64 0, .slice none 0 0] 27 (0, 0)) := (hfr13.keeps (hfr7.keeps (((below_alloc (wd.alloc (.cells #[.int .i64 0, .slice none 0 0] 27)) _).block _ (lt_of_some XB15)).trans XB15) (by decide)) (by decide))
                      have ownF := hown13
                      have BLF : Below wr.heap.size wr w13 := hbl13
                      generalize hcur : w13 = cur at *
                      clear hcur
                      have e0 := cell_of_row _ _ 0 _ _ _ XBf
                      have e1 := cell_of_row _ _ 1 _ _ _ XBf
                      have ef0 := frozen_ofR XBf 0
                      have ef1 := frozen_ofR XBf 1
                      have hge : wr.heap.size ≤ wr.heap.size := by have := hbl7.size; have := hbl13.size; omega
                      have hBs := BLF.size
                      refine wpAnyH_ready (rs := [16]) (by kernel_rfl) (by simp) ?_
                      refine AllReadyH.cons rfl (fun K hK => ?_) ?_
                      focus (go_simp; refine hK.out _ _ (KS.out _ ((BLF.setCell (p := ⟨wr.heap.size, 0, none⟩) hge _).setCell (p := ⟨wr.heap.size, 1, none⟩) hge _)) (fun hHeld => ?_); clear hK K; try simp only [Act.put])
                      rotate_left
                      exact AllReadyH.nil
                      refine wpAnyH_done (by kernel_rfl) ?_ _
                      refine NoPanic.normal ?_
                      have XF : ((cur.setCell ⟨wr.heap.size, 0, none⟩ (.int .i64 (n : Int))).setCell ⟨wr.heap.size, 1, none⟩ (.slice A13 (m + (L.length - (m + 1))) c13)).heap[wr.heap.size]? = some (.cells #[.int .i64 (n : Int), .slice A13 (L.take m ++ L.drop (m + 1)).length c13] 27 (0, 0)) := by rw [hLS]; exact heap_set_2 XBf _ _
                      have ownG : cur.ownsRow wr.heap.size 50 2 (.slice A13 (L.take m ++ L.drop (m + 1)).length c13) (L.take m ++ L.drop (m + 1)).length ((L.take m ++ L.drop (m + 1)).flatMap pcells) := by
                        rw [hLS, List.flatMap_append]
                        simpa using ownF
                      have PF : Prs ((cur.setCell ⟨wr.heap.size, 0, none⟩ (.int .i64 (n : Int))).setCell ⟨wr.heap.size, 1, none⟩ (.slice A13 (m + (L.length - (m + 1))) c13)) (.slice A13 (L.take m ++ L.drop (m + 1)).length c13) (L.take m ++ L.drop (m + 1)) := Prs.of_own (own_setOther (own_setOther ownG XBf (by decide)) (heap_setCell_same _ _ 0 _ _ _ XBf) (by decide))
                      have BF : Below wr.heap.size wr ((cur.setCell ⟨wr.heap.size, 0, none⟩ (.int .i64 (n : Int))).setCell ⟨wr.heap.size, 1, none⟩ (.slice A13 (m + (L.length - (m + 1))) c13)) := (BLF.setCell (p := ⟨wr.heap.size, 0, none⟩) hge _).setCell (p := ⟨wr.heap.size, 1, none⟩) hge _
                      clear ownF ownG XBf e0 e1 ef0 ef1 hBs
                      generalize ((cur.setCell ⟨wr.heap.size, 0, none⟩ (.int .i64 (n : Int))).setCell ⟨wr.heap.size, 1, none⟩ (.slice A13 (m + (L.length - (m + 1))) c13)) = wF at *
                      have KF := Lib.hid (show ∀ w', Below wF.heap.size wF w' → w'.heap[wr.heap.size]? = some (.cells #[.int .i64 (n : Int), .slice A13 (L.take m ++ L.drop (m + 1)).length c13] 27 (0, 0)) from fun w' h => (h.block _ (lt_of_some XF)).trans XF)
                      have KPF := Lib.hid (show ∀ w', Below wF.heap.size wF w' → Prs w' (.slice A13 (L.take m ++ L.drop (m + 1)).length c13) (L.take m ++ L.drop (m + 1)) from fun w' h => PF.below h)
                      have HC := Lib.hid (show ∀ w', Below wF.heap.size wF w' → Below W5.heap.size W5 w' from fun w' h => bl2 (bl2 B6.out BF) h)
                      have HX := Lib.hid (show ∀ w', Below wF.heap.size wF w' → w'.cell? (ad.add (m * 2)) = some (.int .i64 x) from fun w' h => HX0.out _ (bl2 BF h))
                      have HYc := Lib.hid (show ∀ w', Below wF.heap.size wF w' → w'.cell? ⟨(ad.add (m * 2)).block, (ad.add (m * 2)).off + 1, none⟩ = some (.int .i64 y) from fun w' h => HY0.out _ (bl2 BF h))
                      clear XF PF BF hHeld
                      go_wp2_with fail
                      refine region_phi (n := 93) (fun i v w' => match i with
                            | 0 => v = .agg #[.int .i64 (n : Int), .slice A13 (L.take m ++ L.drop (m + 1)).length c13]
                            | 1 => v = .pointer (some ⟨w4.heap.size, 1, none⟩)
                            | 2 => v = .slice (some ad) L.length cR
                            | 3 => v = .int .i64 (m : Int)
                            | 4 => v = .pointer (some (ad.add (m * 2)))
                            | 5 => v = .pointer (some (ad.add (m * 2)))
                            | 6 => v = .int .i64 x
                            | 7 => v = .pointer (some ⟨w4.heap.size, 1, none⟩)
                            | 8 => v = .slice (some ad) L.length cR
                            | 9 => v = .int .i64 (m : Int)
                            | 10 => v = .pointer (some (ad.add (m * 2)))
                            | 11 => v = .pointer (some ⟨(ad.add (m * 2)).block, (ad.add (m * 2)).off + 1, none⟩)
                            | 12 => v = .int .i64 y
                            | 13 => v = .bool false
                            | _ => True) (by kernel_rfl) (by kernel_rfl) rfl ?_ (allOps_spec ?_) ?_
                      · intro i v w' w'' h hb
                        match i, h with
                        | 0, h => exact h
                        | 1, h => exact h
                        | 2, h => exact h
                        | 3, h => exact h
                        | 4, h => exact h
                        | 5, h => exact h
                        | 6, h => exact h
                        | 7, h => exact h
                        | 8, h => exact h
                        | 9, h => exact h
                        | 10, h => exact h
                        | 11, h => exact h
                        | 12, h => exact h
                        | 13, h => exact h
                        | _ + 14, _ => trivial
                      · refine ⟨?_, ?_, ?_, ?_, ?_, ?_, ?_, ?_, ?_, ?_, ?_, ?_, ?_, ?_, trivial⟩
                        · intro a w' hb hp
                          have b9 : a.tmps[9]?.getD undef = .pointer (some ⟨wr.heap.size, 0, none⟩) := hb.at 9 (by kernel_rfl)
                          exact step_run (v := .agg #[.int .i64 (n : Int), .slice A13 (L.take m ++ L.drop (m + 1)).length c13]) rfl (by simp [execOp, go_sem, b9, cell_of_row _ _ 0 _ _ _ (KF.out _ hb.ext), cell_of_row _ _ 1 _ _ _ (KF.out _ hb.ext)]) rfl
                        · intro a w' hb hp
                          have b4 : a.tmps[4]?.getD undef = .pointer (some ⟨w4.heap.size, 0, none⟩) := hb.at 4 (by kernel_rfl)
                          exact step_run (v := .pointer (some ⟨w4.heap.size, 1, none⟩)) rfl (by simp [execOp, go_sem, b4]) rfl
                        · intro a w' hb hp
                          have h79 : a.tmps[79]?.getD undef = .pointer (some ⟨w4.heap.size, 1, none⟩) := slot_eq.symm.trans (hp ⟨1, .data⟩ (by simp) rfl _ rfl)
                          exact step_run (v := .slice (some ad) L.length cR) rfl (by simp [execOp, go_sem, h79, cell_of_row _ _ 1 _ _ _ (KR.out _ (HC.out _ hb.ext))]) rfl
                        · intro a w' hb hp
                          have b8 : a.tmps[8]?.getD undef = .int .i64 (m : Int) := hb.at 8 (by kernel_rfl)
                          exact step_run (v := .int .i64 (m : Int)) rfl (by simp [execOp, Act.eval, b8]) rfl
                        · intro a w' hb hp
                          have h80 : a.tmps[80]?.getD undef = .slice (some ad) L.length cR := slot_eq.symm.trans (hp ⟨2, .data⟩ (by simp) rfl _ rfl)
                          have h81 : a.tmps[81]?.getD undef = .int .i64 (m : Int) := slot_eq.symm.trans (hp ⟨3, .data⟩ (by simp) rfl _ rfl)
                          exact step_run (v := .pointer (some (ad.add (m * 2)))) rfl (by simp [execOp, go_sem, h80, h81, show (0 : Int) ≤ (m : Int) by omega, show (m : Int) < (L.length : Int) by omega]) rfl
                        · intro a w' hb hp
                          have h82 : a.tmps[82]?.getD undef = .pointer (some (ad.add (m * 2))) := slot_eq.symm.trans (hp ⟨4, .data⟩ (by simp) rfl _ rfl)
                          exact step_run (v := .pointer (some (ad.add (m * 2)))) rfl (by simp [execOp, go_sem, h82]) rfl
                        · intro a w' hb hp
                          have h83 : a.tmps[83]?.getD undef = .pointer (some (ad.add (m * 2))) := slot_eq.symm.trans (hp ⟨5, .data⟩ (by simp) rfl _ rfl)
                          exact step_run (v := .int .i64 x) rfl (by simp [execOp, go_sem, h83, (HX.out _ hb.ext)]) rfl
                        · intro a w' hb hp
                          have b4 : a.tmps[4]?.getD undef = .pointer (some ⟨w4.heap.size, 0, none⟩) := hb.at 4 (by kernel_rfl)
                          exact step_run (v := .pointer (some ⟨w4.heap.size, 1, none⟩)) rfl (by simp [execOp, go_sem, b4]) rfl
                        · intro a w' hb hp
                          have h85 : a.tmps[85]?.getD undef = .pointer (some ⟨w4.heap.size, 1, none⟩) := slot_eq.symm.trans (hp ⟨7, .data⟩ (by simp) rfl _ rfl)
                          exact step_run (v := .slice (some ad) L.length cR) rfl (by simp [execOp, go_sem, h85, cell_of_row _ _ 1 _ _ _ (KR.out _ (HC.out _ hb.ext))]) rfl
                        · intro a w' hb hp
                          have b8 : a.tmps[8]?.getD undef = .int .i64 (m : Int) := hb.at 8 (by kernel_rfl)
                          exact step_run (v := .int .i64 (m : Int)) rfl (by simp [execOp, Act.eval, b8]) rfl
                        · intro a w' hb hp
                          have h86 : a.tmps[86]?.getD undef = .slice (some ad) L.length cR := slot_eq.symm.trans (hp ⟨8, .data⟩ (by simp) rfl _ rfl)
                          have h87 : a.tmps[87]?.getD undef = .int .i64 (m : Int) := slot_eq.symm.trans (hp ⟨9, .data⟩ (by simp) rfl _ rfl)
                          exact step_run (v := .pointer (some (ad.add (m * 2)))) rfl (by simp [execOp, go_sem, h86, h87, show (0 : Int) ≤ (m : Int) by omega, show (m : Int) < (L.length : Int) by omega]) rfl
                        · intro a w' hb hp
                          have h88 : a.tmps[88]?.getD undef = .pointer (some (ad.add (m * 2))) := slot_eq.symm.trans (hp ⟨10, .data⟩ (by simp) rfl _ rfl)
                          exact step_run (v := .pointer (some ⟨(ad.add (m * 2)).block, (ad.add (m * 2)).off + 1, none⟩)) rfl (by simp [execOp, go_sem, h88]) rfl
                        · intro a w' hb hp
                          have h89 : a.tmps[89]?.getD undef = .pointer (some ⟨(ad.add (m * 2)).block, (ad.add (m * 2)).off + 1, none⟩) := slot_eq.symm.trans (hp ⟨11, .data⟩ (by simp) rfl _ rfl)
                          exact step_run (v := .int .i64 y) rfl (by simp [execOp, go_sem, h89, (HYc.out _ hb.ext)]) rfl
                        · intro a w' hb hp
                          have h78 : a.tmps[78]?.getD undef = .agg #[.int .i64 (n : Int), .slice A13 (L.take m ++ L.drop (m + 1)).length c13] := slot_eq.symm.trans (hp ⟨0, .data⟩ (by simp) rfl _ rfl)
                          have h84 : a.tmps[84]?.getD undef = .int .i64 x := slot_eq.symm.trans (hp ⟨6, .data⟩ (by simp) rfl _ rfl)
                          have h90 : a.tmps[90]?.getD undef = .int .i64 y := slot_eq.symm.trans (hp ⟨12, .data⟩ (by simp) rfl _ rfl)
                          refine step_call (f := 15) (args := #[.agg #[.int .i64 (n : Int), .slice A13 (L.take m ++ L.drop (m + 1)).length c13], .int .i64 x, .int .i64 y]) rfl (by simp [go_sem, h78, h84, h90]) ?_
                          refine (before_any n x y _ (L.take m ++ L.drop (m + 1)) _ (KPF.out _ hb.ext) hlLS).mono ?_
                          rintro e w8 ⟨h9, hb8⟩
                          rw [Hne.out] at h9
                          exact ⟨_, h9, hb8, rfl⟩
                      · intro vs w8 hb8 hv
                        have h13 : vs 13 = .bool false := hv 13 (by decide)
                        simp only [putAll, Act.put, List.setIfInBounds_toArray, List.set_cons_zero, List.set_cons_succ, Nat.zero_add, Nat.reduceAdd, h13]
                        clear hv
                        have B7 := Lib.hid (HC.out _ hb8)
                        clear hb8
                        go_wp2
                        go_roundw
                        case rel => exact ⟨m + 1, by omega, by go_num, B7⟩
                        case measure => simp [intOf]; omega
                    exact AllReadyH.nil
                  exact AllReadyH.nil
                exact AllReadyH.nil
              exact AllReadyH.nil
            · go_wp2
              go_ret
              exact ⟨rfl, KE.out _ (KB.out _ B6.out)⟩
end Go.Proofs.Ytiaidkdpfmbemaa
