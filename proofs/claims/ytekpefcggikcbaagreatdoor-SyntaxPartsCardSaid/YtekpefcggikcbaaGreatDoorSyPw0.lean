/- Layer 10: append of protocols, any number of them. -/
import Derived.Test.YtekpefcggikcbaaGreatDoorMEqQ
import Derived.Test.YtekpefcggikcbaaGreatDoorSynL
namespace Go.Proofs.YtekpefcggikcbaaGreatDoor
open Go.RowKit

theorem addr_none (b o j : Nat) : (⟨b, o, none⟩ : Addr).add j = ⟨b, o + j, none⟩ := by unfold Addr.add; split <;> simp_all
theorem lies_len {w : World} {S : Nat → Prop} {v : Value} {z : Nat} {l : List D} (h : Lies w S v (.s z l)) {n : Nat} (hz : 0 < z) (hn : l.length = n * z) : ∃ A c, v = .slice A n c := by
  obtain ⟨A, m, c, rfl, hm⟩ := h.slc
  have : m = n := Nat.eq_of_mul_eq_mul_right hz (hm.trans hn)
  exact ⟨A, c, by rw [this]⟩
theorem dPs_len (l : List Pr) : (l.flatMap dP).length = l.length * 4 := by
  induction l with
  | nil => rfl
  | cons p r ih => rw [List.flatMap_cons, List.length_append, ih, List.length_cons]; show 4 + _ = _; omega
/-- append(s, x...) of any slice onto a row of the call's own, behind a guard that says yes: the data of both; the new row is the old one or new. -/
theorem appW {P : Program} {w : World} {ops : Array Oper} {rest : List Oper} {o : Oper} {a : Act} {Q : Exit → Act → World → Prop} (hw : Region.wanted o (yielded ops a.tmps) = true) (s x : Operand) (t : TypeId)
    (ho : o.op = .call { callee := .builtin .append, args := #[s, x], argTypes := #[t, t] })
    (e : TypeId) (zv : Value) (z by_ : Nat) (hinfo : (P.info? e).map (fun i => (i.zero, i.size, i.bytes)) = some (some zv, z, by_)) (hzs : zv.cells.size = z) (hz : 0 < z) (ht : P.underlying t = some (.slice e))
    (B : Nat) (v : Value) (n : Nat) (l l2 : List D) (hs : a.eval s = v) (hown : Bld w B e z v n l) (xv : Value) (m : Nat) (hx : a.eval x = xv) (hl : Lies w (fun k => B ≤ k ∧ v.ownBlock ≠ some k) xv (.s z l2)) (hm : l2.length = m * z)
    (hr : (n + m) * by_ ≤ 140737488355328) (hB : B ≤ w.heap.size) (hby : 0 < by_)
    (h : ∀ v' w', Bld w' B e z v' (n + m) (l ++ l2) → w.grownBy w' v.ownBlock → (∀ b, v'.ownBlock = some b → v.ownBlock = some b ∨ w.heap.size ≤ b) → wpList P ops Q rest (a.put o.dst v') w') : wpList P ops Q (o :: rest) a w := by
  refine wpList_wanted hw ?_
  obtain ⟨us, ho1, ho2⟩ := hown
  obtain ⟨i0, hi, hz0, hz1, hz2⟩ := info_parts hinfo
  rcases Nat.eq_zero_or_pos m with rfl | hm0
  · have hl0 : l2 = [] := List.eq_nil_of_length_eq_zero (by rw [hm, Nat.zero_mul])
    subst hl0
    obtain ⟨A, m, c, rfl, hmz⟩ := hl.slc
    have hm1 : m = 0 := by
      rcases Nat.eq_zero_or_pos m with h0 | h0
      · exact h0
      · have := Nat.mul_pos h0 hz
        simp at hmz; omega
    subst hm1
    cases A with
    | none =>
      have hc : c = 0 := by cases hl; rfl
      subst hc
      refine wpList_append_own_none rfl s x t ho B e i0 z ht hi v n us hs ho1 hx ?_
      exact h v w (by simpa using ⟨us, ho1, ho2⟩) ⟨rfl, rfl, rfl, Nat.le_refl _, fun _ _ _ => rfl⟩ fun b hb => .inl hb
    | some ad =>
      rcases ho1.2 with ⟨rfl, h0⟩ | ⟨g, cap, cur, rfl, hbg, hg, hnc, hcm, -⟩
      · subst h0
        refine wpList_append_own _ rfl s x t ho B e i0 zv z by_ ht hi hz0 hz1 hz2 hzs hz _ 0 us hs ho1 ad 0 c [] hx (by simp) (fun j u hj => by simp at hj) (by simp) (by unfold maxLen; omega) hr hB ?_
        intro v' w' hown' hgr hv'
        have : v' = .slice none 0 0 := hv'.2 ⟨rfl, rfl⟩
        subst this
        refine h _ w' ⟨us, by simpa using hown', ?_⟩ hgr fun b hb => .inl hb
        refine LiesL.mono (S := fun k => k < w.heap.size ∧ B ≤ k ∧ (Value.slice none 0 0).ownBlock ≠ some k) (fun k _ hS => hS.2) (LiesL.keep (w := w) hgr.size ?_ ((by simpa using ho2 : LiesL w _ us (l ++ [])).mono fun k hk hS => ⟨hk, hS⟩))
        intro k hk hS
        exact hgr.block k hk (fun eq => hS.2.2 eq.symm)
      · refine wpList_append_fits _ rfl s x t ho B e i0 z ht hi hz1 g n cap us hs ho1 ad 0 c [] hx (by simp) (fun j u hj => by simp at hj) (by simp) (by omega) ?_
        intro w' hown' hgr
        refine h _ w' ⟨us, by simpa using hown', ?_⟩ hgr fun b hb => .inl hb
        refine LiesL.mono (S := fun k => k < w.heap.size ∧ B ≤ k ∧ (Value.slice (some ⟨g, 0, none⟩) n cap).ownBlock ≠ some k) (fun k _ hS => hS.2) (LiesL.keep (w := w) hgr.size ?_ ((by simpa using ho2 : LiesL w _ us (l ++ [])).mono fun k hk hS => ⟨hk, hS⟩))
        intro k hk hS
        exact hgr.block k hk (fun eq => hS.2.2 eq.symm)
  · generalize hd : D.s z l2 = d at hl
    cases hl with
    | c v hv => cases hd
    | nil z' =>
      simp only [D.s.injEq] at hd
      rw [hd.2] at hm
      have := Nat.mul_pos hm0 hz
      simp at hm; omega
    | e0 ad cap z' =>
      simp only [D.s.injEq] at hd
      rw [hd.2] at hm
      have := Nat.mul_pos hm0 hz
      simp at hm; omega
    | sl b of m' cap z' ns l' h1 h2 h3 h4 h5 h6 h7 =>
      simp only [D.s.injEq] at hd
      obtain ⟨rfl, rfl⟩ := hd
      have hmm : m' = m := Nat.eq_of_mul_eq_mul_right hz (h4.trans hm)
      subst hmm
      have hlies : LiesL w (fun k => B ≤ k ∧ v.ownBlock ≠ some k) ns l2 := ⟨h3, h7⟩
      have hr3 : n + m' ≤ 140737488355328 := Nat.le_trans (Nat.le_mul_of_pos_right _ hby) hr
      refine wpList_append_lies w rfl s x t ho B e i0 zv z by_ ht hi hz0 hz1 hz2 hzs hz v n us hs ho1 ⟨b, of, none⟩ m' cap ns hx (by rw [h3, ← h4]) (fun j u hj => ?_) hlies.one hm0 (by unfold maxLen; omega) hr hB w.heap.size rfl ?_
      · rw [show (⟨b, of, none⟩ : Addr).add j = ⟨b, of + j, none⟩ from addr_none b of j]
        exact h6 j u hj
      · intro g cap w' hown' hgr hfr hlt
        refine h _ w' ⟨us ++ ns, hown', ?_⟩ hgr ?_
        · refine LiesL.mono (S := fun k => k < w.heap.size ∧ B ≤ k ∧ v.ownBlock ≠ some k) ?_ (LiesL.keep (w := w) hgr.size ?_ ((ho2.append hlies).mono fun k hk hS => ⟨hk, hS⟩))
          · intro k _ hS
            refine ⟨hS.2.1, fun hk => ?_⟩
            have hk' : g = k := by simpa [Value.ownBlock] using hk
            subst hk'
            rcases hfr with hfr | hfr
            · exact hS.2.2 hfr
            · omega
          · intro k hk hS
            exact hgr.block k hk (fun eq => hS.2.2 eq.symm)
        · intro b' hb'
          have : g = b' := by simpa [Value.ownBlock] using hb'
          subst this
          rcases hfr with hfr | hfr
          · exact .inl hfr
          · exact .inr (by omega)
/-- A literal without elements. -/
theorem Bld.empty (w : World) (B e z : Nat) (hB : B ≤ w.heap.size) : Bld (w.alloc (.cells #[] e)) B e z (.slice (some ⟨w.heap.size, 0, none⟩) 0 0) 0 [] :=
  ⟨[], ⟨by simp, .inr ⟨w.heap.size, 0, #[], rfl, hB, heap_alloc_new w _, Nat.le_refl _, by unfold maxLen; omega, by simp, by simp⟩⟩, LiesL.nil _ _⟩
/-- What lies below a row of the call's own stays while the row grows. -/
theorem Lies.grown {w w' : World} {S : Nat → Prop} {v u : Value} {d : D} {N : Nat} (h : Lies w S u d) (hg : w.grownBy w' v.ownBlock) (hS : ∀ k, S k → k < N) (hv : ∀ b, v.ownBlock = some b → N ≤ b) : Lies w' S u d :=
  h.keep hg.size fun k hk hs => hg.block k hk fun e => by have := hS k hs; have := hv k e.symm; omega
end Go.Proofs.YtekpefcggikcbaaGreatDoor
