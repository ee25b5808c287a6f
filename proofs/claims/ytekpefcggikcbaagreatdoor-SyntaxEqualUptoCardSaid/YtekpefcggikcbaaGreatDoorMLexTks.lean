/- Layer 9: lists of tokens in memory. -/
import Derived.Test.YtekpefcggikcbaaGreatDoorMLexNum
import Derived.Test.YtekpefcggikcbaaGreatDoorMLayLex
import Derived.Deep.LoopGhost
import Derived.Test.YtekpefcggikcbaaGreatDoorMSynM
import Derived.Test.YtekpefcggikcbaaGreatDoorMSynD
import Derived.Laws.ResultCell
import Derived.Laws.Rows
namespace Go.Proofs.YtekpefcggikcbaaGreatDoor
/- Layer 9: lists of tokens in memory. -/
open Go.RowKit

def tcells (t : Tok) : List Value := [.int .i64 (t.k : Int), .string (ofL t.t), .int .i64 (t.v : Int), .int .i64 (t.p : Int)]
theorem tcells_len (ts : List Tok) : (ts.flatMap tcells).length = ts.length * 4 := by
 induction ts with
 | nil => rfl
 | cons t r ih => rw [List.flatMap_cons, List.length_append, ih, List.length_cons]; show 4 + _ = _; omega
theorem tcells_get : ∀ (ts : List Tok) (j i : Nat) (t : Tok), ts[j]? = some t → i < 4 → (ts.flatMap tcells)[j * 4 + i]? = (tcells t)[i]?
 | [], j, i, t, h, _ => by simp at h
 | a :: r, 0, i, t, h, hi => by
  simp at h; subst h
  rw [List.flatMap_cons, List.getElem?_append_left (by show _ < 4; omega)]
  congr 1; omega
 | a :: r, j + 1, i, t, h, hi => by
  rw [List.flatMap_cons, List.getElem?_append_right (by show 4 ≤ _; omega)]
  rw [show (j + 1) * 4 + i - (tcells a).length = j * 4 + i by show (j + 1) * 4 + i - 4 = _; omega]
  exact tcells_get r j i t (by simpa using h) hi
/-- v is a slice of the tokens ts, or nil without any. -/
def Toks (w : World) (v : Value) (ts : List Tok) : Prop :=
 (v = .slice none 0 0 ∧ ts = []) ∨ ∃ ad c, v = .slice (some ad) ts.length c ∧ ts.length ≤ c ∧ ∀ j t, ts[j]? = some t →
  w.cell? (ad.add (j * 4)) = some (.int .i64 (t.k : Int)) ∧ w.cell? ⟨(ad.add (j * 4)).block, (ad.add (j * 4)).off + 1, none⟩ = some (.string (ofL t.t)) ∧
  w.cell? ⟨(ad.add (j * 4)).block, (ad.add (j * 4)).off + 2, none⟩ = some (.int .i64 (t.v : Int)) ∧ w.cell? ⟨(ad.add (j * 4)).block, (ad.add (j * 4)).off + 3, none⟩ = some (.int .i64 (t.p : Int))
theorem Toks.shape {w : World} {v : Value} {ts : List Tok} (h : Toks w v ts) : ∃ A c, v = .slice A ts.length c := by
 rcases h with ⟨rfl, rfl⟩ | ⟨ad, c, rfl, _⟩
 ·exact ⟨none, 0, rfl⟩
 ·exact ⟨some ad, c, rfl⟩
theorem Toks.below {w w' : World} {v : Value} {ts : List Tok} (h : Toks w v ts) (hb : Below w.heap.size w w') : Toks w' v ts := by
 rcases h with h | ⟨ad, c, rfl, hc, hcell⟩
 ·exact .inl h
 ·refine .inr ⟨ad, c, rfl, hc, fun j t ht => ?_⟩
  obtain ⟨h0, h1, h2, h3⟩ := hcell j t ht
  exact ⟨(hb.cell (World.block_lt_of_cell? _ _ h0)).trans h0, (hb.cell (World.block_lt_of_cell? _ _ h1)).trans h1, (hb.cell (World.block_lt_of_cell? _ _ h2)).trans h2, (hb.cell (World.block_lt_of_cell? _ _ h3)).trans h3⟩
theorem Toks.nil (w : World) : Toks w (.slice none 0 0) [] := .inl ⟨rfl, rfl⟩
theorem Toks.of_own {w : World} {B e n : Nat} {v : Value} {ts : List Tok} (h : w.ownsRow B e 4 v n (ts.flatMap tcells)) : Toks w v ts := by
 have hl : ts.length = n := by have := h.1; rw [tcells_len] at this; omega
 have hcl := @World.ownsRow.cells _ _ _ _ _ _ _ h
 rcases h.2 with ⟨rfl, h0⟩ | ⟨g, cap, cur, rfl, _, _, hn, _⟩
 ·exact .inl ⟨rfl, List.eq_nil_of_length_eq_zero (by omega)⟩
 ·refine .inr ⟨⟨g, 0, none⟩, cap, by rw [hl], by omega, fun j t ht => ?_⟩
  have hcl := hcl (g := g) rfl
  have e : ∀ i, (⟨g, 0, none⟩ : Addr).add i = ⟨g, i, none⟩ := by intro i; unfold Addr.add; split <;> simp_all
  have f : ∀ i, i < 4 → w.cell? ⟨g, j * 4 + i, none⟩ = (tcells t)[i]? := by
   intro i hi
   have h1 := tcells_get ts j i t ht hi
   cases hv : (tcells t)[i]? with
   | none => 
    have := List.getElem?_eq_none_iff.1 hv
    exact absurd this (by show ¬ 4 ≤ i; omega)
   | some u => rw [hv] at h1; rw [← e]; exact hcl _ _ h1
  rw [e]
  exact ⟨f 0 (by omega), f 1 (by omega), f 2 (by omega), f 3 (by omega)⟩
theorem toks_cell {w : World} {v : Value} {ts : List Tok} (h : Toks w v ts) (j : Nat) (hj : j < ts.length) : ∃ ad c, v = .slice (some ad) ts.length c ∧ ts.length ≤ c ∧
  w.cell? (ad.add (j * 4)) = some (.int .i64 (ts[j].k : Int)) ∧ w.cell? ⟨(ad.add (j * 4)).block, (ad.add (j * 4)).off + 1, none⟩ = some (.string (ofL ts[j].t)) ∧
  w.cell? ⟨(ad.add (j * 4)).block, (ad.add (j * 4)).off + 2, none⟩ = some (.int .i64 (ts[j].v : Int)) ∧ w.cell? ⟨(ad.add (j * 4)).block, (ad.add (j * 4)).off + 3, none⟩ = some (.int .i64 (ts[j].p : Int)) := by
 rcases h with ⟨rfl, rfl⟩ | ⟨ad, c, rfl, hc, hcell⟩
 ·simp at hj
 ·exact ⟨ad, c, rfl, hc, hcell j ts[j] (List.getElem?_eq_getElem hj)⟩
theorem Frm.grownK {e B sz : Nat} {w w' : World} {v : Value} {n : Nat} {xs : List Value} (hown : w.ownsRow B e sz v n xs) (hg : w.grownBy w' v.ownBlock) : Frm e B w w' :=
 ⟨hg.os, hg.tape, hg.output, hg.size, fun k hk hn => hg.block k hk (by
  intro he
  rcases hown.2 with ⟨rfl, _⟩ | ⟨g, cap, cur, rfl, hb, hh, _⟩
  ·simp [Value.ownBlock] at he
  ·simp [Value.ownBlock] at he
   subst he
   rcases hn with hn | hn
   ·omega
   ·exact hn _ _ hh)⟩
/-- append(s, t) of one token: it lies in a new block first. -/
theorem app4 {P : Program} {w : World} {ops : Array Oper} {rest : List Oper} {o : Oper} {a : Act} {Q : Exit → Act → World → Prop} (hgd : o.guard = none) (s x : Operand) (t : TypeId)
  (ho : o.op = .call { callee := .builtin .append, args := #[s, x], argTypes := #[t, t] })
  (e : TypeId) (z : Value) (by_ : Nat) (hinfo : (P.info? e).map (fun i => (i.zero, i.size, i.bytes)) = some (some z, 4, by_)) (ht : P.underlying t = some (.slice e)) (hzs : z.cells.size = 4)
  (B : Nat) (v : Value) (n : Nat) (xs : List Value) (hs : a.eval s = v) (hown : w.ownsRow B e 4 v n xs) (c0 c1 c2 c3 : Value) (hx : a.eval x = .slice (some ⟨w.heap.size, 0, none⟩) 1 1) (h1 : ∀ u ∈ [c0, c1, c2, c3], u.oneCell' = true)
  (hr : (n + 1) * by_ ≤ 140737488355328) (hm : n + 1 ≤ 140737488355328) (hB : B ≤ w.heap.size)
  (h : ∀ v' w', w'.ownsRow B e 4 v' (n + 1) (xs ++ [c0, c1, c2, c3]) → Frm e B w w' → wpList P ops Q rest (a.put o.dst v') w') : wpList P ops Q (o :: rest) a (w.alloc (.cells #[c0, c1, c2, c3] e)) := by
 obtain ⟨i0, hi, hz0, hz1, hz2⟩ := info_parts hinfo
 refine wpList_append_own _ hgd s x t ho B e i0 z 4 by_ ht hi hz0 hz1 hz2 hzs (by decide) v n xs hs (hown.alloc _) ⟨w.heap.size, 0, none⟩ 1 1 [c0, c1, c2, c3] hx rfl ?_ h1 ?_ hr ?_ ?_
 ·intro j u hj
  have e : (⟨w.heap.size, 0, none⟩ : Addr).add j = ⟨w.heap.size, j, none⟩ := by unfold Addr.add; split <;> simp_all
  rw [e, cell_of_row _ w.heap.size j _ _ _ (heap_alloc_new w _), ← Array.getElem?_toList]
  exact hj
 ·unfold maxLen; omega
 ·simp; omega
 ·intro v' w' hown' hg _
  exact h v' w' hown' ((Frm.alloc_ w _).trans (Frm.grownK (hown.alloc _) hg))
theorem own_keepK {w w' : World} {B e sz : Nat} {v : Value} {n : Nat} {xs : List Value} (h : w.ownsRow B e sz v n xs) (hk : ∀ a, a < w.heap.size → B ≤ a → w'.heap[a]? = w.heap[a]?) : w'.ownsRow B e sz v n xs := by
 refine ⟨h.1, ?_⟩
 rcases h.2 with h2 | ⟨a, cap, cur, hv, hb, hh, hr⟩
 ·exact .inl h2
 ·exact .inr ⟨a, cap, cur, hv, hb, (hk a (lt_of_some hh) hb).trans hh, hr⟩
theorem TBox.set1 {w : World} {b kd v p : Nat} {t : List UInt8} (h : TBox w b kd t v p) (t' : List UInt8) : TBox (w.setCell ⟨b, 1, none⟩ (.string (ofL t'))) b kd t' v p := by
 unfold TBox at h ⊢
 rw [heap_set h]; rfl
theorem TBox.set3 {w : World} {b kd v p : Nat} {t : List UInt8} (h : TBox w b kd t v p) (p' : Nat) : TBox (w.setCell ⟨b, 3, none⟩ (.int .i64 (p' : Int))) b kd t v p' := by
 unfold TBox at h ⊢
 rw [heap_set h]; rfl
theorem TBox.below {w w' : World} {b kd v p : Nat} {t : List UInt8} (h : TBox w b kd t v p) (hb : Below w.heap.size w w') : TBox w' b kd t v p := (hb.block b (lt_of_some h)).trans h
theorem TBox.made (w : World) (kd v p : Nat) (t : List UInt8) : TBox (w.alloc (.cells #[.int .i64 (kd : Int), .string (ofL t), .int .i64 (v : Int), .int .i64 (p : Int)] 48)) w.heap.size kd t v p := heap_alloc_new w _
theorem txt_tl : ∀ (l : List UInt8) (t : List UInt8) (n : Nat), txt l = some (t, n) → t.length + 1 ≤ n
 | [], t, n, h => by simp [txt] at h
 | [c], t, n, h => by
  rw [txt_cons] at h
  split at h
  ·simp only [Option.some.injEq, Prod.mk.injEq] at h; obtain ⟨rfl, rfl⟩ := h; simp
  ·split at h
   ·simp at h
   ·split at h <;> simp [txt] at h
 | c :: d :: r, t, n, h => by
  rw [txt_cons] at h
  split at h
  ·simp only [Option.some.injEq, Prod.mk.injEq] at h; obtain ⟨rfl, rfl⟩ := h; simp
  ·split at h
   ·simp only at h
    split at h
    ·cases hr : txt r with
     | none => simp [hr] at h
     | some x =>
      have := txt_tl r x.1 x.2 hr
      simp only [hr, Option.map_some, Option.some.injEq, Prod.mk.injEq] at h
      obtain ⟨rfl, rfl⟩ := h
      simp; omega
    ·simp at h
   ·split at h
    ·cases hr : txt (d :: r) with
     | none => simp [hr] at h
     | some x =>
      have := txt_tl (d :: r) x.1 x.2 hr
      simp only [hr, Option.map_some, Option.some.injEq, Prod.mk.injEq] at h
      obtain ⟨rfl, rfl⟩ := h
      simp; omega
    ·simp at h
theorem tk_tl {l : List UInt8} {k v m : Nat} {t : List UInt8} (h : tk l = .ok k t v m) : t.length ≤ m := by
 unfold tk at h
 split at h
 ·unfold tkName at h
  split at h
  ·cases h
  ·simp only [Tk.ok.injEq] at h
   obtain ⟨_, rfl, _, rfl⟩ := h
   rw [List.length_take]; omega
 ·split at h
  ·unfold tkNum at h
   split at h
   ·cases h
   ·split at h
    ·cases h
    ·simp only [Tk.ok.injEq] at h
     obtain ⟨_, rfl, _, rfl⟩ := h
     simp
  ·split at h
   ·unfold tkText at h
    cases ht : txt l.tail with
    | none => rw [ht] at h; cases h
    | some x =>
     simp only [ht] at h
     split at h
     ·cases h
     ·simp only [Tk.ok.injEq] at h
      obtain ⟨_, rfl, _, rfl⟩ := h
      have := txt_tl _ x.1 x.2 ht
      omega
   ·unfold tkMark at h
    split at h
    ·simp only [Tk.ok.injEq] at h
     obtain ⟨_, rfl, _, rfl⟩ := h
     rw [List.length_take]; omega
    ·split at h
     ·simp only [Tk.ok.injEq] at h
      obtain ⟨_, rfl, _, rfl⟩ := h
      rw [List.length_take]; omega
     ·cases h
theorem tk_errn {l : List UInt8} {x : Nat} (h : tk l = .err x) : x ≠ 0 := by
 unfold tk tkName tkNum tkText tkMark at h
 repeat' split at h
 all_goals (first | (cases h; done) | (simp only [Tk.err.injEq] at h; omega))
theorem info_tok : (Tryz.prog.info? 48).map (fun i => (i.zero, i.size, i.bytes)) = some (some (.agg #[.int .i64 0, .string ⟨#[]⟩, .int .i64 0, .int .i64 0]), 4, 40) := by kernel_rfl
/- Layer 9: the contract of Tokens. -/
open Go.RowKit

theorem below_drewN {B : Nat} {a b : World} (h : Below B a b) (m : Nat) : Below B a (b.drewN m) := ⟨h.os, h.tape, h.output, h.size, h.block⟩
def full (l : List UInt8) : Res := if 8000 < l.length then ([], 8000, 6) else lxs 0 l
theorem full_small {l : List UInt8} (h : l.length ≤ 8000) : full l = lxs 0 l := by unfold full; rw [if_neg (by omega)]
def TksPost (w : World) (r : Res) (e : Ending) (w' : World) : Prop :=
 ∃ v, e = .returned (.tuple #[v, .int .i64 (r.2.1 : Int), .int .i64 (r.2.2 : Int)]) ∧ Toks w' v r.1 ∧ Below w.heap.size w w'
theorem TksPost.mk {w w' : World} {r : Res} {e : Ending} {v : Value} {ts : List Tok} {a x : Nat} (hr : r = (ts, a, x)) (he : e = .returned (.tuple #[v, .int .i64 (a : Int), .int .i64 (x : Int)])) (ht : Toks w' v ts) (hb : Below w.heap.size w w') : TksPost w r e w' := by
 subst hr; exact ⟨v, he, ht, hb⟩
def TkRel (w : World) (l : List UInt8) (gk : Nat) (v : Value) (wr : World) : Prop :=
 ∃ (k : Nat) (acc : List Tok), l.length ≤ gk + k ∧ acc.length ≤ k ∧ Hid (Scn wr w.heap.size l k) ∧ Hid (Below w.heap.size w wr) ∧ Hid (wr.ownsRow (w.heap.size + 1) 48 4 v acc.length (acc.flatMap tcells)) ∧
  Hid (lxs 0 l = prep acc (lxs k (l.drop k))) ∧ Hid (sk false (l.drop k) = 0)
set_option maxRecDepth 20000 in
set_option maxHeartbeats 1000000 in
theorem tokens_any (l : List UInt8) (w : World) : Calls Tryz.prog 27 #[.string (ofL l)] w (TksPost w (full l)) := by
 obtain ⟨s, hs⟩ : ∃ s, s = ofL l := ⟨_, rfl⟩
 have hsz : s.size = l.length := by rw [hs, ofL_size]
 by_cases hbig : 8000 < l.length
 ·have hT := Lib.hid (show full l = ([], 8000, 6) by unfold full; rw [if_pos hbig])
  have hb2 : 8000 < s.size := by omega
  rw [← hs]
  clear hs hsz hbig
  go_enter Tryz.func27, Tryz.ntmps27
  go_wp2
  refine bodyPost_ret (v := .tuple #[.slice none 0 0, .int .i64 8000, .int .i64 6]) (by simp [results, Tryz.results27, go_sem]) rfl ?_
  exact TksPost.mk hT.out rfl (Toks.nil _) (Below.refl _ _)
 ·have hT := Lib.hid (show full l = lxs 0 l by unfold full; rw [if_neg hbig])
  have hb2 : ¬ 8000 < s.size := by omega
  rw [← hs]
  have hroom : l.length ≤ 8000 := by omega
  have S0 : Hid (Scn (w.alloc (.cells #[.string s, .int .i64 0] 119)) w.heap.size l 0) := ⟨by rw [hs]; exact heap_alloc_new w _, by omega, hroom⟩
  have B0 : Hid (Below w.heap.size w (w.alloc (.cells #[.string s, .int .i64 0] 119))) := (Below.refl _ _).alloc (Nat.le_refl _) _
  clear hs hsz hbig
  go_enter Tryz.func27, Tryz.ntmps27
  go_wp2_with fail
  refine (skip_any S0.out).mono ?_; rintro e w1 ⟨rfl, S1, O1⟩
  have HS1 := Lib.hid S1
  have HB1 := Lib.hid (B0.out.trans (O1.toBelow (Nat.le_refl _) (by simp)))
  clear S1 O1 S0 B0
  go_wp2
  go_loopg [2, 6, 7, 8, 9] (l.length) (fun gk v _ _ _ _ wr => TkRel w l gk v wr)
  case atStart =>
   refine ⟨0 + sk false (l.drop 0), [], by omega, by simp, HS1, HB1, World.ownsRow_nil _ _ _ _, ?_, ?_⟩
   ·unfold Hid
    rw [prep_nil, Nat.zero_add, List.drop_zero]
    have := lxs_skip 0 l
    rwa [Nat.zero_add] at this
   ·unfold Hid
    rw [Nat.zero_add, List.drop_zero]
    exact sk_idem false l
  case round =>
   clear HS1 HB1
   obtain ⟨k, acc, hgk, hak, HS, HB, HV, HL, HK⟩ := hrel
   have hk8 := HS.out.off
   by_cases hend : k = l.length
   ·have he := Lib.hid (show full l = (acc, 0, 0) by
     rw [hT.out, HL.out, lxs_end (by rw [HK.out, List.length_drop]; omega)]
     simp [prep])
    have hd : decide (k = l.length) = true := by simpa using hend
    have HE := Lib.hid hend
    clear hend
    go_wp2_with fail
    refine (ended_any HS.out).mono ?_; rintro e w2 ⟨rfl, m, rfl⟩
    go_wp2_with fail
    refine bodyPost_ret (v := .tuple #[u2, .int .i64 0, .int .i64 0]) (by simp [results, Tryz.results27, go_sem]) rfl ?_
    exact TksPost.mk he.out rfl ((Toks.of_own HV.out).below (below_drewN (Below.refl _ _) m)) (below_drewN HB.out m)
   ·have hd : decide (k = l.length) = false := by simpa using hend
    have hkl : k < l.length := by omega
    clear hend
    go_wp2_with fail
    refine (ended_any HS.out).mono ?_; rintro e w2 ⟨rfl, m, rfl⟩
    have HS2 := Lib.hid (HS.out.drewN m)
    have HB2 := Lib.hid (below_drewN HB.out m)
    have c1 : (wr.drewN m).cell? ⟨w.heap.size, 1, none⟩ = some (.int .i64 (k : Int)) := HS2.out.cell 1
    go_wp2_with fail
    refine (reader_any HS2.out).mono ?_
    rintro e w3 ⟨K, rfl, ⟨hE, hR⟩, m2, rfl⟩
    have HR := Lib.hid hR
    have HS3 := Lib.hid (HS2.out.drewN m2)
    have HB3 := Lib.hid (below_drewN HB2.out m2)
    have HV3 : Hid (((wr.drewN m).drewN m2).ownsRow (w.heap.size + 1) 48 4 u2 acc.length (acc.flatMap tcells)) := HV.out
    clear hR c1
    generalize hw3 : (wr.drewN m).drewN m2 = w3 at *
    clear hw3 HS2 HB2
    cases htk : tk (l.drop k) with
    | err x =>
     have HX := Lib.hid htk
     have he := Lib.hid (show full l = ([], k, x) by
      rw [hT.out, HL.out, lxs_err (e := x) (by rw [HK.out, List.length_drop]; omega) (by rw [HK.out, List.drop_zero]; exact htk), HK.out]
      have := tk_errn htk
      simp [prep, this])
     have hx0 : ((x : Int) != 0) = true := by have := tk_errn htk; simp; omega
     clear htk
     go_wp2_with fail
     refine (HR.out _ HS3.out).mono ?_
     rw [HX.out]
     rintro e w4 ⟨rfl, O4⟩
     unfold tokV
     have hbe := Lib.hid (((HB3.out.trans (O4.toBelow (Nat.le_refl _) HB3.out.size)).alloc (Nat.le_trans HB3.out.size O4.size) (.cells #[.int .i64 0, .string (ofL []), .int .i64 0, .int .i64 0] 48)))
     clear O4
     go_wp2_with fail
     refine bodyPost_ret (v := .tuple #[.slice none 0 0, .int .i64 (k : Int), .int .i64 (x : Int)]) (by simp [results, Tryz.results27, go_sem]) rfl ?_
     exact TksPost.mk he.out rfl (Toks.nil _) hbe.out
    | ok kd t v n =>
     have HX := Lib.hid htk
     have htl := tk_len htk
     rw [List.length_drop] at htl
     obtain ⟨hn1, hn2⟩ := htl
     clear htk
     go_wp2_with fail
     refine (HR.out _ HS3.out).mono ?_
     rw [HX.out]
     rintro e w4 ⟨rfl, S4, O4⟩
     unfold tokV
     have ht8 : (ofL t).size ≤ 281474976710656 := by rw [ofL_size]; have := tk_tl HX.out; omega
     have hB4 := Lib.hid (HB3.out.trans (O4.toBelow (Nat.le_refl _) HB3.out.size))
     have hS4 := Lib.hid S4
     have hV4 := Lib.hid (own_keepK HV3.out (fun a ha hb => O4.block a ha (by omega)))
     have hsz4 : w.heap.size + 1 ≤ w4.heap.size := by have := hS4.out.lt; omega
     clear O4 S4
     go_wp2_with fail
     refine (clone_any _ _ ht8).mono ?_
     rintro e w5 ⟨rfl, hb5⟩
     have hT5 := Lib.hid ((TBox.made w4 kd v 0 t).below hb5)
     have hB5 := Lib.hid ((((Below.refl w4.heap.size w4).alloc (Nat.le_refl _) (.cells #[.int .i64 (kd : Int), .string (ofL t), .int .i64 (v : Int), .int .i64 0] 48)).trans (hb5.mono (by simp))))
     obtain ⟨d0, d1, d2, d3, f0, f1, f2, f3⟩ := hT5.out.facts
     have hT7 : Hid (TBox ((w5.setCell ⟨w4.heap.size, 1, none⟩ (.string (ofL t))).setCell ⟨w4.heap.size, 3, none⟩ (.int .i64 (k : Int))) w4.heap.size kd t v k) := (hT5.out.set1 t).set3 k
     have hB7 : Hid (Below w4.heap.size w4 ((w5.setCell ⟨w4.heap.size, 1, none⟩ (.string (ofL t))).setCell ⟨w4.heap.size, 3, none⟩ (.int .i64 (k : Int)))) := (hB5.out.setCell (Nat.le_refl _) _).setCell (Nat.le_refl _) _
     have hz7 : Hid (((w5.setCell ⟨w4.heap.size, 1, none⟩ (.string (ofL t))).setCell ⟨w4.heap.size, 3, none⟩ (.int .i64 (k : Int))).heap.size = w5.heap.size) := by unfold Hid; simp [World.setCell]
     have hS7 := Lib.hid (hS4.out.keep (hB7.out.block _ hS4.out.lt))
     have hV7 := Lib.hid (own_keepK hV4.out (fun a ha _ => hB7.out.block a ha))
     have hBB := Lib.hid (hB4.out.trans (hB7.out.mono hB4.out.size))
     have hsz7 : w.heap.size + 1 ≤ ((w5.setCell ⟨w4.heap.size, 1, none⟩ (.string (ofL t))).setCell ⟨w4.heap.size, 3, none⟩ (.int .i64 (k : Int))).heap.size := Nat.le_trans hsz4 hB7.out.size
     clear hb5
     have hacc : (acc.length + 1) * 40 ≤ 140737488355328 := by omega
     go_wp2_with (at_builtin; refine app4 rfl _ _ 42 rfl 48 _ 40 info_tok Tryz.underlying42 rfl (w.heap.size + 1) _ _ _ rfl hV7.out _ _ _ _ (by rw [hz7.out]; rfl) (by simp [Value.oneCell']) hacc (by omega) hsz7 ?_; intro v' w8 hown8 hf8; have hV8 := Lib.hid hown8; have hF8 := Lib.hid hf8; clear hown8 hf8; have hS8 : Hid (Scn w8 w.heap.size l (k + n)) := ⟨hF8.out.keeps hS7.out.blk (by decide), hS7.out.off, hS7.out.room⟩)
     have hBB8 := Lib.hid (hBB.out.trans ((hF8.out.below hsz7).mono (by omega)))
     refine (skip_any hS8.out).mono ?_
     rintro e w9 ⟨rfl, S9, O9⟩
     have hS9 := Lib.hid S9
     have hV9 := Lib.hid (own_keepK hV8.out (fun a ha hb => O9.block a ha (by omega)))
     have hB9 := Lib.hid (hBB8.out.trans (O9.toBelow (Nat.le_refl _) hBB8.out.size))
     clear S9 O9
     go_wp2_with fail
     go_roundg (gk - n)
     case rel =>
      refine ⟨k + n + sk false (l.drop (k + n)), acc ++ [⟨kd, t, v, k⟩], by omega, by simp; omega, hS9, hB9, ?_, ?_, ?_⟩
      ·have h9 := hV9.out
       rw [List.length_append, List.flatMap_append]
       exact h9
      ·unfold Hid
       rw [HL.out, lxs_ok (k := kd) (t := t) (v := v) (m := n) (by rw [HK.out, List.length_drop]; omega) (by rw [HK.out, List.drop_zero]; exact HX.out), HK.out, prep_push]
       simp only [Nat.add_zero, List.drop_drop]
       rw [lxs_skip (k + n), List.drop_drop]
      ·unfold Hid
       rw [← List.drop_drop]
       exact sk_idem false _
     case measure => omega
/- Layer 10: the parser in memory; the contracts of its smallest methods. -/
open Go.RowKit

structure SmT (ts : List Tok) : Prop where
 len : ts.length ≤ 8000
 tok : ∀ t ∈ ts, t.t.length ≤ 40 ∧ t.v ≤ 999999 ∧ t.p ≤ 8000
theorem SmT.nil : SmT [] := ⟨by simp, fun t h => by simp at h⟩
theorem SmT.tail {ts : List Tok} (h : SmT ts) : SmT ts.tail := ⟨by have := h.len; simp; omega, fun t ht => h.tok t (List.mem_of_mem_tail ht)⟩
/-- The parser in block g: the source's length E, the state s. -/
structure Prs (w : World) (g E : Nat) (s : St) : Prop where
 blk : ∃ v, w.heap[g]? = some (.cells #[v, .int .i64 (E : Int), .int .i64 (s.a : Int), .int .i64 (s.e : Int)] 81 (0, 0)) ∧ Toks w v s.r ∧ ∀ b, v.ownBlock = some b → b < g
 small : SmT s.r
 eb : E ≤ 8000
 ab : s.a ≤ 8000
 ee : s.e ≤ 100
 err : s.e ≠ 0 → s.r = []
section
variable {w w' : World} {g E : Nat} {s : St}
theorem Prs.lt (h : Prs w g E s) : g < w.heap.size := by obtain ⟨v, h1, _⟩ := h.blk; exact lt_of_some h1
theorem Toks.keep {v : Value} {ts : List Tok} (h : Toks w v ts) (hb : ∀ b, v.ownBlock = some b → w'.heap[b]? = w.heap[b]?) : Toks w' v ts := by
 rcases h with h | ⟨ad, c, rfl, hc, hcell⟩
 ·exact .inl h
 ·refine .inr ⟨ad, c, rfl, hc, fun j t ht => ?_⟩
  obtain ⟨h0, h1, h2, h3⟩ := hcell j t ht
  have hk := hb ad.block rfl
  have ck : ∀ a : Addr, a.block = ad.block → w'.cell? a = w.cell? a := fun a ha => World.cell?_of_block (w := w) (by rw [ha]; exact hk)
  have e4 := addr_add_block ad (j * 4)
  exact ⟨(ck _ e4).trans h0, (ck ⟨_, _, none⟩ e4).trans h1, (ck ⟨_, _, none⟩ e4).trans h2, (ck ⟨_, _, none⟩ e4).trans h3⟩
theorem Prs.keep (h : Prs w g E s) (hb : ∀ b, b ≤ g → w'.heap[b]? = w.heap[b]?) : Prs w' g E s := by
 obtain ⟨v, h1, h2, h3⟩ := h.blk
 exact ⟨⟨v, (hb g (Nat.le_refl _)).trans h1, h2.keep fun b hv => hb b (by have := h3 b hv; omega), h3⟩, h.small, h.eb, h.ab, h.ee, h.err⟩
theorem Prs.drewN (h : Prs w g E s) (m : Nat) : Prs (w.drewN m) g E s := h.keep fun _ _ => rfl
theorem Prs.below {B : Nat} (h : Prs w g E s) (hb : Below B w w') (hg : g < B) : Prs w' g E s := h.keep fun b hbg => hb.block b (by omega)
theorem results_cell_one {P : Program} {fn : Func} {p : Tmp} {ty : TypeId} (h : fn.results = #[.cell p ty]) (tmps : Array Value) (w : World) (g : Nat) (t : TypeId) (cs : Array Value) (fr : Nat × Nat) (d : TypeDesc)
  (hp : tmps.getD p undef = .pointer (some ⟨g, 0, none⟩)) (hg : w.heap[g]? = some (.cells cs t fr))
  (hu : P.underlying ty = some d) (hd : (match d with | .struct _ | .array _ _ => true | _ => false) = true) (hi : (P.info? ty).map (·.size) = some cs.size) :
  (results fn tmps).run P w = .ok (.agg cs) w := by
 have hp' : tmps[p]?.getD undef = .pointer (some ⟨g, 0, none⟩) := by simpa using hp
 simp only [results, h]
 simp [hp', asAddr, run_loadVar_row w g t ty cs fr d hg hu hd hi]
theorem tok_ret {W : World} {b kd v p : Nat} {t : List UInt8} (h : TBox W b kd t v p) {fn : Func} {q : Tmp} (hf : fn.results = #[.cell q 48]) (tmps : Array Value) (hq : tmps.getD q undef = .pointer (some ⟨b, 0, none⟩)) :
  (results fn tmps).run Tryz.prog W = .ok (tokV kd t v p) W :=
 results_cell_one hf tmps W b 48 _ (0, 0) _ hq h Tryz.underlying48 rfl (by kernel_rfl)
theorem fld_tok0 (a b c d : Value) (w : World) : (Instr.field 48 (.agg #[a, b, c, d]) 0).run Tryz.prog w = .ok a w := run_field_one w Tryz.underlying48 rfl Tryz.underlying3 rfl rfl
theorem fld_tok1 (a b c d : Value) (w : World) : (Instr.field 48 (.agg #[a, b, c, d]) 1).run Tryz.prog w = .ok b w := run_field_one w Tryz.underlying48 rfl Tryz.underlying9 rfl rfl
theorem fld_tok2 (a b c d : Value) (w : World) : (Instr.field 48 (.agg #[a, b, c, d]) 2).run Tryz.prog w = .ok c w := run_field_one w Tryz.underlying48 rfl Tryz.underlying3 rfl rfl
theorem fld_tok3 (a b c d : Value) (w : World) : (Instr.field 48 (.agg #[a, b, c, d]) 3).run Tryz.prog w = .ok d w := run_field_one w Tryz.underlying48 rfl Tryz.underlying3 rfl rfl
def tokA (t : Tok) : Value := .agg #[.int .i64 (t.k : Int), .string (ofL t.t), .int .i64 (t.v : Int), .int .i64 (t.p : Int)]
theorem nextT_small (h : Prs w g E s) : (nextT E s).t.length ≤ 40 ∧ (nextT E s).v ≤ 999999 ∧ (nextT E s).p ≤ 8000 := by
 have he := h.eb
 have hs := h.small
 obtain ⟨r, a, e⟩ := s
 cases r with
 | nil => exact ⟨by simp [nextT], by simp [nextT], by simpa [nextT] using he⟩
 | cons t r => exact hs.tok t (by simp)
theorem pmore_any (h : Prs w g E s) : Calls Tryz.prog 76 #[.pointer (some ⟨g, 0, none⟩)] w (Quiet w (.bool (decide (s.r ≠ [])))) := by
 obtain ⟨v, h1, h2, h3⟩ := h.blk
 obtain ⟨A, c, rfl⟩ := h2.shape
 have c0 : w.cell? ⟨g, 0, none⟩ = some (.slice A s.r.length c) := cell_of_row w g 0 _ _ _ h1
 have hl := h.small.len
 have hr := Lib.hid (show decide (s.r ≠ []) = decide (0 < s.r.length) by rw [decide_eq_decide]; exact (List.length_pos_iff).symm)
 go_enter Tryz.func76, Tryz.ntmps76
 go_wp2
 go_ret
 refine ⟨?_, 0, rfl⟩
 rw [hr.out]
 simp
theorem pnext_any (h : Prs w g E s) : Calls Tryz.prog 190 #[.pointer (some ⟨g, 0, none⟩)] w (fun e w' => e = .returned (tokA (nextT E s)) ∧ Below w.heap.size w w') := by
 obtain ⟨v, h1, h2, h3⟩ := h.blk
 have hl := h.small.len
 have W1 : Hid (Below w.heap.size w (w.alloc (.cells #[.int .i64 0, .string ⟨#[]⟩, .int .i64 0, .int .i64 0] 48))) := (Below.refl _ w).alloc (Nat.le_refl _) _
 have H := Lib.hid (h.below W1.out h.lt)
 by_cases hr : s.r = []
 ·have c1 : w.cell? ⟨g, 1, none⟩ = some (.int .i64 (E : Int)) := cell_of_row w g 1 _ _ _ h1
  have c1' := (W1.out.cell (p := ⟨g, 1, none⟩) h.lt).trans c1
  have hN := Lib.hid (show nextT E s = ⟨0, [], 0, E⟩ by unfold nextT; rw [hr])
  have hd : decide (s.r ≠ []) = false := by simpa using hr
  clear h h1 h2 h3 hr hl c1
  go_enter Tryz.func190, Tryz.ntmps190
  go_wp2_with fail
  refine (pmore_any H.out).mono ?_; rintro e w1 ⟨rfl, m, rfl⟩; rw [hd]
  go_wp2_with fail
  refine bodyPost_ret (v := tokV 0 [] 0 E) (tok_ret (TBox.store (w := (w.alloc (.cells #[.int .i64 0, .string ⟨#[]⟩, .int .i64 0, .int .i64 0] 48)).drewN m) (TBox.new w) 0 0 E []) Tryz.results190 _ rfl) rfl ⟨by rw [hN.out]; rfl, ?_⟩
  exact ((((below_drewN W1.out m).setCell (Nat.le_refl _) _).setCell (Nat.le_refl _) _).setCell (Nat.le_refl _) _).setCell (Nat.le_refl _) _
 ·obtain ⟨t, r, hr⟩ : ∃ t r, s.r = t :: r := List.exists_cons_of_ne_nil hr
  have hlt : 0 < s.r.length := by rw [hr]; simp
  have hN := Lib.hid (show nextT E s = t by unfold nextT; rw [hr])
  obtain ⟨ad, c, rfl, hc, a0, a1, a2, a3⟩ := toks_cell h2 0 hlt
  have c0 : w.cell? ⟨g, 0, none⟩ = some (.slice (some ad) s.r.length c) := cell_of_row w g 0 _ _ _ h1
  have c0' := (W1.out.cell (p := ⟨g, 0, none⟩) h.lt).trans c0
  simp only [hr, List.getElem_cons_zero] at a0 a1 a2 a3
  have d0 := (W1.out.cell (World.block_lt_of_cell? _ _ a0)).trans a0
  have d1 := (W1.out.cell (World.block_lt_of_cell? _ _ a1)).trans a1
  have d2 := (W1.out.cell (World.block_lt_of_cell? _ _ a2)).trans a2
  have d3 := (W1.out.cell (World.block_lt_of_cell? _ _ a3)).trans a3
  rw [show ad.add (0 * 4) = ad from rfl] at d0 d1 d2 d3
  have hd : decide (s.r ≠ []) = true := by simp [hr]
  have hl2 : 0 < s.r.length := hlt
  clear h h1 h2 h3 c0 a0 a1 a2 a3 hr hlt
  go_enter Tryz.func190, Tryz.ntmps190
  go_wp2_with fail
  refine (pmore_any H.out).mono ?_; rintro e w1 ⟨rfl, m, rfl⟩; rw [hd]
  go_wp2_with fail
  refine bodyPost_ret (v := tokV t.k t.t t.v t.p) (tok_ret (TBox.store (w := (w.alloc (.cells #[.int .i64 0, .string ⟨#[]⟩, .int .i64 0, .int .i64 0] 48)).drewN m) (TBox.new w) t.k t.v t.p t.t) Tryz.results190 _ rfl) rfl ⟨by rw [hN.out]; rfl, ?_⟩
  exact ((((below_drewN W1.out m).setCell (Nat.le_refl _) _).setCell (Nat.le_refl _) _).setCell (Nat.le_refl _) _).setCell (Nat.le_refl _) _
theorem failS_err (x : Nat) (h : s.e ≠ 0) : failS E x s = s := by unfold failS; rw [if_neg h]
theorem failS_ok (x : Nat) (h : s.e = 0) : failS E x s = ⟨[], (nextT E s).p, x⟩ := by unfold failS; rw [if_pos h]
/-- Behind a method that answers v and leaves the state s'. -/
def Got (w : World) (g E : Nat) (s' : St) (v : Value) (e : Ending) (w' : World) : Prop := e = .returned v ∧ Prs w' g E s' ∧ Only g w w'
theorem Only.toB {a b : World} (h : Only g a b) (hg : a.heap.size ≤ g) : Below a.heap.size a b := ⟨h.os, h.tape, h.output, h.size, fun k hk => h.block k hk (by omega)⟩
set_option maxRecDepth 20000 in
set_option maxHeartbeats 400000 in
theorem pfail_any (h : Prs w g E s) (x : Nat) (hx : x ≤ 100) : Calls Tryz.prog 220 #[.pointer (some ⟨g, 0, none⟩), .int .i64 (x : Int)] w (Got w g E (failS E x s) (.tuple #[])) := by
 obtain ⟨v, h1, h2, h3⟩ := h.blk
 have c3 : w.cell? ⟨g, 3, none⟩ = some (.int .i64 (s.e : Int)) := cell_of_row w g 3 _ _ _ h1
 have H := Lib.hid h
 by_cases he : s.e = 0
 ·have hS := Lib.hid (failS_ok (E := E) x he)
  have he2 : ((s.e : Int) == 0) = true := by simp [he]
  obtain ⟨hn1, hn2, hn3⟩ := nextT_small h
  have HN := Lib.hid (show (nextT E s).p ≤ 8000 from hn3)
  obtain ⟨t, ht⟩ : ∃ t, nextT E s = t := ⟨_, rfl⟩
  have HT := Lib.hid ht
  have H1 := Lib.hid h1
  have HB := Lib.hid h3
  have hlt := h.lt
  clear h h1 h2 h3 he hn1 hn2 hn3 ht
  go_enter Tryz.func220, Tryz.ntmps220
  go_wp2_with fail
  refine (pnext_any H.out).mono ?_; rintro e w1 ⟨rfl, hb⟩
  rw [HT.out]
  unfold tokA
  have hb1 := (hb.block g hlt).trans H1.out
  have HB1 := Lib.hid hb
  have K1 := Lib.hid hb1
  have c0 := cell_of_row w1 g 0 _ _ _ hb1
  have c1 := cell_of_row w1 g 1 _ _ _ hb1
  have c2 := cell_of_row w1 g 2 _ _ _ hb1
  have c3' := cell_of_row w1 g 3 _ _ _ hb1
  have f (i : Nat) : w1.frozen? ⟨g, i, none⟩ = false := by simp [World.frozen?, hb1]
  have f0 := f 0
  have f2 := f 2
  have f3 := f 3
  clear hb hb1 f c3
  have hfl := fld_tok3
  go_wp2_with fail
  refine bodyPost_end (v := .tuple #[]) (by simp [results, Tryz.results220, go_sem]) rfl ⟨rfl, ?_, ((((Only.refl g w).below HB1.out).set _ _).set _ _).set _ _⟩
  rw [hS.out, HT.out]
  refine ⟨⟨.slice none 0 0, ?_, Toks.nil _, by intro b hb; cases hb⟩, SmT.nil, H.out.eb, by have := HN.out; rw [HT.out] at this; exact this, hx, fun _ => rfl⟩
  rw [heap_set (heap_set (heap_set K1.out))]
  rfl
 ·have hS := Lib.hid (failS_err (E := E) x he)
  have he2 : ((s.e : Int) == 0) = false := by simp [he]
  clear h h1 h2 h3 he
  go_enter Tryz.func220, Tryz.ntmps220
  go_wp2_with fail
  refine bodyPost_end (v := .tuple #[]) (by simp [results, Tryz.results220, go_sem]) rfl ⟨rfl, by rw [hS.out]; exact H.out, Only.refl _ _⟩
theorem Toks.rest {ad : Addr} {n c : Nat} {t : Tok} {r : List Tok} (h : Toks w (.slice (some ad) (n + 1) c) (t :: r)) (hn : r.length = n) : Toks w (.slice (some (ad.add 4)) n (c - 1)) r := by
 rcases h with ⟨h0, _⟩ | ⟨ad', c', he, hc, hcell⟩
 ·cases h0
 ·simp only [Value.slice.injEq, Option.some.injEq] at he
  obtain ⟨rfl, _, rfl⟩ := he
  refine .inr ⟨ad.add 4, c - 1, by rw [hn], by simp at hc; omega, fun j t' ht => ?_⟩
  have := hcell (j + 1) t' (by simpa using ht)
  rw [addr_add_add, show 4 + j * 4 = (j + 1) * 4 by omega]
  exact this
theorem Prs.own (h : Prs w g E s) {b : Nat} (hb : g < b) (i : Nat) (v : Value) : Prs (w.setCell ⟨b, i, none⟩ v) g E s := h.keep fun k hk => Below.heap_setCell _ _ _ _ (by show k ≠ b; omega)
theorem Prs.rest (h : Prs w g E s) (v' : Value) (r' : List Tok) (ht : Toks w v' r') (hb : ∀ b, v'.ownBlock = some b → b < g) (hs : SmT r') (he : s.e ≠ 0 → r' = []) : Prs (w.setCell ⟨g, 0, none⟩ v') g E ⟨r', s.a, s.e⟩ := by
 obtain ⟨v, h1, h2, h3⟩ := h.blk
 refine ⟨⟨v', ?_, ht.keep fun b hv => Below.heap_setCell _ _ _ _ (by have := hb b hv; show b ≠ g; omega), hb⟩, hs, h.eb, h.ab, h.ee, he⟩
 rw [heap_set h1]
 rfl
theorem TBox.other {b kd v p : Nat} {t : List UInt8} (h : TBox w b kd t v p) {c i : Nat} {u : Value} (hb : b ≠ c) : TBox (w.setCell ⟨c, i, none⟩ u) b kd t v p := (Below.heap_setCell _ _ _ _ hb).trans h
theorem readS_no : readS E false s = (⟨0, [], 0, 0⟩, failS E 3 s) := rfl
theorem readS_yes : readS E true s = (nextT E s, ⟨s.r.tail, s.a, s.e⟩) := rfl
set_option maxRecDepth 20000 in
set_option maxHeartbeats 400000 in
theorem pread_any (h : Prs w g E s) (b : Bool) (hb : b = true → s.r ≠ []) : Calls Tryz.prog 189 #[.pointer (some ⟨g, 0, none⟩), .bool b] w (Got w g E (readS E b s).2 (tokA (readS E b s).1)) := by
 have W1 : Hid (Below w.heap.size w (w.alloc (.cells #[.int .i64 0, .string ⟨#[]⟩, .int .i64 0, .int .i64 0] 48))) := (Below.refl _ w).alloc (Nat.le_refl _) _
 have H := Lib.hid (h.below W1.out h.lt)
 have hlt := h.lt
 obtain ⟨t, ht⟩ : ∃ t, nextT E s = t := ⟨_, rfl⟩
 have HT := Lib.hid ht
 have T1 := Lib.hid (TBox.new w)
 have H0 := Lib.hid h
 have HR := Lib.hid hb
 clear h ht hb
 cases b with
 | false =>
  go_enter Tryz.func189, Tryz.ntmps189
  go_wp2_with fail
  refine (pnext_any H.out).mono ?_; rintro e w1 ⟨rfl, hb1⟩
  rw [HT.out]
  unfold tokA
  have B1 := Lib.hid (W1.out.trans (hb1.mono (by simp)))
  have B2 := Lib.hid (B1.out.alloc (Nat.le_trans (by simp) B1.out.size) (.cells #[.int .i64 (t.k : Int), .string (ofL t.t), .int .i64 (t.v : Int), .int .i64 (t.p : Int)] 48))
  have T2 := Lib.hid ((T1.out.below hb1).below ((Below.refl w1.heap.size w1).alloc (Nat.le_refl _) (.cells #[.int .i64 (t.k : Int), .string (ofL t.t), .int .i64 (t.v : Int), .int .i64 (t.p : Int)] 48)))
  have H2 := Lib.hid (H0.out.below B2.out hlt)
  clear hb1
  go_wp2_with fail
  refine (pfail_any H2.out 3 (by omega)).mono ?_; rintro e w2 ⟨rfl, P3, O3⟩
  have P3' := Lib.hid P3
  have O3' := Lib.hid (((Only.refl g w).below B2.out).trans O3)
  have T3 := Lib.hid (T2.out.keep O3 (by omega))
  obtain ⟨d0, d1, d2, d3, f0, f1, f2, f3⟩ := T3.out.facts
  clear P3 O3
  go_wp2_with fail
  refine bodyPost_ret (v := tokV 0 [] 0 0) (tok_ret (T3.out.store 0 0 0 []) Tryz.results189 _ rfl) rfl ⟨rfl, ?_, ?_⟩
  ·rw [readS_no]
   exact (((P3'.out.own hlt _ _).own hlt _ _).own hlt _ _).own hlt _ _
  ·exact ((((O3'.out.own (Nat.le_refl _) _ _).own (Nat.le_refl _) _ _).own (Nat.le_refl _) _ _).own (Nat.le_refl _) _ _)
 | true =>
  go_enter Tryz.func189, Tryz.ntmps189
  go_wp2_with fail
  refine (pnext_any H.out).mono ?_; rintro e w1 ⟨rfl, hb1⟩
  rw [HT.out]
  unfold tokA
  have B1 := Lib.hid (W1.out.trans (hb1.mono (by simp)))
  have B2 := Lib.hid (B1.out.alloc (Nat.le_trans (by simp) B1.out.size) (.cells #[.int .i64 (t.k : Int), .string (ofL t.t), .int .i64 (t.v : Int), .int .i64 (t.p : Int)] 48))
  have T2 := Lib.hid ((T1.out.below hb1).below ((Below.refl w1.heap.size w1).alloc (Nat.le_refl _) (.cells #[.int .i64 (t.k : Int), .string (ofL t.t), .int .i64 (t.v : Int), .int .i64 (t.p : Int)] 48)))
  have U2 := Lib.hid (TBox.made w1 t.k t.v t.p t.t)
  have P1 := Lib.hid (H0.out.below B2.out hlt)
  obtain ⟨v, h1, h2, h3⟩ := P1.out.blk
  have hr : s.r ≠ [] := by simpa using HR.out
  obtain ⟨t', r, hrr⟩ : ∃ t' r, s.r = t' :: r := List.exists_cons_of_ne_nil hr
  obtain ⟨ad, c, rfl, hc, -⟩ := toks_cell h2 0 (by rw [hrr]; simp)
  obtain ⟨n, hn⟩ : ∃ n, s.r.length = n + 1 := ⟨r.length, by rw [hrr]; rfl⟩
  have hnr : r.length = n := by rw [hrr] at hn; simpa using hn
  have hl := H0.out.small.len
  have hn8 : n ≤ 8000 := by omega
  rw [hn] at h1 h2 h3 hc
  rw [hrr] at h2
  have c0 := cell_of_row _ g 0 _ _ _ h1
  have f0 : (w1.alloc (.cells #[.int .i64 (t.k : Int), .string (ofL t.t), .int .i64 (t.v : Int), .int .i64 (t.p : Int)] 48)).frozen? ⟨g, 0, none⟩ = false := by simp [World.frozen?, h1]
  have H1 := Lib.hid h1
  have H2 := Lib.hid h2
  have H3 := Lib.hid (h3 ad.block rfl)
  have HS := Lib.hid (show SmT r by have := H0.out.small.tail; rwa [hrr] at this)
  have hes := Lib.hid (show s.e ≠ 0 → r = [] from fun h => by have := H0.out.err h; rw [hrr] at this; cases this)
  have HE := Lib.hid (show readS E true s = (t, ⟨r, s.a, s.e⟩) by rw [readS_yes, HT.out, hrr]; rfl)
  obtain ⟨u0, u1, u2, u3, -, -, -, -⟩ := U2.out.facts
  have hne : w1.heap.size ≠ g := by have := B1.out.size; omega
  have hne2 : g ≠ w1.heap.size := fun e => hne e.symm
  have hne3 : w.heap.size ≠ g := by omega
  have hne4 : g ≠ w.heap.size := by omega
  have hne5 : w.heap.size ≠ w1.heap.size := by have := lt_of_some (T1.out.below hb1); omega
  obtain ⟨d0, d1, d2, d3, e0, e1, e2, e3⟩ := T2.out.facts
  clear hb1 h1 h2 h3 hr hl hrr hn
  by_cases hc1 : c = 1
  ·have hn0 : n = 0 := by omega
   subst hc1
   subst hn0
   go_wp2_with fail
   have R1 := P1.out.rest (.slice (some ad) 0 0) r (.inr ⟨ad, 0, by rw [List.length_eq_zero_iff.1 hnr]; rfl, by simp [hnr], fun j t' ht => by rw [List.length_eq_zero_iff.1 hnr] at ht; simp at ht⟩) (by intro b hb; cases hb; exact H3.out) HS.out hes.out
   refine bodyPost_ret (v := tokV t.k t.t t.v t.p) (tok_ret ((T2.out.other hne3).store t.k t.v t.p t.t) Tryz.results189 _ rfl) rfl ⟨by rw [HE.out]; rfl, ?_, ?_⟩
   ·rw [HE.out]
    exact (((R1.own hlt _ _).own hlt _ _).own hlt _ _).own hlt _ _
   ·exact (((((((Only.refl g w).below B2.out).set 0 _).own (Nat.le_refl _) _ _).own (Nat.le_refl _) _ _).own (Nat.le_refl _) _ _).own (Nat.le_refl _) _ _)
  ·have hc2 : ¬ c - 1 = 0 := by omega
   go_wp2_with fail
   have R1 := P1.out.rest (.slice (some ⟨ad.block, ad.off + 4, none⟩) n (c - 1)) r (H2.out.rest hnr) (by intro b hb; cases hb; exact H3.out) HS.out hes.out
   refine bodyPost_ret (v := tokV t.k t.t t.v t.p) (tok_ret ((T2.out.other hne3).store t.k t.v t.p t.t) Tryz.results189 _ rfl) rfl ⟨by rw [HE.out]; rfl, ?_, ?_⟩
   ·rw [HE.out]
    exact (((R1.own hlt _ _).own hlt _ _).own hlt _ _).own hlt _ _
   ·exact (((((((Only.refl g w).below B2.out).set 0 _).own (Nat.le_refl _) _ _).own (Nat.le_refl _) _ _).own (Nat.le_refl _) _ _).own (Nat.le_refl _) _ _)
end
end Go.Proofs.YtekpefcggikcbaaGreatDoor
