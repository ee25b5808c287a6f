/- Layer 10: the contract of source. -/
import Derived.Test.YtpnlojcimeiihaaGreatDoorSynPr
import Derived.Test.YtpnlojcimeiihaaGreatDoorMSynB
import Derived.Test.YtpnlojcimeiihaaGreatDoorMLayLex
import Derived.Shelf.Strings.Builder1
import Derived.Lib.LaidTab
import Derived.Test.YtpnlojcimeiihaaGreatDoorLayItoa
import Derived.Lib.AppendStr
import Derived.Lib.UnsafeStr
namespace Go.Proofs.YtpnlojcimeiihaaGreatDoor
/- Layer 10: the contract of source. -/
open Go.RowKit

theorem info_prot : (Tryz.prog.info? 59).map (fun i => (i.zero, i.size, i.bytes)) = some (some (.agg #[.string ⟨#[]⟩, .slice none 0 0, .slice none 0 0, .slice none 0 0]), 4, 88) := by kernel_rfl
theorem pr_shape {w : World} {S : Nat → Prop} {us : List Value} {p : Pr} (h : LiesL w S us (dP p)) : ∃ A n c A' n' c' B m d, us = [.string (ofL p.nm), .slice A n c, .slice A' n' c', .slice B m d] := by
  obtain ⟨hl, h⟩ := h
  unfold dP at hl h
  match us, hl with
  | [u0, u1, u2, u3], _ =>
    have h0 := (h 0 _ _ rfl rfl).cell_eq
    obtain ⟨A, n, c, h1, -⟩ := (h 1 _ _ rfl rfl).slc
    obtain ⟨A', n', c', h2, -⟩ := (h 2 _ _ rfl rfl).slc
    obtain ⟨B, m, d, h3, -⟩ := (h 3 _ _ rfl rfl).slc
    subst h0; subst h1; subst h2; subst h3
    exact ⟨A, n, c, A', n', c', B, m, d, rfl⟩
section
variable {w w' : World} {g E : Nat} {s : St}
theorem sourceL_no (n : Nat) (h : s.r = []) : sourceL E n s = ([], s) := by
  cases n with
  | zero => rfl
  | succ n => show (if s.r ≠ [] then _ else _) = _; rw [if_neg (by simp [h])]
theorem sourceL_yes (n : Nat) (h : s.r ≠ []) : sourceL E (n + 1) s = ((protocolP E s).1 :: (sourceL E n (protocolP E s).2).1, (sourceL E n (protocolP E s).2).2) := by
  show (if s.r ≠ [] then _ else _) = _
  rw [if_pos h]
  rfl
end
def SoRel (w : World) (g E B : Nat) (R : List Pr × St) (gk : Nat) (v : Value) (wr : World) : Prop :=
  ∃ (acc : List Pr) (s1 : St), s1.r.length ≤ gk ∧ acc.length + gk ≤ 8000 ∧ Hid (Bld wr B 59 4 v acc.length (acc.flatMap dP)) ∧ Hid (Prs wr g E s1) ∧ Hid (Only g w wr) ∧
    Hid (R.1 = acc ++ (sourceL E gk s1).1) ∧ Hid (R.2 = (sourceL E gk s1).2)
section
variable {w w' : World} {g E : Nat} {s : St}
set_option maxRecDepth 20000 in
set_option maxHeartbeats 2000000 in
theorem psource_any (h : Prs w g E s) : Calls Tryz.prog 40 #[.pointer (some ⟨g, 0, none⟩)] w (GotD w g E (sourceP E s).2 (.s 4 ((sourceP E s).1.flatMap dP))) := by
  obtain ⟨R, hR⟩ : ∃ R, sourceP E s = R := ⟨_, rfl⟩
  rw [hR]
  have hlt := h.lt
  have HR := Lib.hid (show sourceL E s.r.length s = R from hR)
  have H := Lib.hid h
  have hl8 := h.small.len
  obtain ⟨l0, hl0⟩ : ∃ l0, s.r.length = l0 := ⟨_, rfl⟩
  rw [hl0] at hl8
  have HL0 := Lib.hid hl0
  clear h hR hl0
  go_enter Tryz.func40, Tryz.ntmps40
  go_wp2_with fail
  go_loopg [3, 4, 5, 6, 7, 8, 9, 10] l0 (fun gk v _ _ _ _ _ _ _ wr => SoRel w g E w.heap.size R gk v wr)
  case atStart =>
    refine ⟨[], s, by have := HL0.out; omega, by simpa using hl8, Bld.nil _ _ _ _, H.out, Only.refl _ _, ?_, ?_⟩
    · unfold Hid; rw [← HR.out, HL0.out]; rfl
    · unfold Hid; rw [← HR.out, HL0.out]
  case round =>
    clear H
    obtain ⟨acc, s2, hr2, hacc, HB, HS, HO, HE1, HE2⟩ := hrel
    by_cases hne : s2.r = []
    · have hm := Lib.hid (show decide (s2.r ≠ []) = false by simpa using hne)
      have HX := Lib.hid (show R = (acc, s2) by
        have h1 := HE1.out
        have h2 := HE2.out
        rw [sourceL_no _ hne] at h1 h2
        rw [List.append_nil] at h1
        exact Prod.ext h1 h2)
      clear hne
      go_wp2_with fail
      refine (pmore_any HS.out).mono ?_; rintro e w2 ⟨rfl, m, rfl⟩; rw [hm.out]
      have P2 := Lib.hid (HS.out.drewN m)
      have O2 := Lib.hid (show Only g w (wr.drewN m) from HO.out.drewN m)
      have B2 := Lib.hid (HB.out.drewN m)
      go_wp2_with fail
      go_ret
      exact ⟨_, rfl, by rw [HX.out]; exact B2.out.lies, by rw [HX.out]; exact P2.out, O2.out⟩
    · have hm := Lib.hid (show decide (s2.r ≠ []) = true by simpa using hne)
      have heat := protocolP_eats (E := E) hne HS.out.err
      obtain ⟨gn, rfl⟩ : ∃ gn, gk = gn + 1 := ⟨gk - 1, by have := List.length_pos_iff.2 hne; omega⟩
      obtain ⟨s4, hs4⟩ : ∃ s4, (protocolP E s2).2 = s4 := ⟨_, rfl⟩
      obtain ⟨pr, hpr⟩ : ∃ pr, (protocolP E s2).1 = pr := ⟨_, rfl⟩
      rw [hs4] at heat
      have HE3 := Lib.hid (show R.1 = acc ++ pr :: (sourceL E gn s4).1 by have h1 := HE1.out; rw [sourceL_yes _ hne, hs4, hpr] at h1; exact h1)
      have HE4 := Lib.hid (show R.2 = (sourceL E gn s4).2 by have h1 := HE2.out; rw [sourceL_yes _ hne, hs4] at h1; exact h1)
      have HS4 := Lib.hid hs4
      have HPR := Lib.hid hpr
      have hl4 : s4.r.length ≤ gn := by omega
      clear hne hs4 hpr HE1 HE2 heat
      go_wp2_with fail
      refine (pmore_any HS.out).mono ?_; rintro e w2 ⟨rfl, m, rfl⟩; rw [hm.out]
      have P2 := Lib.hid (HS.out.drewN m)
      have O2 := Lib.hid (show Only g w (wr.drewN m) from HO.out.drewN m)
      have B2 := Lib.hid (HB.out.drewN m)
      go_wp2_with fail
      refine (pprotocol_any P2.out).mono ?_; rintro e w4 ⟨cs, rfl, LV, P4, O4⟩
      rw [HS4.out] at P4
      rw [HPR.out] at LV
      obtain ⟨A, m1, c1, A2, m2, c2, A3, m3, c3, hcs⟩ := pr_shape LV
      obtain rfl : cs = #[.string (ofL pr.nm), .slice A m1 c1, .slice A2 m2 c2, .slice A3 m3 c3] := by rw [← Array.toArray_toList (xs := cs), hcs]
      have P4' := Lib.hid P4
      have O4' := Lib.hid (O2.out.trans O4)
      have B4' := Lib.hid (B2.out.only O4 hlt)
      have LV' := Lib.hid (show LiesL w4 (fun k => w.heap.size ≤ k ∧ u3.ownBlock ≠ some k) [.string (ofL pr.nm), .slice A m1 c1, .slice A2 m2 c2, .slice A3 m3 c3] (dP pr) from LV.mono fun k _ hk => ⟨Nat.le_trans O2.out.size hk, fun e => by have := B2.out.lt e; omega⟩)
      clear P4 O4 LV hcs
      have hsz4 : w.heap.size ≤ w4.heap.size := O4'.out.size
      have hby : (acc.length + 1) * 88 ≤ 140737488355328 := by omega
      go_wp2_with (at_builtin; refine appD rfl _ _ 23 rfl 59 _ 4 88 info_prot rfl (by decide) Tryz.underlying23 w.heap.size u3 _ _ rfl B4'.out _ (dP pr) rfl rfl LV'.out hby hsz4 ?_ (by decide); intro v' w8 hown8 hg8; have hV8 := Lib.hid hown8; have hF8 := Lib.hid (grown_below B4'.out hg8 hsz4); clear hown8 hg8)
      go_roundg gn
      case rel =>
        refine ⟨acc ++ [pr], s4, hl4, by simp; omega, ?_, P4'.out.below hF8.out hlt, O4'.out.to hF8.out, ?_, HE4⟩
        · have := hV8.out
          unfold Hid
          rw [List.length_append, List.flatMap_append]
          simpa using this
        · unfold Hid; rw [HE3.out, List.append_assoc]; rfl
      case measure => omega
end
/- Layer 10: the printer in memory: a strings.Builder embedded in a struct, and a depth. -/
open Go.RowKit

/-- w' is w, but for block g, for new blocks and for blocks of bytes from B on. -/
structure Pk (g B : Nat) (w w' : World) : Prop where
  os : w'.os = w.os
  tape : w'.tape = w.tape
  output : w'.output = w.output
  size : w.heap.size ≤ w'.heap.size
  block : ∀ k, k < w.heap.size → k ≠ g → (k < B ∨ ∀ cs fr, w.heap[k]? ≠ some (.cells cs 5 fr)) → w'.heap[k]? = w.heap[k]?
section
variable {g B : Nat} {w w' : World}
theorem Pk.refl (g B : Nat) (w : World) : Pk g B w w := ⟨rfl, rfl, rfl, Nat.le_refl _, fun _ _ _ _ => rfl⟩
theorem Pk.trans {a b c : World} (h : Pk g B a b) (k : Pk g B b c) : Pk g B a c :=
  ⟨k.os.trans h.os, k.tape.trans h.tape, k.output.trans h.output, Nat.le_trans h.size k.size, fun i hi hg hn => by
    have h1 := h.block i hi hg hn
    rw [k.block i (Nat.lt_of_lt_of_le hi h.size) hg (by rw [h1]; exact hn), h1]⟩
theorem Pk.below {a b c : World} (h : Pk g B a b) (hb : Below b.heap.size b c) : Pk g B a c := h.trans ⟨hb.os, hb.tape, hb.output, hb.size, fun k hk _ _ => hb.block k hk⟩
theorem Pk.alloc {a b : World} (h : Pk g B a b) (o : Obj) : Pk g B a (b.alloc o) := h.below ((Below.refl _ _).alloc (Nat.le_refl _) o)
theorem Pk.set {a b : World} (h : Pk g B a b) (i : Nat) (v : Value) : Pk g B a (b.setCell ⟨g, i, none⟩ v) :=
  h.trans ⟨rfl, rfl, rfl, by simp [World.setCell], fun k _ hk _ => Below.heap_setCell _ _ _ _ hk⟩
theorem Pk.frm {a b c : World} (h : Pk g B a b) (hf : Frm 5 B b c) : Pk g B a c := h.trans ⟨hf.os, hf.tape, hf.output, hf.size, fun k hk _ hn => hf.block k hk hn⟩
/-- The table of powers of ten lies in its block. -/
def Tb (w : World) : Prop := Lib.TabIs Tryz.prog w "internal/strconv.uint64pow10" .u64 Lib.pow10Tab
theorem gT_ex : ∃ n, Tryz.prog.globalNamed "internal/strconv.uint64pow10" = some n := Option.isSome_iff_exists.1 (by kernel_rfl)
noncomputable def gT : Nat := gT_ex.choose
theorem gT_is : Tryz.prog.globalNamed "internal/strconv.uint64pow10" = some gT := gT_ex.choose_spec
theorem Tb.keep (h : Tb w) (hb : w'.heap[gT]? = w.heap[gT]?) : Tb w' := by
  unfold Tb Lib.TabIs World.var? at h ⊢
  rw [gT_is] at h ⊢
  simp only [Option.bind_some] at h ⊢
  rw [hb]; exact h
theorem Tb.lt (h : Tb w) : gT < w.heap.size := by
  unfold Tb Lib.TabIs World.var? at h
  rw [gT_is] at h
  simp only [Option.bind_some] at h
  cases hq : w.heap[gT]? with
  | none => rw [hq] at h; cases h
  | some o => exact lt_of_some hq
theorem Tb.below (h : Tb w) (hb : Below w.heap.size w w') : Tb w' := h.keep (hb.block _ h.lt)
theorem Tb.pk (h : Tb w) (hg : gT < g) (hB : g < B) (hk : Pk g B w w') : Tb w' := h.keep (hk.block _ h.lt (by omega) (.inl (by omega)))
/-- The printer in block g: its depth d, what it has written: l. Its bytes lie from B on. -/
structure Pt (w : World) (B g d : Nat) (l : Bs) : Prop where
  blk : ∃ a v, (a = .pointer none ∨ a = .pointer (some ⟨g, 0, none⟩)) ∧ w.heap[g]? = some (.cells #[a, v, .int .i64 (d : Int)] 170 (0, 0)) ∧ w.ownsRow B 5 1 v l.length (Lib.byteCells l) ∧ (l = [] → v = .slice none 0 0)
  gB : g < B
  hB : B ≤ w.heap.size
  tb : Tb w
  gt : gT < g
theorem Pt.lt {d : Nat} {l : Bs} (h : Pt w B g d l) : g < w.heap.size := by obtain ⟨a, v, _, h1, _⟩ := h.blk; exact lt_of_some h1
theorem Pt.keep {d : Nat} {l : Bs} (h : Pt w B g d l) (hs : w.heap.size ≤ w'.heap.size) (hb : ∀ k, k < w.heap.size → (k ≤ g ∨ ∃ cs fr, w.heap[k]? = some (.cells cs 5 fr)) → w'.heap[k]? = w.heap[k]?) : Pt w' B g d l := by
  obtain ⟨a, v, h1, h2, h3, h4⟩ := h.blk
  refine ⟨⟨a, v, h1, (hb g (lt_of_some h2) (.inl (Nat.le_refl _))).trans h2, ⟨h3.1, ?_⟩, h4⟩, h.gB, Nat.le_trans h.hB hs, h.tb.keep (hb _ h.tb.lt (.inl (Nat.le_of_lt h.gt))), h.gt⟩
  rcases h3.2 with h5 | ⟨q, cap, cur, hv, hq, hh, hr⟩
  · exact .inl h5
  · exact .inr ⟨q, cap, cur, hv, hq, (hb q (lt_of_some hh) (.inr ⟨_, _, hh⟩)).trans hh, hr⟩
theorem Pt.below {d : Nat} {l : Bs} (h : Pt w B g d l) (hb : Below w.heap.size w w') : Pt w' B g d l := h.keep hb.size fun k hk _ => hb.block k hk
theorem Pt.alloc {d : Nat} {l : Bs} (h : Pt w B g d l) (o : Obj) : Pt (w.alloc o) B g d l := h.below ((Below.refl _ _).alloc (Nat.le_refl _) o)
theorem Pt.depth {d : Nat} {l : Bs} (h : Pt w B g d l) (d' : Nat) : Pt (w.setCell ⟨g, 2, none⟩ (.int .i64 (d' : Int))) B g d' l := by
  obtain ⟨a, v, h1, h2, h3, h4⟩ := h.blk
  refine ⟨⟨a, v, h1, ?_, ⟨h3.1, ?_⟩, h4⟩, h.gB, by simpa [World.setCell] using h.hB, h.tb.keep (Below.heap_setCell _ _ _ _ (by have := h.gt; show gT ≠ g; omega)), h.gt⟩
  · rw [heap_set h2]; rfl
  · rcases h3.2 with h5 | ⟨q, cap, cur, hv, hq, hh, hr⟩
    · exact .inl h5
    · exact .inr ⟨q, cap, cur, hv, hq, (Below.heap_setCell _ _ _ _ (by have := h.gB; show q ≠ g; omega)).trans hh, hr⟩
theorem size_bd : (Tryz.prog.info? 168).map (·.size) = some 2 := by kernel_rfl
theorem lies_pt : liesAt Tryz.prog Tryz.prog.depth 170 (3 / Tryz.prog.cellsOf 170) 0 168 1 = true := by kernel_rfl
def CkPost (B g d : Nat) (l : Bs) (w : World) (e : Ending) (w' : World) : Prop := e = .returned (.tuple #[]) ∧ (∃ v, w'.heap[g]? = some (.cells #[.pointer (some ⟨g, 0, none⟩), v, .int .i64 (d : Int)] 170 (0, 0)) ∧ w'.ownsRow B 5 1 v l.length (Lib.byteCells l) ∧ (l = [] → v = .slice none 0 0)) ∧ Pk g B w w' ∧ w'.heap.size = w.heap.size
set_option maxRecDepth 100000 in
set_option maxHeartbeats 1000000 in
theorem check_pt {d : Nat} {l : Bs} (h : Pt w B g d l) : Calls Tryz.prog 176 #[.pointer (some ⟨g, 0, none⟩)] w (CkPost B g d l w) := by
  obtain ⟨j, hj, hjs⟩ := Option.map_eq_some_iff.1 size_bd
  have hgB := h.gB
  obtain ⟨a, v, h1, h2, h3, h4⟩ := h.blk
  have c0 : w.cell? ⟨g, 0, none⟩ = some a := cell_of_row w g 0 _ _ _ h2
  have f0 : w.frozen? ⟨g, 0, none⟩ = false := by simp [World.frozen?, h2]
  have hsh : w.shape? g = some (170, 3) := by simp [World.shape?, h2]
  have H2 := Lib.hid h2
  have H3 := Lib.hid h3
  have H4 := Lib.hid h4
  clear h h2 h3 h4
  rcases h1 with rfl | rfl
  · go_enter Tryz.func176, Tryz.ntmps176
    go_wp2
    rw [Lib.run_to_unsafe w ⟨g, 0, none⟩ Tryz.underlying166 Tryz.underlying263 hj (by rw [hjs]; decide) hsh (Nat.zero_lt_succ 2)]
    simp only [Result.andThen]
    rw [Oper.upon_value]
    go_wp2
    rw [run_callFunc_extern Tryz.func212 (by kernel_rfl) (by kernel_rfl) (by kernel_rfl) (e := Extern.AbiNoEscape.same) (by kernel_rfl)]
    rw [Lib.run_noEscape]
    simp only [Result.andThen]
    rw [Oper.upon_value]
    go_wp2
    rw [Lib.run_from_unsafe w ⟨g, 0, none⟩ Tryz.underlying263 Tryz.underlying166 hj hsh lies_pt]
    simp only [Result.andThen]
    rw [Oper.upon_value]
    go_wp2
    refine bodyPost_ret (v := .tuple #[]) (by simp [results, Tryz.results176, go_sem]) rfl ⟨rfl, ⟨v, by rw [heap_set H2.out]; rfl, ⟨H3.out.1, ?_⟩, H4.out⟩, (Pk.refl g B w).set 0 _, by simp [World.setCell]⟩
    rcases H3.out.2 with h5 | ⟨q, cap, cur, hv, hq, hh, hr⟩
    · exact .inl h5
    · exact .inr ⟨q, cap, cur, hv, hq, (Below.heap_setCell _ _ _ _ (by show q ≠ g; omega)).trans hh, hr⟩
  · go_enter Tryz.func176, Tryz.ntmps176
    go_wp2
    rw [Lib.run_neq_ptr_same w _ Tryz.underlying166 hj]
    go_wp2
    exact bodyPost_ret (v := .tuple #[]) (by simp [results, Tryz.results176, go_sem]) rfl ⟨rfl, ⟨v, H2.out, H3.out, H4.out⟩, Pk.refl g B w, rfl⟩
end
/- Layer 10: WriteByte, WriteString and String of the printer. -/
open Go.RowKit

section
variable {g B d : Nat} {l : Bs} {w w' : World}
def PtGot (B g d : Nat) (l : Bs) (v : Value) (w : World) (e : Ending) (w' : World) : Prop := e = .returned v ∧ Pt w' B g d l ∧ Pk g B w w'
theorem type_pt : (170 : Nat) ≠ 5 := by decide
set_option maxRecDepth 100000 in
set_option maxHeartbeats 1000000 in
theorem writeByte_any (h : Pt w B g d l) (hl : l.length ≤ 1000000000) (c : UInt8) : Calls Tryz.prog 121 #[.pointer (some ⟨g, 0, none⟩), .int .u8 (c.toNat : Int)] w (PtGot B g d (l ++ [c]) .nilIface w) := by
  have H := Lib.hid h
  have hgB := h.gB
  have hBw := h.hB
  have HTB := Lib.hid h.tb
  have hgt := h.gt
  clear h
  go_enter Tryz.func121, Tryz.ntmps121
  go_wp2_with fail
  refine (check_pt H.out).mono ?_
  rintro e w1 ⟨rfl, ⟨v, hbk, hown, hnl⟩, hk1, hs1⟩
  have c0 := cell_of_row w1 g 0 _ _ _ hbk
  have c1 : w1.cell? ⟨g, 1, none⟩ = some v := cell_of_row w1 g 1 _ _ _ hbk
  have HOW := Lib.hid hown
  have HBK := Lib.hid hbk
  have HK1 := Lib.hid hk1
  have hB1 : B ≤ w1.heap.size := by omega
  have hlen2 : Room2 l.length := by unfold Room2; omega
  have HS1 := Lib.hid hs1
  clear hown hbk hk1 H c0 hs1 hnl
  go_wp2_with (at_builtin; refine app1 rfl _ _ 41 rfl 5 (.int .u8 0) info_u8 Tryz.underlying41 rfl B _ _ _ rfl HOW.out _ rfl rfl hlen2 hB1 ?_; intro v' w2 hown2 hf2; have HO2 := Lib.hid hown2; have HF2 := Lib.hid hf2; clear hown2 hf2; obtain ⟨q, cap, hq, hqB, -, -⟩ := own_shape HO2.out (by omega); subst hq; have hbk2 : w2.heap[g]? = some (.cells #[.pointer (some ⟨g, 0, none⟩), v, .int .i64 (d : Int)] 170 (0, 0)) := HF2.out.keeps HBK.out type_pt; have d1 := cell_of_row w2 g 1 _ _ _ hbk2; have f1 : w2.frozen? ⟨g, 1, none⟩ = false := (by simp [World.frozen?, hbk2]); have HBK2 := Lib.hid hbk2; clear hbk2)
  go_ret
  have HKK := Lib.hid ((HK1.out.frm HF2.out).set 1 (.slice (some ⟨q, 0, none⟩) (l.length + 1) cap))
  refine ⟨rfl, ⟨⟨.pointer (some ⟨g, 0, none⟩), _, .inr rfl, by rw [heap_set HBK2.out]; rfl, ?_, fun e => by simp at e⟩, hgB, ?_, HTB.out.pk hgt hgB HKK.out, hgt⟩, HKK.out⟩
  · have hown3 := HO2.out
    have hne : g < q := by omega
    have e1 : (l ++ [c]).length = l.length + 1 := by simp
    have e2 : Lib.byteCells (l ++ [c]) = Lib.byteCells l ++ [.int .u8 (c.toNat : Int)] := by simp [Lib.byteCells]
    rw [e1, e2]
    refine ⟨hown3.1, .inr ?_⟩
    rcases hown3.2 with ⟨h5, _⟩ | ⟨q', cap', cur, hv, hq, hh, hr⟩
    · cases h5
    · simp only [Value.slice.injEq, Option.some.injEq, Addr.mk.injEq, and_true, true_and] at hv
      obtain ⟨rfl, rfl⟩ := hv
      exact ⟨q, cap, cur, rfl, hq, (Below.heap_setCell _ _ _ _ (by show q ≠ g; omega)).trans hh, hr⟩
  · have := HF2.out.size; simp only [World.setCell, Array.size_modify]; omega
theorem own_set {w : World} {B e sz n : Nat} {v u : Value} {xs : List Value} {g i : Nat} (h : w.ownsRow B e sz v n xs) (hg : g < B) : (w.setCell ⟨g, i, none⟩ u).ownsRow B e sz v n xs := by
  refine ⟨h.1, ?_⟩
  rcases h.2 with h5 | ⟨q, cap, cur, hv, hq, hh, hr⟩
  · exact .inl h5
  · exact .inr ⟨q, cap, cur, hv, hq, (Below.heap_setCell _ _ _ _ (by show q ≠ g; omega)).trans hh, hr⟩
set_option maxRecDepth 100000 in
set_option maxHeartbeats 1000000 in
theorem writeString_any (h : Pt w B g d l) (hl : l.length ≤ 1000000000) (s : Bs) (hs : s.length ≤ 1000000000) : Calls Tryz.prog 206 #[.pointer (some ⟨g, 0, none⟩), .string (ofL s)] w (PtGot B g d (l ++ s) (.tuple #[.int .i64 (s.length : Int), .nilIface]) w) := by
  have H := Lib.hid h
  have hgB := h.gB
  have hBw := h.hB
  have HTB := Lib.hid h.tb
  have hgt := h.gt
  obtain ⟨y, hy⟩ : ∃ y, ofL s = y := ⟨_, rfl⟩
  have hyz : y.size = s.length := by rw [← hy, ofL_size]
  have hyc : Lib.strCells y = Lib.byteCells s := by rw [← hy]; simp [Lib.strCells, Lib.byteCells, ofL]
  have HYC := Lib.hid hyc
  rw [hy]
  clear h hy hyc
  obtain ⟨i0, hi, hz0, hz1, hz2⟩ := info_parts info_u8
  go_enter Tryz.func206, Tryz.ntmps206
  go_wp2_with fail
  refine (check_pt H.out).mono ?_
  rintro e w1 ⟨rfl, ⟨v, hbk, hown, hnl⟩, hk1, hs1⟩
  have c1 : w1.cell? ⟨g, 1, none⟩ = some v := cell_of_row w1 g 1 _ _ _ hbk
  have HOW := Lib.hid hown
  have HBK := Lib.hid hbk
  have HK1 := Lib.hid hk1
  have hB1 : B ≤ w1.heap.size := by omega
  have HN := Lib.hid hnl
  have HS1 := Lib.hid hs1
  clear hown hbk hk1 hs1 hnl
  have q1 : l.length + y.size ≤ maxLen := by unfold maxLen; omega
  have q2 : l.length + y.size ≤ 140737488355328 := by omega
  go_wp2_with (at_builtin; refine Lib.wpList_append_own_string _ rfl _ _ 41 9 rfl B 5 i0 Tryz.underlying41 Tryz.underlying9 hi hz0 hz1 hz2 _ _ _ rfl HOW.out y rfl q1 q2 hB1 ?_; intro v' w2 hown2 hgr2 hnn; have HO2 := Lib.hid hown2; have HF2 := Lib.hid (Frm.grown (e := 5) (B := B) HOW.out hgr2); have HNN := Lib.hid hnn; clear hown2 hgr2 hnn; obtain ⟨A, n', cap, hv'⟩ : ∃ A n' cap, v' = .slice A n' cap := (by rcases HO2.out.2 with ⟨h5, _⟩ | ⟨q, cap, cur, h5, _⟩; exact ⟨_, _, _, h5⟩; exact ⟨_, _, _, h5⟩); subst hv'; have hbk2 : w2.heap[g]? = some (.cells #[.pointer (some ⟨g, 0, none⟩), v, .int .i64 (d : Int)] 170 (0, 0)) := HF2.out.keeps HBK.out type_pt; have d1 := cell_of_row w2 g 1 _ _ _ hbk2; have f1 : w2.frozen? ⟨g, 1, none⟩ = false := (by simp [World.frozen?, hbk2]); have HBK2 := Lib.hid hbk2; clear hbk2)
  go_ret2
  have HKK := Lib.hid ((HK1.out.frm HF2.out).set 1 (.slice A n' cap))
  refine ⟨rfl, ⟨⟨.pointer (some ⟨g, 0, none⟩), _, .inr rfl, by rw [heap_set HBK2.out]; rfl, ?_, fun e => ?_⟩, hgB, ?_, HTB.out.pk hgt hgB HKK.out, hgt⟩, HKK.out⟩
  · have h3 := HO2.out
    rw [HYC.out, hyz] at h3
    have e2 : Lib.byteCells (l ++ s) = Lib.byteCells l ++ Lib.byteCells s := by simp [Lib.byteCells]
    rw [List.length_append, e2]
    exact own_set h3 hgB
  · rw [List.append_eq_nil_iff] at e
    exact HNN.out.2 ⟨HN.out e.1, by first | exact e.2 | (rw [hyz, e.2]; rfl)⟩
  · have := HF2.out.size; simp only [World.setCell, Array.size_modify]; omega
theorem cells_u8 : Tryz.prog.cellsOf 5 = 1 := by kernel_rfl
set_option maxRecDepth 100000 in
set_option maxHeartbeats 2000000 in
theorem bstring_any (h : Pt w B g d l) : Calls Tryz.prog 93 #[.pointer (some ⟨g, 0, none⟩)] w (fun e w' => e = .returned (.string (ofL l)) ∧ Below B w w') := by
  have hBw := h.hB
  obtain ⟨a, v, -, h2, h3, h4⟩ := h.blk
  by_cases h0 : l = []
  · obtain rfl := h4 h0
    subst h0
    have c1 : w.drew.cell? ⟨g, 1, none⟩ = some (.slice none 0 0) := cell_of_row w g 1 _ _ _ h2
    have hUS := Lib.run_unsafeString_none (P := Tryz.prog) w.drew 215 3 9 none
    have hSD : (Builtin.unsafeSliceData_ #[41] 215 #[.slice none 0 0]).run Tryz.prog w.drew = .ok (.pointer none) w.drew := rfl
    clear h h2 h3 h4
    go_enter Tryz.func93, Tryz.ntmps93
    go_wp2
    go_region
    all_goals (go_wp2; go_ret; exact ⟨rfl, (Below.refl B w).drew⟩)
  · have hl0 : l.length ≠ 0 := by simpa using h0
    obtain ⟨q, cap, cur, rfl, hbg, hg, hnc, hcm, hcs, htake⟩ : ∃ q cap cur, v = .slice (some ⟨q, 0, none⟩) l.length cap ∧ B ≤ q ∧ w.heap[q]? = some (.cells cur 5 (0, 0)) ∧ l.length ≤ cap ∧ cap ≤ maxLen ∧ cur.size = cap * 1 ∧ cur.toList.take (l.length * 1) = Lib.byteCells l := by
      rcases h3.2 with ⟨_, hz⟩ | ⟨q, cap, cur, hv, r⟩
      · exact absurd hz hl0
      · exact ⟨q, cap, cur, hv, r⟩
    have c1 : w.drew.cell? ⟨g, 1, none⟩ = some (.slice (some ⟨q, 0, none⟩) l.length cap) := cell_of_row w g 1 _ _ _ h2
    have hSD : (Builtin.unsafeSliceData_ #[41] 215 #[.slice (some ⟨q, 0, none⟩) l.length cap]).run Tryz.prog w.drew = .ok (.pointer (some ⟨q, 0, none⟩)) w.drew := Lib.run_unsafeSliceData_row _ _ _ _ _ _ (by omega)
    have hUS : (Builtin.unsafeString_ #[215, 3] 9 #[.pointer (some ⟨q, 0, none⟩), .int .i64 l.length]).run Tryz.prog w.drew = .ok (.string ⟨l.toArray⟩) (w.drew.freeze ⟨q, 0, none⟩ l.length) := by
      refine Lib.run_unsafeString_row w.drew 215 3 9 5 Tryz.underlying215 cells_u8 q cur.size (by have hg' : w.drew.heap[q]? = some (.cells cur 5 (0, 0)) := hg; simp [World.shape?, hg']) l h0 (by omega) (by unfold maxLen at hcm; omega) ?_
      intro j x hx
      have := h3.cells (g := q) rfl j (.int .u8 x.toNat) (by simp [Lib.byteCells, hx])
      exact this
    clear h h2 h3 h4 h0 hl0 hg hnc hcm hcs htake
    go_enter Tryz.func93, Tryz.ntmps93
    go_wp2
    go_region
    all_goals (go_wp2; go_ret; exact ⟨rfl, Lib.below_freeze (Below.drew (Below.refl B w)) (p := ⟨q, 0, none⟩) hbg _⟩)
end
end Go.Proofs.YtpnlojcimeiihaaGreatDoor
