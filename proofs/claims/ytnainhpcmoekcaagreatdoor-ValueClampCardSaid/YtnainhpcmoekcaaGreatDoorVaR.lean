/- value: (*strings.byteStringReplacer).Replace at short strings (tools/gen_vr.py). -/
import Derived.Test.YtnainhpcmoekcaaGreatDoorVaC
namespace Go.Proofs.YtnainhpcmoekcaaGreatDoor
open Go.RowKit

/-- The region of the copy: values that each operation has, the world ahead of the copy and behind it. -/
structure CpI (val : Nat → Value) (w0 wc : World) (L : Nat → Bool) (vs : Nat → Value) (w : World) : Prop where
 v : ∀ i, L i = true → vs i = val i
 pre : L 10 = false → w = w0
 post : L 10 = true → w = wc
section
variable {val : Nat → Value} {w0 wc w : World} {L : Nat → Bool} {vs : Nat → Value}
theorem CpI.start : CpI val w0 wc (fun _ => false) vs w0 := ⟨fun _ h => absurd h (by simp), fun _ => rfl, fun h => absurd h (by simp)⟩
theorem CpI.word (h : CpI val w0 wc L vs w) (i : Nat) (hi : 10 ≠ i) : CpI val w0 wc (updB L i) (updV vs i (val i)) w := by
 refine ⟨fun j hj => ?_, fun g => h.pre (by rwa [updB_ne L hi] at g), fun g => h.post (by rwa [updB_ne L hi] at g)⟩
 by_cases e : j = i
 ·subst e; rw [updV_self]
 ·rw [updV_ne _ _ e]; exact h.v j (by rwa [updB_ne L e] at hj)
theorem CpI.copy (h : CpI val w0 wc L vs w) : CpI val w0 wc (updB L 10) (updV vs 10 (val 10)) wc := by
 refine ⟨fun j hj => ?_, fun g => (by rw [updB_self] at g; cases g), fun _ => rfl⟩
 by_cases e : j = 10
 ·subst e; rw [updV_self]
 ·rw [updV_ne _ _ e]; exact h.v j (by rwa [updB_ne L e] at hj)
theorem CpI.both {p : World → Prop} (h : CpI val w0 wc L vs w) (h1 : p w0) (h2 : p wc) : p w := by
 cases hL : L 10 with
 | false => rw [h.pre hL]; exact h1
 | true => rw [h.post hL]; exact h2
end
theorem make_u8 (n : Nat) (hn : n ≤ 1000000) (w : World) : (Instr.makeSlice 84 (.int .i64 (n : Int)) (.int .i64 (n : Int))).run Tryz.prog w = .ok (.slice (some ⟨w.heap.size, 0, none⟩) n n) (w.alloc (.cells (rowE [] n) 5)) := by
 obtain ⟨i0, hi, hz0, hz1, hz2⟩ := info_parts info_u8
 have := run_makeSlice (w := w) 84 5 i0 (.int .u8 0) (by kernel_rfl) hi hz0 .i64 .i64 (n : Int) (n : Int) (by omega) (Int.le_refl _) (by rw [hz1]; simp; omega) (by rw [hz2]; omega) (by omega)
 rw [hz1] at this
 rw [← rowE_made]
 simpa [Value.cells] using this
def cpVal (q gb j n x b2 c2 : Nat) : Nat → Value
 | 0 => .int .i64 (j : Int)
 | 1 => .slice (some ⟨gb, 0, none⟩) n n
 | 2 => .int .i64 (j : Int)
 | 3 => .slice (some ⟨gb, j, none⟩) (n - j) (n - j)
 | 4 => .pointer (some ⟨q, 0, none⟩)
 | 5 => .int .u8 (x : Int)
 | 6 => .pointer (some ⟨q, 0, none⟩)
 | 7 => .pointer (some ⟨q, 0, none⟩)
 | 8 => .pointer (some ⟨q, x, none⟩)
 | 9 => .slice (some ⟨b2, 0, none⟩) 2 c2
 | 10 => .int .i64 2
 | _ => .int .i64 ((j + 2 : Nat) : Int)
theorem copy_two {w : World} {gb j n b2 c2 x : Nat} {l : Bs} {c : UInt8} {cs : Array Value} {fr : Nat × Nat} (hX : Bx w gb 5 (rowE l n)) (hj : j = l.length) (hn : l.length + 2 ≤ n) (h2 : w.heap[b2]? = some (.cells cs 5 fr)) (e0 : cs[0]? = some (.int .u8 ((92 : Nat) : Int))) (e1 : cs[1]? = some (.int .u8 (x : Int))) (hx : x = c.toNat) :
  (Builtin.copy_ #[84, 84] 3 #[.slice (some ⟨gb, j, none⟩) (n - j) (n - j), .slice (some ⟨b2, 0, none⟩) 2 c2]).run Tryz.prog w = .ok (.int .i64 2) (w.setRow gb (rowE (l ++ [92, c]) n)) := by
 subst hj hx
 have hi : (Tryz.prog.info? 5).map (·.size) = some 1 := by kernel_rfl
 have hc0 : w.cell? ⟨b2, 0, none⟩ = some (u8v 92) := (cell_of_row w b2 0 _ _ _ h2).trans e0
 have hc1 : w.cell? ⟨b2, 1, none⟩ = some (u8v c) := (cell_of_row w b2 1 _ _ _ h2).trans e1
 have := run_copy_row (P := Tryz.prog) w 84 84 3 5 gb l.length (n - l.length) (n - l.length) ⟨b2, 0, none⟩ 2 c2 (rowE l n) 5 [u8v 92, u8v c] Tryz.underlying84 hi hX (by show 2 = min 2 (n - l.length); omega) (fun j v hv => by
  rw [addr_0]
  match j, hv with
  | 0, hv => cases hv; exact hc0
  | 1, hv => cases hv; exact hc1) (by rw [rowE_size (by omega)]; exact hn) (fun v hv => by simp at hv; rcases hv with rfl | rfl <;> rfl)
 rw [this]
 have e := rowE_copy (l := l) (n := n) 92 c hn
 rw [show l.length + [u8v 92, u8v c].length = l.length + 2 from rfl, e]
 rfl
set_option maxRecDepth 100000 in
set_option maxHeartbeats 4000000 in
theorem repl_any (q : Nat) (s : Bs) (w : World) (hp : Brp w q) (hl : s.length < 16) :
  Calls Tryz.prog 192 #[.pointer (some ⟨q, 0, none⟩), .string (ofL s)] w (Tells w (.string (ofL (escL s)))) := by
 obtain ⟨f, A, c, ht, hq⟩ := hp.tab
 have HT := Lib.hid ht
 have t256 := ht.top
 clear hp ht
 have HES := Lib.hid (fun h => escL_none (s := s) h)
 obtain ⟨S, hS⟩ : ∃ S, S = ofL s := ⟨_, rfl⟩
 rw [← hS]
 have HZ : Hid (S.size = s.length) := Lib.hid (by rw [hS]; exact ofL_size s)
 have HG : Hid (∀ (k : Nat) (h : k < S.size), S[k] = s[k]'(by have := HZ.out; omega)) := Lib.hid (by subst hS; exact fun k h => ofL_get s k h)
 have HSS := Lib.hid hS
 clear hS
 have hz : S.size < 16 := by rw [HZ.out]; exact hl
 have dz : decide ((16 : Int) ≤ (S.size : Int)) = false := decide_eq_false (by omega)
 have hcl := cnt_len s
 go_enter Tryz.func192, Tryz.ntmps192
 go_wp2_with fail
 go_loopw [5, 6, 10] (fun vn va vi wr => ∃ k : Nat, k ≤ S.size ∧ vi = .int .i64 (k : Int) ∧ vn = .int .i64 ((s.length + cntE (s.take k) : Nat) : Int) ∧ va = .bool (decide (0 < cntE (s.take k))) ∧ wr = w) (fun _ _ vi _ => S.size - (intOf vi).toNat)
 case atStart => exact ⟨0, Nat.zero_le _, rfl, by rw [← HZ.out]; simp [cntE], by simp [cntE], rfl⟩
 case round =>
  obtain ⟨k, hk, rfl, rfl, rfl, hw⟩ := hrel
  obtain rfl : w = wr := hw.symm
  by_cases hlt : k < S.size
  ·have hl2 : k < s.length := by have := HZ.out; omega
   have dk : decide ((k : Int) < (S.size : Int)) = true := decide_eq_true (by omega)
   have hks : (k : Int) < (S.size : Int) := by omega
   obtain ⟨x, hx⟩ : ∃ x, x = s[k].toNat := ⟨_, rfl⟩
   have hg : (S[k]'hlt).toNat = x := by rw [hx, HG.out k hlt]
   have hx8 : x < 256 := by rw [hx]; exact UInt8.toNat_lt _
   have hcx := HT.out.at_ x hx8
   have hcn := cnt_next hl2
   have hcle := cnt_le s k
   by_cases hsp : x = 34 ∨ x = 92
   ·have hs1 : spc s[k] = true := by unfold spc; rw [← hx]; exact decide_eq_true hsp
    rw [hs1, if_pos rfl] at hcn
    obtain ⟨b2, c2, cs2, fr2, e2, -⟩ := HT.out.two x hsp
    rw [e2] at hcx
    have hnn := fun W => nil_ne ⟨b2, 0, none⟩ 2 c2 W
    have HCN := Lib.hid hcn
    obtain ⟨m, hm⟩ : ∃ m, m = cntE (s.take k) := ⟨_, rfl⟩
    rw [← hm] at HCN hcle
    rw [← hm]
    clear hm hcn hs1 hsp HG hx e2
    go_wp2_with fail
    go_roundw
    case rel => exact ⟨k + 1, by omega, by go_num, by rw [HCN.out]; go_num, by rw [HCN.out]; simp, trivial⟩
    case measure => simp [intOf]; omega
   ·have hs1 : spc s[k] = false := by unfold spc; rw [← hx]; exact decide_eq_false hsp
    rw [hs1, if_neg (by simp)] at hcn
    rw [HT.out.nil x hx8 (by omega) (by omega)] at hcx
    have hnn := nil_nn
    have HCN := Lib.hid (show cntE (s.take (k + 1)) = cntE (s.take k) from hcn)
    clear hcn hs1 hsp HG hx
    go_wp2_with fail
    go_roundw
    case rel => exact ⟨k + 1, by omega, by go_num, by rw [HCN.out], by rw [HCN.out], trivial⟩
    case measure => simp [intOf]; omega
  ·obtain rfl : k = S.size := by omega
   have dk : decide ((S.size : Int) < (S.size : Int)) = false := decide_eq_false (by omega)
   rw [List.take_of_length_le (by rw [HZ.out]; omega)]
   by_cases hc0 : cntE s = 0
   ·have dc : decide (0 < cntE s) = false := decide_eq_false (by omega)
    rw [dc]
    have HE := Lib.hid (HES.out hc0)
    clear hc0 dc
    go_wp2_with fail
    go_ret
    exact ⟨by rw [HE.out, ← HSS.out]; rfl, Below.refl _ _⟩
   ·have dc : decide (0 < cntE s) = true := decide_eq_true (by omega)
    rw [dc, ← escL_len]
    have hel := escL_len s
    obtain ⟨n, hn⟩ : ∃ n, n = (escL s).length := ⟨_, rfl⟩
    rw [← hn] at hel
    rw [← hn]
    have HNE := Lib.hid hn
    have hn32 : n ≤ 32 := by omega
    have hmk := fun W => make_u8 n (by omega) W
    have hbn := al1 w (.cells (rowE [] n) 5)
    have HX0 := Lib.hid (show Bx (w.alloc (.cells (rowE [] n) 5)) w.heap.size 5 (rowE (escL (s.take 0)) n) from heap_alloc_new w _)
    have HB0 := Lib.hid hbn
    clear hc0 dc hn hbn t256 hel
    go_wp2_with fail
    clear hmk
    obtain ⟨gb, hgb⟩ : ∃ gb, gb = w.heap.size := ⟨_, rfl⟩
    rw [← hgb] at HX0 ⊢
    have HGB := Lib.hid (show w.heap.size ≤ gb by omega)
    clear hgb
    go_loopw [13, 14] (fun vj vi wr => ∃ k : Nat, k ≤ S.size ∧ vi = .int .i64 (k : Int) ∧ vj = .int .i64 (((escL (s.take k)).length : Nat) : Int) ∧ Hid (Bx wr gb 5 (rowE (escL (s.take k)) n)) ∧ Hid (Below w.heap.size w wr)) (fun _ vi _ => S.size - (intOf vi).toNat)
    case atStart => exact ⟨0, Nat.zero_le _, rfl, by simp [escL], HX0, HB0⟩
    case round =>
     clear HX0 HB0
     obtain ⟨k, hk, rfl, rfl, HX, HB⟩ := hrel
     by_cases hlt : k < S.size
     ·have hl2 : k < s.length := by have := HZ.out; omega
      have dk : decide ((k : Int) < (S.size : Int)) = true := decide_eq_true (by omega)
      have hks : (k : Int) < (S.size : Int) := by omega
      have HTr := HT.out.below hq HB.out
      obtain ⟨c, hc⟩ : ∃ c, c = s[k] := ⟨_, rfl⟩
      obtain ⟨x, hx⟩ : ∃ x, x = c.toNat := ⟨_, rfl⟩
      have hg : (S[k]'hlt).toNat = x := by rw [hx, hc, HG.out k hlt]
      have hx8 : x < 256 := by rw [hx]; exact UInt8.toNat_lt _
      have hcx := HTr.at_ x hx8
      have hnx := escL_next hl2
      rw [← hc] at hnx
      have hpl := escL_pre s (k + 1)
      rw [← HNE.out, hnx, List.length_append] at hpl
      obtain ⟨l, hle⟩ : ∃ l, l = escL (s.take k) := ⟨_, rfl⟩
      rw [← hle] at hpl HX hnx
      rw [← hle]
      have HNX := Lib.hid hnx
      have hX := HX.out
      clear hnx hle hc
      by_cases hsp : x = 34 ∨ x = 92
      ·have hs1 : escB c = [92, c] := by unfold escB spc; rw [← hx, decide_eq_true hsp]; rfl
       rw [hs1] at hpl HNX
       have hpl2 : l.length + 2 ≤ n := hpl
       obtain ⟨b2, c2, cs2, fr2, e2, e3, e4, e5⟩ := HTr.two x hsp
       rw [e2] at hcx
       have hnn := fun W => nil_ne ⟨b2, 0, none⟩ 2 c2 W
       have HXC := Lib.hid hx
       have HE := Lib.hid (show wr.heap[b2]? = some (.cells cs2 5 fr2) ∧ cs2[0]? = some (.int .u8 ((92 : Nat) : Int)) ∧ cs2[1]? = some (.int .u8 (x : Int)) from ⟨e3, e4, e5⟩)
       have HQ2 := Lib.hid (Nat.lt_of_lt_of_le hq HB.out.size)
       clear hx e2 e3 e4 e5 hs1 HTr hpl
       go_wp2_with fail
       have hX0 : Bx wr.drew gb 5 (rowE l n) := hX
       have hcopy := copy_two (w := wr.drew) (c2 := c2) hX0 rfl hpl2 HE.out.1 HE.out.2.1 HE.out.2.2 HXC.out
       have hcx2 : (wr.drew.setRow gb (rowE (l ++ [92, c]) n)).cell? ⟨q, x, none⟩ = some (.slice (some ⟨b2, 0, none⟩) 2 c2) := (World.cell?_of_block (setRow_other _ _ _ _ (by show q ≠ gb; have := HGB.out; omega))).trans hcx
       have hjn : l.length ≤ n := by omega
       have hw2 : IntKind.i64.wrap ((l.length : Int) + 2) = (l.length : Int) + 2 := by rw [IntKind.wrap_i64]; omega
       refine region_inv (n := 122) (CpI (cpVal q gb l.length n x b2 c2) wr.drew (wr.drew.setRow gb (rowE (l ++ [92, c]) n))) (by kernel_rfl) (by kernel_rfl) rfl ?_ (allOps_spec ?_) ?_
       ·intro vs
        exact CpI.start
       ·refine ⟨?_, ?_, ?_, ?_, ?_, ?_, ?_, ?_, ?_, ?_, ?_, ?_, ?_, trivial⟩
        ·intro L vs ac w6 hB hL hd hI
         have b1 : ac.tmps[13]?.getD undef = .int .i64 (l.length : Int) := hB.pre 13 0 hL (by kernel_rfl)
         exact stepI_run (v := .int .i64 (l.length : Int)) rfl (by simp [execOp, go_sem, Act.eval, b1]) (hI.word 0 (by decide))
        ·intro L vs ac w6 hB hL hd hI
         have b1 : ac.tmps[12]?.getD undef = .slice (some ⟨gb, 0, none⟩) n n := hB.at 12 (by kernel_rfl)
         exact stepI_run (v := .slice (some ⟨gb, 0, none⟩) n n) rfl (by simp [execOp, go_sem, Act.eval, b1]) (hI.word 1 (by decide))
        ·intro L vs ac w6 hB hL hd hI
         have b1 : ac.tmps[13]?.getD undef = .int .i64 (l.length : Int) := hB.pre 13 2 hL (by kernel_rfl)
         exact stepI_run (v := .int .i64 (l.length : Int)) rfl (by simp [execOp, go_sem, Act.eval, b1]) (hI.word 2 (by decide))
        ·intro L vs ac w6 hB hL hd hI
         have h1 : L 1 = true := hd ⟨1, .data⟩ (by simp) rfl
         have h2 : L 2 = true := hd ⟨2, .data⟩ (by simp) rfl
         have b1 : ac.tmps[103]?.getD undef = .slice (some ⟨gb, 0, none⟩) n n := (hB.val 1 h1 103 rfl).trans (hI.v 1 h1)
         have b2 : ac.tmps[104]?.getD undef = .int .i64 (l.length : Int) := (hB.val 2 h2 104 rfl).trans (hI.v 2 h2)
         exact stepI_run (v := .slice (some ⟨gb, l.length, none⟩) (n - l.length) (n - l.length)) rfl (by simp [execOp, go_sem, Act.eval, b1, b2, hjn]; intro h; omega) (hI.word 3 (by decide))
        ·intro L vs ac w6 hB hL hd hI
         have b1 : ac.tmps[0]?.getD undef = .pointer (some ⟨q, 0, none⟩) := hB.at 0 (by kernel_rfl)
         exact stepI_run (v := .pointer (some ⟨q, 0, none⟩)) rfl (by simp [execOp, go_sem, Act.eval, b1]) (hI.word 4 (by decide))
        ·intro L vs ac w6 hB hL hd hI
         have b1 : ac.tmps[15]?.getD undef = .int .u8 (x : Int) := hB.at 15 (by kernel_rfl)
         exact stepI_run (v := .int .u8 (x : Int)) rfl (by simp [execOp, go_sem, Act.eval, b1]) (hI.word 5 (by decide))
        ·intro L vs ac w6 hB hL hd hI
         have h1 : L 4 = true := hd ⟨4, .data⟩ (by simp) rfl
         have b1 : ac.tmps[106]?.getD undef = .pointer (some ⟨q, 0, none⟩) := (hB.val 4 h1 106 rfl).trans (hI.v 4 h1)
         exact stepI_run (v := .pointer (some ⟨q, 0, none⟩)) rfl (by simp [execOp, go_sem, Act.eval, b1]) (hI.word 6 (by decide))
        ·intro L vs ac w6 hB hL hd hI
         have h1 : L 6 = true := hd ⟨6, .data⟩ (by simp) rfl
         have b1 : ac.tmps[108]?.getD undef = .pointer (some ⟨q, 0, none⟩) := (hB.val 6 h1 108 rfl).trans (hI.v 6 h1)
         exact stepI_run (v := .pointer (some ⟨q, 0, none⟩)) rfl (by simp [execOp, go_sem, Act.eval, b1]) (hI.word 7 (by decide))
        ·intro L vs ac w6 hB hL hd hI
         have h1 : L 7 = true := hd ⟨7, .data⟩ (by simp) rfl
         have h2 : L 5 = true := hd ⟨5, .data⟩ (by simp) rfl
         have b1 : ac.tmps[109]?.getD undef = .pointer (some ⟨q, 0, none⟩) := (hB.val 7 h1 109 rfl).trans (hI.v 7 h1)
         have b2 : ac.tmps[107]?.getD undef = .int .u8 (x : Int) := (hB.val 5 h2 107 rfl).trans (hI.v 5 h2)
         exact stepI_run (v := .pointer (some ⟨q, x, none⟩)) rfl (by simp [execOp, go_sem, Act.eval, b1, b2]; intro h; exact absurd h (by omega)) (hI.word 8 (by decide))
        ·intro L vs ac w6 hB hL hd hI
         have h1 : L 8 = true := hd ⟨8, .data⟩ (by simp) rfl
         have b1 : ac.tmps[110]?.getD undef = .pointer (some ⟨q, x, none⟩) := (hB.val 8 h1 110 rfl).trans (hI.v 8 h1)
         have kc : w6.cell? ⟨q, x, none⟩ = some (.slice (some ⟨b2, 0, none⟩) 2 c2) := hI.both (p := fun W => W.cell? ⟨q, x, none⟩ = some (.slice (some ⟨b2, 0, none⟩) 2 c2)) hcx hcx2
         exact stepI_run (v := .slice (some ⟨b2, 0, none⟩) 2 c2) rfl (by simp [execOp, go_sem, Act.eval, b1, kc]) (hI.word 9 (by decide))
        ·intro L vs ac w6 hB hL hd hI
         have h1 : L 3 = true := hd ⟨3, .data⟩ (by simp) rfl
         have h2 : L 9 = true := hd ⟨9, .data⟩ (by simp) rfl
         have b1 : ac.tmps[105]?.getD undef = .slice (some ⟨gb, l.length, none⟩) (n - l.length) (n - l.length) := (hB.val 3 h1 105 rfl).trans (hI.v 3 h1)
         have b3 : ac.tmps[111]?.getD undef = .slice (some ⟨b2, 0, none⟩) 2 c2 := (hB.val 9 h2 111 rfl).trans (hI.v 9 h2)
         obtain rfl := hI.pre hL
         exact stepI_run (v := .int .i64 2) (w' := wr.drew.setRow gb (rowE (l ++ [92, c]) n)) rfl (by simp [go_sem, Act.eval, b1, b3, hcopy]) hI.copy
        ·intro L vs ac w6 hB hL hd hI
         have h1 : L 0 = true := hd ⟨0, .data⟩ (by simp) rfl
         have h2 : L 10 = true := hd ⟨10, .data⟩ (by simp) rfl
         have b1 : ac.tmps[102]?.getD undef = .int .i64 (l.length : Int) := (hB.val 0 h1 102 rfl).trans (hI.v 0 h1)
         have b3 : ac.tmps[112]?.getD undef = .int .i64 2 := (hB.val 10 h2 112 rfl).trans (hI.v 10 h2)
         exact stepI_run (v := .int .i64 ((l.length + 2 : Nat) : Int)) rfl (by simp [execOp, go_sem, Act.eval, b1, b3, hw2]) (hI.word 11 (by decide))
        ·intro L vs ac w6 hB hL hd hI
         have h1 : L 11 = true := hd ⟨11, .data⟩ (by simp) rfl
         have b1 : ac.tmps[113]?.getD undef = .int .i64 ((l.length + 2 : Nat) : Int) := (hB.val 11 h1 113 rfl).trans (hI.v 11 h1)
         exact stepI_run (v := .int .i64 ((l.length + 2 : Nat) : Int)) rfl (by simp [execOp, go_sem, Act.eval, b1]) (hI.word 12 (by decide))
       ·intro L vs w7 hall hI
        have e12 : vs 12 = .int .i64 ((l.length + 2 : Nat) : Int) := hI.v 12 (hall 12 (by decide))
        have hw7 := hI.post (hall 10 (by decide))
        subst hw7
        clear hI hall
        simp only [putAll, Act.put, List.setIfInBounds_toArray, List.set_cons_zero, List.set_cons_succ, Nat.zero_add, Nat.reduceAdd, e12]
        have HXn := Lib.hid (show Bx (wr.drew.setRow gb (rowE (l ++ [92, c]) n)) gb 5 (rowE (escL (s.take (k + 1))) n) from by rw [HNX.out]; exact Bx.row hX0)
        have HBn := Lib.hid (below_setRow HB.out.drew HGB.out (rowE (l ++ [92, c]) n))
        have HLN := Lib.hid (show (escL (s.take (k + 1))).length = l.length + 2 by rw [HNX.out]; simp)
        clear hcopy hcx hcx2 hX hX0 HX HB HNX hsp
        go_wp2_with fail
        go_roundw
        case rel => exact ⟨k + 1, by omega, by go_num, by rw [HLN.out], HXn, HBn⟩
        case measure => simp [intOf]; omega
      ·have hs1 : escB c = [c] := by unfold escB spc; rw [← hx, decide_eq_false hsp]; rfl
       rw [hs1] at hpl HNX
       have hpl1 : l.length + 1 ≤ n := hpl
       rw [HTr.nil x hx8 (by omega) (by omega)] at hcx
       have hnn := nil_nn
       have k1 := hX.cell l.length
       have hk1 : ∃ u, wr.cell? ⟨gb, l.length, none⟩ = some u := ⟨(rowE l n)[l.length]'(by rw [rowE_size (by omega)]; omega), k1.trans (Array.getElem?_eq_getElem _)⟩
       obtain ⟨u1, hu1⟩ := hk1
       have z1 := hX.free l.length
       have ha0 := addr_0 gb l.length
       have HXn := Lib.hid (show Bx (wr.setCell ⟨gb, l.length, none⟩ (.int .u8 (x : Int))) gb 5 (rowE (escL (s.take (k + 1))) n) from by
        have := hX.set l.length (u8v c)
        rw [rowE_set c (by omega)] at this
        rw [HNX.out, hx]
        exact this)
       have HBn := Lib.hid (HB.out.setCell (p := ⟨gb, l.length, none⟩) HGB.out (.int .u8 (x : Int)))
       have HLN := Lib.hid (show (escL (s.take (k + 1))).length = l.length + 1 by rw [HNX.out]; simp)
       have hj1 : (l.length : Int) < (n : Int) := by omega
       clear k1 hX HX HB HTr HNX hx hs1 hsp hpl
       go_wp2_with fail
       go_roundw
       case rel => exact ⟨k + 1, by omega, by go_num, by rw [HLN.out]; go_num, HXn, HBn⟩
       case measure => simp [intOf]; omega
     ·obtain rfl : k = S.size := by omega
      have dk : decide ((S.size : Int) < (S.size : Int)) = false := decide_eq_false (by omega)
      rw [List.take_of_length_le (by rw [HZ.out]; omega)] at HX ⊢
      have hcv : (convert 84 9 (.slice (some ⟨gb, 0, none⟩) n n)).run Tryz.prog wr = .ok (.string (ofL (escL s))) wr := by
       have h := HX.out
       rw [HNE.out] at h ⊢
       exact rowE_str h
      clear HES HSS HG HNE HX
      go_wp2_with fail
      go_ret
      exact ⟨rfl, HB.out⟩
end Go.Proofs.YtnainhpcmoekcaaGreatDoor
