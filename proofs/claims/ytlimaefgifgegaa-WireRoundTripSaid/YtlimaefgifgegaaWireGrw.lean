/- wire.Int and wire.Text onto a row of the call's own, while other such rows stay. -/
import Derived.Test.YtlimaefgifgegaaWireBw
import Derived.Laws.OwnMore
import Derived.ArgAppend
import Derived.Lib.SmallJoins
import Derived.Lib.ConvBytes
namespace Go.Proofs.Ytlimaefgifgegaa
open Go.RowKit

theorem grownBy_trans {a b c : World} {r : Option Nat} (h : a.grownBy b r) (k : b.grownBy c r) : a.grownBy c r :=
  ⟨k.os.trans h.os, k.tape.trans h.tape, k.output.trans h.output, Nat.le_trans h.size k.size, fun i hi hn => (k.block i (Nat.lt_of_lt_of_le hi h.size) hn).trans (h.block i hi hn)⟩
theorem grownBy_none {a b : World} {r : Option Nat} (h : a.grownBy b none) : a.grownBy b r := ⟨h.os, h.tape, h.output, h.size, fun i hi _ => h.block i hi (by simp)⟩
/-- The row v' is the row v, or new. -/
def Fresh (w : World) (v v' : Value) : Prop := ∃ b, v'.ownBlock = some b ∧ (v.ownBlock = some b ∨ w.heap.size ≤ b)
theorem app1T {P : Program} {w : World} {ops : Array Oper} {rest : List Oper} {o : Oper} {a : Act} {Q : Exit → Act → World → Prop} (hgd : o.guard = none) (s x : Operand) (t : TypeId)
    (ho : o.op = .call { callee := .builtin .append, args := #[s, x], argTypes := #[t, t] })
    (e : TypeId) (z : Value) (by_ : Nat) (hinfo : (P.info? e).map (fun i => (i.zero, i.size, i.bytes)) = some (some z, 1, by_)) (hzs : z.cells.size = 1) (ht : P.underlying t = some (.slice e))
    (B : Nat) (v : Value) (n : Nat) (xs : List Value) (hs : a.eval s = v) (hown : w.ownsRow B e 1 v n xs) (c : Value) (hx : a.eval x = .slice (some ⟨w.heap.size, 0, none⟩) 1 1) (h1 : c.oneCell' = true)
    (hr : (n + 1) * by_ ≤ 140737488355328) (hm : n + 1 ≤ 140737488355328) (hB : B ≤ w.heap.size)
    (h : ∀ v' w', w'.ownsRow B e 1 v' (n + 1) (xs ++ [c]) → w.grownBy w' v.ownBlock → Fresh w v v' → wpList P ops Q rest (a.put o.dst v') w') : wpList P ops Q (o :: rest) a (w.alloc (.cells #[c] e)) := by
  obtain ⟨i0, hi, hz0, hz1, hz2⟩ := info_parts hinfo
  have hnews : ∀ j u, [c][j]? = some u → (w.alloc (.cells #[c] e)).cell? ((⟨w.heap.size, 0, none⟩ : Addr).add j) = some u := by
    intro j u hj
    match j, hj with
    | 0, hj => simp at hj; subst hj; simp [Addr.add]
  have hone : ∀ u ∈ [c], u.oneCell' = true := by intro u hu; simp at hu; subst hu; exact h1
  have up : ∀ {v' : Value} {w' : World}, w'.ownsRow (w.alloc (.cells #[c] e)).heap.size e 1 v' (n + 1) (xs ++ [c]) → w'.ownsRow B e 1 v' (n + 1) (xs ++ [c]) ∧ Fresh w v v' := by
    intro v' w' ho'
    refine ⟨⟨ho'.1, ?_⟩, ?_⟩
    · rcases ho'.2 with ⟨_, h0⟩ | ⟨g, cap, cur, h2, h3, h4⟩
      · omega
      · exact .inr ⟨g, cap, cur, h2, by simp at h3; omega, h4⟩
    · rcases ho'.2 with ⟨_, h0⟩ | ⟨g, cap, cur, h2, h3, h4⟩
      · omega
      · exact ⟨g, by rw [h2]; rfl, .inr (by simp at h3; omega)⟩
  rcases hown.2 with ⟨rfl, rfl⟩ | ⟨g, cap, cur, rfl, hbg, hg, hnc, hcm, hcs, htake⟩
  · have hx0 : xs = [] := List.eq_nil_of_length_eq_zero (by simpa using hown.1)
    subst hx0
    refine wpList_append_grows _ hgd s x t ho e i0 z 1 by_ ht hi hz0 hz1 hz2 hzs (by decide) none 0 0 [] hs (fun _ => ⟨rfl, rfl⟩) rfl (by intro b hb; cases hb) ⟨w.heap.size, 0, none⟩ 1 1 [c] hx rfl hnews hone (by omega) (by unfold maxLen; omega) hr ?_
    intro v' w' ho' hgr
    obtain ⟨k1, k2⟩ := up ho'
    exact h v' w' k1 (grownBy_trans (World.grownBy_alloc w _ _) (grownBy_none hgr)) k2
  · by_cases hroom : n + 1 ≤ cap
    · refine wpList_append_fits _ hgd s x t ho B e i0 1 ht hi hz1 g n cap xs hs (hown.alloc _) ⟨w.heap.size, 0, none⟩ 1 1 [c] hx rfl hnews hone hroom ?_
      intro w' ho' hgr
      exact h _ w' ho' (grownBy_trans (World.grownBy_alloc w _ _) hgr) ⟨g, rfl, .inl rfl⟩
    · have holds : ∀ b, some (⟨g, 0, none⟩ : Addr) = some b → ∀ j u, xs[j]? = some u → (w.alloc (.cells #[c] e)).cell? (b.add j) = some u := fun b hb j u hj => by
        cases hb
        exact (hown.alloc (.cells #[c] e)).cells (g := g) rfl j u hj
      refine wpList_append_grows _ hgd s x t ho e i0 z 1 by_ ht hi hz0 hz1 hz2 hzs (by decide) (some ⟨g, 0, none⟩) n cap xs hs (fun hh => by cases hh) hown.1 holds ⟨w.heap.size, 0, none⟩ 1 1 [c] hx rfl hnews hone (by omega) (by unfold maxLen; omega) hr ?_
      intro v' w' ho' hgr
      obtain ⟨k1, k2⟩ := up ho'
      exact h v' w' k1 (grownBy_trans (World.grownBy_alloc w _ _) (grownBy_none hgr)) k2


/-- All but what v owned stays. -/
def Stays (w w' : World) (v : Value) : Prop := ∀ k, k < w.heap.size → v.ownBlock ≠ some k → w'.heap[k]? = w.heap[k]?
def Later (w : World) (v v' : Value) : Prop := ∀ b, v'.ownBlock = some b → v.ownBlock = some b ∨ w.heap.size ≤ b
theorem Stays.step {w w1 w2 : World} {v v1 : Value} (h : Stays w w1 v) (hl : Later w v v1) (hs : w.heap.size ≤ w1.heap.size) (hg : w1.grownBy w2 v1.ownBlock) : Stays w w2 v := fun k hk hn => by
  rw [hg.block k (by omega) (fun e => (hl k e.symm).elim (fun h1 => hn h1) (fun h1 => by omega)), h k hk hn]
theorem Later.step {w w1 : World} {v v1 v2 : Value} (hl : Later w v v1) (hs : w.heap.size ≤ w1.heap.size) (hf : Fresh w1 v1 v2) : Later w v v2 := fun b hb => by
  obtain ⟨b', h1, h2⟩ := hf
  rw [h1] at hb; cases hb
  rcases h2 with h2 | h2
  · exact hl _ h2
  · exact .inr (by omega)
def IntRelG (w : World) (B len : Nat) (v : Value) (xs : List Value) (z : Nat) (v' u : Value) (wr : World) : Prop :=
  ∃ (done : List Nat) (f q : Nat), q < 128 ^ (f + 1) ∧ U64 q ∧ u = .int .u64 q ∧ encF 9 z = done ++ encF f q ∧ wr.ownsRow B 5 1 v' (len + done.length) (xs ++ done.map bv) ∧ Frm 5 B w wr ∧ Stays w wr v ∧ Later w v v'
def IntPostG (w : World) (B len : Nat) (v : Value) (xs : List Value) (n : Int) (e : Ending) (w' : World) : Prop :=
  ∃ v', e = .returned v' ∧ w'.ownsRow B 5 1 v' (len + (enc n).length) (xs ++ (enc n).map bv) ∧ Frm 5 B w w' ∧ Stays w w' v ∧ Later w v v'
theorem Frm.grownT {w w' : World} {B e : Nat} {v : Value} {n : Nat} {xs : List Value} (hown : w.ownsRow B e 1 v n xs) (hg : w.grownBy w' v.ownBlock) : Frm e B w w' := Frm.grown hown hg

set_option maxHeartbeats 400000 in
theorem int_grw (n : Int) (w : World) (v : Value) (B len : Nat) (xs : List Value) (hB : B ≤ w.heap.size) (hown : w.ownsRow B 5 1 v len xs) (hn : I64 n) (hl : Room len) :
    Calls Try.prog 10 #[v, .int .i64 n] w (IntPostG w B len v xs n) := by
  have hzb := zig_bits n hn.1 hn.2
  have hzl := zig_lt n hn.1 hn.2
  have Hn := Lib.hid hn
  obtain ⟨i0, hi, hz0, hz1, hz2⟩ := info_parts info_u8
  go_enter Try.func10, Try.ntmps10
  go_wp2
  have hE : Hid (enc n = encF 9 (zig n)) := rfl
  generalize zig n = z at *
  clear hzb
  go_loopw [0, 5] (fun v' u wr => IntRelG w B len v xs z v' u wr) (fun _ u _ => (intOf u).toNat)
  case atStart => exact ⟨[], 9, z, by omega, hzl, rfl, rfl, by simpa using hown, Frm.refl _ _ _, fun _ _ _ => rfl, fun b hb => .inl hb⟩
  case round =>
    obtain ⟨done, f, q, hq, hq2, rfl, henc, hown', hb, hst, hla⟩ := hrel
    have Hq := Lib.hid hq; clear hq
    have He := Lib.hid henc; clear henc
    have Hst := Lib.hid hst; have Hla := Lib.hid hla; clear hst hla
    clear hzl hn
    have hdl : Room2 (len + done.length) := Room2.of hl (by have := congrArg List.length He.out; have := encF_len 9 z; simp at *; omega)
    have hBr : B ≤ wr.heap.size := Nat.le_trans hB hb.size
    by_cases hlt : q < 128
    · have ht : decide ((128 : Int) ≤ (q : Int)) = false := by simp; omega
      go_wp2_with (at_builtin; refine app1T rfl _ _ 24 rfl 5 (.int .u8 0) 1 info_u8 rfl Try.underlying24 B _ _ _ rfl hown' _ rfl rfl (by unfold Room2 at hdl; omega) (by unfold Room2 at hdl; omega) hBr ?_; intro v' w1 hown1 hg1 hfr1)
      go_ret
      refine ⟨v', rfl, ?_, hb.trans (Frm.grown hown' hg1), Hst.out.step Hla.out hb.size hg1, Hla.out.step hb.size hfr1⟩
      have e : enc n = done ++ [q] := by rw [hE.out, He.out, encF_small hlt]
      rw [e]
      simpa [bv, Nat.add_assoc] using hown1
    · have ht : decide ((128 : Int) ≤ (q : Int)) = true := by simp; omega
      go_wp2_with (at_builtin; refine app1T rfl _ _ 24 rfl 5 (.int .u8 0) 1 info_u8 rfl Try.underlying24 B _ _ _ rfl hown' _ rfl rfl (by unfold Room2 at hdl; omega) (by unfold Room2 at hdl; omega) hBr ?_; intro v' w1 hown1 hg1 hfr1)
      go_roundw
      case rel =>
        cases f with
        | zero => exact absurd Hq.out (by omega)
        | succ f =>
          refine ⟨done ++ [q % 128 + 128], f, q / 128, ?_, ?_, by go_num, ?_, ?_, hb.trans (Frm.grown hown' hg1), Hst.out.step Hla.out hb.size hg1, Hla.out.step hb.size hfr1⟩
          · have := Hq.out; rw [Nat.pow_succ] at this; exact Nat.div_lt_of_lt_mul (by omega)
          · unfold U64 at *; omega
          · rw [He.out, encF_big (by omega)]; simp
          · rw [or128'] at hown1; simpa [bv, Nat.add_assoc] using hown1
      case measure => simp [intOf]; omega
def TextPostG (w : World) (B len : Nat) (v : Value) (xs : List Value) (s : ByteArray) (e : Ending) (w' : World) : Prop :=
  ∃ v', e = .returned v' ∧ w'.ownsRow B 5 1 v' (len + (encS s).length) (xs ++ (encS s).map bv) ∧ Frm 5 B w w' ∧ Stays w w' v
set_option maxHeartbeats 400000 in
theorem text_grw (s : ByteArray) (w : World) (v : Value) (B len : Nat) (xs : List Value) (hB : B ≤ w.heap.size) (hown : w.ownsRow B 5 1 v len xs) (hl : Room len) (hs : Room s.size) :
    Calls Try.prog 12 #[v, .string s] w (TextPostG w B len v xs s) := by
  obtain ⟨i0, hi, hz0, hz1, hz2⟩ := info_parts info_u8
  have hn : I64 (s.size : Int) := by unfold Room at hs; unfold I64; omega
  have hle := enc_len (s.size : Int)
  have Hle := Lib.hid hle
  have Hs := Lib.hid hs
  have Hl := Lib.hid hl
  clear hle hs hl
  go_enter Try.func12, Try.ntmps12
  go_wp2_with fail
  refine (int_grw _ w v B len xs hB hown hn Hl.out).mono ?_
  rintro e w1 ⟨v1, rfl, hown1, hb1, hst1, hla1⟩
  have Hst := Lib.hid hst1; have Hla := Lib.hid hla1; clear hst1 hla1
  go_wp2_with (at_builtin; refine Lib.wpList_append_own_string _ rfl _ _ 24 9 rfl B 5 i0 Try.underlying24 Try.underlying9 hi hz0 hz1 hz2 _ _ _ rfl hown1 s rfl ?_ ?_ ?_ ?_)
  · have := Hs.out; have := Hl.out; have := Hle.out; unfold Room at *; unfold maxLen; omega
  · have := Hs.out; have := Hl.out; have := Hle.out; unfold Room at *; omega
  · exact Nat.le_trans hB hb1.size
  · intro v' w2 hown2 hg2 _
    have hb2 := hb1.trans (Frm.grown hown1 hg2)
    have Hst2 := Lib.hid (Hst.out.step Hla.out hb1.size hg2)
    have hown3 : w2.ownsRow B 5 1 v' (len + (encS s).length) (xs ++ (encS s).map bv) := by
      have e1 : (encS s).length = (enc s.size).length + s.size := by simp [encS, bytesOf_len]
      have e2 : (encS s).map bv = (enc s.size).map bv ++ Lib.strCells s := by simp [encS, bytesOf, Lib.strCells, bv]
      rw [e1, e2, ← Nat.add_assoc, ← List.append_assoc]
      simpa using hown2
    clear hown2 hg2
    go_wp2
    go_ret
    exact ⟨v', rfl, hown3, hb2, Hst2.out⟩
/-- The world behind '[]byte(s)'. -/
def cw (w : World) (s : ByteArray) : World := Lib.bytesWorld w 5 s
theorem cw_below (w : World) (s : ByteArray) : Below w.heap.size w (cw w s) := ⟨rfl, rfl, rfl, by unfold cw; rw [Lib.bytesWorld_size]; omega, fun j hj => Lib.bytesWorld_at_old w 5 s j hj⟩
theorem cw_frm (w : World) (s : ByteArray) (B : Nat) : Frm 5 B w (cw w s) := ⟨(cw_below w s).os, (cw_below w s).tape, (cw_below w s).output, (cw_below w s).size, fun k hk _ => (cw_below w s).block k hk⟩
theorem cw_size (w : World) (s : ByteArray) : (cw w s).heap.size = w.heap.size + 1 := Lib.bytesWorld_size w 5 s
theorem cw_run (s : ByteArray) (W : World) : (convert 9 24 (.string s)).run Try.prog W = .ok (.slice (some ⟨W.heap.size, 0, none⟩) s.size (grownCap W s.size 0 5)) (cw W s) :=
  Lib.run_convert_string_bytes W 9 24 5 s Try.underlying9 Try.underlying24 Try.underlying5
theorem cw_bsl (w w' : World) (s : ByteArray) (c : Nat) (hc : s.size ≤ c) (h : w'.heap[w.heap.size]? = (cw w s).heap[w.heap.size]?) : Bsl w' (.slice (some ⟨w.heap.size, 0, none⟩) s.size c) (bytesOf s) := by
  refine .inr ⟨⟨w.heap.size, 0, none⟩, c, by rw [bytesOf_len], by rw [bytesOf_len]; exact hc, fun j b hj => ?_⟩
  have hj2 : j < s.size := by have := (List.getElem?_eq_some_iff.1 hj).1; rwa [bytesOf_len] at this
  rw [Addr.add_lit, Nat.zero_add, World.cell?_of_block (w := cw w s) h]
  have e := Lib.bytesWorld_cell w 5 s j hj2
  unfold cw
  rw [e]
  unfold bytesOf at hj
  rw [List.getElem?_map] at hj
  cases hq : s.data.toList[j]? with
  | none => rw [hq] at hj; cases hj
  | some y =>
    rw [hq] at hj
    simp only [Option.map_some, Option.some.injEq] at hj
    rw [List.getD_eq_getElem?_getD, hq, Option.getD_some, ← hj]
    rfl
end Go.Proofs.Ytlimaefgifgegaa
