/- Layer 9: the scanner in memory; the contracts of its small methods. -/
import Derived.Test.YtolanmdckdjfeaaLexSpan
import Derived.Test.YtolanmdckdjfeaaBytes
import Derived.Deep.Draws
import Derived.Deep.QuietTactic
import Derived.BigQuiet
import Derived.IntWalk
namespace Go.Proofs.Ytolanmdckdjfeaa
open Go.RowKit

/-- w' is w with new blocks and with writes to block g alone. -/
structure Only (g : Nat) (w w' : World) : Prop where
  os : w'.os = w.os
  tape : w'.tape = w.tape
  output : w'.output = w.output
  size : w.heap.size ≤ w'.heap.size
  block : ∀ k, k < w.heap.size → k ≠ g → w'.heap[k]? = w.heap[k]?
section
variable {g : Nat} {w w' : World}
theorem Only.refl (g : Nat) (w : World) : Only g w w := ⟨rfl, rfl, rfl, Nat.le_refl _, fun _ _ _ => rfl⟩
theorem Only.trans {a b c : World} (h : Only g a b) (k : Only g b c) : Only g a c :=
  ⟨k.os.trans h.os, k.tape.trans h.tape, k.output.trans h.output, Nat.le_trans h.size k.size, fun i hi hn => (k.block i (Nat.lt_of_lt_of_le hi h.size) hn).trans (h.block i hi hn)⟩
theorem Only.drewN {a b : World} (h : Only g a b) (m : Nat) : Only g a (b.drewN m) := ⟨h.os, h.tape, h.output, h.size, h.block⟩
theorem Only.set {a b : World} (h : Only g a b) (i : Nat) (v : Value) : Only g a (b.setCell ⟨g, i, none⟩ v) :=
  h.trans ⟨rfl, rfl, rfl, by simp [World.setCell], fun k _ hn => Below.heap_setCell _ _ _ _ hn⟩
theorem Only.below {a b c : World} (h : Only g a b) (hb : Below b.heap.size b c) : Only g a c :=
  h.trans ⟨hb.os, hb.tape, hb.output, hb.size, fun k hk _ => hb.block k hk⟩
theorem Only.alloc {a b : World} (h : Only g a b) (o : Obj) : Only g a (b.alloc o) := h.below ((Below.refl _ _).alloc (Nat.le_refl _) o)
theorem Only.toBelow {B : Nat} (h : Only g w w') (hB : B ≤ g) (hw : B ≤ w.heap.size) : Below B w w' := ⟨h.os, h.tape, h.output, h.size, fun k hk => h.block k (by omega) (by omega)⟩
end

/-- A scanner: its block g, the source's bytes l, the offset k. -/
structure Scn (w : World) (g : Nat) (l : List UInt8) (k : Nat) : Prop where
  blk : w.heap[g]? = some (.cells #[.string (ofL l), .int .i64 (k : Int)] 45 (0, 0))
  off : k ≤ l.length
  room : l.length ≤ 8000
section
variable {w w' : World} {g k : Nat} {l : List UInt8}
theorem Scn.lt (h : Scn w g l k) : g < w.heap.size := lt_of_some h.blk
theorem Scn.cell (h : Scn w g l k) (i : Nat) : w.cell? ⟨g, i, none⟩ = (#[Value.string (ofL l), .int .i64 (k : Int)])[i]? := cell_of_row w g i _ _ _ h.blk
theorem Scn.free (h : Scn w g l k) (i : Nat) : w.frozen? ⟨g, i, none⟩ = false := by simp [World.frozen?, h.blk]
theorem Scn.drewN (h : Scn w g l k) (m : Nat) : Scn (w.drewN m) g l k := ⟨h.blk, h.off, h.room⟩
theorem Scn.go (h : Scn w g l k) (k' : Nat) (hk : k' ≤ l.length) : Scn (w.setCell ⟨g, 1, none⟩ (.int .i64 (k' : Int))) g l k' :=
  ⟨by rw [heap_set h.blk]; rfl, hk, h.room⟩
theorem Scn.keep (h : Scn w g l k) (hb : w'.heap[g]? = w.heap[g]?) : Scn w' g l k := ⟨hb.trans h.blk, h.off, h.room⟩
end
theorem ofL_size (l : List UInt8) : (ofL l).size = l.length := by simp [ofL, ByteArray.size]
theorem ofL_data (l : List UInt8) : (ofL l).data.toList = l := by simp [ofL]
theorem ofL_toList (l : List UInt8) : (ofL l).toList = l := by simp [ofL, ByteArray.toList_eq]
theorem ofL_inj {a b : List UInt8} (h : ofL a = ofL b) : a = b := by rw [← ofL_data a, h, ofL_data]
theorem ofL_of (s : ByteArray) : s = ofL s.data.toList := by simp [ofL]
theorem ofL_extract (l : List UInt8) (a b : Nat) : (ofL l).extract a b = ofL ((l.drop a).take (b - a)) := by
  apply ByteArray.ext
  simp [ofL, ByteArray.data_extract, List.extract_eq_take_drop]
theorem ofL_get (l : List UInt8) (k : Nat) (h : k < (ofL l).size) : (ofL l)[k] = l[k]'(by rwa [ofL_size] at h) := by
  simp [ofL, ByteArray.getElem_eq_getElem_data]
theorem nxt_at {l : List UInt8} {k : Nat} (h : k < l.length) : nxt (l.drop k) = l[k].toNat := by
  rw [nxt_drop, List.getElem?_eq_getElem h]
theorem nxt_end {l : List UInt8} {k : Nat} (h : l.length ≤ k) : nxt (l.drop k) = 0 := by
  rw [nxt_drop, List.getElem?_eq_none h]

section
variable {w : World} {g k : Nat} {l : List UInt8}
def Quiet (w : World) (v : Value) (e : Ending) (w' : World) : Prop := e = .returned v ∧ ∃ m, w' = w.drewN m
theorem ended_any (h : Scn w g l k) : Calls Try.prog 24 #[.pointer (some ⟨g, 0, none⟩)] w (Quiet w (.bool (decide (k = l.length)))) := by
  have c0 := h.cell 0
  have c1 := h.cell 1
  have hs := Lib.hid (ofL_size l)
  go_enter Try.func24, Try.ntmps24
  go_wp2
  go_quiet (fail)
  go_wp2
  go_ret
  refine ⟨?_, nq, rfl⟩
  have e : ((k : Int) == (l.length : Int)) = decide (k = l.length) := by rw [Bool.eq_iff_iff]; simp; omega
  rw [hs.out]
  show Ending.returned (.bool ((k : Int) == (l.length : Int))) = _
  rw [e]
theorem rest_any (h : Scn w g l k) : Calls Try.prog 43 #[.pointer (some ⟨g, 0, none⟩)] w (Quiet w (.string (ofL (l.drop k)))) := by
  have c0 := h.cell 0
  have c1 := h.cell 1
  have hs := Lib.hid (ofL_size l)
  have ho : k ≤ (ofL l).size := by rw [hs.out]; exact h.off
  have he := Lib.hid (ofL_extract l k (ofL l).size)
  go_enter Try.func43, Try.ntmps43
  go_wp2
  go_quiet (fail)
  go_wp2
  go_ret
  refine ⟨?_, nq, rfl⟩
  rw [he.out, hs.out, List.take_of_length_le (by simp)]
  rfl
theorem next_any (h : Scn w g l k) : Calls Try.prog 45 #[.pointer (some ⟨g, 0, none⟩)] w (Quiet w (.int .u8 (nxt (l.drop k) : Nat))) := by
  have c0 := h.cell 0
  have c1 := h.cell 1
  have hs := Lib.hid (ofL_size l)
  have ho := h.off
  have H := Lib.hid h; clear h
  by_cases hk : k = l.length
  · have hd : decide (k = l.length) = true := by simpa using hk
    have hn := Lib.hid (nxt_end (l := l) (k := k) (by omega))
    clear hk
    go_enter Try.func45, Try.ntmps45
    go_wp2_with (go_at_call 24; refine (ended_any H.out).mono ?_; rintro e w' ⟨rfl, m, rfl⟩)
    go_ret
    exact ⟨by rw [hn.out]; rfl, m, rfl⟩
  · have hd : decide (k = l.length) = false := by simpa using hk
    have hlt : k < (ofL l).size := by rw [hs.out]; omega
    have hlt2 : k < l.length := by omega
    have hn := Lib.hid (nxt_at (l := l) (k := k) hlt2)
    have hg := Lib.hid (ofL_get l k hlt)
    clear hk
    go_enter Try.func45, Try.ntmps45
    go_wp2_with (go_at_call 24; refine (ended_any H.out).mono ?_; rintro e w' ⟨rfl, m, rfl⟩)
    have d0 : (w.drewN m).cell? ⟨g, 0, none⟩ = some (.string (ofL l)) := c0
    have d1 : (w.drewN m).cell? ⟨g, 1, none⟩ = some (.int .i64 (k : Int)) := c1
    generalize hw1 : w.drewN m = w1 at *
    have HW := Lib.hid hw1; clear hw1 c0 c1
    go_quiet (fail)
    go_wp2
    go_ret
    refine ⟨by rw [hn.out, hg.out]; rfl, m + nq, ?_⟩
    rw [← HW.out]
    simp [World.drewN, Nat.add_assoc]

/-- Behind a method that reads on: the offset k', no other old block touched. -/
def ScnPost (w : World) (g : Nat) (l : List UInt8) (k' : Nat) (v : Value) (e : Ending) (w' : World) : Prop := e = .returned v ∧ Scn w' g l k' ∧ Only g w w'
set_option maxHeartbeats 400000 in
theorem take_any (f : Nat) (p : Nat → Bool) (hf : IsSort f p) (hE : ∀ args w, (callFunc f args).run Try.prog w = .ok (.enter f args) w) (h : Scn w g l k) (n k' : Nat) (hn : spn p (l.drop k) = n) (hk' : k + n = k') :
    Calls Try.prog 40 #[.pointer (some ⟨g, 0, none⟩), .func (.func f) #[] #[]] w (ScnPost w g l k' (.string (ofL ((l.drop k).take n)))) := by
  have c0 := h.cell 0
  have c1 := h.cell 1
  have f1 := h.free 1
  have hs := Lib.hid (ofL_size l)
  have ho := h.off
  have hr := h.room
  have hle : k' ≤ l.length := by have := spn_le p (l.drop k); simp at this; omega
  have hle2 : k' ≤ (ofL l).size := by rw [hs.out]; exact hle
  have he := Lib.hid (ofL_extract l k k')
  have hkk : k ≤ k' := by omega
  have hkn : (k : Int) + (n : Int) ≤ 8000 := by omega
  have hn' : Hid (k' - k = n) := by unfold Hid; omega
  have hadd : Hid ((k : Int) + (n : Int) = (k' : Int)) := by unfold Hid; omega
  have hsub : Hid ((k' : Int) - (n : Int) = (k : Int)) := by unfold Hid; omega
  have HN := Lib.hid hn; clear hn hk'
  have H := Lib.hid h; clear h
  have hf2 := Lib.hid hf; clear hf
  have hE2 := Lib.hid hE; clear hE
  go_enter Try.func40, Try.ntmps40
  go_wp2_with (first | (go_at_call 43; refine (rest_any H.out).mono ?_; rintro e w' ⟨rfl, m, rfl⟩) | (go_at_call 30; refine (span_any f p hf2.out hE2.out _ _ (by rw [ofL_size]; simp; omega)).mono ?_; rintro e w' ⟨rfl, rfl⟩; rw [ofL_data, HN.out]))
  rw [hadd.out]
  have S1 : Scn ((w.drewN m).setCell ⟨g, 1, none⟩ (.int .i64 (k' : Int))) g l k' := (H.out.drewN m).go k' hle
  have O1 : Only g w ((w.drewN m).setCell ⟨g, 1, none⟩ (.int .i64 (k' : Int))) := ((Only.refl g w).drewN m).set 1 _
  generalize hw1 : (w.drewN m).setCell ⟨g, 1, none⟩ (.int .i64 (k' : Int)) = w1 at *
  have HW := Lib.hid hw1; clear hw1
  have d0 := S1.cell 0
  have d1 := S1.cell 1
  have hw : IntKind.i64.wrap ((k' : Int) - (n : Int)) = (k : Int) := by rw [hsub.out]; exact IntWalk.i64_in _ (by omega)
  have hkk2 : (0 : Int) ≤ (k : Int) := by omega
  clear c0 c1 f1
  go_quiet (fail)
  clear hw
  go_wp2
  go_ret
  refine ⟨?_, S1.drewN nq, O1.drewN nq⟩
  rw [he.out, hn'.out]
  rfl
end
end Go.Proofs.Ytolanmdckdjfeaa
