/- The contracts of wire.Text, wire.Bool, wire.Value onto a row of the call's own. -/
import Derived.Test.YtlimaefgifgegaaWireInt
import Derived.Lib.AppendStr
import Derived.Deep.Draws
namespace Go.Proofs.Ytlimaefgifgegaa
open Go.RowKit

def bytesOf (s : ByteArray) : List Nat := s.data.toList.map UInt8.toNat
theorem bytesOf_len (s : ByteArray) : (bytesOf s).length = s.size := by rw [bytesOf, List.length_map, Array.length_toList]; rfl
def encS (s : ByteArray) : List Nat := enc s.size ++ bytesOf s
def encB (b : Bool) : List Nat := if b then [1] else [0]
def encV (k n : Int) (s : ByteArray) : List Nat := enc k ++ (if k = 1 then enc n else if k = 2 then encS s else [])
theorem enc_len (n : Int) : (enc n).length ≤ 10 := encF_len 9 _

/-- v' owns what v owned, and ys behind it. -/
def Own (w : World) (B : Nat) (v : Value) (len : Nat) (xs : List Value) : Prop := w.ownsRow B 5 1 v len xs
def EncPost (w : World) (B len : Nat) (xs : List Value) (ys : List Nat) (e : Ending) (w' : World) : Prop :=
  ∃ v', e = .returned v' ∧ w'.ownsRow B 5 1 v' (len + ys.length) (xs ++ ys.map bv) ∧ Frm 5 B w w'
theorem Room2.dn {a b : Nat} (h : Room2 a) (hb : b ≤ a) : Room2 b := by unfold Room2 at *; omega

set_option maxHeartbeats 400000 in
theorem bool_own (b : Bool) (w : World) (v : Value) (B len : Nat) (xs : List Value) (hB : B ≤ w.heap.size) (hown : w.ownsRow B 5 1 v len xs) (hl : Room len) :
    Calls Try.prog 9 #[v, .bool b] w (EncPost w B len xs (encB b)) := by
  have hr := Room2.of (b := 0) hl (by omega)
  rw [Nat.add_zero] at hr
  cases b
  all_goals
    go_enter Try.func9, Try.ntmps9
    go_wp2_with (at_builtin; refine app1 rfl _ _ 24 rfl 5 (.int .u8 0) info_u8 Try.underlying24 rfl B _ _ _ rfl hown _ rfl rfl hr hB ?_; intro v' w1 hown1 hb1)
    go_ret
    exact ⟨v', rfl, hown1, hb1⟩

set_option maxHeartbeats 400000 in
theorem text_own (s : ByteArray) (w : World) (v : Value) (B len : Nat) (xs : List Value) (hB : B ≤ w.heap.size) (hown : w.ownsRow B 5 1 v len xs) (hl : Room len) (hs : Room s.size) :
    Calls Try.prog 12 #[v, .string s] w (EncPost w B len xs (encS s)) := by
  obtain ⟨i0, hi, hz0, hz1, hz2⟩ := info_parts info_u8
  have hn : I64 (s.size : Int) := by unfold Room at hs; unfold I64; omega
  have hle := enc_len (s.size : Int)
  have Hle := Lib.hid hle
  have Hs := Lib.hid hs
  have Hl := Lib.hid hl
  clear hle hs hl
  go_enter Try.func12, Try.ntmps12
  go_wp2_with fail
  refine (int_own _ w v B len xs hB hown hn Hl.out).mono ?_
  rintro e w1 ⟨v1, rfl, hown1, hb1⟩
  go_wp2_with (at_builtin; refine Lib.wpList_append_own_string _ rfl _ _ 24 9 rfl B 5 i0 Try.underlying24 Try.underlying9 hi hz0 hz1 hz2 _ _ _ rfl hown1 s rfl ?_ ?_ ?_ ?_)
  · have := Hs.out; have := Hl.out; have := Hle.out; unfold Room at *; unfold maxLen; omega
  · have := Hs.out; have := Hl.out; have := Hle.out; unfold Room at *; omega
  · exact Nat.le_trans hB hb1.size
  · intro v' w2 hown2 hg2 _
    have hb2 := hb1.trans (Frm.grown hown1 hg2)
    have hown3 : w2.ownsRow B 5 1 v' (len + (encS s).length) (xs ++ (encS s).map bv) := by
      have e1 : (encS s).length = (enc s.size).length + s.size := by simp [encS, bytesOf_len]
      have e2 : (encS s).map bv = (enc s.size).map bv ++ Lib.strCells s := by simp [encS, bytesOf, Lib.strCells, bv]
      rw [e1, e2, ← Nat.add_assoc, ← List.append_assoc]
      simpa using hown2
    clear hown2 hg2
    go_wp2
    go_ret
    exact ⟨v', rfl, hown3, hb2⟩

set_option maxHeartbeats 400000 in
theorem value_own (k n : Int) (s : ByteArray) (w : World) (v : Value) (B len : Nat) (xs : List Value) (hB : B ≤ w.heap.size) (hown : w.ownsRow B 5 1 v len xs) (hk : I64 k) (hn : I64 n) (hl : Room (len + 10)) (hs : Room s.size) :
    Calls Try.prog 31 #[v, .agg #[.int .i64 k, .int .i64 n, .string s]] w (EncPost w B len xs (encV k n s)) := by
  have hlk := enc_len k
  have hr0 : Room len := by unfold Room at *; omega
  have hr1 : Room (len + (enc k).length) := by unfold Room at *; omega
  have hown' := hown.alloc (.cells #[.int .i64 k, .int .i64 n, .string s] 56)
  have hbA : Frm 5 B w (w.alloc (.cells #[.int .i64 k, .int .i64 n, .string s] 56)) := Frm.alloc_ w _
  have hblk : (w.alloc (.cells #[.int .i64 k, .int .i64 n, .string s] 56)).heap[w.heap.size]? = some (.cells #[.int .i64 k, .int .i64 n, .string s] 56 (0, 0)) := heap_alloc_new w _
  have HlK := Lib.hid hlk
  clear hlk
  by_cases h1 : k = 1
  · have t1 : ((k : Int) == 1) = true := by simp [h1]
    have He := Lib.hid (show encV k n s = enc k ++ enc n by simp [encV, h1])
    clear h1
    go_enter Try.func31, Try.ntmps31
    go_wp2_with fail
    refine (int_own k _ v B len xs ?_ hown' hk hr0).mono ?_
    · simp; omega
    rintro e w1 ⟨v1, rfl, hown1, hb1⟩
    have hblk1 := hb1.keeps hblk (by decide)
    have c0 := cell_of_row w1 w.heap.size 0 _ _ _ hblk1
    have c1 := cell_of_row w1 w.heap.size 1 _ _ _ hblk1
    go_wp2_with fail
    refine (int_own n _ v1 B _ _ (Nat.le_trans hB (hbA.trans hb1).size) hown1 hn hr1).mono ?_
    rintro e w2 ⟨v2, rfl, hown2, hb2⟩
    go_wp2
    go_ret
    refine ⟨v2, rfl, ?_, hbA.trans (hb1.trans hb2)⟩
    rw [He.out]
    simpa [Nat.add_assoc] using hown2
  · have t1 : ((k : Int) == 1) = false := by simp [h1]
    by_cases h2 : k = 2
    · have t2 : ((k : Int) == 2) = true := by simp [h2]
      have He := Lib.hid (show encV k n s = enc k ++ encS s by simp [encV, h2])
      clear h1 h2
      go_enter Try.func31, Try.ntmps31
      go_wp2_with fail
      refine (int_own k _ v B len xs ?_ hown' hk hr0).mono ?_
      · simp; omega
      rintro e w1 ⟨v1, rfl, hown1, hb1⟩
      have hblk1 := hb1.keeps hblk (by decide)
      have c0 := cell_of_row w1 w.heap.size 0 _ _ _ hblk1
      have c2 := cell_of_row w1 w.heap.size 2 _ _ _ hblk1
      go_wp2_with fail
      refine (text_own s _ v1 B _ _ (Nat.le_trans hB (hbA.trans hb1).size) hown1 hr1 hs).mono ?_
      rintro e w2 ⟨v2, rfl, hown2, hb2⟩
      go_wp2
      go_ret
      refine ⟨v2, rfl, ?_, hbA.trans (hb1.trans hb2)⟩
      rw [He.out]
      simpa [Nat.add_assoc] using hown2
    · have t2 : ((k : Int) == 2) = false := by simp [h2]
      have He := Lib.hid (show encV k n s = enc k by simp [encV, h1, h2])
      clear h1 h2
      go_enter Try.func31, Try.ntmps31
      go_wp2_with fail
      refine (int_own k _ v B len xs ?_ hown' hk hr0).mono ?_
      · simp; omega
      rintro e w1 ⟨v1, rfl, hown1, hb1⟩
      have hblk1 := hb1.keeps hblk (by decide)
      have c0 := cell_of_row w1 w.heap.size 0 _ _ _ hblk1
      go_wp2_with fail
      go_ret
      refine ⟨v1, rfl, ?_, hbA.trans hb1⟩
      rw [He.out]
      exact hown1
end Go.Proofs.Ytlimaefgifgegaa
