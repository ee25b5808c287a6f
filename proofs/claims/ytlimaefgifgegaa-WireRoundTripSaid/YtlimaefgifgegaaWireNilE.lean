/- Encoders onto nil, and encodings are bytes (the head of XWireDist, for seats that lack WireDistinct; never import both). -/
import Derived.Test.YtlimaefgifgegaaWireAwake
import Derived.Test.YtlimaefgifgegaaWireVals
import Derived.Test.YtlimaefgifgegaaVals
namespace Go.Proofs.Ytlimaefgifgegaa
open Go.RowKit

def NilPost (w : World) (ys : List Nat) (e : Ending) (w' : World) : Prop := ∃ v, e = .returned v ∧ Below w.heap.size w w' ∧ Bsl w' v ys
theorem enc_nil_post {w : World} {ys : List Nat} {e : Ending} {w' : World} (h : EncPost w w.heap.size 0 [] ys e w') : ∃ v, e = .returned v ∧ Below w.heap.size w w' ∧ Bsl w' v ys := by
  obtain ⟨v, rfl, hown, hf⟩ := h
  exact ⟨v, rfl, hf.below (Nat.le_refl _), Bsl.of_own (by simpa using hown)⟩
theorem int_nil_any (n : Int) (w : World) (hn : I64 n) : Calls Try.prog 10 #[.slice none 0 0, .int .i64 n] w fun e w' => ∃ v, e = .returned v ∧ Below w.heap.size w w' ∧ Bsl w' v (enc n) :=
  (int_own n w _ w.heap.size 0 [] (Nat.le_refl _) (World.ownsRow_nil _ _ _ _) hn (by unfold Room; decide)).mono fun _ _ h => enc_nil_post h
theorem text_nil_any (s : ByteArray) (w : World) (hs : s.size ≤ 200) : Calls Try.prog 12 #[.slice none 0 0, .string s] w fun e w' => ∃ v, e = .returned v ∧ Below w.heap.size w w' ∧ Bsl w' v (encS s) :=
  (text_own s w _ w.heap.size 0 [] (Nat.le_refl _) (World.ownsRow_nil _ _ _ _) (by unfold Room; decide) (by unfold Room; omega)).mono fun _ _ h => enc_nil_post h
theorem vals_nil_any (A : Option Addr) (c : Nat) (l : List Vl) (w : World) (hx : Vals w (.slice A l.length c) l) (hl : l.length ≤ 1000) (hs : ∀ x ∈ l, x.2.2.size ≤ 200) (hok : ∀ x ∈ l, VlOk x) :
    Calls Try.prog 27 #[.slice none 0 0, .slice A l.length c] w fun e w' => ∃ v, e = .returned v ∧ Below w.heap.size w w' ∧ Bsl w' v (encVs l) :=
  (vals_own A c l w _ w.heap.size 0 [] (Nat.le_refl _) (World.ownsRow_nil _ _ _ _) (by decide) hl hs hok (fun _ hf => hx.below (hf.below (Nat.le_refl _)))).mono fun _ _ h => enc_nil_post h
theorem encF_byt (f : Nat) : ∀ u, u < 128 ^ (f + 1) → Byt (encF f u) := by
  induction f with
  | zero => intro u hu c hc; simp [encF] at hc; subst hc; simp at hu; omega
  | succ f ih =>
    intro u hu
    have hp : 128 ^ (f + 1 + 1) = 128 ^ (f + 1) * 128 := Nat.pow_succ _ _
    by_cases h : u < 128
    · rw [encF_small h]; intro c hc; simp at hc; omega
    · rw [encF_big (by omega)]
      intro c hc
      rcases List.mem_cons.1 hc with rfl | hc
      · omega
      · exact ih _ (Nat.div_lt_of_lt_mul (by rw [Nat.mul_comm, ← hp]; exact hu)) c hc
theorem byt_app {x y : List Nat} (hx : Byt x) (hy : Byt y) : Byt (x ++ y) := fun c hc => (List.mem_append.1 hc).elim (hx c) (hy c)
theorem bytesOf_byt (s : ByteArray) : Byt (bytesOf s) := by
  intro c hc
  obtain ⟨x, _, rfl⟩ := List.mem_map.1 hc
  exact x.toNat_lt
theorem enc_byt {n : Int} (h : I64 n) : Byt (enc n) := encF_byt 9 _ (Nat.lt_trans (zig_lt n h.1 h.2) (by decide))
theorem encS_byt {s : ByteArray} (h : s.size ≤ 9223372036854775807) : Byt (encS s) := byt_app (enc_byt (by unfold I64; omega)) (bytesOf_byt s)
theorem encVl_byt {x : Vl} (h : VlOk x) : Byt (encVl x) := by
  unfold encVl encV
  refine byt_app (enc_byt h.1) ?_
  split
  · exact enc_byt h.2.1
  · split
    · exact encS_byt h.2.2
    · intro c hc; cases hc
theorem encVs_byt {l : List Vl} (hl : l.length ≤ 9223372036854775807) (h : ∀ x ∈ l, VlOk x) : Byt (encVs l) := by
  refine byt_app (enc_byt (by unfold I64; omega)) ?_
  intro c hc
  obtain ⟨x, hx, hc⟩ := List.mem_flatMap.1 hc
  exact encVl_byt (h x hx) c hc

end Go.Proofs.Ytlimaefgifgegaa
