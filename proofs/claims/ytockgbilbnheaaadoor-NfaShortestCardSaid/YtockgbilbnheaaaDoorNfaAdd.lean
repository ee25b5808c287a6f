/- nfa's between, along, lettered. -/
import Derived.Test.YtockgbilbnheaaaDoorNfaBsf
import Derived.Test.YtockgbilbnheaaaDoorBitsMake
import Derived.Test.YtockgbilbnheaaaDoorBitsList
import Derived.Laws.Rows
namespace Go.Proofs.YtockgbilbnheaaaDoor
/- nfa's between, along, lettered. -/
open Go.RowKit

/-- The arcs from p on, up to those from q on. -/
def btw (l : List Ac) (p q : Ac) : List Ac := (l.take (idxA l q)).drop (idxA l p)
theorem idxA_le (l : List Ac) (p : Ac) : idxA l p ≤ l.length := List.countP_le_length
theorem idxA_mono (l : List Ac) {p q : Ac} (h : cmpA p q < 0) : idxA l p ≤ idxA l q := by
 unfold idxA
 refine List.countP_mono_left fun x _ hx => ?_
 have h1 : cmpA x p < 0 := by simpa using hx
 simpa using cmpA_trans h1 h
theorem Acs.sub {w : World} {ad : Addr} {c : Nat} {l : List Ac} (h : Acs w (.slice (some ad) l.length c) l) (i k : Nat) (hik : i ≤ k) (hk : k ≤ l.length) : Acs w (.slice (some (ad.add (i * 3))) (k - i) (c - i)) ((l.take k).drop i) := by
 have hlen : ((l.take k).drop i).length = k - i := by rw [List.length_drop, List.length_take]; omega
 rcases h with ⟨h, _⟩ | ⟨ad', c', hv, hc, hcell⟩
 ·cases h
 ·simp only [Value.slice.injEq, Option.some.injEq] at hv
  obtain ⟨rfl, _, rfl⟩ := hv
  refine .inr ⟨ad.add (i * 3), c - i, by rw [hlen], by rw [hlen]; omega, fun j x hj => ?_⟩
  have hj2 : j < k - i := by have := (List.getElem?_eq_some_iff.1 hj).1; omega
  rw [addr_add_add, show i * 3 + j * 3 = (i + j) * 3 by omega]
  rw [List.getElem?_drop, List.getElem?_take, if_pos (by omega)] at hj
  exact hcell _ x hj
theorem Acs.empty (w : World) (A : Option Addr) (c : Nat) (h : A = none → c = 0) : Acs w (.slice A 0 c) [] := by
 cases A with
 | none => rw [h rfl]; exact .inl ⟨rfl, rfl⟩
 | some ad => exact .inr ⟨ad, c, rfl, Nat.zero_le _, by intro j x hj; simp at hj⟩
/-- s[i:k] of a slice of arcs. -/
def subV : Value → Nat → Nat → Value
 | .slice A _ c, i, k => .slice (if c = i then A else A.map (·.add (i * 3))) (k - i) (c - i)
 | v, _, _ => v
theorem Acs.subV {w : World} {v : Value} {l : List Ac} (h : Acs w v l) (i k : Nat) (hik : i ≤ k) (hk : k ≤ l.length) : Acs w (subV v i k) ((l.take k).drop i) := by
 obtain ⟨A, c, rfl⟩ := h.shape
 show Acs w (.slice (if c = i then A else A.map (·.add (i * 3))) (k - i) (c - i)) _
 by_cases hci : c = i
 ·rw [if_pos hci]
  have hc : l.length ≤ c := by
   rcases h with ⟨h1, h2⟩ | ⟨ad, c', h1, h3, _⟩
   ·rw [h2]; exact Nat.zero_le _
   ·simp only [Value.slice.injEq] at h1; omega
  rw [show k - i = 0 by omega, show c - i = 0 by omega, show (l.take k).drop i = [] by rw [List.drop_eq_nil_of_le]; rw [List.length_take]; omega]
  exact Acs.empty _ _ _ fun _ => rfl
 ·rw [if_neg hci]
  cases A with
  | none =>
   rcases h with ⟨h1, h2⟩ | ⟨ad, c', h1, h3, _⟩
   ·simp only [Value.slice.injEq] at h1; rw [h2] at hk; simp at hk; omega
   ·simp at h1
  | some ad => exact h.sub i k hik hk
def btwV (v : Value) (l : List Ac) (p q : Ac) : Value := subV v (idxA l p) (idxA l q)
theorem Acs.btw {w : World} {v : Value} {l : List Ac} (h : Acs w v l) {p q : Ac} (hpq : cmpA p q < 0) : Acs w (btwV v l p q) (btw l p q) := h.subV _ _ (idxA_mono l hpq) (idxA_le l q)
theorem btwV_shape {v : Value} {A : Option Addr} {n c : Nat} (hv : v = .slice A n c) (l : List Ac) (p q : Ac) (hpq : cmpA p q < 0) : ∃ A' c', btwV v l p q = .slice A' (Proofs.YtockgbilbnheaaaDoor.btw l p q).length c' := by
 subst hv
 refine ⟨if c = idxA l p then A else A.map (·.add (idxA l p * 3)), c - idxA l p, ?_⟩
 unfold btwV Proofs.YtockgbilbnheaaaDoor.subV Proofs.YtockgbilbnheaaaDoor.btw
 have h1 := idxA_le l q; have h2 := idxA_mono l hpq
 rw [List.length_drop, List.length_take, Nat.min_eq_left h1]
def BtwP (v : Value) (l : List Ac) (p q : Ac) (w : World) (e : Ending) (w' : World) : Prop := e = .returned (btwV v l p q) ∧ Below w.heap.size w w'
set_option maxRecDepth 100000 in
set_option maxHeartbeats 2000000 in
theorem between_any (S : Int) (st fi v : Value) (l : List Ac) (p q : Ac) (w : World) (h : Acs w v l) (hs : Srt l) (hl : l.length ≤ 1000000) (hpq : cmpA p q < 0) :
  Calls Tryd.prog 62 #[.agg #[.int .i64 S, st, fi, v], av p, av q] w (BtwP v l p q w) := by
 obtain ⟨A, c, rfl⟩ := h.shape
 have hA : A = none → l.length = 0 ∧ c = 0 := by
  intro hA
  rcases h with ⟨h1, h2⟩ | ⟨ad, c', h1, _⟩
  ·simp only [Value.slice.injEq] at h1; exact ⟨h1.2.1, h1.2.2⟩
  ·rw [hA] at h1; simp at h1
 have H := Lib.hid h; have Hs := Lib.hid hs; have HA := Lib.hid hA
 clear h hs hA
 have hi := idxA_le l p; have hk := idxA_le l q; have hik := idxA_mono l hpq
 obtain ⟨i, hi2⟩ : ∃ i, i = idxA l p := ⟨_, rfl⟩
 obtain ⟨k, hk2⟩ : ∃ k, k = idxA l q := ⟨_, rfl⟩
 rw [← hi2, ← hk2] at hik
 rw [← hi2] at hi
 rw [← hk2] at hk
 have Hi2 := Lib.hid hi2; have Hk2 := Lib.hid hk2
 clear hi2 hk2
 have bsf := fun (W : World) (x : Ac) (hb : Below w.heap.size w W) => bsf_any (.slice A l.length c) l x W (H.out.below hb) Hs.out hl
 have Hbsf := Lib.hid bsf; clear bsf
 obtain ⟨p0, p1, p2⟩ := p
 obtain ⟨q0, q1, q2⟩ := q
 unfold av at Hbsf ⊢
 dsimp only at Hbsf ⊢
 have hcl : l.length ≤ c := by
  rcases H.out with ⟨h1, h2⟩ | ⟨ad, c', h1, h3, _⟩
  ·rw [h2]; exact Nat.zero_le _
  ·simp only [Value.slice.injEq] at h1; omega
 go_enter Tryd.func62, Tryd.ntmps62
 go_wp2_with fail
 obtain ⟨W, hW⟩ : ∃ W : World, W = ((w.alloc (Obj.cells #[Value.int IntKind.i64 S, st, fi, Value.slice A l.length c] 32)).alloc (Obj.cells #[Value.int IntKind.i64 p0, Value.int IntKind.i64 p1, Value.int IntKind.i64 p2] 52)).alloc (Obj.cells #[Value.int IntKind.i64 q0, Value.int IntKind.i64 q1, Value.int IntKind.i64 q2] 52) := ⟨_, rfl⟩
 have hbw : Below w.heap.size w W := by rw [hW]; exact (((Below.refl _ w).alloc (Nat.le_refl _) _).alloc (by simp) _).alloc (by simp; omega) _
 obtain ⟨g0, _, g2⟩ := heap_alloc_3 w (Obj.cells #[Value.int IntKind.i64 S, st, fi, Value.slice A l.length c] 32) (Obj.cells #[Value.int IntKind.i64 p0, Value.int IntKind.i64 p1, Value.int IntKind.i64 p2] 52) (Obj.cells #[Value.int IntKind.i64 q0, Value.int IntKind.i64 q1, Value.int IntKind.i64 q2] 52)
 rw [← hW] at g0 g2 ⊢
 have Hbw := Lib.hid hbw
 have G0 := Lib.hid (show ∀ w', Below W.heap.size W w' → w'.heap[w.heap.size]? = some (Obj.cells #[Value.int IntKind.i64 S, st, fi, Value.slice A l.length c] 32 (0, 0)) from fun w' h => (h.block _ (lt_of_some g0)).trans g0)
 have G2 := Lib.hid (show ∀ w', Below W.heap.size W w' → w'.heap[w.heap.size + 1 + 1]? = some (Obj.cells #[Value.int IntKind.i64 q0, Value.int IntKind.i64 q1, Value.int IntKind.i64 q2] 52 (0, 0)) from fun w' h => (h.block _ (lt_of_some g2)).trans g2)
 clear hW hbw g0 g2
 refine (Hbsf.out W (p0, p1, p2) Hbw.out).mono ?_
 rintro e w1 ⟨fb, rfl, hb1, _⟩
 have B1 := Lib.hid hb1; clear hb1
 rw [← Hi2.out]
 have c3 := cell_of_row w1 w.heap.size 3 _ _ _ (G0.out _ B1.out)
 have d0 := cell_of_row w1 (w.heap.size + 1 + 1) 0 _ _ _ (G2.out _ B1.out)
 have d1 := cell_of_row w1 (w.heap.size + 1 + 1) 1 _ _ _ (G2.out _ B1.out)
 have d2 := cell_of_row w1 (w.heap.size + 1 + 1) 2 _ _ _ (G2.out _ B1.out)
 go_wp2_with fail
 refine (Hbsf.out w1 (q0, q1, q2) (below_ext2 Hbw.out B1.out)).mono ?_
 rintro e w2 ⟨fb2, rfl, hb2, _⟩
 have B2 := Lib.hid (below_ext2 B1.out hb2); clear hb2
 rw [← Hk2.out]
 clear c3 d0 d1 d2
 have c3 := cell_of_row w2 w.heap.size 3 _ _ _ (G0.out _ B2.out)
 have i0 : (0 : Int) ≤ (i : Int) := by omega
 have i1 : (i : Int) ≤ (k : Int) := by omega
 have i2 : (k : Int) ≤ (c : Int) := by omega
 have HR := Lib.hid (show btwV (.slice A l.length c) l (p0, p1, p2) (q0, q1, q2) = .slice (if c = i then A else A.map (·.add (i * 3))) (k - i) (c - i) by unfold btwV subV; rw [← Hi2.out, ← Hk2.out])
 by_cases hci : c = i
 ·have hr2 := HR.out
  rw [if_pos hci, show c - i = 0 by omega] at hr2
  have HR2 := Lib.hid hr2; clear HR hr2
  go_wp2
  go_ret
  exact ⟨by rw [HR2.out]; rfl, below_ext2 Hbw.out B2.out⟩
 ·have hr2 := HR.out
  rw [if_neg hci] at hr2
  have HR2 := Lib.hid hr2; clear HR hr2
  go_wp2
  go_ret
  exact ⟨by rw [HR2.out]; rfl, below_ext2 Hbw.out B2.out⟩

/-- What lies between two arcs in an ascending list. -/
theorem btw_mem {l : List Ac} (hs : Srt l) {p q x : Ac} (_hpq : cmpA p q < 0) : x ∈ btw l p q ↔ x ∈ l ∧ ¬ cmpA x p < 0 ∧ cmpA x q < 0 := by
 have pos : ∀ (z : Ac) (k : Nat) (hk : k < l.length), cmpA l[k] z < 0 ↔ k < idxA l z := by
  intro z k hk
  have key : ∀ (l : List Ac), Srt l → ∀ (k : Nat) (hk : k < l.length), cmpA l[k] z < 0 ↔ k < idxA l z := by
   intro l
   induction l with
   | nil => intro _ k hk; simp at hk
   | cons a l ih =>
    intro hs k hk
    have hs2 : Srt l := (List.pairwise_cons.1 hs).2
    have ha := (List.pairwise_cons.1 hs).1
    unfold idxA
    rw [List.countP_cons]
    by_cases h0 : cmpA a z < 0
    ·rw [if_pos (by simpa using h0)]
     cases k with
     | zero => simp [h0]
     | succ k =>
      have := ih hs2 k (by simpa using hk)
      unfold idxA at this
      simp only [List.getElem_cons_succ]
      rw [this]; omega
    ·rw [if_neg (by simpa using h0)]
     have hz : l.countP (fun y => decide (cmpA y z < 0)) = 0 := by
      rw [List.countP_eq_zero]
      intro y hy h
      exact h0 (cmpA_trans (ha y hy) (by simpa using h))
     rw [hz]
     cases k with
     | zero => simp [h0]
     | succ k =>
      have := ih hs2 k (by simpa using hk)
      unfold idxA at this
      rw [hz] at this
      simp only [List.getElem_cons_succ]
      rw [this]; omega
  exact key l hs k hk
 unfold btw
 constructor
 ·intro h
  obtain ⟨j, hj, e⟩ := List.getElem_of_mem h
  rw [List.length_drop, List.length_take] at hj
  rw [List.getElem_drop, List.getElem_take] at e
  have h1 := idxA_le l q
  refine ⟨by rw [← e]; exact List.getElem_mem _, ?_, ?_⟩
  ·rw [← e, pos p _ (by omega)]; omega
  ·rw [← e, pos q _ (by omega)]; omega
 ·rintro ⟨h1, h2, h3⟩
  obtain ⟨j, hj, e⟩ := List.getElem_of_mem h1
  rw [← e] at h2 h3
  rw [pos p _ hj] at h2
  rw [pos q _ hj] at h3
  rw [← e]
  refine List.mem_iff_getElem.2 ⟨j - idxA l p, by rw [List.length_drop, List.length_take]; omega, ?_⟩
  rw [List.getElem_drop, List.getElem_take]
  congr 1; omega
theorem btw_len (l : List Ac) (p q : Ac) : (btw l p q).length ≤ l.length := by
 unfold btw; rw [List.length_drop, List.length_take]; omega
theorem Srt.btw {l : List Ac} (hs : Srt l) (p q : Ac) : Srt (btw l p q) := (hs.sublist (List.take_sublist _ _)).sublist (List.drop_sublist _ _)
set_option maxRecDepth 100000 in
theorem along_any (S : Int) (st fi v : Value) (l : List Ac) (n c : Int) (w : World) (h : Acs w v l) (hs : Srt l) (hl : l.length ≤ 1000000) (h1 : -10 ≤ c) (h2 : c ≤ 1000000) :
  Calls Tryd.prog 47 #[.agg #[.int .i64 S, st, fi, v], .int .i64 n, .int .i64 c] w (BtwP v l (n, c, 0) (n, c + 1, 0) w) := by
 have hb := between_any S st fi v l (n, c, 0) (n, c + 1, 0) (w.alloc (.cells #[.int .i64 S, st, fi, v] 32)) (h.below ((Below.refl _ w).alloc (Nat.le_refl _) _)) hs hl (cmpA_neg.2 (by unfold LtA; dsimp only; omega))
 unfold av at hb
 dsimp only at hb
 have Hb := Lib.hid hb
 clear h hs hb
 go_enter Tryd.func47, Tryd.ntmps47
 go_wp2_with fail
 refine Hb.out.mono ?_
 rintro e w1 ⟨rfl, hb1⟩
 have HB := Lib.hid (below_ext2 ((Below.refl _ w).alloc (Nat.le_refl _) _) hb1)
 clear hb1
 go_wp2
 go_ret
 exact ⟨rfl, HB.out⟩
set_option maxRecDepth 100000 in
theorem lettered_any (S : Int) (st fi v : Value) (l : List Ac) (n : Int) (w : World) (h : Acs w v l) (hs : Srt l) (hl : l.length ≤ 1000000) (h1 : -10 ≤ n) (h2 : n ≤ 1000000) :
  Calls Tryd.prog 53 #[.agg #[.int .i64 S, st, fi, v], .int .i64 n] w (BtwP v l (n, 1, 0) (n + 1, 0, 0) w) := by
 have hb := between_any S st fi v l (n, 1, 0) (n + 1, 0, 0) (w.alloc (.cells #[.int .i64 S, st, fi, v] 32)) (h.below ((Below.refl _ w).alloc (Nat.le_refl _) _)) hs hl (cmpA_neg.2 (by unfold LtA; dsimp only; omega))
 unfold av at hb
 dsimp only at hb
 have Hb := Lib.hid hb
 clear h hs hb
 go_enter Tryd.func53, Tryd.ntmps53
 go_wp2_with fail
 refine Hb.out.mono ?_
 rintro e w1 ⟨rfl, hb1⟩
 have HB := Lib.hid (below_ext2 ((Below.refl _ w).alloc (Nat.le_refl _) _) hb1)
 clear hb1
 go_wp2
 go_ret
 exact ⟨rfl, HB.out⟩
/- The function add that nfa's closure makes: it puts a state into the queue, once. -/
open Go.RowKit

theorem info_bool : (Tryd.prog.info? 4).map (fun i => (i.zero, i.size, i.bytes)) = some (some (.bool false), 1, 1) := by kernel_rfl
/-- Which states are in the queue. -/
def marks (S : Nat) (q : List Int) : List Value := (List.range S).map fun n : Nat => .bool (decide ((n : Int) ∈ q))
theorem marks_len (S : Nat) (q : List Int) : (marks S q).length = S := by simp [marks]
theorem marks_get {S n : Nat} (q : List Int) (hn : n < S) : (marks S q)[n]? = some (.bool (decide ((n : Int) ∈ q))) := by
 unfold marks
 rw [List.getElem?_map, List.getElem?_range hn]
 rfl
theorem marks_set {S n : Nat} (q : List Int) (hn : n < S) : (marks S q).set n (.bool true) = marks S (q ++ [(n : Int)]) := by
 apply List.ext_getElem?
 intro j
 rw [List.getElem?_set]
 by_cases hj : n = j
 ·subst hj
  rw [if_pos rfl, if_pos (by rw [marks_len]; exact hn), marks_get _ hn]
  simp
 ·rw [if_neg hj]
  by_cases hjS : j < S
  ·rw [marks_get _ hjS, marks_get _ hjS]
   congr 2
   rw [decide_eq_decide, List.mem_append, List.mem_singleton]
   constructor
   ·exact .inl
   ·rintro (h | h)
    ·exact h
    ·omega
  ·rw [List.getElem?_eq_none (by rw [marks_len]; omega), List.getElem?_eq_none (by rw [marks_len]; omega)]
/-- The queue and the marks of a closure on its way: boxes qb and sb, the marks' row sg. -/
structure CS (w : World) (B qb sb sg S : Nat) (q : List Int) : Prop where
 qu : ∃ qv, w.heap[qb]? = some (.cells #[qv] 22 (0, 0)) ∧ w.ownsRow B 3 1 qv q.length (q.map iv)
 se : w.heap[sb]? = some (.cells #[.slice (some ⟨sg, 0, none⟩) S S] 23 (0, 0))
 ro : w.heap[sg]? = some (.cells (marks S q).toArray 4 (0, 0))
 lo : B ≤ qb ∧ B ≤ sb ∧ B ≤ sg ∧ B ≤ w.heap.size
 nd : q.Nodup
 bd : ∀ x ∈ q, 0 ≤ x ∧ x < S
def ins1 (q : List Int) (n : Int) : List Int := if n ∈ q then q else q ++ [n]
theorem mem_ins1 {q : List Int} {n x : Int} : x ∈ ins1 q n ↔ x ∈ q ∨ x = n := by
 unfold ins1
 split
 ·rename_i h
  constructor
  ·exact .inl
  ·rintro (h2 | h2)
   ·exact h2
   ·rw [h2]; exact h
 ·rw [List.mem_append, List.mem_singleton]
theorem nodup_lt {n : Nat} : ∀ {l : List Nat}, l.Nodup → (∀ x ∈ l, x < n) → l.length ≤ n := by
 induction n with
 | zero => intro l _ h; cases l with
  | nil => simp
  | cons a l => exact absurd (h a (by simp)) (by omega)
 | succ n ih =>
  intro l hn h
  have h1 : (l.erase n).length ≤ n := ih (hn.erase n) (fun x hx => by
   have hx1 := h x (List.mem_of_mem_erase hx)
   have : x ≠ n := fun he => by subst he; exact (List.Nodup.not_mem_erase hn) hx
   omega)
  have h2 := List.length_erase (a := n) (l := l)
  split at h2 <;> omega
theorem nodup_len {q : List Int} {S : Nat} (hn : q.Nodup) (hb : ∀ x ∈ q, 0 ≤ x ∧ x < (S : Int)) : q.length ≤ S := by
 have h1 : (q.map Int.toNat).Nodup := by
  unfold List.Nodup
  rw [List.pairwise_map]
  refine List.Pairwise.imp_of_mem ?_ hn
  intro a b ha hb2 hab h
  have h1 := hb a ha; have h2 := hb b hb2
  omega
 have h2 := nodup_lt (n := S) h1 (by
  intro n hn
  obtain ⟨x, hx, rfl⟩ := List.mem_map.1 hn
  have := hb x hx
  omega)
 simpa using h2
def AddP (w : World) (B qb sb sg S : Nat) (q : List Int) (n : Int) (e : Ending) (w' : World) : Prop := e = .returned (.tuple #[]) ∧ CS w' B qb sb sg S (ins1 q n) ∧ Below B w w'
theorem own_below {w w' : World} {B e : Nat} {v : Value} {n : Nat} {xs : List Value} (h : w.ownsRow B e 1 v n xs) (hb : Below w.heap.size w w') : w'.ownsRow B e 1 v n xs := by
 refine h.kept (row := none) ⟨hb.os, hb.tape, hb.output, hb.size, fun k hk _ => hb.block k hk⟩ ?_
 cases e : v.ownBlock
 ·exact .inl rfl
 ·exact .inr (by simp)
theorem grownBy_setCell (w : World) (g i : Nat) (v : Value) : w.grownBy (w.setCell ⟨g, i, none⟩ v) (some g) :=
 ⟨rfl, rfl, rfl, by simp [World.setCell], fun k _ hk => Below.heap_setCell w ⟨g, i, none⟩ v k (fun e => hk (by rw [e]))⟩
/-- A row of the call's own stays behind a store into a block of another type. -/
theorem own_set {w : World} {B e g t : Nat} {v u : Value} {n i : Nat} {xs : List Value} {cs : Array Value} (h : w.ownsRow B e 1 v n xs) (hg : w.heap[g]? = some (.cells cs t (0, 0))) (ht : t ≠ e) : (w.setCell ⟨g, i, none⟩ u).ownsRow B e 1 v n xs := by
 refine h.kept (grownBy_setCell w g i u) ?_
 rcases h.2 with ⟨rfl, _⟩ | ⟨g2, cap, cur, rfl, _, h2, _⟩
 ·exact .inl rfl
 ·right
  intro he
  simp only [Value.ownBlock, Option.some.injEq] at he
  subst he
  rw [hg] at h2
  simp only [Option.some.injEq, Obj.cells.injEq] at h2
  exact ht h2.2.1
theorem own_shapeA {w : World} {B e : Nat} {v : Value} {n : Nat} {xs : List Value} (h : w.ownsRow B e 1 v n xs) : ∃ A c, v = .slice A n c := by
 rcases h.2 with ⟨rfl, h0⟩ | ⟨g, cap, cur, rfl, _⟩
 ·exact ⟨none, 0, by rw [h0]⟩
 ·exact ⟨_, cap, rfl⟩
theorem frozen_of {w : World} {g : Nat} {cs : Array Value} {t : TypeId} (h : w.heap[g]? = some (.cells cs t (0, 0))) (j : Nat) : w.frozen? ⟨g, j, none⟩ = false := by
 simp [World.frozen?, h]
set_option maxRecDepth 100000 in
set_option maxHeartbeats 1000000 in
theorem add_any (w : World) (B qb sb sg S : Nat) (q : List Int) (n : Int) (h : CS w B qb sb sg S q) (h0 : 0 ≤ n) (h1 : n < S) (hS : S ≤ 1000) :
  Calls Tryd.prog 46 #[.int .i64 n, .pointer (some ⟨sb, 0, none⟩), .pointer (some ⟨qb, 0, none⟩)] w (AddP w B qb sb sg S q n) := by
 obtain ⟨m, rfl⟩ : ∃ m : Nat, n = m := ⟨n.toNat, by omega⟩
 have hm : m < S := by omega
 obtain ⟨qv, hq, hown⟩ := h.qu
 have c0 := cell_of_row w sb 0 _ _ _ h.se
 have c1 := cell_of_row w qb 0 _ _ _ hq
 have hmk : w.cell? ⟨sg, m, none⟩ = some (.bool (decide ((m : Int) ∈ q))) := by
  rw [cell_of_row w sg m _ _ _ h.ro]
  simpa using marks_get q hm
 have hlen := nodup_len h.nd h.bd
 have H := Lib.hid h; have Ho := Lib.hid hown; have Hq := Lib.hid hq
 clear h hown hq
 by_cases hin : (m : Int) ∈ q
 ·have hd : decide ((m : Int) ∈ q) = true := decide_eq_true hin
  rw [hd] at hmk
  have Hin := Lib.hid hin
  clear hd hin
  go_enter Tryd.func46, Tryd.ntmps46
  go_wp2
  refine bodyPost_end (results_none rfl _ _ _) rfl ?_
  refine ⟨rfl, ?_, Below.refl _ _⟩
  unfold ins1
  rw [if_pos Hin.out]
  exact H.out
 ·have hd : decide ((m : Int) ∈ q) = false := decide_eq_false hin
  rw [hd] at hmk
  have Hin := Lib.hid hin
  have f0 := frozen_of H.out.ro m
  have f1 := frozen_of Hq.out 0
  obtain ⟨W1, hW1⟩ : ∃ W1, W1 = w.setCell ⟨sg, m, none⟩ (.bool true) := ⟨_, rfl⟩
  have hro := H.out.ro; have hse := H.out.se; have hqb := Hq.out
  have hsq : sg ≠ qb := fun e => by rw [e, hqb] at hro; simp at hro
  have hss : sg ≠ sb := fun e => by rw [e, hse] at hro; simp at hro
  have hsb : sb ≠ qb := fun e => by rw [e, hqb] at hse; simp at hse
  have k1 : W1.heap[sg]? = some (.cells (marks S (q ++ [(m : Int)])).toArray 4 (0, 0)) := by
   rw [hW1, heap_setCell_same w sg m _ _ _ hro]
   congr 2
   rw [List.setIfInBounds_toArray, marks_set q hm]
  have k2 : W1.heap[sb]? = some (.cells #[.slice (some ⟨sg, 0, none⟩) S S] 23 (0, 0)) := by rw [hW1]; exact (Below.heap_setCell w ⟨sg, m, none⟩ _ sb (fun e => hss e.symm)).trans hse
  have k3 : W1.heap[qb]? = some (.cells #[qv] 22 (0, 0)) := by rw [hW1]; exact (Below.heap_setCell w ⟨sg, m, none⟩ _ qb (fun e => hsq e.symm)).trans hqb
  have hB := H.out.lo
  have hown1 : W1.ownsRow B 3 1 qv q.length (q.map iv) := by rw [hW1]; exact own_set Ho.out hro (by decide)
  have hb1 : Below B w W1 := by rw [hW1]; exact (Below.refl B w).setCell hB.2.2.1 _
  have hsz : W1.heap.size = w.heap.size := by rw [hW1]; simp
  have K1 := Lib.hid k1; have K2 := Lib.hid k2; have K3 := Lib.hid k3; have HB := Lib.hid hB; have HO1 := Lib.hid hown1; have HB1 := Lib.hid hb1; have Hsz := Lib.hid hsz
  have HW1 := Lib.hid hW1
  have Hne := Lib.hid (show sg ≠ qb ∧ sg ≠ sb ∧ sb ≠ qb from ⟨hsq, hss, hsb⟩)
  have c1' : (w.setCell ⟨sg, m, none⟩ (.bool true)).cell? ⟨qb, 0, none⟩ = some qv := by rw [← hW1]; exact cell_of_row W1 qb 0 _ _ _ k3
  clear hro hse hqb hsq hss hsb k1 k2 k3 hB hown1 hb1 hsz hW1 hd hin c1 f1
  have hszs : (w.setCell ⟨sg, m, none⟩ (.bool true)).heap.size = w.heap.size := by simp
  have Hszs := Lib.hid hszs
  have HOs := Lib.hid (show (w.setCell ⟨sg, m, none⟩ (.bool true)).ownsRow B 3 1 qv q.length (q.map iv) by rw [← HW1.out]; exact HO1.out)
  clear hszs
  go_enter Tryd.func46, Tryd.ntmps46
  go_wp2_with (at_builtin; refine app1S rfl _ _ 22 rfl 3 (.int .i64 0) 8 info_int rfl Tryd.underlying22 B qv q.length (q.map iv) rfl HOs.out _ (by rw [Hszs.out]; rfl) rfl (by omega) (by omega) (by rw [Hszs.out]; exact HB.out.2.2.2) ?_; intro v' w2 hown2 hf2; obtain ⟨A', c', rfl⟩ := own_shapeA hown2; rw [← HW1.out] at hf2; have j1 := hf2.keeps K1.out (by decide); have j2 := hf2.keeps K2.out (by decide); have j3 := hf2.keeps K3.out (by decide); have F2 := Lib.hid hf2; have O2 := Lib.hid hown2; have J1 := Lib.hid j1; have J2 := Lib.hid j2; have J3 := Lib.hid j3; have f3 := frozen_of j3 0; have e3 := cell_of_row w2 qb 0 _ _ _ j3; clear hown2 hf2 j1 j2 j3)
  go_wp2
  refine bodyPost_end (results_none rfl _ _ _) rfl ?_
  refine ⟨rfl, ?_, ?_⟩
  ·unfold ins1
   rw [if_neg Hin.out]
   refine ⟨⟨.slice A' (q.length + 1) c', ?_, ?_⟩, ?_, ?_, ?_, ?_, ?_⟩
   ·rw [heap_setCell_same w2 qb 0 _ _ _ J3.out]; rfl
   ·have h := own_set (i := 0) (u := .slice A' (q.length + 1) c') O2.out J3.out (by decide)
    rw [List.length_append, List.map_append]
    exact h
   ·exact (Below.heap_setCell w2 ⟨qb, 0, none⟩ _ sb Hne.out.2.2).trans J2.out
   ·exact (Below.heap_setCell w2 ⟨qb, 0, none⟩ _ sg Hne.out.1).trans J1.out
   ·have h1 := HB.out; have h2 := F2.out.size; have h3 := Hsz.out
    exact ⟨h1.1, h1.2.1, h1.2.2.1, by simp; omega⟩
   ·exact List.nodup_append.2 ⟨H.out.nd, by simp, fun a ha b hb => by rw [List.mem_singleton.1 hb]; exact fun e => Hin.out (e ▸ ha)⟩
   ·intro x hx
    rcases List.mem_append.1 hx with h | h
    ·exact H.out.bd x h
    ·rw [List.mem_singleton.1 h]; exact ⟨h0, h1⟩
  ·exact (HB1.out.trans (F2.out.below (by rw [Hsz.out]; exact HB.out.2.2.2))).setCell HB.out.1 _
end Go.Proofs.YtockgbilbnheaaaDoor
