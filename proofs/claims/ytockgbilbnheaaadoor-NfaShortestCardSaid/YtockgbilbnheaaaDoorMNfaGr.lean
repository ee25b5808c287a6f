/- The least shortest word, letter by letter: plain facts. -/
import Derived.Test.YtockgbilbnheaaaDoorMNfaNr
import Derived.Test.YtockgbilbnheaaaDoorNfaLl
namespace Go.Proofs.YtockgbilbnheaaaDoor
/- The least shortest word, letter by letter: plain facts. -/
open Go.RowKit

section
variable {ar : List Ac} {st : List Int} {F : Int → Prop} {a b n c : Int} {v t : List Int} {L r : Nat}
theorem pt_split : ∀ {w : List Int} {v u : List Int}, Pt ar a w b → w = v ++ u → ∃ x, Pt ar a v x ∧ Pt ar x u b := by
 intro w v u h
 induction h generalizing v u with
 | nil =>
  intro e
  obtain ⟨rfl, rfl⟩ := List.append_eq_nil_iff.1 e.symm
  exact ⟨_, .nil _, .nil _⟩
 | eps _ he ih =>
  intro e
  obtain ⟨x, h1, h2⟩ := ih e
  exact ⟨x, h1, .eps h2 he⟩
 | @step b d c w h1 h2 h3 h4 ih =>
  intro e
  rcases List.eq_nil_or_concat u with rfl | ⟨u', c', rfl⟩
  ·rw [List.append_nil] at e
   subst e
   exact ⟨_, .step h1 h2 h3 h4, .nil _⟩
  ·rw [List.concat_eq_append, ← List.append_assoc] at e
   obtain ⟨e1, e2⟩ := List.append_inj' e rfl
   simp only [List.cons.injEq, and_true] at e2
   subst e2
   obtain ⟨x, k1, k2⟩ := ih e1
   exact ⟨x, k1, by rw [List.concat_eq_append]; exact .step k2 h2 h3 h4⟩
/-- What is reached from the start states by a word. -/
def Rn (ar : List Ac) (st v : List Int) (n : Int) : Prop := ∃ a, a ∈ st ∧ Pt ar a v n
theorem Rn.eps {p : Int} (h : Rn ar st v n) (k : Pt ar n [] p) : Rn ar st v p := by
 obtain ⟨a, h1, h2⟩ := h
 exact ⟨a, h1, by simpa using pt_app h2 k⟩
theorem Rn.step {q : Int} (h : Rn ar st v n) (h2 : 1 ≤ c) (h3 : c ≤ 10000) (h4 : (n, c, q) ∈ ar) : Rn ar st (v ++ [c]) q := by
 obtain ⟨a, g1, g2⟩ := h
 exact ⟨a, g1, .step g2 h2 h3 h4⟩
/-- A word is less than another at some place. -/
def LtW (v t : List Int) : Prop := ∃ (i : Nat) (x y : Int), v.take i = t.take i ∧ v[i]? = some x ∧ t[i]? = some y ∧ x < y
/-- What holds with the letters v and r letters to come. -/
structure Gd (ar : List Ac) (st : List Int) (F : Int → Prop) (L : Nat) (v : List Int) (r : Nat) : Prop where
 len : v.length + r = L
 some : ∃ n, Rn ar st v n ∧ Dst1 ar F r n
 none : ∀ n e, Rn ar st v n → Near ar F e n → r ≤ e
 least : ∀ t : List Int, t.length = L → (∃ m, F m ∧ Rn ar st t m) → v = t.take v.length ∨ LtW v t
theorem Gd.start {n : Int} (h : Rn ar st [] n) (hd : Near ar F L n) (hl : ∀ n e, Rn ar st [] n → Near ar F e n → L ≤ e) : Gd ar st F L [] L :=
 ⟨by simp, ⟨n, h, hd, fun e he g => by have := hl n e h g; omega⟩, hl, fun t _ _ => .inl rfl⟩
/-- There is a letter that goes on. -/
theorem Gd.more (h : Gd ar st F L v (r + 1)) : ∃ p c q, Rn ar st v p ∧ 1 ≤ c ∧ c ≤ 10000 ∧ (p, c, q) ∈ ar ∧ Dst1 ar F r q := by
 obtain ⟨n, h1, h2⟩ := h.some
 obtain ⟨p, c, q, g1, g2, g3, g4, g5⟩ := dst_prev h2
 exact ⟨p, c, q, h1.eps g1, g2, g3, g4, g5⟩
theorem Gd.next (h : Gd ar st F L v (r + 1)) {p q : Int} (h1 : Rn ar st v p) (h2 : 1 ≤ c) (h3 : c ≤ 10000) (h4 : (p, c, q) ∈ ar) (h5 : Dst1 ar F r q)
  (hc : ∀ p' c' q', Rn ar st v p' → 1 ≤ c' → (p', c', q') ∈ ar → Dst1 ar F r q' → c ≤ c') : Gd ar st F L (v ++ [c]) r := by
 have hlen := h.len
 refine ⟨by simp; omega, ⟨q, h1.step h2 h3 h4, h5⟩, ?_, ?_⟩
 ·rintro n e ⟨a, g1, g2⟩ hn
  obtain ⟨k1, k2, p', q', k3, k4, k5⟩ := pt_last g2 v c rfl
  have := h.none p' (e + 1) ⟨a, g1, k3⟩ (near_step (.nil _) k1 k2 k4 (near_eps k5 hn))
  omega
 ·intro t ht hm
  rcases h.least t ht hm with e | ⟨i, x, y, e1, e2, e3, e4⟩
  ·have hk : v.length < t.length := by omega
   obtain ⟨m, hF, a, g1, g2⟩ := hm
   have et : t = v ++ t[v.length] :: t.drop (v.length + 1) := by
    have := (List.take_append_drop v.length t).symm
    rw [← e, List.drop_eq_getElem_cons hk] at this
    exact this
   obtain ⟨x, k1, k2⟩ := pt_split g2 et
   obtain ⟨j1, j2, p', q', j3, j4, j5⟩ := pt_first k2 _ _ rfl
   have hp : Rn ar st v p' := Rn.eps ⟨a, g1, k1⟩ j3
   have hq : Near ar F r q' := ⟨_, by rw [List.length_drop]; omega, m, hF, j5⟩
   have hle : c ≤ t[v.length] := hc p' _ q' hp j1 j4 ⟨hq, fun e he g => by
    have := h.none p' (e + 1) hp (near_step (.nil _) j1 j2 j4 g)
    omega⟩
   by_cases hcc : c = t[v.length]
   ·left
    rw [List.length_append, List.length_singleton, List.take_succ_eq_append_getElem hk, ← e, ← hcc]
   ·right
    exact ⟨v.length, c, t[v.length], by rw [List.take_left, ← e], by simp, List.getElem?_eq_getElem hk, by omega⟩
  ·right
   have hi : i < v.length := (List.getElem?_eq_some_iff.1 e2).1
   exact ⟨i, x, y, by rw [List.take_append_of_le_length (by omega)]; exact e1, by rw [List.getElem?_append_left hi]; exact e2, e3, e4⟩
theorem Gd.done (h : Gd ar st F L v 0) : v.length = L ∧ (∃ m, F m ∧ Rn ar st v m) ∧ ∀ t : List Int, t.length = L → (∃ m, F m ∧ Rn ar st t m) → v = t ∨ LtW v t := by
 have hl : v.length = L := by have := h.len; omega
 refine ⟨hl, ?_, fun t ht hm => ?_⟩
 ·obtain ⟨n, h1, ⟨w, hw, m, hF, hp⟩, -⟩ := h.some
  obtain rfl := List.eq_nil_of_length_eq_zero hw
  exact ⟨m, hF, h1.eps hp⟩
 ·rcases h.least t ht hm with e | e
  ·left
   rw [hl, ← ht, List.take_length] at e
   exact e
  ·exact .inr e
end
/-- Accepted: reached from a start state, at a final one. -/
theorem acc_rn {S : Nat} {st : List Int} {fin : List Bool} {ar : List Ac} (h : VN S st fin ar) (word : List Int) : AccP st fin ar word ↔ ∃ m, m ∈ rvS fin S ∧ Rn ar st word m := by
 constructor
 ·rintro ⟨n, h1, h2⟩
  refine ⟨n, (rvS_mem fin S n).2 ⟨n, ?_, rfl, h2⟩, (run_pt word n).1 h1⟩
  rw [← h.fins]
  refine Classical.byContradiction fun g2 => ?_
  rw [List.getElem?_eq_none (by omega)] at h2
  cases h2
 ·rintro ⟨m, h1, h2⟩
  obtain ⟨i, -, rfl, g⟩ := (rvS_mem fin S m).1 h1
  exact ⟨i, (run_pt word i).2 h2, g⟩
/- nfa.Shortest. -/
open Go.RowKit

/-- The least distance of a list of states, or -1. -/
def MnL (dl : List Int) (l : List Int) (c : Int) : Prop := (c = -1 ∧ ∀ n ∈ l, dat dl n = -1) ∨ (0 ≤ c ∧ (∃ n ∈ l, dat dl n = c) ∧ ∀ n ∈ l, dat dl n ≠ -1 → c ≤ dat dl n)
section
variable {dl l : List Int} {c n : Int}
theorem MnL.nil : MnL dl [] (-1) := .inl ⟨rfl, fun _ h => by cases h⟩
theorem mem_snoc {α : Type} {l : List α} {x y : α} (h : y ∈ l ++ [x]) : y ∈ l ∨ y = x := by
 rcases List.mem_append.1 h with h | h
 ·exact .inl h
 ·exact .inr (List.mem_singleton.1 h)
theorem MnL.skip (h : MnL dl l c) (hx : dat dl n = -1) : MnL dl (l ++ [n]) c := by
 rcases h with ⟨h1, h2⟩ | ⟨h1, ⟨y, h2, h3⟩, h4⟩
 ·refine .inl ⟨h1, fun y hy => ?_⟩
  rcases mem_snoc hy with hy | rfl
  ·exact h2 y hy
  ·exact hx
 ·refine .inr ⟨h1, ⟨y, List.mem_append_left _ h2, h3⟩, fun z hz hw => ?_⟩
  rcases mem_snoc hz with hz | rfl
  ·exact h4 z hz hw
  ·exact absurd hx hw
theorem MnL.keep (h : MnL dl l c) (hc : c ≠ -1) (hx : ¬ dat dl n < c) : MnL dl (l ++ [n]) c := by
 rcases h with ⟨h1, h2⟩ | ⟨h1, ⟨y, h2, h3⟩, h4⟩
 ·exact absurd h1 hc
 ·refine .inr ⟨h1, ⟨y, List.mem_append_left _ h2, h3⟩, fun z hz hw => ?_⟩
  rcases mem_snoc hz with hz | rfl
  ·exact h4 z hz hw
  ·omega
theorem MnL.take (h : MnL dl l c) (h0 : 0 ≤ dat dl n) (hx : c = -1 ∨ dat dl n < c) : MnL dl (l ++ [n]) (dat dl n) := by
 refine .inr ⟨h0, ⟨n, by simp, rfl⟩, fun z hz hz2 => ?_⟩
 rcases mem_snoc hz with hz | rfl
 ·rcases h with ⟨g1, g2⟩ | ⟨g1, -, g4⟩
  ·exact absurd (g2 z hz) hz2
  ·have := g4 z hz hz2
   omega
 ·omega
end
/-- The list of distances is right. -/
structure DsOk (S : Nat) (ar : List Ac) (F : Int → Prop) (dl : List Int) : Prop where
 len : dl.length = S
 is : ∀ n : Int, 0 ≤ n → n < (S : Int) → ∀ e : Nat, dat dl n = (e : Int) ↔ Dst1 ar F e n
 neg : ∀ n : Int, 0 ≤ n → n < (S : Int) → dat dl n < 0 → dat dl n = -1
section
variable {S : Nat} {st : List Int} {fin : List Bool} {ar : List Ac} {dl l : List Int} {c : Int} {F : Int → Prop}
theorem DsOk.of (h1 : dl.length = S) (h2 : ∀ (n : Nat) (h : n < dl.length) (e : Nat), dl[n] = (e : Int) ↔ Dst1 ar F e n) (h3 : ∀ (n : Nat) (h : n < dl.length), dl[n] < 0 → dl[n] = -1) : DsOk S ar F dl := by
 have key : ∀ m : Nat, m < dl.length → dat dl (m : Int) = dl[m]! := fun m hm => by simp [dat, hm]
 refine ⟨h1, fun n g0 g1 e => ?_, fun n g0 g1 g2 => ?_⟩
 ·obtain ⟨m, rfl⟩ : ∃ m : Nat, n = m := ⟨n.toNat, by omega⟩
  have hm : m < dl.length := by omega
  rw [← h2 m hm e]
  simp [dat, hm]
 ·obtain ⟨m, rfl⟩ : ∃ m : Nat, n = m := ⟨n.toNat, by omega⟩
  have hm : m < dl.length := by omega
  have := h3 m hm
  simp [dat, hm] at g2 ⊢
  exact this g2
theorem rn_nil (hv : VN S st fin ar) {n : Int} (h : Rn ar st [] n) : 0 ≤ n ∧ n < (S : Int) :=
 Cl.bd hv.va (fun n hn => hv.bds n hn) (pt_nil_cl.2 h)
theorem sh_none (hv : VN S st fin ar) (hd : DsOk S ar (fun x : Int => x ∈ rvS fin S) dl) (hL : ∀ n : Int, n ∈ l ↔ Rn ar st [] n) (hm : ∀ n ∈ l, dat dl n = -1) (t : List Int) : ¬ AccP st fin ar t := fun ht => by
 obtain ⟨a, ha, hn⟩ := (acc_near hv t.length).1 ⟨t, rfl, ht⟩
 obtain ⟨d, -, hd'⟩ := near_least hn
 have hb := hv.bds a ha
 have h1 := (hd.is a hb.1 hb.2 d).2 hd'
 have h2 := hm a ((hL a).2 ⟨a, ha, .nil _⟩)
 omega
theorem sh_start (hv : VN S st fin ar) (hd : DsOk S ar (fun x : Int => x ∈ rvS fin S) dl) (hL : ∀ n : Int, n ∈ l ↔ Rn ar st [] n) (hm : MnL dl l c) (hc : c ≠ -1) :
  ∃ k : Nat, c = (k : Int) ∧ k < max S 1 ∧ Gd ar st (fun x : Int => x ∈ rvS fin S) k [] k ∧ ∀ t, AccP st fin ar t → k ≤ t.length := by
 rcases hm with ⟨h1, -⟩ | ⟨h1, ⟨n, h2, h3⟩, h4⟩
 ·exact absurd h1 hc
 ·obtain ⟨k, rfl⟩ : ∃ k : Nat, c = k := ⟨c.toNat, by omega⟩
  have hr := (hL n).1 h2
  have hb := rn_nil hv hr
  have hdn := (hd.is n hb.1 hb.2 k).1 h3
  have hle : ∀ (n : Int) (e : Nat), Rn ar st [] n → Near ar (fun x : Int => x ∈ rvS fin S) e n → k ≤ e := fun m e g1 g2 => by
   obtain ⟨d, g3, g4⟩ := near_least g2
   have hb2 := rn_nil hv g1
   have g5 := (hd.is m hb2.1 hb2.2 d).2 g4
   have := h4 m ((hL m).2 g1) (by omega)
   omega
  refine ⟨k, rfl, ?_, Gd.start hr hdn.1 hle, fun t ht => ?_⟩
  ·have := dst_lt hv.va hdn hb
   omega
  ·obtain ⟨a, ha, hn⟩ := (acc_near hv t.length).1 ⟨t, rfl, ht⟩
   exact hle a _ ⟨a, ha, .nil _⟩ hn
theorem sh_next {v : List Int} {L r : Nat} (hv : VN S st fin ar) (hd : DsOk S ar F dl) (h : Gd ar st F L v (r + 1)) (hs : ∀ n : Int, n ∈ l ↔ Rn ar st v n) (hl : LeL (fun n => dat dl n = (r : Int)) (lts ar l) c) : Gd ar st F L (v ++ [c]) r := by
 rcases hl with ⟨-, h2⟩ | ⟨h1, ⟨x, h2, h3, rfl⟩, h4⟩
 ·obtain ⟨p, c', q, g1, g2, -, g4, g5⟩ := h.more
  have hb := hv.va.to _ g4
  exact absurd ((hd.is q hb.1 hb.2 r).2 g5) (h2 (p, c', q) ((lts_mem hv.va l _).2 ⟨(hs p).2 g1, g2, g4⟩))
 ·obtain ⟨g1, g2, g3⟩ := (lts_mem hv.va l x).1 h2
  have hb := hv.va.to _ g3
  refine h.next ((hs x.1).1 g1) g2 (hv.va.lt _ g3).2 g3 ((hd.is _ hb.1 hb.2 r).1 h3) fun p' c' q' k1 k2 k3 k4 => ?_
  have hb2 := hv.va.to _ k3
  exact h4 (p', c', q') ((lts_mem hv.va l _).2 ⟨(hs p').2 k1, k2, k3⟩) ((hd.is q' hb2.1 hb2.2 r).2 k4)
/-- The least shortest accepted word. -/
def Best (S : Nat) (st : List Int) (fin : List Bool) (ar : List Ac) (v : List Int) : Prop := AccP st fin ar v ∧ v.length < max S 1 ∧ ∀ t, AccP st fin ar t → v.length < t.length ∨ (v.length = t.length ∧ (v = t ∨ LtW v t))
theorem sh_done {v : List Int} {L : Nat} (hv : VN S st fin ar) (hk : L < max S 1) (hmin : ∀ t, AccP st fin ar t → L ≤ t.length) (h : Gd ar st (fun x : Int => x ∈ rvS fin S) L v 0) : Best S st fin ar v := by
 obtain ⟨h1, h2, h3⟩ := h.done
 refine ⟨(acc_rn hv v).2 h2, by omega, fun t ht => ?_⟩
 have := hmin t ht
 by_cases e : t.length = L
 ·exact .inr ⟨by omega, h3 t e ((acc_rn hv t).1 ht)⟩
 ·exact .inl (by omega)
end
theorem run_rn {ar : List Ac} {st v : List Int} {n : Int} : Run ar (Cl ar (fun x => x ∈ st)) v n ↔ Rn ar st v n := run_pt v n
/-- The value of the box of the rest. -/
def restOf (v : Value) (w : World) : Nat := match v with
 | .pointer (some a) => (intOf ((w.cell? a).getD (.int .i64 0)) + 1).toNat
 | _ => 0
theorem app1G {P : Program} {w : World} {ops : Array Oper} {rest : List Oper} {o : Oper} {a : Act} {Q : Exit → Act → World → Prop} (hgd : o.guard = none) (s x : Operand) (t : TypeId)
  (ho : o.op = .call { callee := .builtin .append, args := #[s, x], argTypes := #[t, t] })
  (e : TypeId) (z : Value) (by_ : Nat) (hinfo : (P.info? e).map (fun i => (i.zero, i.size, i.bytes)) = some (some z, 1, by_)) (hzs : z.cells.size = 1) (ht : P.underlying t = some (.slice e))
  (B : Nat) (v : Value) (n : Nat) (xs : List Value) (hs : a.eval s = v) (hown : w.ownsRow B e 1 v n xs) (c : Value) (hx : a.eval x = .slice (some ⟨w.heap.size, 0, none⟩) 1 1) (h1 : c.oneCell' = true)
  (hr : (n + 1) * by_ ≤ 140737488355328) (hm : n + 1 ≤ 140737488355328) (hB : B ≤ w.heap.size)
  (h : ∀ v' w', w'.ownsRow B e 1 v' (n + 1) (xs ++ [c]) → (w.alloc (.cells #[c] e)).grownBy w' v.ownBlock → wpList P ops Q rest (a.put o.dst v') w') : wpList P ops Q (o :: rest) a (w.alloc (.cells #[c] e)) := by
 obtain ⟨i0, hi, hz0, hz1, hz2⟩ := info_parts hinfo
 refine wpList_append_own _ hgd s x t ho B e i0 z 1 by_ ht hi hz0 hz1 hz2 hzs (by decide) v n xs hs (hown.alloc _) ⟨w.heap.size, 0, none⟩ 1 1 [c] hx rfl ?_ ?_ ?_ hr ?_ ?_
 ·intro j u hj
  match j, hj with
  | 0, hj => simp at hj; subst hj; simp [Addr.add]
 ·intro u hu; simp at hu; subst hu; exact h1
 ·unfold maxLen; omega
 ·simp; omega
 ·intro v' w' hown' hg _
  exact h v' w' hown' hg
def ShP (S : Nat) (st : List Int) (fin : List Bool) (ar : List Ac) (w : World) (e : Ending) (w' : World) : Prop :=
 ∃ (A : Option Addr) (c : Nat) (v : List Int) (k : Int), e = .returned (.tuple #[.slice A v.length c, .int .i64 k]) ∧ Sl iv w' (.slice A v.length c) v ∧ Below w.heap.size w w' ∧ ((k = 8 ∧ v = [] ∧ ∀ t, ¬ AccP st fin ar t) ∨ (k = 0 ∧ Best S st fin ar v))
end Go.Proofs.YtockgbilbnheaaaDoor
