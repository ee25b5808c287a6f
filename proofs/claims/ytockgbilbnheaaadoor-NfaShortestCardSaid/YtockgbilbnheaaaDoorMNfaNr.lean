/- How near a state is to a final one, by layers of the reversal: plain facts. -/
import Derived.Test.YtockgbilbnheaaaDoorNfaRp
import Derived.Test.YtockgbilbnheaaaDoorNfaStw
namespace Go.Proofs.YtockgbilbnheaaaDoor
/- How near a state is to a final one, by layers of the reversal: plain facts. -/
open Go.RowKit

section
variable {ar br : List Ac} {a b n : Int} {w : List Int} {F : Int → Prop} {d : Nat}
theorem pt_first (h : Pt ar a w b) : ∀ (c : Int) (v : List Int), w = c :: v → 1 ≤ c ∧ c ≤ 10000 ∧ ∃ p q, Pt ar a [] p ∧ (p, c, q) ∈ ar ∧ Pt ar q v b := by
  induction h with
  | nil => intro c v e; cases e
  | eps h1 he ih =>
    intro c v e
    obtain ⟨g1, g2, p, q, g3, g4, g5⟩ := ih c v e
    exact ⟨g1, g2, p, q, g3, g4, .eps g5 he⟩
  | @step b d c' w h1 h2 h3 h4 ih =>
    intro c v e
    cases w with
    | nil =>
      simp only [List.nil_append, List.cons.injEq] at e
      obtain ⟨rfl, rfl⟩ := e
      exact ⟨h2, h3, _, _, h1, h4, .nil _⟩
    | cons x w =>
      simp only [List.cons_append, List.cons.injEq] at e
      obtain ⟨rfl, rfl⟩ := e
      obtain ⟨g1, g2, p, q, g3, g4, g5⟩ := ih x w rfl
      exact ⟨g1, g2, p, q, g3, g4, .step g5 h2 h3 h4⟩
/-- A word of d letters leads from n to a state of F. -/
def Near (ar : List Ac) (F : Int → Prop) (d : Nat) (n : Int) : Prop := ∃ w : List Int, w.length = d ∧ ∃ m, F m ∧ Pt ar n w m
/-- The shortest such word has d letters. -/
def Dst1 (ar : List Ac) (F : Int → Prop) (d : Nat) (n : Int) : Prop := Near ar F d n ∧ ∀ d', d' < d → ¬ Near ar F d' n
theorem near_first (h : Near ar F (d + 1) n) : ∃ p c q, Pt ar n [] p ∧ 1 ≤ c ∧ c ≤ 10000 ∧ (p, c, q) ∈ ar ∧ Near ar F d q := by
  obtain ⟨w, hw, m, hm, hp⟩ := h
  cases w with
  | nil => cases hw
  | cons c v =>
    obtain ⟨h1, h2, p, q, h3, h4, h5⟩ := pt_first hp c v rfl
    exact ⟨p, c, q, h3, h1, h2, h4, v, by simpa using hw, m, hm, h5⟩
theorem near_step {p c q : Int} (h1 : Pt ar n [] p) (h2 : 1 ≤ c) (h3 : c ≤ 10000) (h4 : (p, c, q) ∈ ar) (h : Near ar F d q) : Near ar F (d + 1) n := by
  obtain ⟨w, hw, m, hm, hp⟩ := h
  exact ⟨_, by simp [hw], m, hm, pt_app (Pt.step h1 h2 h3 h4) hp⟩
theorem near_eps {p : Int} (h1 : Pt ar n [] p) (h : Near ar F d p) : Near ar F d n := by
  obtain ⟨w, hw, m, hm, hp⟩ := h
  exact ⟨_, by simpa using hw, m, hm, pt_app h1 hp⟩
theorem near_least (h : Near ar F d n) : ∃ d', d' ≤ d ∧ Dst1 ar F d' n := by
  induction d using Nat.strongRecOn with
  | _ d ih =>
    by_cases h2 : ∃ d', d' < d ∧ Near ar F d' n
    · obtain ⟨d', h3, h4⟩ := h2
      obtain ⟨e, h5, h6⟩ := ih d' h3 h4
      exact ⟨e, by omega, h6⟩
    · exact ⟨d, Nat.le_refl _, h, fun d' h3 h4 => h2 ⟨d', h3, h4⟩⟩
theorem Dst1.uniq {e : Nat} (h : Dst1 ar F d n) (k : Dst1 ar F e n) : d = e := by
  rcases Nat.lt_trichotomy d e with g | g | g
  · exact absurd h.1 (k.2 d g)
  · exact g
  · exact absurd k.1 (h.2 e g)
theorem dst_prev (h : Dst1 ar F (d + 1) n) : ∃ p c q, Pt ar n [] p ∧ 1 ≤ c ∧ c ≤ 10000 ∧ (p, c, q) ∈ ar ∧ Dst1 ar F d q := by
  obtain ⟨p, c, q, h1, h2, h3, h4, h5⟩ := near_first h.1
  exact ⟨p, c, q, h1, h2, h3, h4, h5, fun d' g1 g2 => h.2 (d' + 1) (by omega) (near_step h1 h2 h3 h4 g2)⟩
theorem dst_end (h : ∀ x, ¬ Dst1 ar F d x) : ∀ e, d ≤ e → ∀ x, ¬ Dst1 ar F e x := by
  intro e
  induction e with
  | zero => intro hd x hx; obtain rfl : d = 0 := by omega
            exact h x hx
  | succ e ih =>
    intro hd x hx
    by_cases g : d = e + 1
    · subst g; exact h x hx
    · obtain ⟨p, c, q, -, -, -, -, hq⟩ := dst_prev hx
      exact ih (by omega) q hq
end
section
variable {ar br : List Ac} {n : Int} {l st : List Int} {d : Nat}
theorem pt_turn (hr : ∀ x y z, (x, y, z) ∈ ar ↔ (z, y, x) ∈ br) {a b : Int} : Pt br a [] b ↔ Pt ar b [] a :=
  ⟨fun h => by simpa using pt_rev (ar := br) (br := ar) (fun x y z => (hr z y x).2) h, fun h => by simpa using pt_rev (ar := ar) (br := br) (fun x y z => (hr x y z).1) h⟩
/-- The first layer. -/
theorem layer0 (hr : ∀ x y z, (x, y, z) ∈ ar ↔ (z, y, x) ∈ br) : Cl br (fun x => x ∈ st) n ↔ Dst1 ar (fun x => x ∈ st) 0 n := by
  rw [pt_nil_cl]
  constructor
  · rintro ⟨a, h1, h2⟩
    exact ⟨⟨[], rfl, a, h1, (pt_turn hr).1 h2⟩, fun d' h => by omega⟩
  · rintro ⟨⟨w, hw, m, hm, hp⟩, -⟩
    obtain rfl := List.eq_nil_of_length_eq_zero hw
    exact ⟨m, hm, (pt_turn hr).2 hp⟩
/-- The next one. -/
theorem layer_next (hr : ∀ x y z, (x, y, z) ∈ ar ↔ (z, y, x) ∈ br) (hb : ∀ x ∈ br, x.2.1 ≤ 10000) (hl : ∀ x, x ∈ l ↔ ∃ p c, Dst1 ar (fun x => x ∈ st) d p ∧ 1 ≤ c ∧ (p, c, x) ∈ br) :
    (Cl br (fun x => x ∈ l) n ∧ ∀ e, e ≤ d → ¬ Dst1 ar (fun x => x ∈ st) e n) ↔ Dst1 ar (fun x => x ∈ st) (d + 1) n := by
  rw [pt_nil_cl]
  constructor
  · rintro ⟨⟨x, hx, h2⟩, h3⟩
    obtain ⟨p, c, g1, g2, g3⟩ := (hl x).1 hx
    refine ⟨near_step ((pt_turn hr).1 h2) g2 (hb _ g3) ((hr x c p).2 g3) g1.1, fun e he hn => ?_⟩
    obtain ⟨e', k1, k2⟩ := near_least hn
    exact h3 e' (by omega) k2
  · intro h
    obtain ⟨p, c, q, h1, h2, h3, h4, h5⟩ := dst_prev h
    exact ⟨⟨p, (hl p).2 ⟨q, c, h5, h2, (hr p c q).1 h4⟩, (pt_turn hr).2 h1⟩, fun e he hn => by have := h.uniq hn; omega⟩
/-- An accepted word is one that leads from a start state to a final one. -/
theorem acc_near {S : Nat} {fin : List Bool} (h : VN S st fin ar) (k : Nat) : (∃ word : List Int, word.length = k ∧ AccP st fin ar word) ↔ ∃ a, a ∈ st ∧ Near ar (fun x => x ∈ rvS fin S) k a := by
  have key : ∀ m : Nat, m ∈ (rvS fin S).map Int.toNat ↔ fin[m]?.getD false = true := fun m => by
    rw [List.mem_map]
    constructor
    · rintro ⟨x, hx, rfl⟩
      obtain ⟨i, -, rfl, g⟩ := (rvS_mem fin S x).1 hx
      exact g
    · intro g
      refine ⟨m, (rvS_mem fin S m).2 ⟨m, ?_, rfl, g⟩, rfl⟩
      rw [← h.fins]
      refine Classical.byContradiction fun g2 => ?_
      rw [List.getElem?_eq_none (by omega)] at g
      cases g
  constructor
  · rintro ⟨word, hw, n, h1, h2⟩
    obtain ⟨a, g1, g2⟩ := (run_pt word n).1 h1
    obtain ⟨x, hx, hxn⟩ := List.mem_map.1 ((key n).2 h2)
    obtain ⟨i, -, rfl, -⟩ := (rvS_mem fin S x).1 hx
    simp only [Int.toNat_natCast] at hxn
    subst hxn
    exact ⟨a, g1, word, hw, _, hx, g2⟩
  · rintro ⟨a, g1, word, hw, m, hm, g2⟩
    obtain ⟨i, -, rfl, g3⟩ := (rvS_mem fin S m).1 hm
    exact ⟨word, hw, i, (run_pt word i).2 ⟨a, g1, g2⟩, g3⟩
end
/- Layers of states: sets less what was seen, and the list of what lies ahead. Of no function. -/
open Go.RowKit

theorem has_andn (a b : List Nat) (n : Nat) : has (setop andn a b) n = (has a n && !has b n) := by
 unfold has
 rw [wat_setop (by rfl), andn_bit]
theorem minus_setis {w : World} {v7 : Value} {a b : List Nat} {P Q : Nat → Prop} {B : Nat} (ho : Own B w v7 (setop andn a b)) (ha : Wds a) (hb : Wds b) (hp : ∀ n, has a n = true ↔ P n) (hq : ∀ n, has b n = true ↔ Q n) : SetIs w v7 (setop andn a b) (fun n => P n ∧ ¬ Q n) :=
 ⟨Wst.of_Own ho, setop_canon _ _ _, setop_wds andn_u64 ha hb, setop_len _ _ _, fun n => by
  rw [has_andn, Bool.and_eq_true, hp, Bool.not_eq_true', ← Bool.not_eq_true, hq]⟩
/-- What lies ahead of the states of a list: where their arcs with a letter lead. -/
def ahd (ar : List Ac) (l : List Int) : List Int := l.flatMap fun n => (btw ar (n, 1, 0) (n + 1, 0, 0)).map fun x => x.2.2
theorem ahd_next (ar : List Ac) (l : List Int) (n : Int) : ahd ar (l ++ [n]) = ahd ar l ++ (btw ar (n, 1, 0) (n + 1, 0, 0)).map fun x => x.2.2 := by simp [ahd]
theorem ahd_mem {S : Nat} {ar : List Ac} (h : VA S ar) (l : List Int) (x : Int) : x ∈ ahd ar l ↔ ∃ p c, p ∈ l ∧ 1 ≤ c ∧ (p, c, x) ∈ ar := by
 unfold ahd
 rw [List.mem_flatMap]
 constructor
 ·rintro ⟨p, h1, h2⟩
  obtain ⟨y, h3, rfl⟩ := List.mem_map.1 h2
  obtain ⟨h4, h5, h6⟩ := (lettered_mem h).1 h3
  obtain ⟨y0, y1, y2⟩ := y
  dsimp only at h4 h5 h6
  subst h5
  exact ⟨y0, y1, h1, h6, h4⟩
 ·rintro ⟨p, c, h1, h2, h3⟩
  exact ⟨p, h1, List.mem_map.2 ⟨(p, c, x), (lettered_mem h).2 ⟨h3, rfl, h2⟩, rfl⟩⟩
theorem ahd_bd {S : Nat} {ar : List Ac} (h : VA S ar) (l : List Int) : ∀ x ∈ ahd ar l, 0 ≤ x ∧ x < (S : Int) := fun x hx => by
 obtain ⟨p, c, -, -, h1⟩ := (ahd_mem h l x).1 hx
 exact h.to _ h1
theorem btw_le (l : List Ac) (p q : Ac) : (btw l p q).length ≤ l.length := by
 unfold btw
 simp
 omega
theorem ahd_len {S : Nat} {ar : List Ac} (h : VA S ar) (l : List Int) : (ahd ar l).length ≤ l.length * 2000 := by
 have hf := h.few
 induction l with
 | nil => simp [ahd]
 | cons n l ih =>
  have e : ahd ar (n :: l) = (btw ar (n, 1, 0) (n + 1, 0, 0)).map (fun x => x.2.2) ++ ahd ar l := by simp [ahd]
  have := btw_le ar (n, 1, 0) (n + 1, 0, 0)
  rw [e, List.length_append, List.length_map, List.length_cons]
  omega
theorem dst_list {S : Nat} {ar : List Ac} {F : Int → Prop} (hv : VA S ar) : ∀ {d : Nat} {n : Int}, Dst1 ar F d n → 0 ≤ n ∧ n < (S : Int) → ∃ l : List Int, l.length = d + 1 ∧ l.Nodup ∧ ∀ x ∈ l, (0 ≤ x ∧ x < (S : Int)) ∧ ∃ e, e ≤ d ∧ Dst1 ar F e x := by
 intro d
 induction d with
 | zero => exact fun {n} h hn => ⟨[n], rfl, by simp, fun x hx => by obtain rfl := List.mem_singleton.1 hx; exact ⟨hn, 0, Nat.le_refl _, h⟩⟩
 | succ d ih =>
  intro n h hn
  obtain ⟨p, c, q, h1, h2, h3, h4, h5⟩ := dst_prev h
  obtain ⟨l, g1, g2, g3⟩ := ih h5 (hv.to _ h4)
  refine ⟨n :: l, by simp [g1], List.nodup_cons.2 ⟨fun hm => ?_, g2⟩, fun x hx => ?_⟩
  ·obtain ⟨-, e, he, k⟩ := g3 n hm
   have := h.uniq k
   omega
  ·rcases List.mem_cons.1 hx with rfl | hx
   ·exact ⟨hn, d + 1, Nat.le_refl _, h⟩
   ·obtain ⟨k1, e, k2, k3⟩ := g3 x hx
    exact ⟨k1, e, by omega, k3⟩
theorem dst_lt {S : Nat} {ar : List Ac} {F : Int → Prop} (hv : VA S ar) {d : Nat} {n : Int} (h : Dst1 ar F d n) (hn : 0 ≤ n ∧ n < (S : Int)) : d < S := by
 obtain ⟨l, h1, h2, h3⟩ := dst_list hv h hn
 have := nodup_len h2 fun x hx => (h3 x hx).1
 omega
/-- What the list of distances holds when the layers below d are done, and of layer d the states of p. -/
structure DlI (ar : List Ac) (F : Int → Prop) (S d : Nat) (p : List Int) (dl : List Int) : Prop where
 len : dl.length = S
 none : ∀ (n : Nat) (h : n < dl.length), dl[n] < 0 → dl[n] = -1
 is : ∀ (n : Nat) (h : n < dl.length) (e : Nat), dl[n] = (e : Int) ↔ (e < d ∧ Dst1 ar F e n ∨ e = d ∧ (n : Int) ∈ p)
theorem DlI.start {ar : List Ac} {F : Int → Prop} {S : Nat} : DlI ar F S 0 [] (List.replicate S (-1)) :=
 ⟨by simp, fun n h _ => by simp, fun n h e => by simp⟩
theorem DlI.set {ar : List Ac} {F : Int → Prop} {S d : Nat} {p dl : List Int} (h : DlI ar F S d p dl) (k : Nat) (hk : Dst1 ar F d k) : DlI ar F S d (p ++ [(k : Int)]) (dl.set k (d : Int)) := by
 refine ⟨by simp [h.len], fun n hn hl => ?_, fun n hn e => ?_⟩
 ·rw [List.getElem_set] at hl ⊢
  split at hl
  ·omega
  ·rename_i g
   rw [if_neg g]
   exact h.none n (by simpa using hn) hl
 ·rw [List.getElem_set]
  have hn2 : n < dl.length := by simpa using hn
  split
  ·rename_i g
   subst g
   constructor
   ·intro he
    exact .inr ⟨by omega, by simp⟩
   ·rintro (⟨h1, h2⟩ | ⟨h1, -⟩)
    ·have := h2.uniq hk; omega
    ·omega
  ·rename_i g
   rw [h.is n hn2 e]
   simp only [List.mem_append, List.mem_singleton]
   constructor
   ·rintro (h1 | ⟨h1, h2⟩)
    ·exact .inl h1
    ·exact .inr ⟨h1, .inl h2⟩
   ·rintro (h1 | ⟨h1, h2 | h2⟩)
    ·exact .inl h1
    ·exact .inr ⟨h1, h2⟩
    ·omega
theorem DlI.next {ar : List Ac} {F : Int → Prop} {S d : Nat} {p dl : List Int} (h : DlI ar F S d p dl) (hp : ∀ n : Int, n ∈ p ↔ Dst1 ar F d n) : DlI ar F S (d + 1) [] dl :=
 ⟨h.len, h.none, fun n hn e => by
  rw [h.is n hn e, hp]
  constructor
  ·rintro (⟨h1, h2⟩ | ⟨rfl, h2⟩)
   ·exact .inl ⟨by omega, h2⟩
   ·exact .inl ⟨by omega, h2⟩
  ·rintro (⟨h1, h2⟩ | ⟨_, h2⟩)
   ·by_cases g : e = d
    ·subst g; exact .inr ⟨rfl, h2⟩
    ·exact .inl ⟨by omega, h2⟩
   ·cases h2⟩
theorem DlI.done {ar : List Ac} {F : Int → Prop} {S d : Nat} {dl : List Int} (h : DlI ar F S d [] dl) (he : ∀ x, ¬ Dst1 ar F d x) (n : Nat) (hn : n < dl.length) (e : Nat) : dl[n] = (e : Int) ↔ Dst1 ar F e n := by
 rw [h.is n hn e]
 constructor
 ·rintro (⟨_, h2⟩ | ⟨_, h2⟩)
  ·exact h2
  ·cases h2
 ·intro g
  refine .inl ⟨Classical.byContradiction fun k => dst_end he e (by omega) n g, g⟩
end Go.Proofs.YtockgbilbnheaaaDoor
