/- Layer 5: plain facts of the subset automaton. -/
import Derived.Test.YtfiekckcgafaoaaDoorNfaCloL
namespace Go.Proofs.YtfiekckcgafaoaaDoor
open Go.RowKit

theorem asc_ex : ∀ l : List Int, ∃ a : List Int, a.Pairwise (· < ·) ∧ ∀ c, c ∈ a ↔ c ∈ l
  | [] => ⟨[], .nil, fun _ => Iff.rfl⟩
  | x :: l => by
    obtain ⟨a, h1, h2⟩ := asc_ex l
    refine ⟨a.filter (fun y => decide (y < x)) ++ x :: a.filter (fun y => decide (x < y)), ?_, fun c => ?_⟩
    · rw [List.pairwise_append]
      refine ⟨h1.filter _, ?_, ?_⟩
      · rw [List.pairwise_cons]
        exact ⟨fun y hy => of_decide_eq_true (List.mem_filter.1 hy).2, h1.filter _⟩
      · intro y hy z hz
        have hy2 : y < x := of_decide_eq_true (List.mem_filter.1 hy).2
        rcases List.mem_cons.1 hz with rfl | hz
        · exact hy2
        · have : x < z := of_decide_eq_true (List.mem_filter.1 hz).2
          omega
    · rw [List.mem_append, List.mem_cons, List.mem_filter, List.mem_filter, decide_eq_true_iff, decide_eq_true_iff, h2, List.mem_cons]
      constructor
      · rintro (h | h | h)
        · exact .inr h.1
        · exact .inl h
        · exact .inr h.1
      · rintro (h | h)
        · exact .inr (.inl h)
        · rcases Int.lt_trichotomy c x with e | e | e
          · exact .inl ⟨h, e⟩
          · exact .inr (.inl e)
          · exact .inr (.inr ⟨h, e⟩)
open Classical in
theorem lets_spec (ar : List Ac) (ws : List Nat) : IsLets ar ws (letsOf ar ws) := by
  have h0 := asc_ex ((ar.filter fun x => decide (Els ws x.1 ∧ 1 ≤ x.2.1)).map fun x => x.2.1)
  obtain ⟨a, h1, h2⟩ := h0
  suffices h : IsLets ar ws a by rw [letsOf_eq h]; exact h
  refine ⟨h1, fun c => (h2 c).trans ?_⟩
  rw [List.mem_map]
  constructor
  · rintro ⟨x, hx, rfl⟩
    obtain ⟨g1, g2⟩ := List.mem_filter.1 hx
    obtain ⟨g3, g4⟩ := of_decide_eq_true g2
    exact ⟨x, g1, g3, g4, rfl⟩
  · rintro ⟨x, g1, g3, g4, rfl⟩
    exact ⟨x, List.mem_filter.2 ⟨g1, decide_eq_true ⟨g3, g4⟩⟩, rfl⟩
theorem lets_iff {S : Nat} {ar : List Ac} (hv : VA S ar) {ws : List Nat} {c : Int} : c ∈ letsOf ar ws ↔ ∃ n, Sp ar (Els ws) c n := by
  rw [(lets_spec ar ws).2 c]
  constructor
  · rintro ⟨x, g1, g2, g3, rfl⟩
    exact ⟨x.2.2, .base ⟨g3, (hv.lt _ g1).2, x.1, g2, g1⟩⟩
  · rintro ⟨n, hn⟩
    unfold Sp at hn
    induction hn with
    | base h =>
      obtain ⟨g1, g2, m, g3, g4⟩ := h
      exact ⟨_, g4, g3, g1, rfl⟩
    | step _ _ ih => exact ih
/-- Arcs in order. -/
def LexA (x y : Ac) : Prop := x.1 < y.1 ∨ x.1 = y.1 ∧ x.2.1 < y.2.1
/-- The subset automaton on its way: all arcs of the sets ahead of f are there, and those of f by the letters done. -/
structure DI (ar : List Ac) (s0 : List Nat) (f : Nat) (done : List Int) (p : List (List Nat) × List Ac) : Prop where
  hd : p.1[0]? = some s0
  arcs : ∀ y ∈ p.2, ∃ (fn xn : Nat) (ws : List Nat), y.1 = (fn : Int) ∧ y.2.2 = (xn : Int) ∧ (fn < f ∨ fn = f ∧ y.2.1 ∈ done) ∧ p.1[fn]? = some ws ∧ p.1[xn]? = some (nx ar ws y.2.1) ∧ y.2.1 ∈ letsOf ar ws
  srt : p.2.Pairwise LexA
  all : ∀ (fn : Nat) (c : Int) (ws : List Nat), p.1[fn]? = some ws → (fn < f ∧ c ∈ letsOf ar ws ∨ fn = f ∧ c ∈ done) → ∃ xn : Nat, ((fn : Int), c, (xn : Int)) ∈ p.2
section
variable {ar : List Ac} {s0 : List Nat} {f : Nat} {done : List Int} {p : List (List Nat) × List Ac} {ws : List Nat} {c : Int}
theorem DI.start : DI ar s0 0 [] ([s0], []) := ⟨rfl, (by intro y hy; cases hy), .nil, fun fn c ws _ h => by
  rcases h with h | h
  · exact absurd h.1 (Nat.not_lt_zero _)
  · cases h.2⟩
theorem DI.next (h : DI ar s0 f (letsOf ar ws) p) (hf : p.1[f]? = some ws) : DI ar s0 (f + 1) [] p := by
  refine ⟨h.hd, fun y hy => ?_, h.srt, fun fn c ws' h1 h2 => ?_⟩
  · obtain ⟨fn, xn, w', g1, g2, g3, g4⟩ := h.arcs y hy
    exact ⟨fn, xn, w', g1, g2, .inl (by omega), g4⟩
  · rcases h2 with ⟨g1, g2⟩ | ⟨_, g2⟩
    · by_cases e : fn = f
      · subst e
        rw [hf] at h1
        cases h1
        exact h.all fn c ws hf (.inr ⟨rfl, g2⟩)
      · exact h.all fn c ws' h1 (.inl ⟨by omega, g2⟩)
    · cases g2
theorem DI.add (h : DI ar s0 f done p) {SS : List (List Nat)} {x : Nat} (hpre : ∀ (i : Nat) v, p.1[i]? = some v → SS[i]? = some v) (hback : ∀ (i : Nat) v, i ≤ f → SS[i]? = some v → p.1[i]? = some v) (hx : SS[x]? = some (nx ar ws c)) (hf : p.1[f]? = some ws) (hc : c ∈ letsOf ar ws) (hd : ∀ d ∈ done, d < c) :
    DI ar s0 f (done ++ [c]) (SS, p.2 ++ [((f : Int), c, (x : Int))]) := by
  refine ⟨hpre _ _ h.hd, fun y hy => ?_, ?_, fun fn d ws' h1 h2 => ?_⟩
  · rcases List.mem_append.1 hy with hy | hy
    · obtain ⟨fn, xn, w', g1, g2, g3, g4, g5, g6⟩ := h.arcs y hy
      refine ⟨fn, xn, w', g1, g2, g3.imp id fun g => ⟨g.1, List.mem_append_left _ g.2⟩, hpre _ _ g4, hpre _ _ g5, g6⟩
    · rw [List.mem_singleton.1 hy]
      exact ⟨f, x, ws, rfl, rfl, .inr ⟨rfl, by simp⟩, hpre _ _ hf, hx, hc⟩
  · rw [List.pairwise_append]
    refine ⟨h.srt, List.pairwise_singleton _ _, fun y hy z hz => ?_⟩
    rw [List.mem_singleton.1 hz]
    obtain ⟨fn, xn, w', g1, g2, g3, _⟩ := h.arcs y hy
    rcases g3 with g3 | ⟨g3, g4⟩
    · exact .inl (by show y.1 < (f : Int); omega)
    · exact .inr ⟨by show y.1 = (f : Int); omega, hd _ g4⟩
  · have hle : fn ≤ f := by omega
    rcases h2 with h2 | ⟨h2, h3⟩
    · obtain ⟨xn, hxn⟩ := h.all fn d ws' (hback _ _ hle h1) (.inl h2)
      exact ⟨xn, List.mem_append_left _ hxn⟩
    · rcases List.mem_append.1 h3 with h3 | h3
      · obtain ⟨xn, hxn⟩ := h.all fn d ws' (hback _ _ hle h1) (.inr ⟨h2, h3⟩)
        exact ⟨xn, List.mem_append_left _ hxn⟩
      · rw [List.mem_singleton.1 h3, h2]
        exact ⟨x, List.mem_append_right _ (by simp)⟩
theorem DI.step (h : DI ar s0 f done p) (hf : p.1[f]? = some ws) (hc : c ∈ letsOf ar ws) (hd : ∀ d ∈ done, d < c) : DI ar s0 f (done ++ [c]) (dst1 ar f ws p c) ∧ (dst1 ar f ws p c).1[f]? = some ws := by
  obtain ⟨SS, A⟩ := p
  have hfl := (List.getElem?_eq_some_iff.1 hf).1
  by_cases hm : nx ar ws c ∈ SS
  · rw [dst1_known rfl hm]
    exact ⟨h.add (fun _ _ h => h) (fun _ _ _ h => h) (by
      have hlt := List.idxOf_lt_length_of_mem hm
      rw [List.getElem?_eq_getElem hlt, List.getElem_idxOf hlt]) hf hc hd, hf⟩
  · rw [dst1_new rfl hm]
    exact ⟨h.add (fun i v hv => by
        have := (List.getElem?_eq_some_iff.1 hv).1
        rw [List.getElem?_append_left this]; exact hv) (fun i v hi hv => by
        rwa [List.getElem?_append_left (Nat.lt_of_le_of_lt hi hfl)] at hv) (by rw [List.getElem?_concat_length]) hf hc hd, by
      show (SS ++ [nx ar ws c])[f]? = some ws
      rw [List.getElem?_append_left hfl]; exact hf⟩
theorem DI.fold : ∀ (ls done : List Int) (p : List (List Nat) × List Ac), DI ar s0 f done p → p.1[f]? = some ws → (∀ c ∈ ls, c ∈ letsOf ar ws) → (done ++ ls).Pairwise (· < ·) →
    DI ar s0 f (done ++ ls) (ls.foldl (dst1 ar f ws) p) ∧ (ls.foldl (dst1 ar f ws) p).1[f]? = some ws
  | [], done, p, h, hf, _, _ => by rw [List.append_nil]; exact ⟨h, hf⟩
  | c :: ls, done, p, h, hf, hl, hp => by
    have hd : ∀ d ∈ done, d < c := fun d hd => (List.pairwise_append.1 hp).2.2 d hd c (by simp)
    obtain ⟨h1, h2⟩ := h.step hf (hl c (by simp)) hd
    have := DI.fold ls (done ++ [c]) _ h1 h2 (fun d hd => hl d (by simp [hd])) (by rw [List.append_assoc]; exact hp)
    rwa [List.append_assoc] at this
theorem dget_di (ar : List Ac) (s0 : List Nat) : ∀ k, (∀ i, i < k → i < (dget ar s0 i).1.length) → DI ar s0 k [] (dget ar s0 k)
  | 0, _ => DI.start
  | k + 1, hk => by
    have ih := dget_di ar s0 k fun i hi => hk i (by omega)
    have hlt := hk k (by omega)
    show DI ar s0 (k + 1) [] (drow ar (dget ar s0 k) k)
    generalize dget ar s0 k = p at *
    have hf : p.1[k]? = some p.1[k] := List.getElem?_eq_getElem hlt
    unfold drow
    rw [hf]
    show DI ar s0 (k + 1) [] ((letsOf ar p.1[k]).foldl (dst1 ar k p.1[k]) p)
    obtain ⟨h1, h2⟩ := DI.fold (letsOf ar p.1[k]) [] p ih hf (fun _ h => h) (lets_spec _ _).1
    exact DI.next h1 h2
end
section
variable {S : Nat} {ar : List Ac} {s0 : List Nat} {SS : List (List Nat)} {A : List Ac}
theorem DI.arc (h : DI ar s0 SS.length [] (SS, A)) (i : Nat) (hi : i < A.length) : 0 ≤ A[i].1 ∧ A[i].1 < (SS.length : Int) ∧ 0 ≤ A[i].2.2 ∧ A[i].2.2 < (SS.length : Int) := by
  obtain ⟨fn, xn, ws, g1, g2, g3, g4, g5, _⟩ := h.arcs A[i] (List.getElem_mem hi)
  have h1 := (List.getElem?_eq_some_iff.1 g4).1
  have h2 := (List.getElem?_eq_some_iff.1 g5).1
  dsimp only at h1 h2
  omega
theorem DI.lex (h : DI ar s0 SS.length [] (SS, A)) (i : Nat) (hi : i + 1 < A.length) : LexA A[i] A[i + 1] := List.pairwise_iff_getElem.1 h.srt i (i + 1) (Nat.lt_of_succ_lt hi) hi (by omega)
theorem slen_no {ws : List Nat} : slen ws = 0 ↔ ∀ n, has ws n = false := by
  rw [slen_els, List.length_eq_zero_iff]
  constructor
  · intro h n
    cases hn : has ws n with
    | false => rfl
    | true =>
      have := (mem_els ws n).2 hn
      rw [h] at this; cases this
  · intro h
    cases e : els ws with
    | nil => rfl
    | cons n l =>
      have := (mem_els ws n).1 (by rw [e]; simp)
      rw [h n] at this; cases this
/-- What the search of an arc finds. -/
def Fnd (A : List Ac) (lost : Bool) (at_ c : Int) (i : Nat) (to : Int) : Prop := (to = -1 ∧ ∀ y ∈ A.take i, lost = true ∨ ¬ (y.1 = at_ ∧ y.2.1 = c)) ∨ (lost = false ∧ ∃ y ∈ A.take i, y.1 = at_ ∧ y.2.1 = c ∧ y.2.2 = to)
theorem Fnd.start (A : List Ac) (lost : Bool) (at_ c : Int) : Fnd A lost at_ c 0 (-1) := .inl ⟨rfl, by intro y hy; simp at hy⟩
theorem Fnd.hit {A : List Ac} {at_ c : Int} {i : Nat} (hi : i < A.length) (h1 : A[i].1 = at_) (h2 : A[i].2.1 = c) : Fnd A false at_ c (i + 1) A[i].2.2 :=
  .inr ⟨rfl, A[i], by rw [List.take_succ_eq_append_getElem hi]; exact List.mem_append_right _ (List.mem_singleton.2 rfl), h1, h2, rfl⟩
theorem Fnd.miss {A : List Ac} {lost : Bool} {at_ c to : Int} {i : Nat} (h : Fnd A lost at_ c i to) (hi : i < A.length) (hn : lost = true ∨ ¬ (A[i].1 = at_ ∧ A[i].2.1 = c)) : Fnd A lost at_ c (i + 1) to := by
  have e := List.take_succ_eq_append_getElem hi
  rcases h with ⟨h1, h2⟩ | ⟨h1, y, h2, h3⟩
  · refine .inl ⟨h1, fun y hy => ?_⟩
    rw [e] at hy
    rcases List.mem_append.1 hy with hy | hy
    · exact h2 y hy
    · rw [List.mem_singleton.1 hy]; exact hn
  · exact .inr ⟨h1, y, by rw [e]; exact List.mem_append_left _ h2, h3⟩
/-- Where the word stands: lost, or in the set of the state. -/
def At (SS : List (List Nat)) (wn : List Nat) (lost : Bool) (at_ : Nat) : Prop := (lost = false ∧ SS[at_]? = some wn) ∨ (lost = true ∧ ∀ n, has wn n = false)
theorem at_next (hv : VA S ar) (h : DI ar s0 SS.length [] (SS, A)) {wn nw : List Nat} {lost : Bool} {at_ : Nat} {c to : Int} (ha : At SS wn lost at_) (hw : WdsOf nw (fun n => Sp ar (Els wn) c n)) (hf : Fnd A lost at_ c A.length to) :
    (to = -1 ∧ slen nw = 0 ∧ At SS nw true 0) ∨ ∃ xn : Nat, to = (xn : Int) ∧ slen nw ≠ 0 ∧ SS[xn]? = some nw := by
  unfold Fnd at hf
  rw [List.take_length] at hf
  have hnx : nx ar wn c = nw := wordsOf_eq hw
  rcases ha with ⟨rfl, hat⟩ | ⟨rfl, hno⟩
  · rcases hf with ⟨h1, h2⟩ | ⟨_, y, h2, h3, h4, h5⟩
    · have hz : ∀ n, has nw n = false := fun n => by
        cases hn : has nw n with
        | false => rfl
        | true =>
          have hl := (lets_iff hv).2 ⟨_, (hw.has n).1 hn⟩
          obtain ⟨xn, hx⟩ := h.all at_ c wn hat (.inl ⟨(List.getElem?_eq_some_iff.1 hat).1, hl⟩)
          rcases h2 _ hx with g | g
          · cases g
          · exact absurd ⟨rfl, rfl⟩ g
      exact .inl ⟨h1, slen_no.2 hz, .inr ⟨rfl, hz⟩⟩
    · obtain ⟨fn, xn, ws, g1, g2, _, g4, g5, g6⟩ := h.arcs y h2
      have e : fn = at_ := by omega
      subst e
      dsimp only at g4 g5
      rw [hat] at g4
      cases g4
      rw [h4] at g5 g6
      rw [hnx] at g5
      refine .inr ⟨xn, by omega, fun hz => ?_, g5⟩
      obtain ⟨n, hn⟩ := (lets_iff hv).1 g6
      obtain ⟨k, rfl⟩ : ∃ k : Nat, n = k := ⟨n.toNat, by have := (Sp.bd hv hn).1; omega⟩
      have := slen_no.1 hz k
      rw [(hw.has k).2 hn] at this; cases this
  · rcases hf with ⟨h1, _⟩ | ⟨h1, _⟩
    · have hz : ∀ n, has nw n = false := fun n => by
        cases hn : has nw n with
        | false => rfl
        | true =>
          have hl := (lets_iff hv).2 ⟨_, (hw.has n).1 hn⟩
          obtain ⟨x, _, ⟨k, _, hk⟩, _⟩ := ((lets_spec ar wn).2 c).1 hl
          rw [hno k] at hk; cases hk
      exact .inl ⟨h1, slen_no.2 hz, .inr ⟨rfl, hz⟩⟩
    · cases h1
theorem run_closed {Q : Int → Prop} (word : List Int) (x : Int) : Cl ar (Run ar (Cl ar Q) word) x ↔ Run ar (Cl ar Q) word x := by
  rcases List.eq_nil_or_concat word with rfl | ⟨l, c, rfl⟩
  · exact Cl.idem
  · unfold Run
    rw [List.concat_eq_append, List.foldl_append]
    exact Cl.idem
theorem run_next {Q : Int → Prop} {word : List Int} {i : Nat} (hi : i < word.length) (x : Int) : Run ar Q (word.take (i + 1)) x ↔ Sp ar (Run ar Q (word.take i)) word[i] x := by
  unfold Run
  rw [List.take_succ_eq_append_getElem hi, List.foldl_append]
  exact Iff.rfl
theorem run_bd {S : Nat} {ar : List Ac} {st : List Int} (hv : VA S ar) (hst : ∀ x ∈ st, 0 ≤ x ∧ x < (S : Int)) (word : List Int) {x : Int} (h : Run ar (Cl ar (fun x => x ∈ st)) word x) : 0 ≤ x ∧ x < (S : Int) := by
  rcases List.eq_nil_or_concat word with rfl | ⟨l, c, rfl⟩
  · exact Cl.bd hv hst h
  · unfold Run at h
    rw [List.concat_eq_append, List.foldl_append] at h
    exact Sp.bd hv h
/-- The list of a set behind a word is closed. -/
theorem els_run {S : Nat} {ar : List Ac} {st word : List Int} {w : World} {v : Value} {wn : List Nat} (hv : VA S ar) (hst : ∀ x ∈ st, 0 ≤ x ∧ x < (S : Int)) (h : SetIs w v wn (fun n => Run ar (Cl ar (fun x => x ∈ st)) word n)) (x : Int) : Cl ar (fun x => x ∈ elsI wn) x ↔ Els wn x := by
  have he : ∀ x, Els wn x ↔ Run ar (Cl ar (fun x => x ∈ st)) word x := fun x => h.els (P := fun x => Run ar (Cl ar (fun x => x ∈ st)) word x) (fun z hz => (run_bd hv hst word hz).1) x
  rw [Cl.congr (fun x => elsI_mem.trans (he x)), run_closed, he]
theorem step_words {S : Nat} {ar : List Ac} {st word : List Int} {w w' : World} {v v' : Value} {wn nw : List Nat} {i : Nat} {c : Int} (hv : VA S ar) (hst : ∀ x ∈ st, 0 ≤ x ∧ x < (S : Int)) (hi : i < word.length) (hc : c = word[i]) (h : SetIs w v wn (fun n => Run ar (Cl ar (fun x => x ∈ st)) (word.take i) n)) (h2 : SetIs w' v' nw (fun m => Sp ar (Cl ar (fun x => x ∈ elsI wn)) c m)) :
    WdsOf nw (fun n => Sp ar (Els wn) c n) ∧ SetIs w' v' nw (fun n => Run ar (Cl ar (fun x => x ∈ st)) (word.take (i + 1)) n) := by
  have he : ∀ x, Els wn x ↔ Run ar (Cl ar (fun x => x ∈ st)) (word.take i) x := fun x => h.els (P := fun x => Run ar (Cl ar (fun x => x ∈ st)) (word.take i) x) (fun z hz => (run_bd hv hst _ hz).1) x
  have h3 : ∀ m : Nat, Sp ar (Cl ar (fun x => x ∈ elsI wn)) c m ↔ Sp ar (Els wn) c m := fun m => Sp.congr (els_run hv hst h)
  refine ⟨(h2.congr h3).of, h2.congr fun m => (h3 m).trans ?_⟩
  rw [run_next hi, ← hc]
  exact Sp.congr he
theorem fin_has {fin : List Bool} {ws : List Nat} : FinB fin ws = true ↔ ∃ n, has ws n = true ∧ fin[n]?.getD false = true := by
  unfold FinB
  rw [List.any_eq_true]
  constructor
  · rintro ⟨n, h1, h2⟩; exact ⟨n, (mem_els ws n).1 h1, h2⟩
  · rintro ⟨n, h1, h2⟩; exact ⟨n, (mem_els ws n).2 h1, h2⟩
end
end Go.Proofs.YtfiekckcgafaoaaDoor
