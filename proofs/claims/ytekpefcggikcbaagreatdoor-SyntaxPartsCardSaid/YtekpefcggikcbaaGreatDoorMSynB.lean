/- Layer 10: boxes (structs in memory of their own), and words, path, signed, added. -/
import Derived.Test.YtekpefcggikcbaaGreatDoorMSynQ
import Derived.Test.YtekpefcggikcbaaGreatDoorMLayLex
import Derived.Lib.Join
import Derived.Shelf.Abstract
import Derived.Deep.RegionWith
namespace Go.Proofs.YtekpefcggikcbaaGreatDoor
/- Layer 10: boxes (structs in memory of their own), and words, path, signed, added. -/
open Go.RowKit

theorem size_alloc (w : World) (o : Obj) : (w.alloc o).heap.size = w.heap.size + 1 := by simp
theorem size_set (w : World) (a : Addr) (v : Value) : (w.setCell a v).heap.size = w.heap.size := by simp [World.setCell]
/-- Block b holds the cells cs of a struct. -/
def Bx (w : World) (b : Nat) (T : TypeId) (cs : Array Value) : Prop := w.heap[b]? = some (.cells cs T (0, 0))
section
variable {w w' : World} {b T g E : Nat} {cs : Array Value} {s : St}
theorem Bx.new (w : World) (T : TypeId) (cs : Array Value) : Bx (w.alloc (.cells cs T)) w.heap.size T cs := heap_alloc_new w _
theorem Bx.new2 {w : World} {b : Nat} {T : TypeId} {cs : Array Value} (h : w.heap.size = b) : Bx (w.alloc (.cells cs T)) b T cs := h ▸ Bx.new w T cs
theorem Bx.lt (h : Bx w b T cs) : b < w.heap.size := lt_of_some h
theorem Bx.cell (h : Bx w b T cs) (i : Nat) : w.cell? ⟨b, i, none⟩ = cs[i]? := cell_of_row w b i _ _ _ h
theorem Bx.free (h : Bx w b T cs) (i : Nat) : w.frozen? ⟨b, i, none⟩ = false := by unfold Bx at h; simp [World.frozen?, h]
theorem Bx.k3 {w : World} {b T : Nat} {a0 a1 a2 : Value} (h : Bx w b T #[a0, a1, a2]) : w.cell? ⟨b, 0, none⟩ = some a0 ∧ w.cell? ⟨b, 1, none⟩ = some a1 ∧ w.cell? ⟨b, 2, none⟩ = some a2 := ⟨h.cell 0, h.cell 1, h.cell 2⟩
theorem Bx.f3 {w : World} {b T : Nat} {a0 a1 a2 : Value} (h : Bx w b T #[a0, a1, a2]) : w.frozen? ⟨b, 0, none⟩ = false ∧ w.frozen? ⟨b, 1, none⟩ = false ∧ w.frozen? ⟨b, 2, none⟩ = false := ⟨h.free 0, h.free 1, h.free 2⟩
theorem Bx.k4 {w : World} {b T : Nat} {a0 a1 a2 a3 : Value} (h : Bx w b T #[a0, a1, a2, a3]) : w.cell? ⟨b, 0, none⟩ = some a0 ∧ w.cell? ⟨b, 1, none⟩ = some a1 ∧ w.cell? ⟨b, 2, none⟩ = some a2 ∧ w.cell? ⟨b, 3, none⟩ = some a3 := ⟨h.cell 0, h.cell 1, h.cell 2, h.cell 3⟩
theorem Bx.f4 {w : World} {b T : Nat} {a0 a1 a2 a3 : Value} (h : Bx w b T #[a0, a1, a2, a3]) : w.frozen? ⟨b, 0, none⟩ = false ∧ w.frozen? ⟨b, 1, none⟩ = false ∧ w.frozen? ⟨b, 2, none⟩ = false ∧ w.frozen? ⟨b, 3, none⟩ = false := ⟨h.free 0, h.free 1, h.free 2, h.free 3⟩
theorem Bx.k7 {w : World} {b T : Nat} {a0 a1 a2 a3 a4 a5 a6 : Value} (h : Bx w b T #[a0, a1, a2, a3, a4, a5, a6]) : w.cell? ⟨b, 0, none⟩ = some a0 ∧ w.cell? ⟨b, 1, none⟩ = some a1 ∧ w.cell? ⟨b, 2, none⟩ = some a2 ∧ w.cell? ⟨b, 3, none⟩ = some a3 ∧ w.cell? ⟨b, 4, none⟩ = some a4 ∧ w.cell? ⟨b, 5, none⟩ = some a5 ∧ w.cell? ⟨b, 6, none⟩ = some a6 := ⟨h.cell 0, h.cell 1, h.cell 2, h.cell 3, h.cell 4, h.cell 5, h.cell 6⟩
theorem Bx.f7 {w : World} {b T : Nat} {a0 a1 a2 a3 a4 a5 a6 : Value} (h : Bx w b T #[a0, a1, a2, a3, a4, a5, a6]) : w.frozen? ⟨b, 0, none⟩ = false ∧ w.frozen? ⟨b, 1, none⟩ = false ∧ w.frozen? ⟨b, 2, none⟩ = false ∧ w.frozen? ⟨b, 3, none⟩ = false ∧ w.frozen? ⟨b, 4, none⟩ = false ∧ w.frozen? ⟨b, 5, none⟩ = false ∧ w.frozen? ⟨b, 6, none⟩ = false := ⟨h.free 0, h.free 1, h.free 2, h.free 3, h.free 4, h.free 5, h.free 6⟩
theorem Bx.k9 {w : World} {b T : Nat} {a0 a1 a2 a3 a4 a5 a6 a7 a8 : Value} (h : Bx w b T #[a0, a1, a2, a3, a4, a5, a6, a7, a8]) : w.cell? ⟨b, 0, none⟩ = some a0 ∧ w.cell? ⟨b, 1, none⟩ = some a1 ∧ w.cell? ⟨b, 2, none⟩ = some a2 ∧ w.cell? ⟨b, 3, none⟩ = some a3 ∧ w.cell? ⟨b, 4, none⟩ = some a4 ∧ w.cell? ⟨b, 5, none⟩ = some a5 ∧ w.cell? ⟨b, 6, none⟩ = some a6 ∧ w.cell? ⟨b, 7, none⟩ = some a7 ∧ w.cell? ⟨b, 8, none⟩ = some a8 := ⟨h.cell 0, h.cell 1, h.cell 2, h.cell 3, h.cell 4, h.cell 5, h.cell 6, h.cell 7, h.cell 8⟩
theorem Bx.f9 {w : World} {b T : Nat} {a0 a1 a2 a3 a4 a5 a6 a7 a8 : Value} (h : Bx w b T #[a0, a1, a2, a3, a4, a5, a6, a7, a8]) : w.frozen? ⟨b, 0, none⟩ = false ∧ w.frozen? ⟨b, 1, none⟩ = false ∧ w.frozen? ⟨b, 2, none⟩ = false ∧ w.frozen? ⟨b, 3, none⟩ = false ∧ w.frozen? ⟨b, 4, none⟩ = false ∧ w.frozen? ⟨b, 5, none⟩ = false ∧ w.frozen? ⟨b, 6, none⟩ = false ∧ w.frozen? ⟨b, 7, none⟩ = false ∧ w.frozen? ⟨b, 8, none⟩ = false := ⟨h.free 0, h.free 1, h.free 2, h.free 3, h.free 4, h.free 5, h.free 6, h.free 7, h.free 8⟩
theorem Bx.only (h : Bx w b T cs) (ho : Only g w w') (hb : b ≠ g) : Bx w' b T cs := (ho.block b (lt_of_some h) hb).trans h
theorem Bx.below (h : Bx w b T cs) (hb : Below w.heap.size w w') : Bx w' b T cs := (hb.block b (lt_of_some h)).trans h
theorem Bx.alloc (h : Bx w b T cs) (o : Obj) : Bx (w.alloc o) b T cs := h.below ((Below.refl _ w).alloc (Nat.le_refl _) o)
theorem Bx.set (h : Bx w b T cs) (i : Nat) (v : Value) : Bx (w.setCell ⟨b, i, none⟩ v) b T (cs.setIfInBounds i v) := heap_set h
theorem Bx.other (h : Bx w b T cs) {c i : Nat} {u : Value} (hb : b ≠ c) : Bx (w.setCell ⟨c, i, none⟩ u) b T cs := (Below.heap_setCell _ _ _ _ hb).trans h
theorem bx_ret (h : Bx w b T cs) {P : Program} {fn : Func} {q : Tmp} {ty : TypeId} {d : TypeDesc} (hf : fn.results = #[.cell q ty]) (tmps : Array Value) (hq : tmps.getD q undef = .pointer (some ⟨b, 0, none⟩))
    (hu : P.underlying ty = some d) (hd : (match d with | .struct _ | .array _ _ => true | _ => false) = true) (hi : (P.info? ty).map (·.size) = some cs.size) : (results fn tmps).run P w = .ok (.agg cs) w :=
  results_cell_one hf tmps w b T cs (0, 0) d hq h hu hd hi
theorem Prs.alloc (h : Prs w g E s) (o : Obj) : Prs (w.alloc o) g E s := h.below ((Below.refl w.heap.size w).alloc (Nat.le_refl _) o) h.lt
theorem Lies.set {S : Nat → Prop} {v : Value} {d : D} (h : Lies w S v d) {i : Nat} {u : Value} (hb : ¬ S b) : Lies (w.setCell ⟨b, i, none⟩ u) S v d :=
  h.keep (by simp [World.setCell]) fun k _ hS => Below.heap_setCell _ _ _ _ (by intro e; rw [e] at hS; exact hb hS)
theorem Lies.only {S : Nat → Prop} {v : Value} {d : D} (h : Lies w S v d) (ho : Only g w w') (hg : ¬ S g) : Lies w' S v d :=
  h.keep ho.size fun k hk hS => ho.block k hk (by intro e; rw [e] at hS; exact hg hS)
theorem Lies.belowT {S : Nat → Prop} {v : Value} {d : D} (h : Lies w S v d) (hb : Below w.heap.size w w') : Lies w' S v d := h.keep hb.size fun k hk _ => hb.block k hk
theorem Lies.from {a : Nat} {v : Value} {d : D} (h : Lies w (fun k => b ≤ k) v d) (hab : a ≤ b) : Lies w (fun k => a ≤ k) v d := h.mono fun _ _ hk => Nat.le_trans hab hk
end
/-- Behind a method whose answer is a struct. -/
def GotL (w : World) (g E : Nat) (s' : St) (ds : List D) (e : Ending) (w' : World) : Prop := ∃ cs, e = .returned (.agg cs) ∧ LiesL w' (fun k => w.heap.size ≤ k) cs.toList ds ∧ Prs w' g E s' ∧ Only g w w'

theorem joinB_len (sep : Bs) (m : Nat) : ∀ l : List Bs, (∀ x ∈ l, x.length ≤ m) → (joinB sep l).length ≤ l.length * (m + sep.length)
  | [], _ => by simp [joinB]
  | [a], h => by have := h a (by simp); simp [joinB]; omega
  | a :: b :: r, h => by
    have h1 := h a (by simp)
    have h2 := joinB_len sep m (b :: r) (fun x hx => h x (by simp [hx]))
    have e : (a :: b :: r).length * (m + sep.length) = (b :: r).length * (m + sep.length) + (m + sep.length) := by simp [Nat.add_mul]
    rw [e]
    simp only [joinB, List.length_append]
    omega
theorem joinB_join (sep : Bs) : ∀ l : List Bs, Go.Lib.join l sep = joinB sep l
  | [] => rfl
  | [a] => by rw [Go.Lib.join_one]; rfl
  | a :: b :: r => by
    have ih := joinB_join sep (b :: r)
    rw [Go.Lib.join_cons] at ih ⊢
    simp only [joinB, ← ih, Go.Lib.joinTail, List.map_cons, List.flatten_cons, List.append_assoc]
section
variable {w w' : World} {g E : Nat} {s : St}
/-- strings.Join of a list that lies in memory. -/
theorem join_any {S : Nat → Prop} {v : Value} (l : List Bs) (sep : Bs) (h : Lies w S v (dL l)) (hn : l.length ≤ 10000) (hl : (joinB sep l).length ≤ 100000000) :
    Calls Tryz.prog 207 #[v, .string (ofL sep)] w (Tells w (.string (ofL (joinB sep l)))) := by
  have hm : ∀ l : List Bs, (l.map ofL).map (·.data.toList) = l := fun l => by
    rw [List.map_map]
    induction l with
    | nil => rfl
    | cons a r ih => rw [List.map_cons, ih]; simp [ofL_data]
  unfold dL at h
  rw [fm1] at h
  generalize hd : D.s 1 (l.map dS) = d at h
  cases h with
  | c v hv => cases hd
  | nil z =>
    have : l = [] := by
      cases l with
      | nil => rfl
      | cons a r => simp at hd
    subst this
    refine (Go.Proofs.YtekpefcggikcbaaGreatDoor.Tryz.strings_Join_none none 0 (ofL sep) w).mono ?_
    rintro e w' ⟨rfl, rfl⟩
    exact ⟨rfl, Below.refl _ _⟩
  | e0 ad cap z =>
    have : l = [] := by
      cases l with
      | nil => rfl
      | cons a r => simp at hd
    subst this
    refine (Go.Proofs.YtekpefcggikcbaaGreatDoor.Tryz.strings_Join_none (some ad) cap (ofL sep) w).mono ?_
    rintro e w' ⟨rfl, rfl⟩
    exact ⟨rfl, Below.refl _ _⟩
  | sl b o n cap z us l' h1 h2 h3 h4 h5 h6 h7 =>
    simp only [D.s.injEq] at hd
    obtain ⟨rfl, rfl⟩ := hd
    have hn' : n = (l.map ofL).length := by simp at h4; simp [h4]
    subst hn'
    have hlen : ((l.map ofL).map (·.data.toList)) = l := hm l
    have hj : Go.Lib.join ((l.map ofL).map (·.data.toList)) (ofL sep).data.toList = joinB sep l := by rw [hlen, ofL_data, joinB_join]
    refine (Go.Proofs.YtekpefcggikcbaaGreatDoor.Tryz.strings_Join b o cap (l.map ofL) (ofL sep) w ?_ h2.lt (by simp; omega) h5 (by rw [hj]; omega)).mono ?_
    · intro j x hx
      rw [List.getElem?_map] at hx
      cases hlj : l[j]? with
      | none => rw [hlj] at hx; cases hx
      | some y =>
        rw [hlj] at hx
        simp only [Option.map_some, Option.some.injEq] at hx
        subst hx
        have hlt := (List.getElem?_eq_some_iff.1 hlj).1
        have hlt2 : j < us.length := by rw [h3, List.length_map]; exact hlt
        have hu := List.getElem?_eq_getElem hlt2
        have hd := h7 j _ (dS y) hu (by rw [List.getElem?_map, hlj]; rfl)
        rw [h6 j _ hu, hd.cell_eq]
        rfl
    · rintro e w' ⟨rfl, hb⟩
      rw [hj]
      exact ⟨rfl, hb⟩
end
/- Layer 10: the contracts of words, path, signed, added. -/
open Go.RowKit

section
variable {w w' : World} {g E : Nat} {s : St}
theorem readS_sm (h : SmT s.r) (b : Bool) : SmT (readS E b s).2.r ∧ (readS E b s).1.t.length ≤ 40 ∧ (readS E b s).1.v ≤ 999999 := by
  cases b with
  | false =>
    refine ⟨?_, by simp [readS], by simp [readS]⟩
    rw [readS_no]
    show SmT (failS E 3 s).r
    unfold failS; split
    · exact SmT.nil
    · exact h
  | true =>
    rw [readS_yes]
    refine ⟨h.tail, ?_⟩
    obtain ⟨r, a, e⟩ := s
    cases r with
    | nil => exact ⟨by simp [nextT], by simp [nextT]⟩
    | cons t r => exact ⟨(h.tok t (by simp)).1, (h.tok t (by simp)).2.1⟩
theorem takeP_sm (h : SmT s.r) (x : Bs) : SmT (takeP E x s).2.r := by
  unfold takeP; split
  · exact (readS_sm h _).1
  · exact h
theorem wordP_sm (h : SmT s.r) : SmT (wordP E s).2.r ∧ (wordP E s).1.length ≤ 40 := by
  have := readS_sm (E := E) h (decide ((nextT E s).k = 1) && wdB (nextT E s).t)
  exact ⟨this.1, this.2.1⟩
theorem numP_sm (h : SmT s.r) : 0 ≤ (numP E s).1 ∧ (numP E s).1 ≤ 999999 := by
  have := (readS_sm (E := E) h (decide ((nextT E s).k = 2))).2.2
  have e : (numP E s).1 = ((readS E (decide ((nextT E s).k = 2)) s).1.v : Int) := rfl
  rw [e]
  omega
theorem wordsL_sm (mark : Bs) : ∀ (n : Nat) (s : St), SmT s.r → (∀ x ∈ (sepL E mark (wordP E) n s).1, x.length ≤ 40) ∧ (sepL E mark (wordP E) n s).1.length ≤ n
  | 0, s, _ => ⟨fun x hx => by simp [sepL, P.pure_run] at hx, by simp [sepL, P.pure_run]⟩
  | n + 1, s, h => by
    cases ht : (takeP E mark s).1 with
    | false => rw [sepL_no _ ht]; exact ⟨fun x hx => by simp at hx, by simp⟩
    | true =>
      rw [sepL_yes _ ht]
      have h1 := takeP_sm (E := E) h mark
      have h2 := wordP_sm (E := E) h1
      have ih := wordsL_sm mark n _ h2.1
      refine ⟨fun x hx => ?_, by simp; exact ih.2⟩
      rcases List.mem_cons.1 hx with rfl | hx
      · exact h2.2
      · exact ih.1 x hx
theorem words_sm (h : SmT s.r) (mark : Bs) : (∀ x ∈ (sepP E mark (wordP E) s).1, x.length ≤ 40) ∧ (sepP E mark (wordP E) s).1.length ≤ 8001 := by
  have h2 := wordP_sm (E := E) h
  have ih := wordsL_sm (E := E) mark (wordP E s).2.r.length _ h2.1
  refine ⟨fun x hx => ?_, ?_⟩
  · rcases List.mem_cons.1 hx with rfl | hx
    · exact h2.2
    · exact ih.1 x hx
  · have := h2.1.len
    show (_ :: _ : List Bs).length ≤ _
    rw [List.length_cons]
    omega
theorem word_rd (L : Nat) : IsRd 132 g E L (wordP E) vS :=
  ⟨fun args w => enters_of Tryz.func132 (by kernel_rfl) rfl args w, fun _ _ _ h => pword_any h⟩
theorem makeFunc_run (fn : Fn) (first cap : Array Value) (w : World) : (Instr.makeFunc fn first cap).run Tryz.prog w = .ok (.func fn first cap) w := rfl
set_option maxHeartbeats 400000 in
theorem pwords_any (h : Prs w g E s) : Calls Tryz.prog 133 #[.pointer (some ⟨g, 0, none⟩)] w (GotD w g E (wordsP E s).2 (dL (wordsP E s).1)) := by
  have H := Lib.hid h
  have hmf := makeFunc_run
  have HC := Lib.hid (sepString_any (wordP E) wordP_dec (word_rd (g := g) s.r.length) [44] h (Nat.le_refl _) h.small.len)
  clear h
  go_enter Tryz.func133, Tryz.ntmps133
  go_wp2_with fail
  refine HC.out.mono ?_; rintro e w1 ⟨v, rfl, LV, P1, O1⟩
  have LV' := Lib.hid LV
  have P1' := Lib.hid P1
  have O1' := Lib.hid O1
  clear LV P1 O1
  go_wp2_with fail
  go_ret
  exact ⟨_, rfl, LV'.out, P1'.out, O1'.out⟩
set_option maxHeartbeats 400000 in
theorem ppath_any (h : Prs w g E s) : Calls Tryz.prog 192 #[.pointer (some ⟨g, 0, none⟩)] w (Got w g E (pathP E s).2 (.string (ofL (pathP E s).1))) := by
  have H := Lib.hid h
  have hmf := makeFunc_run
  have HC := Lib.hid (sepString_any (wordP E) wordP_dec (word_rd (g := g) s.r.length) [46] h (Nat.le_refl _) h.small.len)
  have hsm := words_sm (E := E) h.small [46]
  have hjl := joinB_len [46] 40 _ hsm.1
  have hlt := h.lt
  have HR := Lib.hid (show pathP E s = (joinB [46] (sepP E [46] (wordP E) s).1, (sepP E [46] (wordP E) s).2) from rfl)
  rw [HR.out]
  obtain ⟨R, hR⟩ : ∃ R, sepP E [46] (wordP E) s = R := ⟨_, rfl⟩
  rw [hR] at HC hsm hjl ⊢
  have hl := Lib.hid (show R.1.length ≤ 10000 by omega)
  have hl2 := Lib.hid (show (joinB [46] R.1).length ≤ 100000000 by
    have : R.1.length * (40 + 1) ≤ 8001 * 41 := Nat.mul_le_mul hsm.2 (by omega)
    exact Nat.le_trans hjl (by show R.1.length * (40 + 1) ≤ _; omega))
  clear h hR hsm hjl
  go_enter Tryz.func192, Tryz.ntmps192
  go_wp2_with fail
  refine HC.out.mono ?_; rintro e w1 ⟨v, rfl, LV, P1, O1⟩
  have LV' := Lib.hid LV
  have P1' := Lib.hid P1
  have O1' := Lib.hid O1
  clear LV P1 O1
  go_wp2_with fail
  refine (join_any R.1 [46] LV'.out hl.out hl2.out).mono ?_; rintro e w2 ⟨rfl, hb2⟩
  have B2 := Lib.hid hb2
  clear hb2
  go_wp2_with fail
  go_ret
  exact ⟨rfl, P1'.out.below B2.out P1'.out.lt, O1'.out.below B2.out⟩
theorem takeP_eq {x : Bs} {b : Bool} {s' : St} (h : takeP E x s = (b, s')) : (takeP E x s).1 = b ∧ (takeP E x s).2 = s' := by rw [h]; exact ⟨rfl, rfl⟩
end
/- Layer 10: the contracts of the parser's methods that fill structs: terms. -/
open Go.RowKit

section
variable {w w' : World} {g E : Nat} {s : St}
theorem take_yes {α : Type} {x : Bs} {A B : P α} (hb : (takeP E x s).1 = true) : (takeP E x >>= fun b => if b = true then A else B) s = A (takeP E x s).2 := by
  show (if (takeP E x s).1 = true then A else B) (takeP E x s).2 = _
  rw [if_pos hb]
theorem take_no {α : Type} {x : Bs} {A B : P α} (hb : (takeP E x s).1 = false) : (takeP E x >>= fun b => if b = true then A else B) s = B (takeP E x s).2 := by
  show (if (takeP E x s).1 = true then A else B) (takeP E x s).2 = _
  rw [if_neg (by simp [hb])]
theorem signedP_dec : Dec (signedP E) := (takeP_dec _).bind fun _ => Dec.ite (numP_dec.bind fun _ => Dec.pure _) numP_dec
theorem addedP_dec : Dec (addedP E) := (takeP_dec _).bind fun _ => Dec.ite numP_dec ((takeP_dec _).bind fun _ => Dec.ite (numP_dec.bind fun _ => Dec.pure _) (Dec.pure _))
theorem neg_small {n : Int} (h0 : 0 ≤ n) (h1 : n ≤ 999999) : wrap64 (-n) = -n := by unfold wrap64; omega
set_option maxRecDepth 20000 in
set_option maxHeartbeats 400000 in
theorem psigned_any (h : Prs w g E s) : Calls Tryz.prog 223 #[.pointer (some ⟨g, 0, none⟩)] w (Got w g E (signedP E s).2 (.int .i64 (signedP E s).1)) := by
  obtain ⟨s1, hs1⟩ : ∃ s1, (takeP E [45] s).2 = s1 := ⟨_, rfl⟩
  obtain ⟨s2, hs2⟩ : ∃ s2, (numP E s1).2 = s2 := ⟨_, rfl⟩
  obtain ⟨n, hn⟩ : ∃ n, (numP E s1).1 = n := ⟨_, rfl⟩
  have hnb := numP_sm (E := E) (s := s1) (by rw [← hs1]; exact takeP_sm h.small _)
  rw [hn] at hnb
  obtain ⟨hn0, hn1⟩ := hnb
  have HS1 := Lib.hid hs1
  have HS2 := Lib.hid hs2
  have HN := Lib.hid hn
  have H := Lib.hid h
  have hlt := h.lt
  have HO := Lib.hid (Only.refl g w)
  cases hb : (takeP E [45] s).1 with
  | true =>
    have HR := Lib.hid (show signedP E s = (-n, s2) by unfold signedP; rw [take_yes hb]; subst hs1; subst hs2; subst hn; rfl)
    rw [HR.out]
    have HB := Lib.hid hb
    clear h hb hs1 hs2 hn
    go_enter Tryz.func223, Tryz.ntmps223
    go_wp2_with fail
    refine (ptake_any H.out [45]).mono ?_; rintro e w1 ⟨rfl, P1, O1⟩
    rw [HS1.out] at P1
    rw [HB.out]
    have P1' := Lib.hid P1
    have O1' := Lib.hid (HO.out.trans O1)
    have hz1 : w.heap.size ≤ w1.heap.size := O1.size
    clear P1 O1
    go_wp2_with fail
    refine (pnumber_any P1'.out).mono ?_; rintro e w2 ⟨rfl, P2, O2⟩
    rw [HS2.out] at P2
    rw [HN.out]
    have P2' := Lib.hid P2
    have O2' := Lib.hid (O1'.out.trans O2)
    have hz2 : w1.heap.size ≤ w2.heap.size := O2.size
    clear P2 O2
    have hw := neg_small hn0 hn1
    go_wp2_with fail
    go_ret
    exact ⟨by rfl, P2'.out, O2'.out⟩
  | false =>
    have HR := Lib.hid (show signedP E s = (n, s2) by unfold signedP; rw [take_no hb]; subst hs1; subst hs2; subst hn; rfl)
    rw [HR.out]
    have HB := Lib.hid hb
    clear h hb hs1 hs2 hn hn0 hn1
    go_enter Tryz.func223, Tryz.ntmps223
    go_wp2_with fail
    refine (ptake_any H.out [45]).mono ?_; rintro e w1 ⟨rfl, P1, O1⟩
    rw [HS1.out] at P1
    rw [HB.out]
    have P1' := Lib.hid P1
    have O1' := Lib.hid (HO.out.trans O1)
    have hz1 : w.heap.size ≤ w1.heap.size := O1.size
    clear P1 O1
    go_wp2_with fail
    refine (pnumber_any P1'.out).mono ?_; rintro e w2 ⟨rfl, P2, O2⟩
    rw [HS2.out] at P2
    rw [HN.out]
    have P2' := Lib.hid P2
    have O2' := Lib.hid (O1'.out.trans O2)
    have hz2 : w1.heap.size ≤ w2.heap.size := O2.size
    clear P2 O2
    go_wp2_with fail
    go_ret
    exact ⟨by rfl, P2'.out, O2'.out⟩
set_option maxRecDepth 20000 in
set_option maxHeartbeats 400000 in
theorem padded_any (h : Prs w g E s) : Calls Tryz.prog 245 #[.pointer (some ⟨g, 0, none⟩)] w (Got w g E (addedP E s).2 (.int .i64 (addedP E s).1)) := by
  obtain ⟨s1, hs1⟩ : ∃ s1, (takeP E [43] s).2 = s1 := ⟨_, rfl⟩
  have h1 : SmT s1.r := by rw [← hs1]; exact takeP_sm h.small _
  have HS1 := Lib.hid hs1
  have H := Lib.hid h
  have hlt := h.lt
  have HO := Lib.hid (Only.refl g w)
  cases hb : (takeP E [43] s).1 with
  | true =>
    have HR := Lib.hid (show addedP E s = numP E s1 by unfold addedP; rw [take_yes hb]; subst hs1; rfl)
    rw [HR.out]
    have HB := Lib.hid hb
    clear h hb hs1
    go_enter Tryz.func245, Tryz.ntmps245
    go_wp2_with fail
    refine (ptake_any H.out [43]).mono ?_; rintro e w1 ⟨rfl, P1, O1⟩
    rw [HS1.out] at P1
    rw [HB.out]
    have P1' := Lib.hid P1
    have O1' := Lib.hid (HO.out.trans O1)
    have hz1 : w.heap.size ≤ w1.heap.size := O1.size
    clear P1 O1
    go_wp2_with fail
    refine (pnumber_any P1'.out).mono ?_; rintro e w2 ⟨rfl, P2, O2⟩
    have P2' := Lib.hid P2
    have O2' := Lib.hid (O1'.out.trans O2)
    have hz2 : w1.heap.size ≤ w2.heap.size := O2.size
    clear P2 O2
    go_wp2_with fail
    go_ret
    exact ⟨by rfl, P2'.out, O2'.out⟩
  | false =>
    obtain ⟨s2, hs2⟩ : ∃ s2, (takeP E [45] s1).2 = s2 := ⟨_, rfl⟩
    obtain ⟨s3, hs3⟩ : ∃ s3, (numP E s2).2 = s3 := ⟨_, rfl⟩
    obtain ⟨n, hn⟩ : ∃ n, (numP E s2).1 = n := ⟨_, rfl⟩
    have hnb := numP_sm (E := E) (s := s2) (by rw [← hs2]; exact takeP_sm h1 _)
    rw [hn] at hnb
    obtain ⟨hn0, hn1⟩ := hnb
    have HS2 := Lib.hid hs2
    have HS3 := Lib.hid hs3
    have HN := Lib.hid hn
    have HB := Lib.hid hb
    cases hc : (takeP E [45] s1).1 with
    | true =>
      have HR := Lib.hid (show addedP E s = (-n, s3) by unfold addedP; rw [take_no hb]; subst hs1; rw [take_yes hc]; subst hs2; subst hs3; subst hn; rfl)
      rw [HR.out]
      have HC := Lib.hid hc
      clear h h1 hb hc hs1 hs2 hs3 hn
      go_enter Tryz.func245, Tryz.ntmps245
      go_wp2_with fail
      refine (ptake_any H.out [43]).mono ?_; rintro e w1 ⟨rfl, P1, O1⟩
      rw [HS1.out] at P1
      rw [HB.out]
      have P1' := Lib.hid P1
      have O1' := Lib.hid (HO.out.trans O1)
      have hz1 : w.heap.size ≤ w1.heap.size := O1.size
      clear P1 O1
      go_wp2_with fail
      refine (ptake_any P1'.out [45]).mono ?_; rintro e w2 ⟨rfl, P2, O2⟩
      rw [HS2.out] at P2
      rw [HC.out]
      have P2' := Lib.hid P2
      have O2' := Lib.hid (O1'.out.trans O2)
      have hz2 : w1.heap.size ≤ w2.heap.size := O2.size
      clear P2 O2
      go_wp2_with fail
      refine (pnumber_any P2'.out).mono ?_; rintro e w3 ⟨rfl, P3, O3⟩
      rw [HS3.out] at P3
      rw [HN.out]
      have P3' := Lib.hid P3
      have O3' := Lib.hid (O2'.out.trans O3)
      have hz3 : w2.heap.size ≤ w3.heap.size := O3.size
      clear P3 O3
      have hw := neg_small hn0 hn1
      go_wp2_with fail
      go_ret
      exact ⟨by rfl, P3'.out, O3'.out⟩
    | false =>
      have HR := Lib.hid (show addedP E s = (0, s2) by unfold addedP; rw [take_no hb]; subst hs1; rw [take_no hc]; subst hs2; subst hs3; subst hn; rfl)
      rw [HR.out]
      have HC := Lib.hid hc
      clear h h1 hb hc hs1 hs2 hs3 hn hn0 hn1
      go_enter Tryz.func245, Tryz.ntmps245
      go_wp2_with fail
      refine (ptake_any H.out [43]).mono ?_; rintro e w1 ⟨rfl, P1, O1⟩
      rw [HS1.out] at P1
      rw [HB.out]
      have P1' := Lib.hid P1
      have O1' := Lib.hid (HO.out.trans O1)
      have hz1 : w.heap.size ≤ w1.heap.size := O1.size
      clear P1 O1
      go_wp2_with fail
      refine (ptake_any P1'.out [45]).mono ?_; rintro e w2 ⟨rfl, P2, O2⟩
      rw [HS2.out] at P2
      rw [HC.out]
      have P2' := Lib.hid P2
      have O2' := Lib.hid (O1'.out.trans O2)
      have hz2 : w1.heap.size ≤ w2.heap.size := O2.size
      clear P2 O2
      go_wp2_with fail
      go_ret
      exact ⟨by rfl, P2'.out, O2'.out⟩
end
/- Layer 10: the contract of variable. -/
open Go.RowKit

section
variable {w w' : World} {g E : Nat} {s : St} {S : Nat → Prop} {v : Value} {l : List Bs}
theorem dL_row (h : Lies w S v (dL l)) (hl : l ≠ []) : ∃ b o c, v = .slice (some ⟨b, o, none⟩) l.length c ∧ l.length ≤ c ∧ PlZ w b 1 ∧ S b ∧ ∀ (i : Nat) x, l[i]? = some x → w.cell? ⟨b, o + i, none⟩ = some (.string (ofL x)) := by
  unfold dL at h
  rw [fm1] at h
  generalize hd : D.s 1 (l.map dS) = d at h
  cases h with
  | c v hv => cases hd
  | nil z =>
    cases l with
    | nil => exact absurd rfl hl
    | cons a r => simp at hd
  | e0 ad cap z =>
    cases l with
    | nil => exact absurd rfl hl
    | cons a r => simp at hd
  | sl b o n cap z us l' h1 h2 h3 h4 h5 h6 h7 =>
    simp only [D.s.injEq] at hd
    obtain ⟨rfl, rfl⟩ := hd
    have hn' : n = l.length := by simpa using h4
    subst hn'
    refine ⟨b, o, cap, rfl, h5, h2, h1, fun j x hj => ?_⟩
    have hlt := (List.getElem?_eq_some_iff.1 hj).1
    have hlt2 : j < us.length := by rw [h3, List.length_map]; exact hlt
    have hu := List.getElem?_eq_getElem hlt2
    have hd := h7 j _ (dS x) hu (by rw [List.getElem?_map, hj]; rfl)
    rw [h6 j _ hu, hd.cell_eq]
    rfl
theorem dL_of {b o c n : Nat} (hn : l.length = n) (hc : n ≤ c) (hb : PlZ w b 1) (hS : S b) (hcell : ∀ (i : Nat) x, l[i]? = some x → w.cell? ⟨b, o + i, none⟩ = some (.string (ofL x))) : Lies w S (.slice (some ⟨b, o, none⟩) n c) (dL l) := by
  unfold dL
  rw [fm1]
  refine .sl b o n c 1 (l.map vS) _ hS hb (by simp) (by simp [hn]) hc (fun i u hu => ?_) (fun i u d hu hd => ?_)
  · rw [List.getElem?_map] at hu
    cases hli : l[i]? with
    | none => rw [hli] at hu; cases hu
    | some x => rw [hli] at hu; simp only [Option.map_some, Option.some.injEq] at hu; subst hu; exact hcell i x hli
  · rw [List.getElem?_map] at hu hd
    cases hli : l[i]? with
    | none => rw [hli] at hu; cases hu
    | some x =>
      rw [hli] at hu hd
      simp only [Option.map_some, Option.some.injEq] at hu hd
      subst hu; subst hd
      exact .c _ rfl
theorem joinB_small {l : List Bs} (h : ∀ x ∈ l, x.length ≤ 40) (hl : l.length ≤ 8001) : (joinB [46] l).length ≤ 100000000 := by
  have := joinB_len [46] 40 l h
  have h2 : l.length * (40 + 1) ≤ 8001 * 41 := Nat.mul_le_mul hl (by omega)
  exact Nat.le_trans this (by show l.length * (40 + 1) ≤ _; omega)
set_option maxRecDepth 20000 in
set_option maxHeartbeats 1000000 in
theorem pvariable_any (h : Prs w g E s) : Calls Tryz.prog 244 #[.pointer (some ⟨g, 0, none⟩)] w (Got w g E (varP E s).2 (.tuple #[.string (ofL (varP E s).1.1), .string (ofL (varP E s).1.2)])) := by
  have hmf := makeFunc_run
  have hlt := h.lt
  have HC := Lib.hid (sepString_any (wordP E) wordP_dec (word_rd (g := g) s.r.length) [46] h (Nat.le_refl _) h.small.len)
  have hsm := words_sm (E := E) h.small [46]
  have HR := Lib.hid (show varP E s = ((joinB [46] (sepP E [46] (wordP E) s).1.dropLast, (sepP E [46] (wordP E) s).1.getLastD []), (sepP E [46] (wordP E) s).2) from rfl)
  rw [HR.out]
  have hne : (sepP E [46] (wordP E) s).1 ≠ [] := by unfold sepP; simp
  obtain ⟨R, hR⟩ : ∃ R, sepP E [46] (wordP E) s = R := ⟨_, rfl⟩
  rw [hR] at HC hsm hne ⊢
  obtain ⟨m, hm⟩ : ∃ m, R.1.length = m + 1 := ⟨R.1.length - 1, by have := List.length_pos_iff.2 hne; omega⟩
  have hm8 : m ≤ 8000 := by omega
  have Hj := Lib.hid (show (joinB [46] R.1.dropLast).length ≤ 100000000 from joinB_small (fun x hx => hsm.1 x ((List.dropLast_sublist _).subset hx)) (by simp; omega))
  have Hl := Lib.hid (show R.1.dropLast.length ≤ 10000 by simp; omega)
  have Hm := Lib.hid hm
  have Hne := Lib.hid hne
  have Hg := Lib.hid (show R.1[m]? = some (R.1.getLastD []) by
    rw [List.getLastD_eq_getLast?, List.getLast?_eq_getElem?, hm, Nat.add_sub_cancel, List.getElem?_eq_getElem (by omega)]; rfl)
  obtain ⟨x, hx⟩ : ∃ x, R.1.getLastD [] = x := ⟨_, rfl⟩
  obtain ⟨y, hy⟩ : ∃ y, joinB [46] R.1.dropLast = y := ⟨_, rfl⟩
  rw [hy] at Hj ⊢
  rw [hx] at Hg ⊢
  have HY := Lib.hid hy
  clear h hR hsm hm hne HR hx hy
  go_enter Tryz.func244, Tryz.ntmps244
  go_wp2_with fail
  refine HC.out.mono ?_; rintro e w1 ⟨v, rfl, LV, P1, O1⟩
  obtain ⟨b, o, c, rfl, hc, hb, -, hcell⟩ := dL_row LV Hne.out
  rw [Hm.out] at hc ⊢
  have Hcell := Lib.hid hcell
  have P1' := Lib.hid P1
  have O1' := Lib.hid O1
  have c1 : w1.drew.cell? ⟨b, o + m, none⟩ = some (.string (ofL x)) := hcell m _ Hg.out
  have LD := Lib.hid (show Lies w1.drew (fun _ => True) (.slice (some ⟨b, o, none⟩) m c) (dL R.1.dropLast) from dL_of (by simp [Hm.out]) (by omega) hb trivial (fun i x hx => by
    have hlt := (List.getElem?_eq_some_iff.1 hx).1
    rw [List.getElem?_dropLast, if_pos (by simpa using hlt)] at hx
    exact hcell i x hx))
  clear LV P1 O1 hcell
  go_wp2_with fail
  go_region_with (go_at_call 207; refine (join_any R.1.dropLast [46] (LD.out.belowT (Below.refl _ _)) Hl.out (by rw [HY.out]; exact Hj.out)).mono ?_; rintro e w5 ⟨rfl, hb5⟩; rw [HY.out]; have c5 := (hb5.cell (p := ⟨b, o + m, none⟩) hb.lt).trans c1; have HB5 := Lib.hid hb5; clear hb5)
  all_goals
    have HQ := Lib.hid (O1'.out.below (((Below.refl _ w1).drew).trans HB5.out))
    have HP := Lib.hid (P1'.out.below (((Below.refl _ w1).drew).trans HB5.out) P1'.out.lt)
    go_wp2
    go_ret2
    exact ⟨rfl, HP.out, HQ.out⟩
end
end Go.Proofs.YtekpefcggikcbaaGreatDoor
