/- nfa: the letters of a map of steps are the letters of the set's arcs, in order. -/
import Derived.Test.YtockgbilbnheaaaDoorNfaDeM
import Derived.Deep.AppendLies
namespace Go.Proofs.YtockgbilbnheaaaDoor
/- nfa: the letters of a map of steps are the letters of the set's arcs, in order. -/
open Go.RowKit Go.Maps Go.Sort Go.Shelf

theorem keys_facts {w : World} {b n : Nat} {D : DataW Value} (hown : w.ownsMap Tryd.prog 3 Rv b n D) : (intKeys D).Nodup ∧ ∀ x, x ∈ intKeys D ↔ Maps.has D (kz x) = true := by
 obtain ⟨es, hD, hp, _⟩ := hown.entries lawI
 obtain ⟨es', hD', hko⟩ := hown.keysOf
 obtain rfl : es = es' := by rw [hD] at hD'; simpa using hD'
 subst hD
 have hk : ∀ p ∈ es, ∃ x, p.1 = kz x := fun p hp => by
  obtain ⟨v, hv⟩ := hko p hp
  obtain ⟨x, _, hx, _⟩ := Maps.keyOf_i64 Tryd.underlying3 hv
  exact ⟨x, hx⟩
 refine ⟨?_, fun x => ?_⟩
 ·show (es.map _).Nodup
  refine List.pairwise_map.2 (hp.imp_of_mem fun {p q} hp' hq' hne e => hne ?_)
  obtain ⟨a, ha⟩ := hk p hp'
  obtain ⟨c, hc⟩ := hk q hq'
  rw [ha, hc] at e ⊢
  exact congrArg kz e
 ·rw [has_eq, List.any_eq_true]
  show x ∈ es.map _ ↔ _
  rw [List.mem_map]
  constructor
  ·rintro ⟨p, hp', rfl⟩
   obtain ⟨a, ha⟩ := hk p hp'
   refine ⟨p, hp', ?_⟩
   rw [ha]
   simp [Lit.sameKey, kz, Go.intOf]
  ·rintro ⟨p, hp', hs⟩
   obtain ⟨a, ha⟩ := hk p hp'
   refine ⟨p, hp', ?_⟩
   rw [ha] at hs ⊢
   simpa [Lit.sameKey, kz, Go.intOf] using hs
theorem lets_is {w : World} {b n : Nat} {D : DataW Value} {ar : List Ac} {ws : List Nat} {ss : List Int} (hown : w.ownsMap Tryd.prog 3 Rv b n D) (hm : MapS w ar D (fun x => x ∈ ar ∧ Els ws x.1 ∧ 1 ≤ x.2.1)) (hp : ss.Perm (intKeys D)) : IsLets ar ws (ss.mergeSort leZ) := by
 obtain ⟨h1, h2⟩ := keys_facts hown
 have hperm := (List.mergeSort_perm ss leZ).trans hp
 have tr : ∀ a b c : Int, leZ a b = true → leZ b c = true → leZ a c = true := fun a b c h1 h2 => by unfold leZ at *; simp only [decide_eq_true_eq] at *; omega
 have to : ∀ a b : Int, (leZ a b || leZ b a) = true := fun a b => by unfold leZ; simp only [Bool.or_eq_true, decide_eq_true_eq]; omega
 refine ⟨?_, fun c => ?_⟩
 ·have hnd : (ss.mergeSort leZ).Nodup := hperm.symm.nodup h1
  have hs := List.pairwise_mergeSort tr to ss
  refine (List.Pairwise.and hs hnd).imp fun {a b} h => ?_
  have := h.1
  unfold leZ at this
  have h3 : a ≤ b := by simpa using this
  have h4 : a ≠ b := h.2
  omega
 ·rw [hperm.mem_iff, h2 c, hm.hs c]
  constructor
  ·rintro ⟨x, ⟨h1, h2, h3⟩, h4⟩; exact ⟨x, h1, h2, h3, h4⟩
  ·rintro ⟨x, h1, h2, h3, h4⟩; exact ⟨x, ⟨h1, h2, h3⟩, h4⟩
/-- The words that the map has at a letter. -/
theorem map_step {S : Nat} {w : World} {ar : List Ac} {ws : List Nat} {D : DataW Value} {u : Value} {c : Int} (hv : VA S ar) (hm : MapS w ar D (fun x => x ∈ ar ∧ Els ws x.1 ∧ 1 ≤ x.2.1)) (hc : 1 ≤ c) (hat : D.atKey (kz c) (.held nilv) = .held u) : ∃ s, SetIs w u s (fun n => Sp ar (Els ws) c n) ∧ nx ar ws c = s := by
 obtain ⟨u', s, h1, h2⟩ := hm.at_ c
 rw [hat] at h1
 cases h1
 have h3 : SetIs w u s (fun n => Sp ar (Els ws) c n) := ⟨h2.st, h2.can, h2.wds, h2.len, fun n => (h2.has n).trans (step_iff hv ws c hc n)⟩
 exact ⟨s, h3, wordsOf_eq h3.of⟩
/- nfa's Determinize: what the loop of the finals keeps in memory. -/
open Go.RowKit Go.Maps

structure Df (w : World) (B sb : Nat) (vS vF vA : Value) (vals : List Value) (SS : List (List Nat)) (A : List Ac) (fs : List Bool) (nf : Nat) : Prop where
 box : w.heap[sb]? = some (.cells #[vS, vF, vA] 55 (0, 0))
 rf : w.ownsRow B 4 1 vF nf (fs.map bl)
 rs : w.ownsRow B 35 1 vS SS.length vals
 ra : w.ownsRow B 52 3 vA A.length (A.flatMap acells)
 sets : ∀ (i : Nat) (v : Value) (ws : List Nat), vals[i]? = some v → SS[i]? = some ws → Wst w v ws
section
variable {w w' : World} {B sb : Nat} {vS vF vA v' : Value} {vals : List Value} {SS : List (List Nat)} {A : List Ac} {fs : List Bool} {x : Bool} {nf : Nat}
theorem Df.below (h : Df w B sb vS vF vA vals SS A fs nf) (hb : Below w.heap.size w w') : Df w' B sb vS vF vA vals SS A fs nf :=
 ⟨(hb.block _ (lt_of_some h.box)).trans h.box, own_keepG h.rf fun _ _ hg => hb.block _ (lt_of_some hg), own_keepG h.rs fun _ _ hg => hb.block _ (lt_of_some hg), own_keepG h.ra fun _ _ hg => hb.block _ (lt_of_some hg), fun i v ws h1 h2 => (h.sets i v ws h1 h2).below hb⟩
theorem Df.putF (h : Df w B sb vS vF vA vals SS A fs nf) (hf : Frm 4 B w w') (ho : w'.ownsRow B 4 1 v' (nf + 1) (fs.map bl ++ [bl x])) : Df (w'.setCell ⟨sb, 1, none⟩ v') B sb vS v' vA vals SS A (fs ++ [x]) (nf + 1) := by
 have hbox := hf.keeps h.box (by decide)
 have hrs : w'.ownsRow B 35 1 vS SS.length vals := own_keepG h.rs fun g cs hg => hf.block g (lt_of_some hg) (.inr fun cs' fr h2 => by rw [hg] at h2; cases h2)
 have hra : w'.ownsRow B 52 3 vA A.length (A.flatMap acells) := own_keepG h.ra fun g cs hg => hf.block g (lt_of_some hg) (.inr fun cs' fr h2 => by rw [hg] at h2; cases h2)
 refine ⟨Dm.box_set _ _ _ 1 hbox, ?_, own_keepG hrs fun g cs hg => Dm.far 1 g _ hbox hg (by intro cs2 fr2 h2; cases h2), own_keepG hra fun g cs hg => Dm.far 1 g _ hbox hg (by intro cs2 fr2 h2; cases h2), fun i v ws h1 h2 => ((h.sets i v ws h1 h2).frm hf (by decide)).set hbox (by decide)⟩
 rw [List.map_append, List.map_singleton]
 exact own_keepG ho fun g cs hg => Dm.far 1 g _ hbox hg (by intro cs2 fr2 h2; cases h2)
theorem Df.at (h : Df w B sb vS vF vA vals SS A fs nf) (k : Nat) (hk : k < SS.length) : ∃ ad c u, vS = .slice (some ad) SS.length c ∧ SS.length ≤ c ∧ w.cell? (ad.add k) = some u ∧ Wst w u SS[k] := by
 have hv : vals.length = SS.length := by simpa using h.rs.1
 have hcl := @World.ownsRow.cells _ _ _ _ _ _ _ h.rs
 rcases h.rs.2 with ⟨_, h0⟩ | ⟨g, cap, cur, rfl, _, _, hn, _⟩
 ·omega
 ·refine ⟨_, cap, vals[k], rfl, hn, hcl (g := g) rfl k _ (List.getElem?_eq_getElem (by omega)), h.sets k _ _ (List.getElem?_eq_getElem (by omega)) (List.getElem?_eq_getElem hk)⟩
theorem Df.c1 (h : Df w B sb vS vF vA vals SS A fs nf) : w.cell? ⟨sb, 1, none⟩ = some vF := cell_of_row _ _ 1 _ _ _ h.box
theorem Df.start {nb nn : Nat} {D : DataW Value} (h : Dm w B sb nb vS vA vals SS A D nn) : Df w B sb vS (.slice none 0 0) vA vals SS A [] 0 := ⟨h.box, World.ownsRow_nil _ _ _ _, h.rs, h.ra, h.sets⟩
/-- The result goes into its own block. -/
theorem Df.ret {R B0 : Nat} {a0 a1 a2 : Value} (h : Df w B sb vS vF vA vals SS A fs nf) (hR : w.heap[R]? = some (.cells #[a0, a1, a2] 55 (0, 0))) (b0 b1 b2 : Value) (hw : w' = ((w.setCell ⟨R, 0, none⟩ b0).setCell ⟨R, 1, none⟩ b1).setCell ⟨R, 2, none⟩ b2) (hB : B0 ≤ B) :
  w'.ownsRow B0 35 1 vS SS.length vals ∧ (∀ (i : Nat) (v : Value) (ws : List Nat), vals[i]? = some v → SS[i]? = some ws → Wst w' v ws) ∧ w'.ownsRow B0 4 1 vF nf (fs.map bl) ∧ w'.ownsRow B0 52 3 vA A.length (A.flatMap acells) := by
 have far : ∀ (g : Nat) (cs : Array Value) (t : TypeId) (fr : Nat × Nat), w.heap[g]? = some (.cells cs t fr) → t ≠ 55 → w'.heap[g]? = w.heap[g]? := fun g cs t fr hg ht => by
  have hne : g ≠ R := fun e => by rw [e, hR] at hg; cases hg; exact ht rfl
  rw [hw]
  exact (Below.heap_setCell _ ⟨R, 2, none⟩ b2 g hne).trans ((Below.heap_setCell _ ⟨R, 1, none⟩ b1 g hne).trans (Below.heap_setCell _ ⟨R, 0, none⟩ b0 g hne))
 have base : ∀ {e sz n : Nat} {v : Value} {xs : List Value}, w'.ownsRow B e sz v n xs → w'.ownsRow B0 e sz v n xs := fun h => ⟨h.1, h.2.imp id fun ⟨g, cap, cur, h1, h2, r⟩ => ⟨g, cap, cur, h1, Nat.le_trans hB h2, r⟩⟩
 exact ⟨base (own_keepG h.rs fun g cs hg => far g cs _ _ hg (by decide)), fun i v ws h1 h2 => (h.sets i v ws h1 h2).keep fun g cs fr hg => far g cs _ fr hg (by decide), base (own_keepG h.rf fun g cs hg => far g cs _ _ hg (by decide)), base (own_keepG h.ra fun g cs hg => far g cs _ _ hg (by decide))⟩
end
def Do3 (wA : World) (B sb : Nat) (vS vA : Value) (vals : List Value) (SS : List (List Nat)) (A : List Ac) (fin : List Bool) (i : Value) (wr : World) : Prop :=
 ∃ (m : Nat) (vF : Value), i = .int .i64 m ∧ m ≤ SS.length ∧ Df wr B sb vS vF vA vals SS A ((SS.take m).map (FinB fin)) m ∧ Below B wA wr ∧ B ≤ wr.heap.size
end Go.Proofs.YtockgbilbnheaaaDoor
