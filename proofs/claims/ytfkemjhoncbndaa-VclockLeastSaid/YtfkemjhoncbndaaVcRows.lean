/- Three rows of numbers of the call's own, kept apart, as they grow in a region whose order is drawn. -/
import Derived.Test.YtfkemjhoncbndaaVcAw
import Derived.Test.YtfkemjhoncbndaaRegInv
import Derived.Laws.Cover1
namespace Go.Proofs.Ytfkemjhoncbndaa
open Go.RowKit

def Apart (v u : Value) : Prop := ∀ b, v.ownBlock = some b → u.ownBlock ≠ some b
theorem Apart.symm {v u : Value} (h : Apart v u) : Apart u v := fun b h1 h2 => h b h2 h1
theorem Apart.ne {v u : Value} (h : Apart v u) : v.ownBlock = none ∨ v.ownBlock ≠ u.ownBlock := by
  cases e : v.ownBlock with
  | none => exact .inl rfl
  | some b => exact .inr fun e2 => h b e e2.symm
/-- A row of numbers of the call's own. -/
def IRow (w : World) (B : Nat) (v : Value) (xs : List Int) : Prop := w.ownsRow B 3 1 v xs.length (xs.map iv)
theorem IRow.below {w w' : World} {B : Nat} {v : Value} {xs : List Int} (h : IRow w B v xs) (hb : Below w.heap.size w w') : IRow w' B v xs :=
  World.ownsRow.kept (row := none) h ⟨hb.os, hb.tape, hb.output, hb.size, fun k hk _ => hb.block k hk⟩ (by cases v.ownBlock <;> simp)
theorem IRow.drew {w : World} {B : Nat} {v : Value} {xs : List Int} (h : IRow w B v xs) : IRow w.drew B v xs := World.ownsRow.drew h
structure R3 (w0 : World) (B : Nat) (vx vy vz : Value) (xs ys zs : List Int) (w : World) : Prop where
  x : IRow w B vx xs
  y : IRow w B vy ys
  z : IRow w B vz zs
  xy : Apart vx vy
  xz : Apart vx vz
  yz : Apart vy vz
  below : Below B w0 w
  size : B ≤ w.heap.size
section
variable {w0 w w' : World} {B : Nat} {vx vy vz : Value} {xs ys zs : List Int}
theorem R3.rot (h : R3 w0 B vx vy vz xs ys zs w) : R3 w0 B vy vz vx ys zs xs w := ⟨h.y, h.z, h.x, h.yz, h.xy.symm, h.xz.symm, h.below, h.size⟩
theorem R3.ext (h : R3 w0 B vx vy vz xs ys zs w) (hb : Below w.heap.size w w') : R3 w0 B vx vy vz xs ys zs w' :=
  ⟨h.x.below hb, h.y.below hb, h.z.below hb, h.xy, h.xz, h.yz, h.below.trans (hb.mono h.size), Nat.le_trans h.size hb.size⟩
theorem apart_new {w : World} {B : Nat} {u v : Value} {us : List Int} {g n c : Nat} (hu : IRow w B u us) (ha : Apart v u) (h : v.ownBlock = some g ∨ g = w.heap.size) : Apart (.slice (some ⟨g, 0, none⟩) n c) u := by
  intro b hb hub
  simp [Value.ownBlock] at hb
  subst hb
  rcases h with h | h
  · exact ha _ h hub
  · have := (World.ownsRow.lt hu _ hub).2
    omega
/-- The first row has grown. -/
theorem R3.grow {c : Int} {g cap : Nat} (h : R3 w0 B vx vy vz xs ys zs w) (hown : w'.ownsRow B 3 1 (.slice (some ⟨g, 0, none⟩) (xs.length + 1) cap) (xs.length + 1) (xs.map iv ++ [.int .i64 c])) (hg : w.grownBy w' vx.ownBlock) (hgg : vx.ownBlock = some g ∨ g = w.heap.size) :
    R3 w0 B (.slice (some ⟨g, 0, none⟩) (xs.length + 1) cap) vy vz (xs ++ [c]) ys zs w' :=
  ⟨by unfold IRow; rw [List.length_append, List.map_append]; exact hown, World.ownsRow.kept h.y hg h.xy.symm.ne, World.ownsRow.kept h.z hg h.xz.symm.ne, apart_new h.y h.xy hgg, apart_new h.z h.xz hgg, h.yz, h.below.grown hg h.size (fun k e => (World.ownsRow.lt h.x k e).1), Nat.le_trans h.size hg.size⟩
end
/-- Blocks that the region has made stay. -/
structure Nst (n0 : Nat) (w w' : World) : Prop where
  size : w.heap.size ≤ w'.heap.size
  block : ∀ g, n0 ≤ g → g < w.heap.size → w'.heap[g]? = w.heap[g]?
theorem Nst.refl (n0 : Nat) (w : World) : Nst n0 w w := ⟨Nat.le_refl _, fun _ _ _ => rfl⟩
theorem Nst.below {n0 : Nat} {w w' : World} (h : Below w.heap.size w w') : Nst n0 w w' := ⟨h.size, fun g _ hg => h.block g hg⟩
theorem Nst.grown {n0 B n : Nat} {w0 w w' : World} {v : Value} {xs : List Value} (hg : w.grownBy w' v.ownBlock) (hv : w0.ownsRow B 3 1 v n xs) (h0 : w0.heap.size ≤ n0) : Nst n0 w w' :=
  ⟨hg.size, fun g h1 h2 => hg.block g h2 fun e => by have := (hv.lt g e.symm).2; omega⟩
/-- A block of one number that the region has made. -/
def NewB (n0 : Nat) (c : Int) (v : Value) (w : World) : Prop := ∃ g, v = .slice (some ⟨g, 0, none⟩) 1 1 ∧ n0 ≤ g ∧ w.heap[g]? = some (.cells #[.int .i64 c] 3 (0, 0))
theorem NewB.nst {n0 : Nat} {c : Int} {v : Value} {w w' : World} (h : NewB n0 c v w) (hr : Nst n0 w w') : NewB n0 c v w' := by
  obtain ⟨g, h1, h2, h3⟩ := h
  exact ⟨g, h1, h2, (hr.block g h2 (lt_of_some h3)).trans h3⟩
/-- The words of the operations and what has become of the rows. -/
def SelV (b : Bool) (v u : Value) : Value := if b then u else v
def SelL (b : Bool) (xs : List Int) (c : Int) : List Int := if b then xs ++ [c] else xs
def St3 (w0 : World) (B : Nat) (vx vy vz : Value) (xs ys zs : List Int) (cx cy cz : Int) (n0 : Nat) (L : Nat → Bool) (vs : Nat → Value) (w : World) : Prop :=
  R3 w0 B (SelV (L 7) vx (vs 7)) (SelV (L 15) vy (vs 15)) (SelV (L 23) vz (vs 23)) (SelL (L 7) xs cx) (SelL (L 15) ys cy) (SelL (L 23) zs cz) w ∧ n0 ≤ w.heap.size ∧
    (L 24 = true → vs 24 = vs 7) ∧ (L 25 = true → vs 25 = vs 15) ∧ (L 26 = true → vs 26 = vs 23)
section
variable {w0 w w' : World} {B n0 : Nat} {vx vy vz : Value} {xs ys zs : List Int} {cx cy cz : Int} {L : Nat → Bool} {vs : Nat → Value}
theorem St3.start (h : R3 w0 B vx vy vz xs ys zs w) (hn : n0 ≤ w.heap.size) : St3 w0 B vx vy vz xs ys zs cx cy cz n0 (fun _ => false) vs w := ⟨h, hn, (fun h => by cases h), (fun h => by cases h), (fun h => by cases h)⟩
theorem St3.quiet {i : Nat} {v : Value} (h : St3 w0 B vx vy vz xs ys zs cx cy cz n0 L vs w) (h1 : 7 ≠ i) (h2 : 15 ≠ i) (h3 : 23 ≠ i) (h4 : 24 ≠ i) (h5 : 25 ≠ i) (h6 : 26 ≠ i) : St3 w0 B vx vy vz xs ys zs cx cy cz n0 (updB L i) (updV vs i v) w := by
  unfold St3 at h ⊢
  rw [updB_ne L h1, updB_ne L h2, updB_ne L h3, updB_ne L h4, updB_ne L h5, updB_ne L h6, updV_ne vs v h1, updV_ne vs v h2, updV_ne vs v h3, updV_ne vs v h4, updV_ne vs v h5, updV_ne vs v h6]
  exact h
theorem St3.ext (h : St3 w0 B vx vy vz xs ys zs cx cy cz n0 L vs w) (hb : Below w.heap.size w w') : St3 w0 B vx vy vz xs ys zs cx cy cz n0 L vs w' := ⟨h.1.ext hb, Nat.le_trans h.2.1 hb.size, h.2.2⟩
theorem St3.fill {i : Nat} {v : Value} (h : St3 w0 B vx vy vz xs ys zs cx cy cz n0 L vs w) (hv : (i = 24 ∧ v = vs 7) ∨ (i = 25 ∧ v = vs 15) ∨ (i = 26 ∧ v = vs 23)) : St3 w0 B vx vy vz xs ys zs cx cy cz n0 (updB L i) (updV vs i v) w := by
  obtain ⟨h1, h2, h3, h4, h5⟩ := h
  rcases hv with ⟨rfl, rfl⟩ | ⟨rfl, rfl⟩ | ⟨rfl, rfl⟩
  · exact ⟨h1, h2, fun _ => rfl, h4, h5⟩
  · exact ⟨h1, h2, h3, fun _ => rfl, h5⟩
  · exact ⟨h1, h2, h3, h4, fun _ => rfl⟩
theorem St3.rowx (h : St3 w0 B vx vy vz xs ys zs cx cy cz n0 L vs w) (hl : L 7 = false) : w.ownsRow B 3 1 vx xs.length (xs.map iv) := by have := h.1.x; rwa [hl] at this
theorem St3.rowy (h : St3 w0 B vx vy vz xs ys zs cx cy cz n0 L vs w) (hl : L 15 = false) : w.ownsRow B 3 1 vy ys.length (ys.map iv) := by have := h.1.y; rwa [hl] at this
theorem St3.rowz (h : St3 w0 B vx vy vz xs ys zs cx cy cz n0 L vs w) (hl : L 23 = false) : w.ownsRow B 3 1 vz zs.length (zs.map iv) := by have := h.1.z; rwa [hl] at this
theorem St3.growx {g cap : Nat} (h : St3 w0 B vx vy vz xs ys zs cx cy cz n0 L vs w) (hl : L 7 = false) (hl2 : L 24 = false) (hown : w'.ownsRow B 3 1 (.slice (some ⟨g, 0, none⟩) (xs.length + 1) cap) (xs.length + 1) (xs.map iv ++ [.int .i64 cx])) (hg : w.grownBy w' vx.ownBlock) (hgg : vx.ownBlock = some g ∨ g = w.heap.size) :
    St3 w0 B vx vy vz xs ys zs cx cy cz n0 (updB L 7) (updV vs 7 (.slice (some ⟨g, 0, none⟩) (xs.length + 1) cap)) w' := by
  obtain ⟨h1, h2, h3, h4, h5⟩ := h
  rw [hl] at h1
  exact ⟨h1.grow hown hg hgg, Nat.le_trans h2 hg.size, (fun e => absurd (hl2.symm.trans e) (by decide)), h4, h5⟩
theorem St3.growy {g cap : Nat} (h : St3 w0 B vx vy vz xs ys zs cx cy cz n0 L vs w) (hl : L 15 = false) (hl2 : L 25 = false) (hown : w'.ownsRow B 3 1 (.slice (some ⟨g, 0, none⟩) (ys.length + 1) cap) (ys.length + 1) (ys.map iv ++ [.int .i64 cy])) (hg : w.grownBy w' vy.ownBlock) (hgg : vy.ownBlock = some g ∨ g = w.heap.size) :
    St3 w0 B vx vy vz xs ys zs cx cy cz n0 (updB L 15) (updV vs 15 (.slice (some ⟨g, 0, none⟩) (ys.length + 1) cap)) w' := by
  obtain ⟨h1, h2, h3, h4, h5⟩ := h
  rw [hl] at h1
  exact ⟨(R3.grow h1.rot hown hg hgg).rot.rot, Nat.le_trans h2 hg.size, h3, (fun e => absurd (hl2.symm.trans e) (by decide)), h5⟩
theorem St3.growz {g cap : Nat} (h : St3 w0 B vx vy vz xs ys zs cx cy cz n0 L vs w) (hl : L 23 = false) (hl2 : L 26 = false) (hown : w'.ownsRow B 3 1 (.slice (some ⟨g, 0, none⟩) (zs.length + 1) cap) (zs.length + 1) (zs.map iv ++ [.int .i64 cz])) (hg : w.grownBy w' vz.ownBlock) (hgg : vz.ownBlock = some g ∨ g = w.heap.size) :
    St3 w0 B vx vy vz xs ys zs cx cy cz n0 (updB L 23) (updV vs 23 (.slice (some ⟨g, 0, none⟩) (zs.length + 1) cap)) w' := by
  obtain ⟨h1, h2, h3, h4, h5⟩ := h
  rw [hl] at h1
  exact ⟨(R3.grow h1.rot.rot hown hg hgg).rot, Nat.le_trans h2 hg.size, h3, h4, (fun e => absurd (hl2.symm.trans e) (by decide))⟩
theorem St3.all (h : St3 w0 B vx vy vz xs ys zs cx cy cz n0 L vs w) (hl : ∀ i, i < 27 → L i = true) : R3 w0 B (vs 24) (vs 25) (vs 26) (xs ++ [cx]) (ys ++ [cy]) (zs ++ [cz]) w := by
  obtain ⟨h1, h2, h3, h4, h5⟩ := h
  rw [h3 (hl 24 (by decide)), h4 (hl 25 (by decide)), h5 (hl 26 (by decide))]
  rw [hl 7 (by decide), hl 15 (by decide), hl 23 (by decide)] at h1
  exact h1
end
/-- The words of the region's operations. -/
def Ph3 (kd : IntKind) (k : Nat) (vx vy vz : Value) (ba bb bc : Nat) (ax ay az rx ry rz : Int) (n0 : Nat) : Nat → Value → World → Prop
  | 0, v, _ => v = vx
  | 1, v, _ => v = .int .i64 (k : Int)
  | 2, v, _ => v = .pointer (some ⟨ba, k, none⟩)
  | 3, v, _ => v = .int kd ax
  | 4, v, _ => v = .int kd rx
  | 5, v, _ => v = .int .i64 rx
  | 6, v, w => NewB n0 rx v w
  | 8, v, _ => v = vy
  | 9, v, _ => v = .int .i64 (k : Int)
  | 10, v, _ => v = .pointer (some ⟨bb, k, none⟩)
  | 11, v, _ => v = .int kd ay
  | 12, v, _ => v = .int kd ry
  | 13, v, _ => v = .int .i64 ry
  | 14, v, w => NewB n0 ry v w
  | 16, v, _ => v = vz
  | 17, v, _ => v = .int .i64 (k : Int)
  | 18, v, _ => v = .pointer (some ⟨bc, k, none⟩)
  | 19, v, _ => v = .int kd az
  | 20, v, _ => v = .int kd rz
  | 21, v, _ => v = .int .i64 rz
  | 22, v, w => NewB n0 rz v w
  | _, _, _ => True
theorem Ph3.stay {kd : IntKind} {k : Nat} {vx vy vz : Value} {ba bb bc : Nat} {ax ay az rx ry rz : Int} {n0 : Nat} {w w' : World} (hr : Nst n0 w w') (i : Nat) (v : Value) (h : Ph3 kd k vx vy vz ba bb bc ax ay az rx ry rz n0 i v w) : Ph3 kd k vx vy vz ba bb bc ax ay az rx ry rz n0 i v w' := by
  unfold Ph3 at h ⊢
  split at h <;> first | exact h | exact h.nst hr | trivial
def Inv3 (Phi : Nat → Value → World → Prop) (S : (Nat → Bool) → (Nat → Value) → World → Prop) (L : Nat → Bool) (vs : Nat → Value) (w : World) : Prop := (∀ i, L i = true → Phi i (vs i) w) ∧ S L vs w
theorem Inv3.step {Phi : Nat → Value → World → Prop} {S : (Nat → Bool) → (Nat → Value) → World → Prop} {L : Nat → Bool} {vs : Nat → Value} {w w' : World} {i : Nat} {v : Value}
    (h : Inv3 Phi S L vs w) (hR : ∀ j u, Phi j u w → Phi j u w') (hp : Phi i v w') (hs : S (updB L i) (updV vs i v) w') : Inv3 Phi S (updB L i) (updV vs i v) w' := by
  refine ⟨fun j hj => ?_, hs⟩
  by_cases e : j = i
  · subst e
    rw [updV_self]; exact hp
  · rw [updB_ne _ e] at hj
    rw [updV_ne _ _ e]
    exact hR _ _ (h.1 j hj)
end Go.Proofs.Ytfkemjhoncbndaa
